import PyProof.Rows.All
import Wide.All
import OpenK.AllK
import Wide.FinOn
import PySem.Challenge.RW_linegate_k46_a_look_comes_again
set_option Elab.async false
set_option linter.all false
set_option maxRecDepth 100000
set_option hygiene false
local macro_rules|`(tactic|exists 20,$p)=>`(tactic|refine ⟨_,$p,@fun H0 S z ak ρ σ H Q d tg ok e q=>?_⟩)
local macro_rules|`(tactic|exists 21,$p)=>`(tactic|refine ⟨_,$p,@fun H0 S z ak ρ σ H Q d tg ok e k=>?_⟩)
local macro_rules|`(tactic|exists 22,$p)=>`(tactic|refine ⟨_,$p,@fun H0 S z ak ρ σ H Q c ok e k=>?_⟩)
local macro_rules|`(tactic|exists 23,$p)=>`(tactic|refine ⟨_,$p,@fun H0 S z ak ρ σ H E o ok e k=>?_⟩)
local macro_rules|`(tactic|exists 24,$p)=>`(tactic|refine ⟨_,$p,@fun H0 S z ak ρ σ H R ds tg ok e k=>?_⟩)
local macro_rules|`(tactic|exists 25,$p)=>`(tactic|refine ⟨_,$p,@fun H0 S z ak ρ σ H E o ok e q=>?_⟩)
local macro_rules|`(tactic|exists 26,$p)=>`(tactic|refine ⟨_,$p,@fun H0 S z ak ρ σ H Q d ρ' ok e k=>?_⟩)
set_option hygiene true
noncomputable section
abbrev aab:=@PySem.Heap.get?_push_of_some
abbrev aaf:=@List.length_map
abbrev aal:=@List.mem_cons_of_mem
abbrev aan:=@PySem.wpAny_bind
abbrev aax:=@List.mem_cons_self
abbrev aaE:=@List.mem_append_right
abbrev aaF:=@List.map_cons
abbrev aaH:=@List.mem_singleton
abbrev aaL:=@Bool.and_eq_true
abbrev aaM:=@List.mem_cons
abbrev aaN:=@Bool.false_ne_true
abbrev aaR:=@List.mem_append_left
abbrev aaZ:=@PySem.Heap.lt_size
abbrev aa0:=@List.getElem?_eq_getElem
abbrev aa1:=@decide_eq_true
abbrev aa3:=@of_decide_eq_true
abbrev aa6:=@PySem.Heap.get?_push_size
abbrev aba:=@List.size_toArray
abbrev abb:=@List.mem_append
abbrev abd:=@Nat.le_refl
abbrev abe:=@List.length_append
abbrev abf:=@if_neg
abbrev abg:=@PySem.wpAny_pure
abbrev abi:=@Option.some.inj
abbrev abj:=@List.length_cons
abbrev abn:=@Nat.ne_of_lt
abbrev abo:=@decide_eq_false
abbrev abu:=@List.nodup_cons
abbrev abF:=@List.nodup_nil
abbrev abL:=@List.nodup_append
abbrev abM:=@List.append_nil
abbrev abP:=@Nat.lt_of_lt_of_le
abbrev abU:=@List.getElem?_eq_some_iff
abbrev abW:=@List.getElem?_map
abbrev abY:=@List.getElem?_set_ne
abbrev ab0:=@beq_eq_false_iff_ne
abbrev ach:=@Option.bind_some
abbrev acs:=@List.mem_map
abbrev acv:=@List.getD_eq_getElem?_getD
abbrev acy:=@List.not_mem_nil
abbrev acA:=@List.all_eq_true
abbrev acH:=@PySem.wpAny_mono
abbrev acI:=@Option.map_eq_some_iff
abbrev acL:=@List.lookup_cons
abbrev acP:=@List.length_range
abbrev acZ:=@List.contains_iff_mem
abbrev ac1:=@List.getElem?_set_self
abbrev adf:=@List.length_take
abbrev adm:=@PyProof.Rows.callWith_type1
abbrev ads:=@PySem.builtinLookup_eq_fast
abbrev adw:=@Nat.lt_irrefl
abbrev ady:=@Array.length_toList
abbrev adH:=@beq_self_eq_true
abbrev adQ:=@List.append_eq_nil_iff
abbrev adR:=@PySem.wpAny_Call_Name_kw
abbrev adV:=@List.pairwise_cons
abbrev adY:=@List.mem_filter
abbrev ad3:=@Nat.le_of_lt
abbrev ad4:=@List.filterMap_cons
abbrev ad5:=@List.map_append
abbrev ad6:=@Array.getD_eq_getD_getElem?
abbrev ad7:=@PySem.wpAny_holding
abbrev ad8:=@PySem.Heap.get?_update_other
abbrev ad9:=@List.find?_cons_of_neg
abbrev aea:=@List.map_map
abbrev aeb:=@PySem.wpAny_newObj_type
abbrev aec:=@PySem.wpAny_truthy_bool
abbrev aed:=@beq_iff_eq
abbrev aee:=@List.length_singleton
abbrev aef:=@PySem.codeAny_builtin
abbrev aeg:=@PySem.sizeLine_eq
abbrev aeh:=@Nat.zero_le
abbrev aei:=@List.nil_append
abbrev aej:=@List.find?_cons
abbrev ael:=@List.cons.injEq
abbrev aem:=@PySem.Around.under_plainId
abbrev aen:=@List.replicate_succ
abbrev aeo:=@List.getElem?_append_left
abbrev aeq:=@Bool.and_self
abbrev aer:=@Nat.le_trans
abbrev aes:=@Nat.ne_of_gt
abbrev aet:=@List.length_set
abbrev aev:=@PySem.typeLookup_type
abbrev aew:=@Option.isSome_iff_exists
abbrev aex:=@PySem.tupleKind_room_in1
abbrev aey:=@List.any_eq_true
abbrev aez:=@Ne.symm
abbrev aeA:=@Bool.eq_false_iff
abbrev aeB:=@PySem.Heap.get?_update_ne
abbrev aeC:=@or_false
abbrev aeD:=@List.getElem?_append_right
abbrev aeE:=@Array.perm_iff_toList_perm
abbrev aeF:=@PySem.Heap.get?_update_self
abbrev aeG:=@List.mem_filterMap
abbrev aeH:=@List.length_replicate
abbrev aeI:=@List.mem_range
abbrev aeJ:=@Classical.byContradiction
abbrev aeK:=@PySem.wpAny_passesOwn
abbrev aeL:=@Bool.eq_iff_iff
abbrev aeM:=@List.flatten_cons
abbrev aeN:=@List.foldl_cons
abbrev aeO:=@Option.getD_some
abbrev aeP:=@List.eq_nil_of_length_eq_zero
abbrev aeQ:=@List.take_append_of_le_length
abbrev aeR:=@List.find?_cons_of_pos
abbrev aeS:=@PySem.Calls.spliced_cons
abbrev aeT:=@Nat.lt_of_le_of_lt
abbrev aeU:=@Bool.false_eq_true
abbrev aeV:=@PySem.codeAny_mono
abbrev aeW:=@List.getElem?_eq_none
abbrev aeX:=@PySem.wpAny_ite_split
abbrev aeY:=@PySem.call_meets
abbrev aeZ:=@PySem.plainId_quiet
abbrev ae0:=@PySem.Heap.get?_none_of_le
abbrev ae1:=@PySem.codeAny_call_builtin
abbrev ae2:=@PySem.Heap.size_push
abbrev ae3:=@PySem.isSubtype_type
abbrev ae4:=@List.drop_eq_getElem_cons
abbrev ae5:=@List.pairwise_iff_getElem
abbrev ae6:=@PySem.wpAny_call_entry
abbrev ae7:=@PySem.wpAny_isInstance
abbrev ae8:=@Nat.lt_succ_self
abbrev ae9:=@List.any_map
abbrev afa:=@List.all_map
abbrev afb:=@PySem.wpAny_attempt
abbrev afc:=@PySem.wpAny_execs_nil
abbrev afd:=@List.any_cons
abbrev afe:=@PySem.wpAny_specialOf
abbrev afg:=@PySem.wpAny_field
abbrev afh:=@PySem.wpAny_rule
abbrev afi:=@PySem.wpAny_call
abbrev afj:=@Int.toNat_natCast
abbrev afk:=@List.reverse_cons
abbrev afl:=@Option.isSome_map
abbrev afm:=@List.map_nil
set_option autoImplicit true
namespace L2
open PySem PySem.Spec
open PySem PySem.Spec PyProof.Rows
noncomputable def u5(o:Obj):Option (Value×Str×Pos):=match o.data with
 |.func fd=>match fd.body with
  |.stmts [.Return (some (.Call _ _ [⟨_,.Lambda _ _ _ pos,_⟩] _)) _]=>some (fd.code,fd.qualname++".<locals>."++"<lambda>",pos)
  |_=>none
 |_=>none
def Bc(K:PySem.W.Frag)(p:Addr×Obj):Option (Addr×Addr×Str×Pos):=match u5 p.2 with
 |some (.ref c,q,pos)=>match K.lookup c with
  |some ⟨_,_,.fields vs,_⟩=>match(vs[11]? : Option Value) with
   |some (.ref P)=>some (c,P,q,pos)
   |_=>none
  |_=>none
 |_=>none
def iC(K:PySem.W.Frag):List (Addr×Addr×Str×Pos):=K.filterMap (Bc K)
noncomputable def vC(K:PySem.W.Frag):Bool:=K.all λp=>match p.2.data with
 |.seq ao _=>ao.size==0||ao.toList.any λv=>match v with|.int _ _=>false|_=>true
 |_=>true
def vg(K:PySem.W.Frag):Bool:=(vC K&&K.all λp=>(u5 p.2).isNone||(Bc K p).isSome)&&match iC K with
 |[]=>true
 |[r]=>PySem.W.codeHdIn K r.1 r.2.1&&(K.lookup r.2.1).isNone
 |_=>false
end L2
namespace L2
open PySem PySem.Spec PyProof.Rows
noncomputable def inClass(s:Stmt)(j:Nat):Stmt:=match s with
 |.ClassDef _ _ _ body _ _ _ _ _ _ _=>body.getD j (.Pass ⟨0,0,0,0⟩)
 |_=>.Pass ⟨0,0,0,0⟩
noncomputable def lW(s:Stmt):Arguments:=match s with
 |.FunctionDef _ a _ _ _ _ _ _ _ _=>a
 |_=>{ posonlyargs:=[],args:=[],vararg:=none,kwonlyargs:=[],kw_defaults:=[],kwarg:=none,defaults:=[] }
noncomputable def fZ(s:Stmt):List Stmt:=match s with
 |.FunctionDef _ _ b _ _ _ _ _ _ _=>b
 |_=>[]
noncomputable def b_(s:Stmt):Scope:=match s with
 |.FunctionDef _ _ _ _ _ _ sc _ _ _=>sc
 |_=>{ kind:=.function,names:=[],isGenerator:=false,isCoroutine:=false }
end L2
namespace L2.Ev
open PySem PySem.W
noncomputable abbrev IK:List Value:=[.type "ValueError",.type "Exception",.type "BaseException",.type "object"]
end L2.Ev
namespace L2
open PySem PySem.Spec PyProof.Rows
theorem tabs_ok{K:Params->PySem.W.Frag}{e:∀P,as=(K P).map (·.1)}(h:∀w:World,(iC (K w.params)).map (·.2.1)=ts)(w:World)(hp:Heap)(Y:(PySem.W.kmHook K as e ts).says w hp):∀r∈iC (K w.params),hp.get? r.2.1=some (PySem.W.tabObj #[]):=
 λr m=>PySem.W.km_tabs_of Y _ (by rw[<- h w];exact List.mem_map_of_mem m)
end L2
namespace L2.Ev
open PySem PySem.Spec PySem.W PyProof.Rows
structure Ls where
 bt:List Str
 gi:List (Str×Int)
 tp:List (Str×List Str)
 cl:List Str
 na:List (Str×Str)
 ni:Bool
 ex:List Str
 xc:List Str
 ct:List (Str×List Str)
 kt:List (Str×List (Str×Bool))
 ki:List (Str×List Str×List (Str×Bool))
noncomputable def cA(K:Frag)(c:Str):Addr:=match nsIn K mainGlobals c with
 |some (some (.ref a))=>a
 |_=>0
def kv(K:Frag)(c:Str):Value:=if c == "ValueError" then .type "ValueError" else .ref (cA K c)
noncomputable def fW:Stmt->Str
 |.FunctionDef x ..=>x
 |_=>Str.empty
def gk(c:Str)(s:Stmt):Str:=if c==Str.empty then fW s else c++"."++fW s
noncomputable def strOf:Value->Option Str
 |.str s _=>some s
 |_=>none
def ET(K:Frag)(x:Str)(l:List Str):Bool:=match nsIn K mainGlobals x with
 | some (some (.ref a))=>(match K.lookup a with
  |some ⟨c,none,.seq ao _,_⟩=>c == .type "tuple"&&decide (ao.size<=sizeLine)&&ao.toList.map strOf==l.map some
  |_=>false)
 |_=>false
noncomputable def JF(K:Frag)(x:Str)(n:Int):Bool:=match nsIn K mainGlobals x with
 |some (some (.int m _))=>m==n
 |_=>false
def wX(K:Frag)(c:Str):Bool:=nsIn K mainGlobals c==some (some (.ref (cA K c)))&&plainGet K (cA K c) Str.empty&&hasDictIn K (cA K c)&&plainOver K (cA K c)&&findIn K (.ref (cA K c)) "__setattr__" == some (some (.builtin "object.__setattr__"))&&makesIn K (cA K c)&&keepIn K (.ref (cA K c))
def ek(K:Frag)(r:Str):Bool:=findIn K (.ref (cA K r)) "__getattribute__" == some (some (.builtin "BaseException.__getattribute__"))&&findIn K (.ref (cA K r)) "__getattr__" == some none&&findIn K (.ref (cA K r)) "__class__" == some (some (.builtin "object.__class__"))&&specialIn K (.builtin "object.__class__") "__get__" == some (some (.builtin "getset_descriptor.__get__"))&&takesIn K (.builtin "object.__class__")==some true&&mroIn K (cA K r) (.type "object")==some true&&mroIn K (cA K r) (.type "BaseException")==some true
def NC(L:Ls)(K:Frag):Bool:=L.ex.all (λc=>nsIn K mainGlobals c==some (some (.ref (cA K c))))&&L.xc.all (λc=>excIn K (cA K c) IK "ValueError.__new__")&&L.ct.all (λp=>L.xc.contains p.1&&mroIn K (cA K p.1) (.type "BaseException")==some true&&p.2.all λr=>L.xc.contains r&&L.ex.contains r&&mroIn K (cA K r) (.ref (cA K p.1))==some true)&&L.kt.all (λp=>p.2.all λr=>L.ex.contains r.1&&ek K r.1&&kitOne K (.ref (cA K r.1)) (kv K p.1)==some r.2)&&L.ki.all (λp=>p.2.2.all λr=>L.ex.contains r.1&&ek K r.1&&kitAny K (.ref (cA K r.1)) ((p.2.1.map (cA K)).map Value.ref)==some r.2)
def qB(L:Ls)(K:Frag):Bool:=(!L.ni||vC K)&&NC L K&&L.bt.all (λx=>nsIn K mainGlobals x==some none)&&L.gi.all (λp=>JF K p.1 p.2)&&L.tp.all (λp=>ET K p.1 p.2)&&L.cl.all (wX K)&&L.na.all (λp=>findIn K (.ref (cA K p.1)) p.2==some none)
noncomputable def Nj(fd:FuncData):FuncData:={ fd with kwdefaults:=.none,doc:=.none,pyModule:=.none,annotations:=none,code:=.none,closureTuple:=.none }
def De(K:Frag)(q:Str):Option (Option Value)->Option FuncData
 | some (some (.ref a))=>(match K.lookup a with
  |some ⟨_,_,.func fd,_⟩=>if(codeIn K fd.code q&&keepIn K (.ref a)&&isFn K (.ref a))=true then some (Nj fd) else none
  |_=>none)
 |_=>none
def look(K:Frag)(p:Str×Stmt):Option FuncData:=De K (gk p.1 p.2) (if p.1==Str.empty then nsIn K mainGlobals (fW p.2) else findIn K (.ref (cA K p.1)) (fW p.2))
def want(p:Str×Stmt):Option FuncData:=some (fnOf (fW p.2) (gk p.1 p.2) (lW p.2) (fZ p.2) (b_ p.2) .none .none .none .none none .none .none)
end L2.Ev
namespace K46
open PySem L2 L2.Ev
noncomputable def top(i:Nat):Stmt:=PySem.Challenge.pw_linegate_k46_a_look_comes_again.main.body.getD i (.Pass ⟨0,0,0,0⟩)
noncomputable def L:Ls:=⟨["ValueError","all","bool","dict","int","isinstance","len","list","min","range","reversed","sorted","str","sum","tuple","zip"],[("GREATEST_RANK",9),("GREATEST_SLOT",999),("GREATEST_VALUE",1000000000),("MOST_CHANGES",60),("MOST_EDITS",20),("MOST_HANDS",8),("MOST_TRIES",20),("MOST_WIDTH",16)],[("BAD_WORDS",["no","unsure"]),("WORDS",["yes","no","unsure"])],["Changes","Gate","Tally"],[("Changes","entries"),("Gate","answers"),("Gate","breaks"),("Gate","ended"),("Gate","grounds"),("Gate","grown"),("Gate","halted"),("Gate","known"),("Gate","laid_ones"),("Gate","looks"),("Gate","numbers"),("Gate","on_line"),("Gate","tallies"),("Tally","heard"),("Tally","need"),("Tally","tries")],true,["LinegateError","NoAnswer","NoChange","NoFit","NoLook","NoRow","NoRule","NoText","TooLate","TooMany"],["LinegateError","NoLook"],[("LinegateError",["NoLook"])],[("NoAnswer",[("NoLook",false)]),("NoChange",[("NoLook",false)]),("NoFit",[("NoLook",false)]),("NoLook",[("NoLook",true)]),("NoRow",[("NoLook",false)]),("NoRule",[("NoLook",false)]),("NoText",[("NoLook",false)]),("TooLate",[("NoLook",false)]),("TooMany",[("NoLook",false)]),("ValueError",[("NoLook",true)])],[("_law_refused",["NoAnswer","NoChange","NoFit","NoRow","NoRule","NoText","TooLate","TooMany"],[("NoLook",false)])]⟩
end K46
namespace HT
open PySem PySem.W PyProof.Rows
noncomputable def HF:List Obj->List Obj
 |[]=>[]
 |[a]=>[a]
 |a::_::l=>a::HF l
def Fg:Nat->List Obj->BT
 |0,_=>.nil
 |_+1,[]=>.nil
 |k+1,o::l=>.node o (Fg k (HF l)) (Fg k (HF l.tail))
noncomputable def nW(tb:String->Option Builtin)(p:Program)(w:World)(sW:Nat)(ann:Option Value):Nat->SharedT->Thread->Option SharedT
 |0,_,_=>none
 |k+1,s,t=>match through t with
  |true=>some s
  |false=>match stepOk sW ann t with
   |false=>none
   |true=>match stepT (denote tb) p w s t with
    |none=>none
    |some (s',t')=>nW tb p w sW ann k s' t'
theorem HP{tb:String->Option Builtin}{p:Program}{w:World}{sW:Nat}{ann:Option Value}:∀{k:Nat}{s s':SharedT}{t:Thread},nW tb p w sW ann k s t=some s'->topRun tb p w sW ann k s.abs t=some s'.abs
 |0,_,_,_,h=>by cases h
 |k+1,s,s',t,h=>by
  unfold nW at h;unfold topRun;cases e:through t with
  |true=>rw[e] at h;cases h;rfl
  |false=>
   rw[e] at h;cases o:stepOk sW ann t with
   |false=>rw[o] at h;cases h
   |true=>
    rw[o] at h;cases g:stepT (denote tb) p w s t with
    |none=>rw[g] at h;cases h
    |some r=>obtain⟨s2,t2⟩:=r;rw[g] at h;rw[stepT_spec g];exact HP h
def DF(P:Params):BT:=Fg 12 (boot_heap P).objs.toList
noncomputable def mP:Nat:=11
theorem Wj(P:Params):(boot_heap P).objs.size=mP:=by kernel_rfl
theorem boot_abs(P:Params):absHeap (DF P) mP (boot_heap P).life=boot_heap P:=by kernel_rfl
def qF(P:Params)(os:OsState):SharedT:=⟨DF P,mP,(boot_heap P).life,Array.mk [],boot_drawn,boot_toks,os⟩
theorem Um{p q:Program}{loose:List Str}{Xt:Shared->Bool}{α:Type}{Yf:Shared->α}{Ya:World->α}{N:Nat}{ann:Option Value}
  (he:opening p=plainProg p.main.scope.names) (hf:∀s,fenceModules? p s=some s) (hN:Nat.ble 600 N=true)
  (hz:∀P:Params,((boot_heap P).isNs mainGlobals,(boot_heap P).nsMap mainGlobals "__annotations__")=(true,ann))
  (h:∀(w:World) (os:OsState),(nW treeTable p w mP ann N (qF w.params os) (topStub p)).map (λsT=>
    ((staticsOk (importedModules p.main.body) (boot_heap w.params) sT.abs.heap&&namesBound p sT.abs.heap&&gensDone sT.abs&&laidKept (boot_heap w.params) sT.abs.heap),openSeen q loose (importedModules p.main.body) Xt true sT.abs,Yf sT.abs))=some (true,openGood q loose,Ya w)) :
  LeftO p q loose Xt Yf Ya N:=λw=>by
 obtain⟨⟨hh,gs,d,k,os⟩,e,e'⟩:=acI.mp (boot_open he hN hf w);obtain⟨rfl,rfl,rfl,rfl⟩:hh=boot_heap w.params/\gs=Array.mk []/\d=boot_drawn/\k=boot_toks:=by simpa using e'
 obtain⟨z1,z2⟩:_/\_:=by simpa only[Prod.mk.injEq] using hz w.params
 obtain⟨sT,r,l⟩:=acI.mp (h w os);obtain⟨l1,l2,l3⟩:_/\_/\_:=by simpa only[Prod.mk.injEq] using l
 have r':=HP r;have ab:(qF w.params os).abs=⟨boot_heap w.params,Array.mk [],boot_drawn,boot_toks,os⟩:=by
  show Shared.mk (absHeap (DF w.params) mP (boot_heap w.params).life) _ _ _ _=_;rw[boot_abs];rfl
 rw[ab] at r';have t:topFrom treeTable p w N ⟨boot_heap w.params,Array.mk [],boot_drawn,boot_toks,os⟩=some sT.abs:=by
  unfold topFrom;dsimp only;rw[z1,z2,Wj,r'];show(match staticsOk (importedModules p.main.body) (boot_heap w.params) sT.abs.heap&&namesBound p sT.abs.heap&&gensDone sT.abs&&laidKept (boot_heap w.params) sT.abs.heap with|true=>_|false=>_)=_;rw[l1]
 unfold openEnds;rw[e];show(topFrom treeTable p w N _).map _=_;rw[t];exact congrArg some (Prod.ext l2 l3)
theorem Zj{p q:Program}{loose:List Str}{Xt:Shared->Bool}{α:Type}{Yf:Shared->α}{Ya:World->α}{N:Nat}{ann:Option Value}
  (he:opening p=plainProg p.main.scope.names) (hf:∀s,fenceModules? p s=some s) (hN:Nat.ble 600 N=true)
  (hz:∀P:Params,((boot_heap P).isNs mainGlobals,(boot_heap P).nsMap mainGlobals "__annotations__")=(true,ann))
  (h1:∀(w:World) (os:OsState),(nW treeTable p w mP ann N (qF w.params os) (topStub p)).map (λsT=>((staticsOk (importedModules p.main.body) (boot_heap w.params) sT.abs.heap&&namesBound p sT.abs.heap&&gensDone sT.abs&&laidKept (boot_heap w.params) sT.abs.heap),openSeen q loose (importedModules p.main.body) Xt true sT.abs))=some (true,openGood q loose))
  (h3:∀(w:World) (os:OsState),(nW treeTable p w mP ann N (qF w.params os) (topStub p)).map (λsT=>Yf sT.abs)=some (Ya w)) :
  LeftO p q loose Xt Yf Ya N:=Um he hf hN hz λw os=>by
 obtain⟨sT,r,e1⟩:=acI.mp (h1 w os);have e3:=h3 w os;rw[r] at e3 ⊢;have e3:=abi e3;obtain⟨e1,e2⟩:_/\_:=by simpa only[Prod.mk.injEq] using e1
 show some (_,_,_)=some (true,openGood q loose,Ya w);rw[e1,<- e2,<- e3]
noncomputable def tg(s:SharedT)(a:Nat):Option Obj:=match Nat.blt a s.n with
 |true=>match s.tree.get a with
  |some o=>alive o
  |none=>none
 |false=>none
theorem X3{s:SharedT}{a:Nat}{o:Obj}(h:tg s a=some o):s.abs.heap.get? a=some o:=by
 unfold tg at h;cases e:Nat.blt a s.n with
 |false=>rw[e] at h;cases h
 |true=>
  rw[e] at h;dsimp only at h;cases g:s.tree.get a with
  |none=>rw[g] at h;cases h
  |some o'=>
   rw[g] at h;have dP:a<s.n:=by simpa using e
   exact(abs_get (life:=s.life) dP g).trans h
theorem EL{s:SharedT}:∀{as:List Addr}{os:List Obj},as.map (tg s)=os.map some->as.map s.abs.heap.get? = os.map some
 |[],[],_=>rfl
 |[],_::_,h=>by cases h
 |_::_,[],h=>by cases h
 |a::as,o::os,h=>by
  rw[aaF,aaF] at h;injection h with h1 h2;rw[aaF,aaF,X3 h1,EL h2]
end HT
namespace HT
open PySem PySem.W PyProof.Rows
variable{p q:Program}{loose:List Str}{Xt:Shared->Bool}{N:Nat}{ann:Option Value}{K:Params->Frag}{as ts:List Addr}{e:∀P,as=(K P).map (·.1)}
theorem left_Tkm(he:opening p=plainProg p.main.scope.names)(hf:∀s,fenceModules? p s=some s)(hN:Nat.ble 600 N=true)
  (hz:∀P:Params,((boot_heap P).isNs mainGlobals,(boot_heap P).nsMap mainGlobals "__annotations__")=(true,ann))
  (h1:∀(w:World) (os:OsState),(nW treeTable p w mP ann N (qF w.params os) (topStub p)).map (λsT=>((staticsOk (importedModules p.main.body) (boot_heap w.params) sT.abs.heap&&namesBound p sT.abs.heap&&gensDone sT.abs&&laidKept (boot_heap w.params) sT.abs.heap),openSeen q loose (importedModules p.main.body) Xt true sT.abs))=some (true,openGood q loose))
  (h3:∀(w:World) (os:OsState),(nW treeTable p w mP ann N (qF w.params os) (topStub p)).map (λsT=>(as.map (tg sT),ts.map (tg sT)))=some (((K w.params).map (·.2)).map some,(ts.map λ_=>tabObj #[]).map some)) :
  LeftO p q loose Xt (Hook.obs (kmHook K as e ts)) (Hook.val (kmHook K as e ts)) N:=Zj he hf hN hz h1 λw os=>by
 obtain⟨sT,r,e1⟩:=acI.mp (h3 w os);obtain⟨e1,e2⟩:_/\_:=by simpa only[Prod.mk.injEq] using e1
 rw[r];show some (as.map sT.abs.heap.get?,ts.map sT.abs.heap.get?)=some ((K w.params).map λp=>some p.2,ts.map λ_=>some (tabObj #[]));rw[EL e1,EL e2,aea,aea];rfl
end HT
namespace K46
open PySem L2 L2.Ev
def tab:List (Str×Stmt):=[50,13,43,14,20,21,22,19,28,34,33,35,32,30,31,18,38,37,51,52,53,54,55,56].map (λi=>(Str.empty,top i))++[0,2,9,11,1,10,4,5,3].map (λi=>(("Changes":Str),inClass (top 27) i))++[0,19,8,24,21,20,11,26,13,27,25,29,28,23,1,4,5,10,22,3,15,3,7,2].map (λi=>(("Gate":Str),inClass (top 48) i))++[3,1,0].map (λi=>(("Tally":Str),inClass (top 42) i))
noncomputable def isNm:Stmt->Bool
 |.FunctionDef x ..=>!(x == "law")
 |_=>true
noncomputable def lo:List Str:=(["_wall","LinegateError","NoFit","NoChange","TooMany","NoRule","NoAnswer","NoLook","TooLate","NoRow","NoText","within","rising","GREATEST_SLOT","GREATEST_VALUE","unfit","edited_in_turn","are_edits","misfit","sheet_of_values","MOST_CHANGES","MOST_EDITS","GREATEST_RANK","Changes","sheet_of","free","filled","first_fitting","in_turn","values_behind","fits","wanted_places","middle_of_gap","WORDS","MOST_TRIES","Tally","makes_tally","MOST_WIDTH","MOST_HANDS","BAD_WORDS","Gate","_law_take","_law_same","_law_told","_law_refused","_law_between","_law_answered"]:List String).map Str.ofString
def vw:Program:={ PySem.Challenge.pw_linegate_k46_a_look_comes_again with main:={ (PySem.Challenge.pw_linegate_k46_a_look_comes_again).main with body:=(PySem.Challenge.pw_linegate_k46_a_look_comes_again).main.body.filter λs=>!isNm s } }
def Wk:Prop:=∀{YP:World->Heap->Prop}{K:Params->PySem.W.Frag}{d:DefRec},(∀(w:World) (h:Heap),YP w h->(K w.params).In h)->(∀(w:World) (h:Heap),YP w h->∀r∈iC (K w.params),h.get? r.2.1=some (PySem.W.tabObj #[]))->(∀w:World,vg (K w.params)=true)->(∀w:World,qB L (K w.params)=true)->(∀w:World,tab.map (look (K w.params))=tab.map want)->d.params.defaults=[]->d.name="law"->PySem.W.WalkO vw lo (PySem.W.XL vw []) YP (PySem.W.OpenLaw.row PySem.Challenge.rw_linegate_k46_a_look_comes_again).toRowW d [] (λf vs=>PySem.call f vs)
end K46
namespace K46
open PySem L2 L2.Ev
open PySem PySem.W PyProof.Rows L2 L2.Ev
def xt(s:Shared):Bool:=xlAt vw [] s&&recOk (RowW.records (OpenRow.toRowW (OpenLaw.row PySem.Challenge.rw_linegate_k46_a_look_comes_again))) s
theorem xt1(s:Shared)(e:xt s=true):XL vw [] (s.heap.nsMap mainGlobals) s.heap:=xl_of s (Bool.and_eq_true_iff.mp e).1
theorem rn(w:World)(os:OsState):(HT.nW treeTable PySem.Challenge.pw_linegate_k46_a_look_comes_again w HT.mP (some (.ref 6)) 20000 (HT.qF w.params os) (topStub PySem.Challenge.pw_linegate_k46_a_look_comes_again)).map (λsT=>((staticsOk (importedModules (PySem.Challenge.pw_linegate_k46_a_look_comes_again).main.body) (boot_heap w.params) sT.abs.heap&&namesBound PySem.Challenge.pw_linegate_k46_a_look_comes_again sT.abs.heap&&gensDone sT.abs&&laidKept (boot_heap w.params) sT.abs.heap),openSeen vw lo (importedModules (PySem.Challenge.pw_linegate_k46_a_look_comes_again).main.body) xt true sT.abs))=some (true,openGood vw lo):=by kernel_rfl
theorem xt2(s:Shared)(e:xt s=true):RecFacts (RowW.records (OpenRow.toRowW (OpenLaw.row PySem.Challenge.rw_linegate_k46_a_look_comes_again))) s.heap:=recFacts_of (Bool.and_eq_true_iff.mp e).2
local macro_rules | `(tactic| o_head $H)=>`(tactic| (refine PySem.W.holds_open (q:=K46.vw) (loose:=K46.lo) (N:=20000) (Xt:=K46.xt) (XP:=XL K46.vw []) (Yf:=Hook.obs $H) (Ya:=Hook.val $H) (YP:=Hook.says $H) ?hl (Hook.of $H) (Hook.keeps $H) K46.xt1 XL.keeps (by rfl) (by rfl) (by rfl) K46.xt2 (by rfl) (by assumption) (by decide +kernel) ⟨rfl,rfl,rfl,rfl,rfl,by decide +kernel⟩ ?hw ?hc;(case hl=>exact HT.left_Tkm (ann:=some (.ref 6)) (by rfl) (fun _=>rfl) (by decide) (fun _=>by kernel_rfl) K46.rn fun w os=>by kernel_rfl);(case hw=>w_witness2)))
theorem wsd:OpenLaw.wellSaid PySem.Challenge.rw_linegate_k46_a_look_comes_again=true:=by kernel_rfl
set_option maxHeartbeats 0 in
theorem early(H:Wk):PySem.Challenge.rw_linegate_k46_a_look_comes_again.Holds:=by
 w_on;refine holds_law wsd λaep=>?_;k_head
 k_fill
 exact H (λw h Y=>PySem.W.km_in_of Y) (L2.tabs_ok λw=>by kernel_rfl) (λw=>by kernel_rfl) (λw=>by kernel_rfl) (λw=>by kernel_rfl) rfl rfl
end K46
local macro_rules | `(tactic| walk_at "va")=>`(tactic| exact ⟨rfl,by first | exact Or.inl rfl | exact Or.inr (Or.inl rfl) | exact Or.inr (Or.inr rfl),by decide,by decide⟩)
local macro_rules | `(tactic| exists $h:ident, $x, $w:ident, $e:ident) => `(tactic| (rcases $h:ident : $x:term with _ | $w:ident; (rw [$h:ident] at $e:ident; cases $e:ident); rw [$h:ident] at $e:ident))
local macro_rules | `(tactic| exists $h:ident, $x, $w:ident, $e:ident, 0) => `(tactic| (rcases $h:ident : $x:term with _ | $w:ident; (rw [$h:ident] at $e:ident; cases $e:ident)))
theorem ci{c:Prop}[Decidable c]{α:Type}{a:Option α}{y:α}(e:(if c then a else none)=some y):c/\a=some y:=by
 by_cases h:c
 .rw[if_pos h] at e;exact⟨h,e⟩
 .rw[abf h] at e;cases e
namespace L2
open PySem PySem.Spec
theorem QY:entryFor table "proto.unchain"=some Builtin.«proto.unchain»:=entryFor_of_tree (by kernel_rfl)
theorem ab7{α:Type}{Q:α->Shared->Prop}(hh:A.handled=some (.ref h))(he:s.heap.get? e=some oe)(hd:oe.data=.fields ve)(h2:2<ve.size)
  (hx:s.heap.get? h=some oh) (D3:oh.data=.fields vh) (wc:vh[2]? = some .none) (ne:h≠e) (q:E (.ref e) { s with heap:=s.heap.update e (Obj.mapFields (·.setIfInBounds 2 (.ref h))) }):wpAny (model prog w) A (raiseNew (.ref e):Sem α) Q E s:=by
 unfold raiseNew;refine aan (wpAny_handled ?_);rw[hh];dsimp only;rw[if_pos (by simpa using ne)];refine aan (ad7 (wpAny_runValue (aef QY ?_)));unfold Builtin.«proto.unchain»;refine aan (afg hx D3 wc ?_);rw[if_pos (by rfl)];refine abg ?_;refine aan ?_;unfold updateField;refine aan (wpAny_load he ?_);rw[hd];dsimp only;rw[if_pos h2];exact wpAny_update' he (wpAny_throw q)
theorem Uq{x left step:Int}(hh:A.handled=some (.ref h))(hx:s.heap.get? h=some oh)(D3:oh.data=.fields vh)(wc:vh[2]? = some .none)(hit:IsRangeIter s.heap it x left step)(ab6:left<=0)
  (hQ:∀h',Heap.ExtBut it s.heap h'->Q none { s with heap:=h' }):wpAny (model prog w) A (pyNext (.ref it)) Q E s:=by
 have hT:s.TypeIs (.ref it) "range_iterator":=⟨_,hit,rfl⟩
 unfold pyNext;refine aan (afb (wpAny_callSpecial?_slot (name:=Str.ofString "__next__") hT F.slot_range_iterator_next
  (ae6 F.slot_range_iterator_next hT F.entry_range_iterator_next ?_ (F.args_range_iterator_next_1 _))))
 show wpAny _ _ (field (.ref it) 0 >>= _) _ _ s;refine aan (afg hit rfl rfl ?_);refine aan (afg hit rfl rfl ?_);refine aan (afg hit rfl rfl ?_);show wpAny _ _ (if left<=0 then _ else _) _ _ s;rw[if_pos ab6];refine aan (afh ?_);refine aan ?_;refine aan ?_;simp only[newExc,newTuple];refine aan (aeb ?_ (by size_fits));refine aan (wpAny_of_eq (by first|rfl|(simp only[firstArgMember];rfl)) ?_);refine aeb ?_ (by size_fits);have hn:h≠(s.heap.push { cls:=.type "tuple",dict:=none,data:=.seq ([]:List Value).toArray }).objs.size:=abn (aaZ (aab _ hx));refine ab7 (h:=h) (by first|exact hh|(show A.in1.handled=_;exact hh)) (aa6 _ rfl) rfl (by simp<;>omega) (aab _ (aab _ hx)) D3 wc hn ?_;refine aan (ae7 (T:="StopIteration") ⟨_,aeF _ (aa6 _ rfl) rfl,rfl⟩ isSubtype_stop ?_);refine abg (hQ _ λb o hb e=>?_);rw[ad8 _ _ (aez (abn (aaZ (aab _ e))))];exact aab _ (aab _ e)
open PySem PySem.Spec PyProof.Rows
noncomputable abbrev Key:=Sum Int Str
noncomputable def rN:Key->Value->Bool
 |.inl k,v=>Value.isInt k v
 |.inr x,v=>Value.isStrOf x v
noncomputable def ZL(w:World):Key->Int
 |.inl k=>hashInt k
 |.inr x=>hashStr w x
theorem m5:∀{k:Key}{v:Value},rN k v=true->(∃i t,k=Sum.inl i/\v=Value.int i t)\/(∃x t,k=Sum.inr x/\v=Value.str x t)
 |.inl i,v,h=>by
  obtain⟨t,e⟩:=Value.isInt_shape h;exact .inl ⟨i,t,rfl,e⟩
 |.inr x,v,h=>by
  obtain⟨t,e⟩:=Value.isStrOf_shape h;exact .inr ⟨x,t,rfl,e⟩
theorem ac5(i:Int)(t:Tok):rN (.inl i) (.int i t)=true:=by simp[rN,Value.isInt]
theorem Tn(x:Str)(t:Tok):rN (.inr x) (.str x t)=true:=by simp[rN,Value.isStrOf]
theorem ack(a b:Int):decide ((Sum.inl a:Key)=Sum.inl b)=(a==b):=by
 by_cases e:a=b
 .subst e;simp
 .have h:¬(Sum.inl a:Key)=Sum.inl b:=λq=>e (Sum.inl.inj q)
  rw[abo h];exact(ab0.mpr e).symm
theorem UC(a b:Str):decide ((Sum.inr a:Key)=Sum.inr b)=decide (a=b):=by
 by_cases e:a=b
 .subst e;simp
 .have h:¬(Sum.inr a:Key)=Sum.inr b:=λq=>e (Sum.inr.inj q)
  rw[abo h,abo e]
theorem Xk(a:Int)(b:Str):decide ((Sum.inl a:Key)=Sum.inr b)=false:=abo (λq=>nomatch q)
theorem acr(a:Str)(b:Int):decide ((Sum.inr a:Key)=Sum.inl b)=false:=abo (λq=>nomatch q)
def fM(prog:Program)(w:World):PySem.KeyKind prog w Key where
 is:=rN
 hash:=ZL w
 inj:=λv a b ha hb=>by
  rcases m5 ha with⟨i,t,rfl,rfl⟩|⟨x,t,rfl,rfl⟩
  .rcases m5 hb with⟨j,u,rfl,e⟩|⟨y,u,rfl,e⟩
   .injection e with e1 _;rw[e1]
   .exact nomatch e
  .rcases m5 hb with⟨j,u,rfl,e⟩|⟨y,u,rfl,e⟩
   .exact nomatch e
   .injection e with e1 _;rw[e1]
 byValue:=λk v h=>by
  rcases m5 h with⟨i,t,rfl,rfl⟩|⟨x,t,rfl,rfl⟩<;>rfl
 pyHash:=λhv h=>by
  rcases m5 hv with⟨i,t,rfl,rfl⟩|⟨x,t,rfl,rfl⟩
  .exact wpAny_pyHash_int h
  .exact wpAny_pyHash_str h
 eqBool:=λhu hv h=>by
  rcases m5 hu with⟨i,t,rfl,rfl⟩|⟨x,t,rfl,rfl⟩
  .rcases m5 hv with⟨j,u,rfl,rfl⟩|⟨y,u,rfl,rfl⟩
   .rw[ack] at h;exact wpAny_eqBool_int h
   .rw[Xk] at h;exact SeqAt.EqAt.int_str i t y u _ _ _ _ h
  .rcases m5 hv with⟨j,u,rfl,rfl⟩|⟨y,u,rfl,rfl⟩
   .rw[acr] at h;exact SeqAt.EqAt.str_int x t j u _ _ _ _ h
   .rw[UC] at h;exact wpAny_eqBool_str h
 «strs»:=λk x t v h=>by
  rcases m5 h with⟨i,u,rfl,e⟩|⟨y,u,rfl,e⟩
  .exact nomatch e
  .injection e with e1 _;subst e1;cases v<;>rfl
theorem ZR(prog:Program)(w:World)(i:Int)(t:Tok):(fM prog w).is (.inl i) (.int i t)=true:=ac5 i t
theorem Zi(prog:Program)(w:World)(x:Str)(t:Tok):(fM prog w).is (.inr x) (.str x t)=true:=Tn x t
inductive V where
 |aC|bl (b:Bool)|int (i:Int)|str (x:Str)|jG (b:Array UInt8)|su (b:UInt64)|ref (a:Addr)|ty (n:String)
 deriving DecidableEq
def RelV:V->Value->Prop
 |.aC,u=>u=Value.none
 |.bl b,u=>u=Value.bool b
 |.int i,u=>∃t,u=Value.int i t
 |.str x,u=>∃t,u=Value.str x t
 |.jG b,u=>∃t,u=Value.bytes b t
 |.su b,u=>∃t,u=Value.float b t
 |.ref a,u=>u=Value.ref a
 |.ty n,u=>u=Value.type n
noncomputable abbrev aK:List V->List Value->Prop:=Paired RelV
theorem aK.length{xs:List V}{us:List Value}(r:aK xs us):xs.length=us.length:=Paired.length r
theorem aK.get:∀{xs:List V}{us:List Value}{i:Nat}{x:V},aK xs us->xs[i]? = some x->∃u,us[i]? = some u/\RelV x u
 |_,_,_,_,.nil,e=>by simp at e
 |_,_,0,_,.cons r _,e=>by simp at e;subst e;exact⟨_,rfl,r⟩
 |_,_,i+1,x,.cons _ t,e=>by
  obtain⟨u,h1,h2⟩:=aK.get t (by simpa using e);exact⟨u,by simpa using h1,h2⟩
theorem aK.set(r:RelV x u):∀{xs:List V}{us:List Value} (i:Nat),aK xs us->aK (xs.set i x) (us.set i u)
 |_,_,_,.nil=>.nil
 |_,_,0,.cons _ t=>.cons r t
 |_,_,i+1,.cons q t=>.cons q (aK.set r i t)
theorem aK.append:∀{xs ys:List V}{us ws:List Value},aK xs us->aK ys ws->aK (xs++ys) (us++ws)
 |_,_,_,_,.nil,s=>s
 |_,_,_,_,.cons r t,s=>.cons r (aK.append t s)
theorem aK.take:∀{xs:List V}{us:List Value} (n:Nat),aK xs us->aK (xs.take n) (us.take n)
 |_,_,0,_=>.nil
 |_,_,_+1,.nil=>.nil
 |_,_,n+1,.cons r t=>.cons r (aK.take n t)
theorem aK.drop:∀{xs:List V}{us:List Value} (n:Nat),aK xs us->aK (xs.drop n) (us.drop n)
 |_,_,0,r=>r
 |_,_,_+1,.nil=>.nil
 |_,_,n+1,.cons _ t=>aK.drop n t
def gE:Option V->Option Value->Prop
 |some v,some u=>RelV v u
 |none,none=>True
 |_,_=>False
def KV{κ:Type}:List (κ×V)->List (κ×Value)->Prop:=Paired λ(p:κ×V) (q:κ×Value)=>p.1=q.1/\RelV p.2 q.2
noncomputable def kV:Key->V
 |.inl i=>.int i
 |.inr x=>.str x
def lF(h:Heap)(a:Addr)(items:Array Value):Prop:=∃o,h.get? a=some o/\o.cls=.type "tuple"/\o.dict=none/\∃n,o.data=.seq items n
theorem lF.isTup(x:lF h a items):IsTup h a items:=let⟨o,e,c,_,d⟩:=x;⟨o,e,c,d⟩
theorem lF.lt(x:lF h a items):a<h.objs.size:=let⟨_,e,_⟩:=x;aaZ e
theorem lF.new(h:Heap)(items:Array Value):lF (h.push { cls:=.type "tuple",data:=.seq items }) h.objs.size items:=⟨_,aa6 _ rfl,rfl,rfl,_,rfl⟩
inductive HO where
 |lst (xs:List V)
 |tup (xs:List V)
 |dK (aj:List (Key×V))|dT (aj:List (List Key×V))
 |set (S:Int->Bool) (n:Nat)
 |ins (C dx:Addr) (fs:List (Str×V))
 |own (x:Addr)
 |xd (fs:List (Str×V))
 |met (f x:Addr)
 |bG (lo hi:Int)
 |dY (o:Obj) (u:HO)
 |pR (ps:Array Value)
 |gZ (q:Str) (pos:Pos)|iJ (q:Str)
 |ext (φ:Heap->Prop)
noncomputable abbrev Hp:=Addr->Option HO
inductive lE where
 |tup (xs:List V)|sV (o:Obj) (xs:List V)|gZ (q:Str) (pos:Pos)|iJ (q:Str)
noncomputable def lE.ho:lE->HO
 |.tup xs=>.tup xs
 |.sV o xs=>.dY o (.tup xs)
 |.gZ q p=>.gZ q p
 |.iJ q=>.iJ q
noncomputable def lE.tp:lE->Option (List V)
 |.tup xs=>some xs
 |.sV _ xs=>some xs
 |_=>none
def Tk(H:Hp)(b:Addr)(xs:List V):Prop:=∃t:lE,t.tp=some xs/\H b=some t.ho
noncomputable def upd(H:Hp)(a:Addr)(o:HO):Hp:=λb=>if b=a then some o else H b
theorem bT{H:Hp}{a:Addr}{o:HO}:upd H a o a=some o:=by unfold upd;rw[if_pos rfl]
theorem aO{H:Hp}{a b:Addr}{o:HO}(h:b≠a):upd H a o b=H b:=by unfold upd;rw[abf h]
theorem adl{H:Hp}{o u:HO}(h:H a=some o)(h':H b=some u)(d:o≠u):a≠b:=by
 intro e;subst e;rw[h] at h';exact d (abi h')
theorem cC{H:Hp}{o:HO}(h:H a=some o)(h':H b=none):a≠b:=by
 intro e;subst e;rw[h] at h';cases h'
section
variable(P:Program)(w:World)
def cU(H:Hp)(h:Heap)(a:Addr):HO->Prop
 |.lst xs=>xs.length<=sizeLine/\∃(ao:List Value) (n:Nat),aK xs ao/\h.get? a=some { cls:=.type "list",data:=.seq ao.toArray n }
 |.tup xs=>xs.length<=sizeLine/\∃ao:List Value,aK xs ao/\lF h a ao.toArray
 |.dK aj=>aj.length<=sizeLine/\(a==sysModules)=false/\∃vs,KV aj vs/\h.DictOf (fM P w) a vs
 |.dT aj=>aj.length<=sizeLine/\(a==sysModules)=false/\∃xs:List (List Key×Addr×Value),
   Paired (λ(p:List Key×V) (q:List Key×Addr×Value)=>p.1=q.1/\Tk H q.2.1 (p.1.map kV)/\RelV p.2 q.2.2) aj xs/\
   ∃o es ep,h.get? a=some o/\o.ExactDict/\o.data=.dict es ep/\es.toList=xs.map (entryOfKey (tupleKind (fM P w)))/\(xs.map (·.1)).Nodup
 |.set S n=>h.SetOf (intKind P w) a S n
 |.ins C dx fs=>H dx=some (.own a)/\fs.length<=1000/\dx≠a/\h.get? a=some (PySem.W.instObj C dx)/\
   ∃mA,h.Ns1 dx mA/\(∀f,gE (fs.lookup f) (mA f))/\PySem.Within mA (fs.map (·.1))
 |.own _=>∃o,h.get? a=some o
 |.xd fs=>∃mA,h.Ns1 a mA/\∀f,gE (fs.lookup f) (mA f)
 |.bG lo hi=>∃t u v,h.get? a=some { cls:=.type "range",data:=.fields #[.int lo t,.int hi u,.int 1 v] }
 |.dY o u=>h.get? a=some o/\cU H h a u
 |.pR ps=>h.get? a=some { cls:=.none,data:=.fields ps }
 |.gZ q pos=>∃ps:Array Value,h.get? a=some { cls:=.none,data:=.fields ps }/\(ps=#[]\/∃c,ps=#[rawInt pos.line,rawInt pos.col,.ref c]/\H c=some (.iJ q))
 |.iJ q=>h.CodeRec (.ref a) q
 |.met f x=>h.get? a=some (PySem.W.methodObj (.ref f) (.ref x))
 |.ext φ=>φ h/\(∃o,h.get? a=some o)/\∀h1 h2:Heap,φ h1->(∀o,h1.get? a=some o->h2.get? a=some o)->φ h2
def cK(H:Hp)(h:Heap):Prop:=∀a o,H a=some o->cU P w H h a o
end
section
variable{P:Program}{w:World}{H H':Hp}{h h':Heap}{a:Addr}{o:HO}
theorem cU.lt(x:cU P w H h a o):a<h.objs.size:=by
 cases o with
 |lst xs=>obtain⟨_,_,_,_,e⟩:=x;exact aaZ e
 |tup xs=>obtain⟨_,_,_,p⟩:=x;exact p.lt
 |dK aj=>obtain⟨_,_,_,_,o,_,_,e,_⟩:=x;exact aaZ e
 |dT aj=>obtain⟨_,_,_,_,o,_,_,e,_⟩:=x;exact aaZ e
 |set S n=>obtain⟨o,_,_,_,e,_⟩:=x;exact aaZ e
 |ins C dx fs=>obtain⟨_,_,_,e,_⟩:=x;exact aaZ e
 |own y=>obtain⟨_,e⟩:=x;exact aaZ e
 |xd fs=>obtain⟨_,⟨_,_,_,e,_⟩,_⟩:=x;exact aaZ e
 |bG lo hi=>obtain⟨_,_,_,e⟩:=x;exact aaZ e
 |dY ob u=>obtain⟨e,_⟩:=x;exact aaZ e
 |pR ps=>exact aaZ (show h.get? a=some _ from x)
 |gZ q pos=>obtain⟨_,e,_⟩:=x;exact aaZ e
 |iJ q=>obtain⟨_,_,_,_,e,g,_⟩:=x;cases e;exact aaZ g
 |met f y=>exact aaZ (show h.get? a=some _ from x)
 |ext φ=>obtain⟨_,⟨_,e⟩,_⟩:=x;exact aaZ e
theorem Paired.yF{α β:Type}{F G:α->β->Prop}:∀{Pu:List α}{Qf:List β},Paired F Pu Qf->(∀a b,F a b->G a b)->Paired G Pu Qf
 |_,_,.nil,_=>.nil
 |_,_,.cons r t,f=>.cons (f _ _ r) (Paired.yF t f)
theorem cU.dZ(x:cU P w H h a o)(k:∀b u,(b=a\/H b=some (.own a))->h.get? b=some u->h'.get? b=some u)
  (ho:∀b,H b=some (.own a)->H' b=some (.own a)) (ht:∀b (t:lE),H b=some t.ho->H' b=some t.ho):cU P w H' h' a o:=by
 induction o with
 |lst xs=>obtain⟨z,ao,n,r,e⟩:=x;exact⟨z,ao,n,r,k _ _ (.inl rfl) e⟩
 |tup xs=>obtain⟨z,ao,r,ob,e,c⟩:=x;exact⟨z,ao,r,ob,k _ _ (.inl rfl) e,c⟩
 |dK aj=>obtain⟨z,y,vs,r,ob,es,ep,e,c⟩:=x;exact⟨z,y,vs,r,ob,es,ep,k _ _ (.inl rfl) e,c⟩
 |dT aj=>
  obtain⟨z,y,xs,r,ob,es,ep,e,c⟩:=x;exact⟨z,y,xs,Paired.yF r λp q z=>⟨z.1,let⟨t,e,g⟩:=z.2.1;⟨t,e,ht _ t g⟩,z.2.2⟩,ob,es,ep,k _ _ (.inl rfl) e,c⟩
 |set S n=>obtain⟨ob,es,ep,t,e,c⟩:=x;exact⟨ob,es,ep,t,k _ _ (.inl rfl) e,c⟩
 |ins C dx fs=>
  obtain⟨d,z,ne,e,mA,⟨od,es,ep,e2,c⟩,r⟩:=x;exact⟨ho _ d,z,ne,k _ _ (.inl rfl) e,mA,⟨od,es,ep,k _ _ (.inr d) e2,c⟩,r⟩
 |own y=>obtain⟨ob,e⟩:=x;exact⟨ob,k _ _ (.inl rfl) e⟩
 |xd fs=>obtain⟨mA,⟨od,es,ep,e,c⟩,r⟩:=x;exact⟨mA,⟨od,es,ep,k _ _ (.inl rfl) e,c⟩,r⟩
 |bG lo hi=>obtain⟨t,u,v,e⟩:=x;exact⟨t,u,v,k _ _ (.inl rfl) e⟩
 |dY ob u ih=>obtain⟨e,q⟩:=x;exact⟨k _ _ (.inl rfl) e,ih q⟩
 |gZ q pos=>obtain⟨ps,e,g⟩:=x;exact⟨ps,k _ _ (.inl rfl) e,g.imp id λ⟨c,e1,e2⟩=>⟨c,e1,ht c (.iJ q) e2⟩⟩
 |iJ q=>obtain⟨_,o,vs,t,e,g,r⟩:=x;cases e;exact⟨_,o,vs,t,rfl,k _ _ (.inl rfl) g,r⟩
 |pR ps=>
  have e:=x;exact k a _ (.inl rfl) e
 |met f y=>
  have e:=x;exact k a _ (.inl rfl) e
 |ext φ=>obtain⟨p,⟨o,e⟩,st⟩:=x;exact⟨st _ _ p λo q=>k _ _ (.inl rfl) q,⟨o,k _ _ (.inl rfl) e⟩,st⟩
theorem cK.lt(x:cK P w H h)(e:H a=some o):a<h.objs.size:=(x a o e).lt
theorem cK.fresh(x:cK P w H h)(e:h.objs.size<=a):H a=none:=by
 cases q:H a with
 |none=>rfl
 |some u=>exact absurd (abP (x.lt q) e) (adw _)
theorem cK.kept(x:cK P w H h)(k:∀b u,h.get? b=some u->h'.get? b=some u):cK P w H h':=λa o e=>
 (x a o e).dZ (λb u _ q=>k b u q) (λ_ q=>q) λ_ _ q=>q
theorem cK.laid(x:cK P w H h)(k:∀b u,h.get? b=some u->h'.get? b=some u)(hp:h.objs.size<=a)(new:cU P w (upd H a o) h' a o):cK P w (upd H a o) h':=λb u e=>by
 have hn:=x.fresh hp
 by_cases hb:b=a
 .subst hb;rw[bT] at e;cases e;exact new
 .rw[aO hb] at e;exact(x b u e).dZ (λc v _ q=>k c v q) (λc q=>by rw[aO (cC q hn)];exact q) λc xs q=>by rw[aO (cC q hn)];exact q
end
def Rd(H:Hp)(a:Addr)(u:HO):Prop:=H a=some u\/∃o,H a=some (.dY o u)
theorem Rd.ok{P:Program}{w:World}{H:Hp}{h:Heap}{a:Addr}{u:HO}(r:Rd H a u)(x:cK P w H h):cU P w H h a u:=by
 rcases r with r|⟨o,r⟩
 .exact x a u r
 .obtain⟨_,q⟩:=x a _ r;exact q
def vp:Option HO->Prop
 |some (.lst _)=>True
 |some (.dK _)=>True
 |some (.dT _)=>True
 |some (.set _ _)=>True
 |some (.ins _ _ _)=>True
 |some (.ext _)=>True
 |_=>False
section
variable{P:Program}{w:World}{H:Hp}{h h':Heap}{x e:Addr}{o':HO}
theorem cK.write(ok:cK P w H h)(mu:vp (H x))(he:e=x\/H e=some (.own x))(k:∀b u,b≠e->h.get? b=some u->h'.get? b=some u)(uV:∃u,h'.get? e=some u)
  (new:cU P w (upd H x o') h' x o'):cK P w (upd H x o') h':=λb u q=>by
 have K5:∀c y,H c=some (.own y)->c≠x:=λc y r z=>by subst z;rw[r] at mu;exact mu
 have aaU:∀c (t:lE),H c=some t.ho->c≠x:=λc t r z=>by subst z;rw[r] at mu;cases t<;>exact mu
 by_cases hb:b=x
 .subst hb;rw[bT] at q;cases q;exact new
 .rw[aO hb] at q
  by_cases qW:b=e
  .have q':H b=some (.own x):=by
    rcases he with z|z
    .exact absurd (qW.trans z) hb
    .rw[qW];exact z
   rw[q] at q';cases q';obtain⟨v,hv⟩:=uV;exact⟨v,by rw[qW];exact hv⟩
  .refine(ok b u q).dZ (λc v hc r=>k c v ?_ r) (λc r=>by rw[aO (K5 c b r)];exact r) λc xs r=>by rw[aO (aaU c xs r)];exact r
   rcases hc with rfl|hc
   .exact qW
   .rintro rfl
    rcases he with z|z
    .exact K5 c b hc z
    .rw[hc] at z;cases z;exact hb rfl
end
structure Un(fs ex:List Addr)(H H':Hp)(h h':Heap):Prop where
 keep:∀b o,h.get? b=some o->H b=none->b∉fs->b∉ex->h'.get? b=some o
 slot:∀b o,h.get? b=some o->H b=none->b∈fs->b∉ex->∃sl,h'.get? b=some { o with slots:=sl }
 free:∀b o,h.get? b=some o->H b=none->b∉ex->H' b=none
 there:∀b o,h.get? b=some o->b∉ex->∃o',h'.get? b=some o'
 iZ:∀b (t:lE),H b=some t.ho->H' b=some t.ho
 jh:∀b o u,H b=some (.dY o u)->H' b=some (.dY o u)
 jV:∀b ps,H b=some (.pR ps)->∃more,H' b=some (.pR (ps++more))
section
variable{fs pB ex ex':List Addr}{H H1 H2:Hp}{h h1 h2 h':Heap}{a x e:Addr}{o:HO}
theorem Un.any(u:Un fs ex H H1 h h1){b:Addr}{ob:Obj}(q:h.get? b=some ob)(n:H b=none)(hx:b∉ex):∃sl,h1.get? b=some { ob with slots:=sl }:=by
 by_cases hb:b∈fs
 .exact u.slot b ob q n hb hx
 .exact⟨ob.slots,u.keep b ob q n hb hx⟩
theorem Un.kept(k:∀b u,h.get? b=some u->h'.get? b=some u):Un fs ex H H h h':=
 ⟨λb ob q _ _ _=>k b ob q,λb ob q _ _ _=>⟨ob.slots,k b ob q⟩,λ_ _ _ n _=>n,λb ob q _=>⟨ob,k b ob q⟩,λ_ _ q=>q,λ_ _ _ q=>q,λ_ ps q=>⟨#[],by rw[q];simp⟩⟩
theorem Un.refl:Un fs ex H H h h:=Un.kept λ_ _ q=>q
theorem Un.laid(k:∀b u,h.get? b=some u->h'.get? b=some u)(hp:h.objs.size<=a)(hn:H a=none):Un fs ex H (upd H a o) h h' where
 keep:=λb u q _ _ _=>k b u q
 slot:=λb u q _ _ _=>⟨u.slots,k b u q⟩
 free:=λb u q n _=>by rw[aO (abn (abP (aaZ q) hp))];exact n
 there:=λb u q _=>⟨u,k b u q⟩
 iZ:=λb xs q=>by rw[aO (cC q hn)];exact q
 jh:=λb u xs q=>by rw[aO (cC q hn)];exact q
 jV:=λb ps q=>⟨#[],by rw[aO (cC q hn),q];simp⟩
theorem Un.write(mu:vp (H x))(he:e=x\/H e=some (.own x))(k:∀b u,b≠e->h.get? b=some u->h'.get? b=some u)(uV:∃u,h'.get? e=some u):Un fs ex H (upd H x o) h h':=by
 have hx:∀b,H b=none->b≠x:=λb n z=>by subst z;rw[n] at mu;exact mu
 have hb:∀b,H b=none->b≠e:=λb n z=>by
  subst z;rcases he with r|r
  .exact hx b n r
  .rw[n] at r;cases r
 have hm:∀b u,H b=some u->¬vp (some u)->b≠x:=λb u q nm z=>by subst z;rw[q] at mu;exact nm mu
 refine⟨λb u q n _ _=>k b u (hb b n) q,λb u q n _ _=>⟨u.slots,k b u (hb b n) q⟩,λb u q n _=>by rw[aO (hx b n)];exact n,λb u q _=>?_,
  λb xs q=>by rw[aO (hm b _ q (by cases xs<;>exact λz=>z))];exact q,λb u xs q=>by rw[aO (hm b _ q λz=>z)];exact q,λb ps q=>⟨#[],by rw[aO (hm b _ q λz=>z),q];simp⟩⟩
 by_cases qW:b=e
 .subst qW;exact uV
 .exact⟨u,k b u qW q⟩
end
noncomputable def yW(h:Heap)(H:Hp):List Addr:=(List.range h.objs.size).filter λa=>(H a).isSome
def pM(h:Heap)(H:Hp):Heap:=PySem.W.hideAll h (yW h H)
theorem Wh(h:Heap)(H:Hp):(pM h H).objs.size=h.objs.size:=PySem.W.hideAll_size _ _
theorem Cc(e:h.get? b=some o)(n:H b=none):(pM h H).get? b=some o:=
 PySem.W.hideAll_get _ e λhm=>by
  have q:=(adY.mp hm).2;rw[n] at q;simp at q
theorem Sb(e:(pM h H).get? b=some o):h.get? b=some o/\H b=none:=by
 have e':=PySem.W.of_hideAll (yW h H) e;refine⟨e',?_⟩;cases q:H b with
 |none=>rfl
 |some x=>
  have hm:b∈yW h H:=adY.mpr ⟨aeI.mpr (aaZ e'),by simp[q]⟩;have z:(pM h H).get? b=none:=PySem.W.hideAll_none (yW h H) hm;rw[z] at e;cases e
structure Mod(K:PySem.W.Frag)(mg:Str->Option Value)(base:Heap):Prop where
 qz:K.In base
 glob:base.Ns mainGlobals mg
 blt:∃mb,base.Ns builtinsNs mb/\∀x:Str,x≠"__name__"->mb x=bootBuiltins x
 nolimit:base.NoLimit
 bmn:∃bm ob,mg "__builtins__"=some (.ref bm)/\bm≠builtinsNs/\base.get? bm=some ob/\ob.cls=.type "module"/\ob.dict=some builtinsNs/\ob.data=.plain
structure Cx where
 prog:Program
 w:World
 K:PySem.W.Frag
 mg:Str->Option Value
 base:Heap
 A:Around
 N:List Str
 cI:Shared
 tY:Hp
 env:Env
 outer:List Env
 stack:List Env
 ex:List Addr
 fn:Str->Bool
 calm:Bool
 pn:List (Addr×Obj)
 xe:Value->Shared->Prop
noncomputable def bB(l:List Env):List Addr:=l.filterMap (·.frame)
abbrev Cx.fs(X:Cx):List Addr:=bB X.outer
def Bt(sc:Scope)(x:Str):Prop:=sc.names.lookup x=some .local\/sc.names.lookup x=some .cell\/sc.names.lookup x=some .free
def Loc(sc:Scope)(x:Str):Prop:=sc.names.lookup x=some .local\/sc.names.lookup x=some .cell
def Look(env:Env)(h:Heap)(m:Str->Option Value)(x:Str)(u:Value):Prop:=
 (env.kindOf x=some .local/\m x=some u)\/((env.kindOf x=some .cell\/env.kindOf x=some .free)/\∃c,env.cells.lookup x=some c/\h.IsCell c (some u))
structure Cx.Ok(X:Cx):Prop where
 mod:Mod X.K X.mg X.base
 kind:X.env.scope.kind=.function
 glob:X.env.globals=mainGlobals
 blt:X.env.builtins=builtinsNs
 above:X.cI.heap.objs.size<=X.env.locals
 inj:∀x y c,X.env.cells.lookup x=some c->X.env.cells.lookup y=some c->x=y
 has:∀x,(X.env.kindOf x=some .cell\/X.env.kindOf x=some .free)->∃c,X.env.cells.lookup x=some c
 nu:∀x c,X.fn x=true->X.env.cells.lookup x=some c->X.cI.heap.objs.size<=c
 hd:X.calm=true->X.A.handled=none
 frames:X.A.frames=some X.stack
 pL:X.stack=X.outer\/(X.stack=X.env::X.outer/\X.env.frame=some X.env.locals)
 qU:∀b∈X.ex,b≠X.env.locals/\∀x c,X.env.cells.lookup x=some c->c≠b
 bs:∀b o,X.base.get? b=some o->X.cI.heap.get? b=some o/\X.tY b=none
 iA:X.base.objs.size<=X.cI.heap.objs.size
 nv:∀b o,X.base.get? b=some o->b∉X.ex
 n5:∀b∈X.ex,b∉X.fs
 iO:X.cI.heap.FunFrames X.base X.outer
 lN:∀b∈X.fs,X.tY b=none
def qJ(A:Around)(H:Hp):Prop:=A.handled=none\/∃(a:Addr) (ob:Obj) (u:HO) (vs:Array Value),A.handled=some (.ref a)/\H a=some (.dY ob u)/\ob.data=.fields vs/\vs[2]? = some .none
theorem qJ.mono{A:Around}{H H':Hp}(h:qJ A H)(f:∀b o u,H b=some (.dY o u)->H' b=some (.dY o u)):qJ A H':=h.elim .inl λ⟨a,ob,u,vs,h1,h2,h3⟩=>.inr ⟨a,ob,u,vs,h1,f _ _ _ h2,h3⟩
structure Hq(K:PySem.W.Frag)(A:Around)(H:Hp):Prop where
 hd:qJ A H
 ok:vg K=true
 lm:∀r∈iC K,H r.2.1=some (.gZ r.2.2.1 r.2.2.2)
theorem Hq.mono{K:PySem.W.Frag}(h:Hq K A H)(f:∀b o u,H b=some (.dY o u)->H' b=some (.dY o u))(g:∀b (t:lE),H b=some t.ho->H' b=some t.ho):Hq K A H':=
 ⟨h.hd.mono f,h.ok,λr m=>g _ (.gZ _ _) (h.lm r m)⟩
structure Inv(X:Cx)(af:List (Addr×Obj))(σ:List (Option V))(H:Hp)(s:Shared):Prop where
 ok:X.Ok
 os:s.os=X.cI.os
 bare:AllBare s.gens
 base:Un X.fs X.ex X.tY H X.cI.heap s.heap
 loc:∃m,s.heap.Ns X.env.locals m/\∀(i:Nat) (x:Str) (v:V),X.N[i]? = some x->σ[i]? = some (some v)->Bt X.env.scope x->∃u,RelV v u/\Look X.env s.heap m x u
 cell:∀x c,X.env.cells.lookup x=some c->∃v,s.heap.IsCell c v
 free:H X.env.locals=none
 f_:∀x c,X.env.cells.lookup x=some c->H c=none
 pin:∀p∈X.pn++af,s.heap.get? p.1=some p.2/\H p.1=none/\p.1≠X.env.locals/\p.1∉X.fs/\∀v,p.2.data≠.cell v
 aD:cK X.prog X.w H s.heap
 len:σ.length=X.N.length
 hq:Hq X.K X.A H
section
variable{X:Cx}{af:List (Addr×Obj)}{σ:List (Option V)}{H H':Hp}{s:Shared}{h':Heap}
theorem Cx.Ok.Wa(ok:X.Ok)(e:X.base.get? b=some o):b∉X.fs:=λhb=>by
 have:=(ok.iO.mem hb).1;rw[e] at this;cases this
theorem Inv.bs(I:Inv X af σ H s):∀b o,X.base.get? b=some o->s.heap.get? b=some o/\H b=none:=λb o e=>
 ⟨I.base.keep b o (I.ok.bs b o e).1 (I.ok.bs b o e).2 (I.ok.Wa e) (I.ok.nv b o e),I.base.free b o (I.ok.bs b o e).1 (I.ok.bs b o e).2 (I.ok.nv b o e)⟩
theorem Inv.bk(I:Inv X af σ H s):∀b o,X.base.get? b=some o->s.heap.get? b=some o:=λb o e=>(I.bs b o e).1
theorem Inv.mod(I:Inv X af σ H s):Mod X.K X.mg X.base:=I.ok.mod
theorem Inv.cV(I:Inv X af σ H s):X.K.In s.heap:=I.ok.mod.qz.keeps I.bk
theorem Inv.lt(I:Inv X af σ H s):X.env.locals<s.heap.objs.size:=let⟨_,hn,_⟩:=I.loc;hn.lt
theorem Inv.sz(I:Inv X af σ H s):X.cI.heap.objs.size<=s.heap.objs.size:=aer I.ok.above (ad3 I.lt)
theorem Inv.Pg(I:Inv X af σ H s)(h:s.heap.objs.size<=a):a∉X.fs:=λhb=>by
 obtain⟨_,o,ho,_⟩:=I.ok.iO.mem hb;exact absurd (abP (aaZ ho) (aer I.sz h)) (adw _)
theorem Inv.jE(I:Inv X af σ H s):∀x c,X.env.cells.lookup x=some c->c≠X.env.locals:=λx c e z=>by
 obtain⟨v,o,ho,hd⟩:=I.cell x c e;obtain⟨m,⟨o',es,ep,kX,CA,_⟩,_⟩:=I.loc;rw[z,kX] at ho;cases ho;rw[CA] at hd;cases hd
theorem Inv.iO(I:Inv X af σ H s):s.heap.FunFrames X.base X.outer:=by
 have all:∀(l:List Env),(∀b∈bB l,b∈X.fs)->X.cI.heap.FunFrames X.base l->s.heap.FunFrames X.base l:=by
  intro l
  induction l with
  |nil=>intro _ _;trivial
  |cons env r ih=>
   intro hs hl;obtain⟨hk,⟨L,o,hf,hn,ho,hd⟩,hr⟩:=hl;have hL:=hs L (by unfold bB;rw[ad4,hf];exact aax);obtain⟨sl,e⟩:=I.base.slot L o ho (I.ok.lN L hL) hL λz=>I.ok.n5 L z hL
   exact⟨hk,⟨L,_,hf,hn,e,hd⟩,ih (λb hb=>hs b (by unfold bB;rw[ad4,hf];exact aal _ hb)) hr⟩
 exact all X.outer (λ_ hb=>hb) I.ok.iO
theorem Inv.stack(I:Inv X af σ H s):s.heap.FunFrames X.base X.stack:=by
 rcases I.ok.pL with e|⟨e,hf⟩
 .rw[e];exact I.iO
 .rw[e];obtain⟨m,hn,_⟩:=I.loc;refine .cons (by rw[I.ok.kind];decide) hf hn ?_ I.iO;exact ae0 (aer I.ok.iA I.ok.above)
theorem Inv.Ag(I:Inv X af σ H s):∀b∈bB X.stack,b∈X.env.locals::X.fs:=λb hb=>by
 rcases I.ok.pL with e|⟨e,hf⟩
 .rw[e] at hb;exact aal _ hb
 .rw[e] at hb;unfold bB at hb;rw[ad4,hf] at hb;exact hb
theorem Inv.uw(I:Inv X af σ H s):∀b∈bB X.stack,H b=none:=λb hb=>by
 rcases aaM.mp (I.Ag b hb) with e|hb
 .rw[e];exact I.free
 .obtain⟨_,o,ho,_⟩:=I.ok.iO.mem hb;exact I.base.free b o ho (I.ok.lN b hb) λz=>I.ok.n5 b z hb
theorem Inv.step{g':Array GenState}{d':Drawn}{ch:List Addr}(I:Inv X af σ H s)
  (mz:∀b∈ch,(b∈X.ex\/X.cI.heap.objs.size<=b)/\b≠X.env.locals/\(∀x c,X.env.cells.lookup x=some c->c≠b)/\∀p∈X.pn++af,p.1≠b)
  (keep:∀b o,b≠X.env.locals->b∉X.fs->b∉ch->s.heap.get? b=some o->H b=none->h'.get? b=some o)
  (slot:∀b o,b≠X.env.locals->b∈X.fs->b∉ch->s.heap.get? b=some o->H b=none->∃sl,h'.get? b=some { o with slots:=sl }) (free:∀b o,b∉ch->s.heap.get? b=some o->H b=none->H' b=none)
  (there:∀b o,b∉ch->s.heap.get? b=some o->∃o',h'.get? b=some o')
  (iZ:∀b (t:lE),H b=some t.ho->H' b=some t.ho) (jh:∀b o u,H b=some (.dY o u)->H' b=some (.dY o u)) (jV:∀b ps,H b=some (.pR ps)->∃more,H' b=some (.pR (ps++more)))
  (ns:∀m,s.heap.Ns X.env.locals m->h'.Ns X.env.locals m) (aD:cK X.prog X.w H' h') (hg:AllBare g') :
  Inv X af σ H' { s with heap:=h',gens:=g',drawn:=d',toks:=t' }:=by
 have Av:∀b o,X.cI.heap.get? b=some o->b≠X.env.locals:=λb o e=>abn (abP (aaZ e) I.ok.above)
 have yT:∀b o,X.cI.heap.get? b=some o->b∉X.ex->b∉ch:=λb o e hx hb=>by
  rcases(mz b hb).1 with z|z
  .exact hx z
  .exact absurd (abP (aaZ e) z) (adw _)
 have cellK:∀x c,X.env.cells.lookup x=some c->∀v,s.heap.IsCell c v->h'.IsCell c v:=λx c e v ⟨o,ho,hd⟩=>by
  have kR:c∉ch:=λz=>(mz c z).2.2.1 x c e rfl
  by_cases hc:c∈X.fs
  .obtain⟨sl,q⟩:=slot c o (I.jE x c e) hc kR ho (I.f_ x c e);exact⟨_,q,hd⟩
  .exact⟨o,keep c o (I.jE x c e) hc kR ho (I.f_ x c e),hd⟩
 refine⟨I.ok,I.os,hg,⟨λb o e n hb hx=>?_,λb o e n hb hx=>?_,λb o e n hx=>?_,λb o e hx=>?_,λb xs e=>iZ b xs (I.base.iZ b xs e),λb o xs e=>jh b o xs (I.base.jh b o xs e),λb ps e=>?_⟩,?_,λx c e=>?_,?_,λx c e=>?_,λp hp=>?_,aD,I.len,I.hq.mono jh iZ⟩
 .exact keep b o (Av b o e) hb (yT b o e hx) (I.base.keep b o e n hb hx) (I.base.free b o e n hx)
 .obtain⟨sl,e1⟩:=I.base.slot b o e n hb hx;obtain⟨pq,e2⟩:=slot b _ (Av b o e) hb (yT b o e hx) e1 (I.base.free b o e n hx);exact⟨pq,e2⟩
 .obtain⟨o',e1⟩:=I.base.there b o e hx;exact free b o' (yT b o e hx) e1 (I.base.free b o e n hx)
 .obtain⟨o',e1⟩:=I.base.there b o e hx;exact there b o' (yT b o e hx) e1
 .obtain⟨m1,e1⟩:=I.base.jV b ps e;obtain⟨m2,e2⟩:=jV b _ e1;exact⟨m1++m2,by rw[e2,Array.append_assoc]⟩
 .obtain⟨m,hn,hl⟩:=I.loc;refine⟨m,ns m hn,λi x v e1 e2 e3=>?_⟩;obtain⟨u,r,l⟩:=hl i x v e1 e2 e3;refine⟨u,r,?_⟩;rcases l with l|⟨k,c,e,z⟩
  .exact .inl l
  .exact .inr ⟨k,c,e,cellK x c e _ z⟩
 .obtain⟨v,z⟩:=I.cell x c e;exact⟨v,cellK x c e v z⟩
 .obtain⟨m,⟨o,_,_,ho,_⟩,_⟩:=I.loc;exact free _ o (λz=>(mz _ z).2.1 rfl) ho I.free
 .obtain⟨v,o,ho,hd⟩:=I.cell x c e;exact free c o (λz=>(mz c z).2.2.1 x c e rfl) ho (I.f_ x c e)
 .obtain⟨e,n,ne,nf,d⟩:=I.pin p hp;have kR:p.1∉ch:=λz=>(mz p.1 z).2.2.2 p hp rfl
  exact⟨keep p.1 p.2 ne nf kR e n,free p.1 p.2 kR e n,ne,nf,d⟩
theorem Inv.un(I:Inv X af σ H s)(u:Un X.fs [] H H' s.heap h')(aD:cK X.prog X.w H' h'):Inv X af σ H' { s with heap:=h',toks:=t' }:=by
 obtain⟨m,⟨o,es,ep,ho,r⟩,_⟩:=id I.loc;obtain⟨sl,hL⟩:=u.any ho I.free (by simp);exact I.step (g':=s.gens) (d':=s.drawn) (ch:=[]) (λ_ z=>nomatch z) (λb o _ hb _ e n=>u.keep b o e n hb (by simp)) (λb o _ hb _ e n=>u.slot b o e n hb (by simp)) (λb o _ e n=>u.free b o e n (by simp)) (λb o _ e=>u.there b o e (by simp)) u.iZ u.jh u.jV (λm' hm=>by
  obtain⟨o',DL,xF,kX,r'⟩:=hm;rw[ho] at kX;cases kX;exact⟨_,DL,xF,hL,r'⟩) aD I.bare
theorem Inv.call{g':Array GenState}{d':Drawn}(I:Inv X af σ H s)(u:Un (bB X.stack) ch H H' s.heap h')(aD:cK X.prog X.w H' h')(hg:AllBare g')
  (mz:∀b∈ch,(b∈X.ex\/X.cI.heap.objs.size<=b)/\b≠X.env.locals/\(∀x c,X.env.cells.lookup x=some c->c≠b)/\∀p∈X.pn++af,p.1≠b) :
  Inv X af σ H' { s with heap:=h',gens:=g',drawn:=d',toks:=t' }:=by
 obtain⟨m,⟨o,es,ep,ho,r⟩,_⟩:=id I.loc;obtain⟨sl,hL⟩:=u.any ho I.free λz=>(mz _ z).2.1 rfl
 exact I.step (ch:=ch) mz (λb o hL hb hc e n=>u.keep b o e n (λz=>(aaM.mp (I.Ag b z)).elim hL hb) hc) (λb o _ _ hc e n=>u.any e n hc) (λb o hc e n=>u.free b o e n hc) (λb o hc e=>u.there b o e hc) u.iZ u.jh u.jV (λm' hm=>by
  obtain⟨o',DL,xF,kX,r'⟩:=hm;rw[ho] at kX;cases kX;exact⟨_,DL,xF,hL,r'⟩) aD hg
theorem Inv.turned(I:Inv X af σ H s)(k:∀b o,b≠it->s.heap.get? b=some o->h'.get? b=some o)(hn:H it=none)(hL:it≠X.env.locals)
  (h1:it∈X.ex\/X.cI.heap.objs.size<=it) (h2:∀x c,X.env.cells.lookup x=some c->c≠it) (h3:∀p∈X.pn++af,p.1≠it):Inv X af σ H { s with heap:=h',toks:=t' }:=by
 have Ig:∀b u,H b=some u->b≠it:=λb u e z=>by rw[z,hn] at e;cases e
 refine I.step (g':=s.gens) (d':=s.drawn) (ch:=[it]) (λb hb=>?_) (λb o _ _ hc e _=>k b o (λz=>hc (by simp[z])) e) (λb o _ _ hc e _=>⟨o.slots,k b o (λz=>hc (by simp[z])) e⟩) (λ_ _ _ _ n=>n)
  (λb o hc e=>⟨o,k b o (λz=>hc (by simp[z])) e⟩) (λ_ _ e=>e) (λ_ _ _ e=>e) (λb ps e=>⟨#[],by rw[e];simp⟩) (λm hm=>?_) (λb u e=>?_) I.bare
 .have e:b=it:=by simpa using hb
  subst e;exact⟨h1,hL,h2,h3⟩
 .obtain⟨o,es,ep,ho,r⟩:=hm;exact⟨o,es,ep,k _ o (aez hL) ho,r⟩
 .refine(I.aD b u e).dZ (λc v hc q=>k c v ?_ q) (λ_ q=>q) λ_ _ q=>q
  rcases hc with z|z
  .rw[z];exact Ig b u e
  .exact Ig c _ z
theorem Inv.tok(I:Inv X af σ H s)(t:Nat):Inv X af σ H { s with toks:=t }:=I.un Un.refl I.aD
theorem Inv.kept(I:Inv X af σ H s)(k:∀b u,s.heap.get? b=some u->h'.get? b=some u):Inv X af σ H { s with heap:=h',toks:=t' }:=I.un (Un.kept k) (I.aD.kept k)
theorem Inv.laid{o:HO}(I:Inv X af σ H s)(k:∀b u,s.heap.get? b=some u->h'.get? b=some u)(hp:s.heap.objs.size<=a)(new:cU X.prog X.w (upd H a o) h' a o):
  Inv X af σ (upd H a o) { s with heap:=h',toks:=t' }:=I.un (Un.laid k hp (I.aD.fresh hp)) (I.aD.laid k hp new)
theorem Inv.write{o:HO}(I:Inv X af σ H s)(mu:vp (H x))(he:e=x\/H e=some (.own x))(k:∀b u,b≠e->s.heap.get? b=some u->h'.get? b=some u)(uV:∃u,h'.get? e=some u)
  (new:cU X.prog X.w (upd H x o) h' x o):Inv X af σ (upd H x o) { s with heap:=h',toks:=t' }:=I.un (Un.write mu he k uV) (I.aD.write mu he k uV new)
theorem Inv.qM(I:Inv X af σ H s)(h:∀p∈u9,s.heap.get? p.1=some p.2/\H p.1=none/\p.1≠X.env.locals/\p.1∉X.fs/\∀v,p.2.data≠.cell v):Inv X u9 σ H s:=
 ⟨I.ok,I.os,I.bare,I.base,I.loc,I.cell,I.free,I.f_,λp hp=>(abb.mp hp).elim (λz=>I.pin p (aaR _ z)) (h p),I.aD,I.len,I.hq⟩
theorem HB{N:List Str}(hN:N.Nodup){i j:Nat}(a:N[i]? = some x)(b:N[j]? = some x):i=j:=by
 obtain⟨h1,e1⟩:=abU.mp a;obtain⟨h2,e2⟩:=abU.mp b;exact(List.getElem_inj hN).mp (e1.trans e2.symm)
theorem JN{Q:Unit->Shared->Prop}(I:Inv X af σ H s)(hN:X.N.Nodup)(hi:X.N[i]? = some x)(hx:Loc X.env.scope x)(r:RelV v u)
  (h:∀s',Inv X af (σ.set i (some v)) H s'->(∃a,Heap.SameBut a s.heap s'.heap/\(a=X.env.locals\/X.env.cells.lookup x=some a))->Q () s') (hf:X.fn x=true\/X.env.scope.names.lookup x=some .local:=by first|exact .inl rfl|exact .inr rfl|assumption):wpAny M A (storeName X.env x u) Q E s:=by
 obtain⟨m,hn,hl⟩:=id I.loc;have vf:(X.env.scope.kind == .class||(X.env.scope.kind == .module&&X.env.locals != X.env.globals))=false:=by rw[I.ok.kind];rfl
 have OU:i<σ.length:=by rw[I.len];exact(abU.mp hi).1
 have jE:=I.jE;have tracked:∀{a:Addr}{h':Heap},(∃o,s.heap.get? a=some o/\H a=none)->Heap.SameBut a s.heap h'->cK X.prog X.w H h':=λ{a h'} ha hs b ob e=>by
  obtain⟨_,_,Ol⟩:=ha;refine(I.aD b ob e).dZ (λc w' hc q=>(hs.2 c ?_).trans q) (λ_ q=>q) λ_ _ q=>q
  rintro rfl
  rcases hc with rfl|hc
  .rw[Ol] at e;cases e
  .rw[Ol] at hc;cases hc
 rcases hx with hk|hk
 .refine wpAny_storeName_local hk hn (λh' Cz hs=>?_) vf;obtain⟨oL,_,_,AV,_⟩:=id hn;refine h _ ⟨I.ok,I.os,I.bare,⟨λb o e n hb hx=>?_,λb o e n hb hx=>?_,I.base.free,λb o e hx=>?_,I.base.iZ,I.base.jh,I.base.jV⟩,⟨_,Cz,λj y v' e1 e2 e3=>?_⟩,λy c e=>?_,I.free,I.f_,λp hp=>?_,tracked ⟨oL,AV,I.free⟩ hs,by simpa using I.len,I.hq⟩ ⟨_,hs,.inl rfl⟩
  .exact(hs.2 b (abn (abP (aaZ e) I.ok.above))).trans (I.base.keep b o e n hb hx)
  .obtain⟨sl,e1⟩:=I.base.slot b o e n hb hx;exact⟨sl,(hs.2 b (abn (abP (aaZ e) I.ok.above))).trans e1⟩
  .obtain⟨o',e1⟩:=I.base.there b o e hx;exact⟨o',(hs.2 b (abn (abP (aaZ e) I.ok.above))).trans e1⟩
  .by_cases hj:j=i
   .subst hj;rw[hi] at e1;cases e1;rw[ac1 OU] at e2;cases e2;exact⟨u,r,.inl ⟨hk,by simp⟩⟩
   .rw[abY (aez hj)] at e2;obtain⟨u',r',q⟩:=hl j y v' e1 e2 e3;refine⟨u',r',?_⟩;rcases q with⟨k,e⟩|⟨k,c,e,z⟩
    .refine .inl ⟨k,?_⟩;have:y≠x:=λe=>hj (HB hN e1 (e ▸ hi))
     simp[this,e]
    .exact .inr ⟨k,c,e,z.sameBut hs (jE y c e)⟩
  .obtain⟨w',z⟩:=I.cell y c e;exact⟨w',z.sameBut hs (jE y c e)⟩
  .obtain⟨e,n,ne,nf,d⟩:=I.pin p hp;exact⟨(hs.2 p.1 ne).trans e,n,ne,nf,d⟩
 .have BY:X.fn x=true:=by
   rcases hf with z|z
   .exact z
   .rw[z] at hk;cases hk
  obtain⟨c,hc⟩:=I.ok.has x (.inl hk);obtain⟨w',z⟩:=I.cell x c hc;refine wpAny_storeName_cell I.ok.kind hk hc z (λh' p_ hs=>?_);obtain⟨oc,kr,acn⟩:=id z;refine h { s with heap:=h' } ⟨I.ok,I.os,I.bare,⟨λb o e n hb hx=>?_,λb o e n hb hx=>?_,I.base.free,λb o e hx=>?_,I.base.iZ,I.base.jh,I.base.jV⟩,⟨m,hn.sameBut hs (aez (jE x c hc)),λj y v' e1 e2 e3=>?_⟩,λy c' e=>?_,I.free,I.f_,λp hp=>?_,tracked ⟨oc,kr,I.f_ x c hc⟩ hs,by simpa using I.len,I.hq⟩ ⟨c,hs,.inr hc⟩
  .exact(hs.2 b (abn (abP (aaZ e) (I.ok.nu x c BY hc)))).trans (I.base.keep b o e n hb hx)
  .obtain⟨sl,e1⟩:=I.base.slot b o e n hb hx;exact⟨sl,(hs.2 b (abn (abP (aaZ e) (I.ok.nu x c BY hc)))).trans e1⟩
  .obtain⟨o',e1⟩:=I.base.there b o e hx;exact⟨o',(hs.2 b (abn (abP (aaZ e) (I.ok.nu x c BY hc)))).trans e1⟩
  .by_cases hj:j=i
   .subst hj;rw[hi] at e1;cases e1;rw[ac1 OU] at e2;cases e2;exact⟨u,r,.inr ⟨.inl hk,c,hc,p_⟩⟩
   .rw[abY (aez hj)] at e2;obtain⟨u',r',q⟩:=hl j y v' e1 e2 e3;refine⟨u',r',?_⟩;rcases q with q|⟨k,c',e,z'⟩
    .exact .inl q
    .refine .inr ⟨k,c',e,z'.sameBut hs ?_⟩
     rintro rfl
     exact hj (HB hN e1 (I.ok.inj _ _ _ e hc ▸ hi))
  .by_cases Ml:c'=c
   .subst Ml;exact⟨_,p_⟩
   .obtain⟨w2,z2⟩:=I.cell y c' e;exact⟨w2,z2.sameBut hs Ml⟩
  .obtain⟨e,n,ne,nf,d⟩:=I.pin p hp;refine⟨(hs.2 p.1 ?_).trans e,n,ne,nf,d⟩;intro q;rw[q,kr] at e;have q':=abi e;exact d w' (by rw[<- q'];exact acn)
theorem DG{Q:Unit->Shared->Prop}(I:Inv X af σ H s)(hN:X.N.Nodup)(hi:X.N[i]? = some x)(hx:Loc X.env.scope x)(r:RelV v u)
  (h:∀s',Inv X af (σ.set i (some v)) H s'->Q () s') (hf:X.fn x=true\/X.env.scope.names.lookup x=some .local:=by first|exact .inl rfl|exact .inr rfl|assumption):wpAny M A (storeName X.env x u) Q E s:=
 JN I hN hi hx r (λs' I' _=>h s' I') hf
theorem Inv.O_(I:Inv X af σ H s)(ho:s'.os=s.os)(u:Un (bB X.stack) ch H H' s.heap s'.heap)(aD:cK X.prog X.w H' s'.heap)(hg:AllBare s'.gens)
  (mz:∀b∈ch,(b∈X.ex\/X.cI.heap.objs.size<=b)/\b≠X.env.locals/\(∀x c,X.env.cells.lookup x=some c->c≠b)/\∀p∈X.pn++af,p.1≠b):Inv X af σ H' s':=by
 obtain⟨h',g',d',t',o'⟩:=s';have e:=ho;subst e;exact I.call (g':=g') (d':=d') u aD hg mz
end
abbrev XK:=Value->Option Addr->Hp->Prop
noncomputable abbrev St:=List (Option V)
abbrev VK:=V->Hp->Prop
abbrev TE:=St->Hp->VK->Prop
abbrev TT:=St->Hp->(Bool->Hp->Prop)->Prop
abbrev TA:=St->Hp->(List V->Hp->Prop)->Prop
structure Ends where
 nx:St->Hp->Prop
 rt:VK
 bk:St->Hp->Prop:=λ_ _=>False
 ct:St->Hp->Prop:=λ_ _=>False
abbrev TS:=Ends->St->Hp->Prop
def EP(X:Cx)(af:List (Addr×Obj))(σ:St)(Q:VK)(u:Value)(s':Shared):Prop:=∃v H',Inv X af σ H' s'/\RelV v u/\Q v H'
def TP(X:Cx)(af:List (Addr×Obj))(σ:St)(Q:Bool->Hp->Prop)(b:Bool)(s':Shared):Prop:=∃H',Inv X af σ H' s'/\Q b H'
def AP(X:Cx)(af:List (Addr×Obj))(σ:St)(Q:List V->Hp->Prop)(us:List Value)(s':Shared):Prop:=∃vs H',Inv X af σ H' s'/\aK vs us/\Q vs H'
def SP(X:Cx)(af:List (Addr×Obj))(D:Ends)(f:Flow)(s':Shared):Prop:=
 match f with
 |.next=>∃aB H',Inv X af aB H' s'/\D.nx aB H'
 |.brk=>∃aB H',Inv X af aB H' s'/\D.bk aB H'
 |.cont=>∃aB H',Inv X af aB H' s'/\D.ct aB H'
 |.ret u=>∃v aB H',Inv X af aB H' s'/\RelV v u/\D.rt v H'
def PE(X:Cx)(e:Expr)(t:TE):Prop:=
 ∀(af:List (Addr×Obj)) (s:Shared) (σ:St) (H:Hp) (Q:VK),Inv X af σ H s->t σ H Q->wpAny (model X.prog X.w) X.A (eval e X.env) (EP X af σ Q) X.xe s
def PT(X:Cx)(e:Expr)(t:TT):Prop:=
 ∀(af:List (Addr×Obj)) (s:Shared) (σ:St) (H:Hp) (Q:Bool->Hp->Prop),Inv X af σ H s->t σ H Q->wpAny (model X.prog X.w) X.A (isTrue e X.env (eval e X.env)) (TP X af σ Q) X.xe s
def PW(X:Cx)(e:Expr)(t:TT):Prop:=
 ∀(whole:Sem Value) (af:List (Addr×Obj)) (s:Shared) (σ:St) (H:Hp) (Q:Bool->Hp->Prop),Inv X af σ H s->t σ H Q->wpAny (model X.prog X.w) X.A (isTrue e X.env whole) (TP X af σ Q) X.xe s
theorem PW.pt{t:TT}(h:PW X e t):PT X e t:=h _
def PA(X:Cx)(es:List Expr)(t:TA):Prop:=
 ∀(pos:Pos) (af:List (Addr×Obj)) (s:Shared) (σ:St) (H:Hp) (Q:List V->Hp->Prop),Inv X af σ H s->t σ H Q->wpAny (model X.prog X.w) X.A (spliced (backTo pos (starEach es X.env))) (AP X af σ Q) X.xe s
def PS(X:Cx)(st:Stmt)(t:TS):Prop:=
 ∀(af:List (Addr×Obj)) (s:Shared) (σ:St) (H:Hp) (D:Ends),Inv X af σ H s->t D σ H->wpAny (model X.prog X.w) X.A (exec st X.env) (SP X af D) X.xe s
def gC(X:Cx)(st:List Stmt)(t:TS):Prop:=
 ∀(af:List (Addr×Obj)) (s:Shared) (σ:St) (H:Hp) (D:Ends),Inv X af σ H s->t D σ H->wpAny (model X.prog X.w) X.A (execs st X.env) (SP X af D) X.xe s
theorem aM{α:Type}{t:Sem α}{Q Q':α->Shared->Prop}(h:wpAny M A t Q E s)(hQ:∀a s,Q a s->Q' a s):wpAny M A t Q' E s:=acH h hQ λ_ _ x=>x
section
variable{X:Cx}
def xy(i:Nat):TE:=λσ H Q=>∃v,σ[i]? = some (some v)/\Q v H
def tC(v:V):TE:=λ_ H Q=>Q v H
theorem Dl(hN:X.N[i]? = some x)(hv:Bt X.env.scope x)(hd:(x==("__debug__":Str))=false:=by decide)(gG:(x==("__classdict__":Str))=false:=by decide):PE X (.Name x pos) (xy i):=by
 intro af s σ H Q I h;obtain⟨v,e,h⟩:=h;obtain⟨m,hn,hl⟩:=I.loc;obtain⟨u,r,l⟩:=hl i x v hN e hv;have fin:EP X af σ Q u s:=⟨v,H,I,r,h⟩
 rcases l with⟨hk,hm⟩|⟨hk,c,hc,JW⟩
 .exact wpAny_Name (wpAny_loadName_local I.ok.kind hk hn hm fin) hd
 .rcases hk with hk|hk
  .exact wpAny_Name (wpAny_loadName_cell I.ok.kind hk hc JW fin) hd
  .exact wpAny_Name (wpAny_loadName_free I.ok.kind hk hc JW fin gG) hd
theorem Hx{i j pos}:PE X (.Constant (.int i) j pos) (tC (.int i)):=λ_ _ _ H _ I h=>wpAny_Constant_int ⟨.int i,H,I.tok _,⟨_,rfl⟩,h⟩
theorem aat{b j pos}:PE X (.Constant (.bool b) j pos) (tC (.bl b)):=λ_ _ _ H _ I h=>Constant_bool ⟨.bl b,H,I,rfl,h⟩
theorem Qw{j pos}:PE X (.Constant .none j pos) (tC .aC):=λ_ _ _ H _ I h=>Constant_none ⟨.aC,H,I,rfl,h⟩
theorem Xs{x j pos}:PE X (.Constant (.str x) j pos) (tC (.str x)):=λ_ _ _ H _ I h=>Calls.Constant_str ⟨.str x,H,I.tok _,⟨_,rfl⟩,h⟩
def Gl(X:Cx)(x:Str):Prop:=X.env.kindOf x=some .globalImplicit
theorem qX(I:Inv X af σ H s)(hg:Gl X x)(hm:X.mg x=some u)(h:Q u s)
  (hd:(x==("__debug__":Str))=false:=by decide):wpAny (model X.prog X.w) X.A (eval (.Name x pos) X.env) Q E s:=
 Calls.Name_function_global I.ok.kind hg (Calls.loadGlobal_global (by rw[I.ok.glob];exact I.mod.glob.keeps I.bk) hm h) hd
theorem lJ(I:Inv X af σ H s)(hg:Gl X x)(hm:X.mg x=none)(hv:bootBuiltins x=some u)(h:Q u s)
  (hn:x≠"__name__":=by decide) (hd:(x==("__debug__":Str))=false:=by decide):wpAny (model X.prog X.w) X.A (eval (.Name x pos) X.env) Q E s:=by
 obtain⟨mb,h1,h2⟩:=I.mod.blt;exact Calls.Name_function_global I.ok.kind hg (Calls.loadGlobal_builtin (by rw[I.ok.glob];exact I.mod.glob.keeps I.bk) hm (by rw[I.ok.blt];exact h1.keeps I.bk) ((h2 x hn).trans hv) h) hd
theorem LX(hg:Gl X x)(hm:X.mg x=some u)(r:RelV v u)(hd:(x==("__debug__":Str))=false:=by decide):PE X (.Name x pos) (tC v):=
 λ_ _ _ H _ I h=>qX I hg hm ⟨v,H,I,r,h⟩ hd
theorem D7{x:Str}{v:V}{u:Value}{pos:Pos}(hg:Gl X x)(hm:X.mg x=none)(hv:bootBuiltins x=some u)(r:RelV v u)(hn:x≠"__name__":=by decide)(hd:(x==("__debug__":Str))=false:=by decide):PE X (.Name x pos) (tC v):=
 λ_ _ _ H _ I h=>lJ I hg hm hv ⟨v,H,I,r,h⟩ hn hd
variable{a b:Expr}{ta tb:TE}{pos:Pos}
def PC(X:Cx)(op:CmpOp)(a b:Expr)(t:TE):Prop:=
 ∀(af:List (Addr×Obj)) (s:Shared) (σ:St) (H:Hp) (Q:VK),Inv X af σ H s->t σ H Q->
  wpAny (model X.prog X.w) X.A (eval a X.env) (λv bE=>wpAny (model X.prog X.w) X.A (eval b X.env) (λu pV=>wpAny (model X.prog X.w) X.A (compareOp op v u) (EP X af σ Q) X.xe pV) X.xe bE) X.xe s
def tB(t:TE):TT:=λσ H Q=>t σ H λx H1=>∃c,x=.bl c/\Q c H1
theorem OA{op:CmpOp}(h:PC X op a b t)(h1:behindInMarks op b=false:=by first|exact Tp _ (by decide) (by decide)|rfl):PE X (.Compare a [op] [b] pos) t:=λaf s σ H Q I hw=>wpAny_Compare1 (h af s σ H Q I hw) h1
theorem adS{op:CmpOp}(h:PC X op a b t)(h1:behindInMarks op b=false:=by first|exact Tp _ (by decide) (by decide)|rfl):PT X (.Compare a [op] [b] pos) (tB t):=by
 intro af s σ H Q I hw;refine wpAny_isTrue_Compare1 (aM (h af s σ H _ I hw) λv s1 h1=>aM h1 λu s2 h2=>aM h2 λc s3 ⟨x,H1,I1,r1,q1⟩=>?_) h1;obtain⟨d,rfl,q⟩:=q1;cases r1;exact aec ⟨H1,I1,q⟩
theorem GP(h:PE X e t)(he:∀whole,isTrue e X.env whole=(do let v <- whole;standAt e.pos;holding [v] (truthy v)):=by intro _;rfl):PT X e (tB t):=by
 intro af s σ H Q I hw;refine isTrue_plain (aM (h af s σ H _ I hw) λv s1 ⟨x,H1,I1,r1,q1⟩=>?_) (he _);obtain⟨d,rfl,q⟩:=q1;cases r1;exact aec ⟨H1,I1,q⟩
variable{tA AR:TT}{rest:List Expr}
def RL(t u:TT):TT:=λσ H Q=>t σ H λc H1=>if c=true then u σ H1 Q else Q false H1
def Uc(t u:TT):TT:=λσ H Q=>t σ H λc H1=>if c=true then Q true H1 else u σ H1 Q
def UR(t:TT):TT:=λσ H Q=>t σ H λc H1=>Q (!c) H1
theorem NB(ha:PT X a tA):PW X (.BoolOp .And [a] pos) tA:=by
 intro wh af s σ H Q I h;refine isTrue_and (aM (ha af s σ H Q I h) λc s1 e=>?_);cases c with
 |true=>exact isTrue_and_nil e
 |false=>exact e
theorem S7(ha:PT X a tA):PW X (.BoolOp .Or [a] pos) tA:=by
 intro wh af s σ H Q I h;refine isTrue_or (aM (ha af s σ H Q I h) λc s1 e=>?_);cases c with
 |false=>exact isTrue_or_nil e
 |true=>exact e
theorem Nu(ha:PT X a tA)(hb:PW X (.BoolOp .And (b::rest) pos) AR):PW X (.BoolOp .And (a::b::rest) pos) (RL tA AR):=by
 intro wh af s σ H Q I h;refine isTrue_and (aM (ha af s σ H _ I h) λc s1 ⟨H1,I1,q1⟩=>?_);cases c with
 |true=>exact hb wh af s1 σ H1 Q I1 q1
 |false=>exact⟨H1,I1,q1⟩
theorem Sh(ha:PT X a tA)(hb:PW X (.BoolOp .Or (b::rest) pos) AR):PW X (.BoolOp .Or (a::b::rest) pos) (Uc tA AR):=by
 intro wh af s σ H Q I h;refine isTrue_or (aM (ha af s σ H _ I h) λc s1 ⟨H1,I1,q1⟩=>?_);cases c with
 |true=>exact⟨H1,I1,q1⟩
 |false=>exact hb wh af s1 σ H1 Q I1 q1
theorem Pp(ha:PT X a tA):PT X (.UnaryOp .Not a pos) (UR tA):=by
 intro af s σ H Q I h;exact isTrue_not (ha af s σ H (λc H1=>Q (!c) H1) I h)
def aco(ta tb:TE):TE:=λσ H Q=>ta σ H λx H1=>∃c,x=.bl c/\if c=true then tb σ H1 Q else Q (.bl false) H1
def Yi(ta tb:TE):TE:=λσ H Q=>ta σ H λx H1=>∃c,x=.bl c/\if c=true then Q (.bl true) H1 else tb σ H1 Q
def ab8(ta:TE):TE:=λσ H Q=>ta σ H λx H1=>∃c,x=.bl c/\Q (.bl (!c)) H1
theorem O6{op}(h:PE X a t):PE X (.BoolOp op [a] pos) t:=λaf s σ H Q I hw=>BoolOp_one (h af s σ H Q I hw)
theorem aaw(ha:PE X a ta)(hb:PE X (.BoolOp .And (b::rest) pos) tb):PE X (.BoolOp .And (a::b::rest) pos) (aco ta tb):=by
 intro af s σ H Q I h;refine BoolOp_and (aM (ha af s σ H _ I h) λv s1 ⟨x,H1,I1,r1,q1⟩=>?_);obtain⟨c,rfl,q1⟩:=q1;cases r1;refine aec ?_;cases c with
 |true=>exact hb af s1 σ H1 Q I1 q1
 |false=>exact⟨.bl false,H1,I1,rfl,q1⟩
theorem Jp(ha:PE X a ta)(hb:PE X (.BoolOp .Or (b::rest) pos) tb):PE X (.BoolOp .Or (a::b::rest) pos) (Yi ta tb):=by
 intro af s σ H Q I h;refine BoolOp_or (aM (ha af s σ H _ I h) λv s1 ⟨x,H1,I1,r1,q1⟩=>?_);obtain⟨c,rfl,q1⟩:=q1;cases r1;refine aec ?_;cases c with
 |false=>exact hb af s1 σ H1 Q I1 q1
 |true=>exact⟨.bl true,H1,I1,rfl,q1⟩
theorem V_(ha:PE X a ta):PE X (.UnaryOp .Not a pos) (ab8 ta):=by
 intro af s σ H Q I h;refine UnaryOp_ (aM (ha af s σ H _ I h) λv s1 ⟨x,H1,I1,r1,q1⟩=>?_);obtain⟨c,rfl,q1⟩:=q1;cases r1;exact not_of (aec ⟨.bl (!c),H1,I1,rfl,q1⟩)
def tIf(t:TT)(ta tb:TE):TE:=λσ H Q=>t σ H λc H1=>if c=true then ta σ H1 Q else tb σ H1 Q
theorem Y_(hc:PT X c tA)(ha:PE X a ta)(hb:PE X b tb):PE X (.IfExp c a b pos) (tIf tA ta tb):=by
 intro af s σ H Q I h;refine wpAny_IfExp (aM (hc af s σ H _ I h) λd s1 ⟨H1,I1,q1⟩=>?_);cases d with
 |true=>exact ha af s1 σ H1 Q I1 q1
 |false=>exact hb af s1 σ H1 Q I1 q1
end
def bS(K:PySem.W.Frag)(H:Hp)(a:Addr)(xs:List V):Prop:=
 Rd H a (.lst xs)\/
  ∃(o:Obj) (ao:Array Value) (n:Nat),K.lookup a=some o/\o.cls=.type "list"/\o.dict=none/\o.data=.seq ao n/\ao.size<=sizeLine/\aK xs ao.toList
def cg(K:PySem.W.Frag)(H:Hp)(a:Addr)(xs:List V):Prop:=
 Rd H a (.tup xs)\/
  ∃(o:Obj) (ao:Array Value) (n:Nat),K.lookup a=some o/\o.cls=.type "tuple"/\o.dict=none/\o.data=.seq ao n/\ao.size<=sizeLine/\aK xs ao.toList
noncomputable def Yy:Value->Option V
 |.none=>some .aC
 |.bool b=>some (.bl b)
 |.int i _=>some (.int i)
 |.str x _=>some (.str x)
 |.bytes b _=>some (.jG b)
 |.float b _=>some (.su b)
 |.ref a=>some (.ref a)
 |.type n=>some (.ty n)
 |_=>none
theorem RelV.abs(r:RelV x u):Yy u=some x:=by
 cases x with
 |aC=>cases r;rfl
 |bl _=>cases r;rfl
 |int _=>obtain⟨t,rfl⟩:=r;rfl
 |str _=>obtain⟨t,rfl⟩:=r;rfl
 |jG _=>obtain⟨t,rfl⟩:=r;rfl
 |su _=>obtain⟨t,rfl⟩:=r;rfl
 |ref _=>cases r;rfl
 |ty _=>cases r;rfl
theorem RelV.inj(r:RelV x u)(q:RelV y u):x=y:=abi (r.abs.symm.trans q.abs)
theorem aK.inj:∀{xs ys:List V}{us:List Value},aK xs us->aK ys us->xs=ys
 |_,_,_,.nil,.nil=>rfl
 |_,_,_,.cons r t,.cons r' t'=>by rw[r.inj r',aK.inj t t']
section
variable{X:Cx}{af:List (Addr×Obj)}{σ:St}{H:Hp}{s:Shared}{a:Addr}{xs ys:List V}
theorem bS.of{K:PySem.W.Frag}(h:H a=some (.lst xs)):bS K H a xs:=.inl (.inl h)
theorem cg.of{K:PySem.W.Frag}(h:H a=some (.tup xs)):cg K H a xs:=.inl (.inl h)
theorem Inv.list(I:Inv X af σ H s)(h:bS X.K H a xs):∃ao:List Value,aK xs ao/\PlainL s.heap a ao.toArray/\xs.length<=sizeLine:=by
 rcases h with h|⟨o,ao,n,hk,hc,hd,hs,hz,r⟩
 .obtain⟨z,ao,n,r,e⟩:=h.ok I.aD;exact⟨ao,r,⟨_,n,e,rfl,rfl,rfl⟩,z⟩
 .refine⟨ao.toList,r,⟨o,n,I.cV a o hk,hc,hd,by simpa using hs⟩,?_⟩;have e:=r.length;simp only[ady] at e;omega
theorem Inv.KO(I:Inv X af σ H s)(h:cg X.K H a xs):∃ao:List Value,aK xs ao/\lF s.heap a ao.toArray/\xs.length<=sizeLine:=by
 rcases h with h|⟨o,ao,n,hk,hc,hd,hs,hz,r⟩
 .obtain⟨z,ao,r,p⟩:=h.ok I.aD;exact⟨ao,r,p,z⟩
 .refine⟨ao.toList,r,⟨o,I.cV a o hk,hc,hd,n,by simpa using hs⟩,?_⟩;have e:=r.length;simp only[ady] at e;omega
theorem Inv.tuple(I:Inv X af σ H s)(h:cg X.K H a xs):∃ao:List Value,aK xs ao/\IsTup s.heap a ao.toArray/\xs.length<=sizeLine:=by
 rcases h with h|⟨o,ao,n,hk,hc,hd,hs,hz,r⟩
 .obtain⟨z,ao,r,p⟩:=h.ok I.aD;exact⟨ao,r,p.isTup,z⟩
 .refine⟨ao.toList,r,⟨o,I.cV a o hk,hc,n,by simpa using hs⟩,?_⟩;have e:=r.length;simp only[ady] at e;omega
theorem Inv.Dr(I:Inv X af σ H s)(h:bS X.K H a xs)(h':bS X.K H a ys):xs=ys:=by
 obtain⟨ao,r,⟨o,n,e,_,_,d⟩,_⟩:=I.list h;obtain⟨its',r',⟨o',n',e',_,_,d'⟩,_⟩:=I.list h';rw[e] at e';cases e';rw[d] at d';injection d' with d1 _;have:ao=its':=by simpa using congrArg Array.toList d1
 subst this;exact r.inj r'
theorem Inv.Xr(I:Inv X af σ H s)(h:cg X.K H a xs)(h':cg X.K H a ys):xs=ys:=by
 obtain⟨ao,r,⟨o,e,_,n,d⟩,_⟩:=I.tuple h;obtain⟨its',r',⟨o',e',_,n',d'⟩,_⟩:=I.tuple h';rw[e] at e';cases e';rw[d] at d';injection d' with d1 _;have:ao=its':=by simpa using congrArg Array.toList d1
 subst this;exact r.inj r'
end
noncomputable abbrev Cx.kh(X:Cx)(E:Value->Shared->Prop):Cx:={ X with xe:=E }
abbrev Cx.gz(X:Cx):Cx:=X.kh λ_ _=>False
theorem Cx.Ok.kh{X:Cx}(ok:X.Ok)(E:Value->Shared->Prop):(X.kh E).Ok:=
 ⟨ok.mod,ok.kind,ok.glob,ok.blt,ok.above,ok.inj,ok.has,ok.nu,ok.hd,ok.frames,ok.pL,ok.qU,ok.bs,ok.iA,ok.nv,ok.n5,ok.iO,ok.lN⟩
theorem Cx.Ok.mO{X:Cx}{E:Value->Shared->Prop}(ok:(X.kh E).Ok):X.Ok:=
 ⟨ok.mod,ok.kind,ok.glob,ok.blt,ok.above,ok.inj,ok.has,ok.nu,ok.hd,ok.frames,ok.pL,ok.qU,ok.bs,ok.iA,ok.nv,ok.n5,ok.iO,ok.lN⟩
section
variable{X:Cx}{af:List (Addr×Obj)}{σ:St}{H:Hp}{s:Shared}{E:Value->Shared->Prop}
theorem Inv.kh(I:Inv X af σ H s)(E:Value->Shared->Prop):Inv (X.kh E) af σ H s:=⟨I.ok.kh E,I.os,I.bare,I.base,I.loc,I.cell,I.free,I.f_,I.pin,I.aD,I.len,I.hq⟩
theorem Inv.mO(I:Inv (X.kh E) af σ H s):Inv X af σ H s:=⟨I.ok.mO,I.os,I.bare,I.base,I.loc,I.cell,I.free,I.f_,I.pin,I.aD,I.len,I.hq⟩
theorem SP.mO{D:Ends}{f:Flow}(h:SP (X.kh E) af D f s'):SP X af D f s':=by
 cases f with
 |next=>obtain⟨aB,H',I,q⟩:=h;exact⟨aB,H',I.mO,q⟩
 |brk=>obtain⟨aB,H',I,q⟩:=h;exact⟨aB,H',I.mO,q⟩
 |cont=>obtain⟨aB,H',I,q⟩:=h;exact⟨aB,H',I.mO,q⟩
 |ret u=>obtain⟨v,aB,H',I,r,q⟩:=h;exact⟨v,aB,H',I.mO,r,q⟩
theorem gC.gz{st:List Stmt}(h:gC X.gz st t):gC X st t:=λaf s σ H D I hw=>
 acH (h af s σ H D (I.kh _) hw) (λ_ _ q=>q.mO) λ_ _ z=>False.elim z
end
section
variable{X:Cx}{st:Stmt}{rest:List Stmt}{t u:TS}{e:Expr}{te:TE}{pos:Pos}
def aaz:TS:=λD σ H=>D.nx σ H
def QX(t u:TS):TS:=λD σ H=>t { D with nx:=u D } σ H
theorem Cs:gC X [] aaz:=λ_ _ σ H _ I h=>afc ⟨σ,H,I,h⟩
theorem uO(h1:PS X st t)(h2:gC X rest u):gC X (st::rest) (QX t u):=by
 intro af s σ H D I h;refine wpAny_execs_cons (aM (h1 af s σ H { D with nx:=u D } I h) λf s1 q=>?_);cases f with
 |next=>
  obtain⟨aB,H',I',q⟩:=q;exact h2 af s1 aB H' D I' q
 |ret v=>exact q
 |brk=>exact q
 |cont=>exact q
theorem yH(h1:PS X st t):gC X [st] t:=by
 intro af s σ H D I h;refine wpAny_execs_cons (aM (h1 af s σ H D I h) λf s1 q=>?_);cases f with
 |next=>exact afc q
 |ret v=>exact q
 |brk=>exact q
 |cont=>exact q
theorem Inv.quiet(I:Inv X af σ H s):interactive X.env=false:=by simp[interactive,I.ok.kind]
def ZU(te:TE):TS:=λD σ H=>te σ H λ_ H1=>D.nx σ H1
theorem zU(he:PE X e te)(hs:swapsWith e none pos.line X.env=pure false:=by rfl):PS X (.Expr e pos) (ZU te):=by
 intro af s σ H D I h;exact wpAny_Expr_any (aM (he af s σ H _ I h) λv s1 ⟨x,H1,I1,r1,q1⟩=>⟨σ,H1,I1,q1⟩) I.quiet hs
def adN(te:TE):TS:=λD σ H=>te σ H D.rt
theorem qH(he:PE X e te):PS X (.Return (some e) pos) (adN te):=by
 intro af s σ H D I h;exact wpAny_Return_some (aM (he af s σ H _ I h) λv s1 ⟨x,H1,I1,r1,q1⟩=>⟨x,σ,H1,I1,r1,q1⟩)
def Qx(c:TT)(t u:TS):TS:=λD σ H=>c σ H λb H1=>if b=true then t D σ H1 else u D σ H1
theorem yY{tc:TT}(hc:PT X c tc)(ha:gC X a t)(hb:gC X b u):PS X (.If c a b pos) (Qx tc t u):=by
 intro af s σ H D I h;refine wpAny_If (aM (hc af s σ H _ I h) λd s1 ⟨H1,I1,q1⟩=>?_);cases d with
 |true=>exact ha af s1 σ H1 D I1 q1
 |false=>exact hb af s1 σ H1 D I1 q1
def Rg:TS:=λ_ _ _=>False
theorem MY:PS X st Rg:=λ_ _ _ _ _ _ h=>h.elim
end
abbrev TG:=V->St->Hp->(St->Hp->Prop)->Prop
abbrev rm:=List V->St->Hp->(St->Hp->Prop)->Prop
def PG(X:Cx)(target:Expr)(t:TG):Prop:=
 ∀(af:List (Addr×Obj)) (s:Shared) (σ:St) (H:Hp) (v:V) (u:Value) (Q:St->Hp->Prop),Inv X af σ H s->RelV v u->t v σ H Q->
  wpAny (model X.prog X.w) X.A (assign target X.env u) (λ_ s'=>∃aB H',Inv X af aB H' s'/\Q aB H') X.xe s
def vI(X:Cx)(ts:List Expr)(t:rm):Prop:=
 ∀(af:List (Addr×Obj)) (s:Shared) (σ:St) (H:Hp) (vs:List V) (us:List Value) (Q:St->Hp->Prop),Inv X af σ H s->aK vs us->t vs σ H Q->
  wpAny (model X.prog X.w) X.A (assignInOrder ((assignEach ts X.env).map (·.2)) us) (λ_ s'=>∃aB H',Inv X af aB H' s'/\Q aB H') X.xe s
abbrev Hy:=V->V->V->Hp->(Hp->Prop)->Prop
def Kc(X:Cx)(t:Hy):Prop:=
 ∀(af:List (Addr×Obj)) (s:Shared) (σ:St) (H:Hp) (o i v:V) (ov iv u:Value) (Q:Hp->Prop),Inv X af σ H s->RelV o ov->RelV i iv->RelV v u->t o i v H Q->
  wpAny (model X.prog X.w) X.A (setItem ov iv u) (λ_ s'=>∃H',Inv X af σ H' s'/\Q H') X.xe s
section
variable{X:Cx}{pos:Pos}
def Az(i:Nat):TG:=λv σ H Q=>Q (σ.set i (some v)) H
theorem Xz(hN:X.N.Nodup)(hi:X.N[i]? = some x)(hx:Loc X.env.scope x)(hf:X.fn x=true\/X.env.scope.names.lookup x=some .local:=by first|exact .inl rfl|exact .inr rfl|assumption):PG X (.Name x pos) (Az i):=by
 intro af s σ H v u Q I r h;exact wpAny_assign_Name (DG I hN hi hx r (λs' I'=>⟨_,H,I',h⟩) hf)
def RD:rm:=λvs σ H Q=>vs=[]/\Q σ H
def Zl(t:TG)(u:rm):rm:=λvs σ H Q=>∃v r,vs=v::r/\t v σ H λaB H'=>u r aB H' Q
theorem Ux:vI X [] RD:=by
 intro af s σ H vs us Q I r h;obtain⟨e,h⟩:=h;subst e;cases r;exact assignInOrder_nil ⟨σ,H,I,h⟩
theorem ac3{u:rm}(h1:PG X e t)(h2:vI X es u)
  (hs:(assignEach (e::es) X.env).map (·.2)=assign e X.env::(assignEach es X.env).map (·.2):=by rfl):vI X (e::es) (Zl t u):=by
 intro af s σ H vs us Q I r h;obtain⟨v,vr,e1,h⟩:=h;subst e1;cases r with
 |cons r rr=>
  rw[hs];refine assignInOrder_cons (aM (h1 af s σ H _ _ _ I r h) λ_ s1 ⟨mU,H1,I1,q1⟩=>?_);exact h2 af s1 mU H1 _ _ Q I1 rr q1
def Tc(K:PySem.W.Frag)(n:Nat)(t:rm):TG:=λv σ H Q=>∃a xs,v=.ref a/\cg K H a xs/\xs.length=n/\t xs σ H Q
theorem Ww{t:rm}(hc:X.calm=true)(h:vI X es t)
  (hn:(assignEach es X.env).length=n:=by rfl) (cN:(assignEach es X.env).findIdx? (·.1)=none:=by rfl):PG X (.Tuple es k pos) (Tc X.K n t):=by
 intro af s σ H v u Q I r hw;obtain⟨a,xs,e1,hq,hl,hw⟩:=hw;subst e1;cases r;obtain⟨ao,rv,ht,hz⟩:=I.tuple hq;refine assign_Tuple_tuple (I.ok.hd hc) ht (by simp[hn,<- hl,rv.length]) cN λh' hx=>?_
 have I1:=I.kept (t':=s.toks) λb o e=>hx b o (abn (aaZ e)) e
 exact h af _ σ H xs _ Q I1 (by simpa using rv) hw
def ab9(to ti:TE)(t:Hy):TG:=λv σ H Q=>to σ H λo H1=>ti σ H1 λi H2=>t o i v H2 λH3=>Q σ H3
theorem WC{t:Hy}(ho:PE X o to)(hi:PE X i ti)(hs:Kc X t)
  (ha:∀v,assign (.Subscript o i pos) X.env v=(do
   let ov <- holding [v] (eval o X.env)
   let iv <- holding [v,ov] (eval i X.env)
   standAt pos
   holding [v,ov,iv] (setItem ov iv v)
   release [v,ov,iv] []):=by intro _;rfl):PG X (.Subscript o i pos) (ab9 to ti t):=by
 intro af s σ H v u Q I r h;rw[ha];refine aan (ad7 (aM (ho af s σ H _ I h) λov s1 ⟨x,H1,I1,r1,q1⟩=>?_));refine aan (ad7 (aM (hi af s1 σ H1 _ I1 q1) λiv s2 ⟨y,H2,I2,r2,q2⟩=>?_));refine aan (wpAny_standAt (aan (ad7 (aM (hs af s2 σ H2 x y v ov iv u _ I2 r1 r2 r q2) λ_ s3 ⟨H3,I3,q3⟩=>?_))));exact wpAny_release ⟨σ,H3,I3,q3⟩
def C0(te:TE)(g:TG):TS:=λD σ H=>te σ H λx H1=>g x σ H1 D.nx
theorem Vi(he:PE X e te)(hg:PG X tg g)(hs:swapsWithSole [tg] e pos.line X.env=pure false:=by rfl)(hw:swappedStores [tg] e X.env=pure none:=by rfl)
  (h1:(assignEach [tg] X.env).map (·.2)=[assign tg X.env]:=by rfl):PS X (.Assign [tg] e pos) (C0 te g):=by
 intro af s σ H D I h;refine wpAny_Assign_stores (aM (he af s σ H _ I h) λv s1 ⟨x,H1,I1,r1,q1⟩=>?_) hs hw;rw[h1];exact aM (hg af s1 σ H1 x v _ I1 r1 q1) λ_ s2 q=>q
theorem wg(hN:X.N.Nodup)(hi:X.N[i]? = some x)(hx:Loc X.env.scope x)(he:PE X e te)(hs:swapsWith e (some (.Name x pos')) pos.line X.env=pure false:=by rfl)(hf:X.fn x=true\/X.env.scope.names.lookup x=some .local:=by first|exact .inl rfl|exact .inr rfl|assumption):
  PS X (.Assign [.Name x pos'] e pos) (C0 te (Az i)):=by
 intro af s σ H D I h;refine wpAny_Assign_Name (aM (he af s σ H _ I h) λv s1 ⟨y,H1,I1,r1,q1⟩=>?_) hs;exact DG I1 hN hi hx r1 (λs2 I2=>⟨_,H1,I2,q1⟩) hf
def Y6(c:TT)(tb:TS):TS:=λD σ H=>∃W:Nat->St->Hp->Prop,(∃m,W m σ H)/\∀m σ H,W m σ H->
 c σ H λb H1=>if b=true then ∃N:St->Hp->Prop,(∀aB H',N aB H'->∃m',m'<m/\W m' aB H')/\tb { D with nx:=N,ct:=N,bk:=D.nx } σ H1 else D.nx σ H1
theorem Qd{tc:TT}(hp:PassesOwn (model X.prog X.w) X.A X.env X.xe)(hc:PT X c tc)(hb:gC X body tb):PS X (.While c body [] pos) (Y6 tc tb):=by
 intro af s σ H D I h;obtain⟨W,⟨m0,w0⟩,turn⟩:=h;refine wpAny_While (codeAny_whileLoop (λn s'=>∃aB H',Inv X af aB H' s'/\W n aB H') ?_ m0 ⟨σ,H,I,w0⟩)
 rintro n s1 ⟨mU,H1,I1,w1⟩
 refine aeK hp (aM (hc af s1 mU H1 _ I1 (turn n mU H1 w1)) λb s2 ⟨H2,I2,q2⟩=>?_);cases b with
 |true=>
  obtain⟨N,hN,q2⟩:=q2;rw[if_pos rfl];refine aeK hp (aM (hb af s2 mU H2 _ I2 q2) λf s3 q3=>?_);cases f with
  |next=>
   obtain⟨cR,H3,I3,n3⟩:=q3;obtain⟨m',hm,w3⟩:=hN cR H3 n3;exact⟨m',hm,cR,H3,I3,w3⟩
  |cont=>
   obtain⟨cR,H3,I3,n3⟩:=q3;obtain⟨m',hm,w3⟩:=hN cR H3 n3;exact⟨m',hm,cR,H3,I3,w3⟩
  |brk=>exact q3
  |ret v=>exact q3
 |false=>
  rw[abf aaN];exact afc ⟨mU,H2,I2,q2⟩
end
structure It where
 go:Nat->Hp->Prop
 xN:Nat->Hp->V->Hp->Prop
 stop:Nat->Hp->Prop
 rg:Bool
def ie(X:Cx)(af:List (Addr×Obj))(H:Hp)(b:Addr):Prop:=
 H b=none/\b≠X.env.locals/\b∉X.fs/\(b∈X.ex\/X.cI.heap.objs.size<=b)/\(∀x c,X.env.cells.lookup x=some c->c≠b)/\∀p∈X.pn++af,p.1≠b
theorem Inv.o_(I:Inv X af σ H s)(hb:s.heap.objs.size<=b)(hn:H' b=none):ie X af H' b:=by
 refine⟨hn,aes (abP I.lt hb),I.Pg hb,.inr (aer I.sz hb),λx c e z=>?_,λp hp z=>?_⟩
 .obtain⟨v,q⟩:=I.cell x c e;exact absurd (abP q.lt (by rw[z];exact hb)) (adw _)
 .exact absurd (abP (aaZ (I.pin p hp).1) (by rw[z];exact hb)) (adw _)
structure Turn(P:Program)(w:World)(K:PySem.W.Frag)(tg:Expr)(J:It)(fp:List Addr)(it:Addr)(tn:Nat->Heap->Prop):Prop where
 mem:it∈fp
 obj:∀i h,tn i h->∀b∈fp,∃o,h.get? b=some o/\∀v,o.data≠.cell v
 keep:∀i h h',tn i h->(∀b∈fp,∀o,h.get? b=some o->h'.get? b=some o)->tn i h'
 item:∀(X:Cx),X.prog=P->X.w=w->X.K=K->(X.calm=true\/J.rg=true)->∀(i:Nat) (af:List (Addr×Obj)) (s:Shared) (σ:St) (H:Hp) (E:Value->Shared->Prop),Inv X af σ H s->(∀b∈fp,ie X af H b)->tn i s.heap->J.go i H->
  wpAny (model P w) X.A (pyNext (.ref it)) (λr s1=>∃u,r=some u/\
   wpAny (model P w) X.A (letOwnedTupleGo tg (.ref it) u) (λ_ s2=>∃x H',Inv X af σ H' s2/\RelV x u/\J.xN i H x H'/\tn (i+1) s2.heap/\∀b∈fp,H' b=none) E s1) E s
 done:∀(X:Cx),X.prog=P->X.w=w->X.K=K->(X.calm=true\/J.rg=true)->∀(i:Nat) (af:List (Addr×Obj)) (s:Shared) (σ:St) (H:Hp) (E:Value->Shared->Prop),Inv X af σ H s->(∀b∈fp,ie X af H b)->tn i s.heap->J.stop i H->
  wpAny (model P w) X.A (pyNext (.ref it)) (λr s1=>r=none/\Inv X af σ H s1) E s
 self:∀(A:Around) (i:Nat) (s:Shared) (Q:Value->Shared->Prop) (E:Value->Shared->Prop),tn i s.heap->Q (.ref it) s->wpAny (model P w) A (pyIter (.ref it)) Q E s
abbrev TI:=St->Hp->(It->Hp->Prop)->Prop
def Oz(X:Cx)(af:List (Addr×Obj))(σ:St)(tg:Expr)(R:It->Hp->Prop)(As:Value)(s2:Shared):Prop:=
 ∃(it:Addr) (fp:List Addr) (tn:Nat->Heap->Prop) (J:It) (H':Hp),As=.ref it/\Inv X af σ H' s2/\Turn X.prog X.w X.K tg J fp it tn/\tn 0 s2.heap/\(∀b∈fp,ie X af H' b)/\R J H'
def PI(X:Cx)(tg iter:Expr)(wi:TI):Prop:=
 ∀(af:List (Addr×Obj)) (s:Shared) (σ:St) (H:Hp) (R:It->Hp->Prop),Inv X af σ H s->wi σ H R->
  wpAny (model X.prog X.w) X.A (eval iter X.env) (λv s1=>wpAny (model X.prog X.w) X.A (pyIter v) (Oz X af σ tg R) X.xe s1) X.xe s
theorem Hi{n:String}{Q:Unit->Shared->Prop}(ho:s.heap.get? it=some o)(hc:o.cls=.type n)(hd:o.data=.fields vs)
    (hn:["enumerate","zip","dict_itemiterator","dict_reverseitemiterator","odict_iterator","itertools.zip_longest","itertools.pairwise"].contains n=false) (hQ:Q () s):wpAny M A (letOwnedTupleGo tg (.ref it) u) Q E s:=by
  unfold letOwnedTupleGo;cases tg<;>first
    |exact abg hQ
    | (cases u <;> first
        |exact abg hQ
        | (refine aan (wpAny_load ho ?_)
           rw[hc,hd];show wpAny M A (if(["enumerate","zip","dict_itemiterator","dict_reverseitemiterator","odict_iterator","itertools.zip_longest","itertools.pairwise"].contains n&&vs[0]?==some (rawInt _))=true then _ else _) Q E s;rw[abf (by intro h;rw[hn,Bool.false_and] at h;cases h)];exact abg hQ))
noncomputable def A6(K:PySem.W.Frag)(a:Addr):It:=
 ⟨λi H=>∃xs x,bS K H a xs/\xs[i]? = some x,λi H x H'=>H'=H/\∀xs,bS K H a xs->xs[i]? = some x,λi H=>∃xs,bS K H a xs/\xs.length<=i,false⟩
noncomputable def Ez(K:PySem.W.Frag)(a:Addr):It:=
 ⟨λi H=>∃xs x,cg K H a xs/\xs[i]? = some x,λi H x H'=>H'=H/\∀xs,cg K H a xs->xs[i]? = some x,λi H=>∃xs,cg K H a xs/\xs.length<=i,false⟩
def ya(lo:Int)(n:Nat):It:=⟨λi _=>i<n,λi H x H'=>H'=H/\x=.int (lo+i),λi _=>n<=i,true⟩
theorem acS{K:PySem.W.Frag}(a it:Addr):Turn P w K tg (A6 K a) [it] it (λi h=>h.IsListIter it a i) where
 mem:=by simp
 obj:=λi h st b hb=>by
  have e:b=it:=by simpa using hb
  subst e;obtain⟨o,e,c,d⟩:=st;exact⟨o,e,λv z=>by rw[d] at z;cases z⟩
 keep:=λi h h' st k=>st.at λo e=>k it (by simp) o e
 item:=by
  intro X hP hw hK hc i af s σ H E I hf st hg;subst hP hw hK;obtain⟨xs,x,hq,hx⟩:=hg;obtain⟨ao,rv,p,hz⟩:=I.list hq;obtain⟨u,hu,ru⟩:=rv.get hx;obtain⟨f0,f1,f2,f3,f4,f5⟩:=hf it (by simp);refine wpAny_pyNext_list_item st p.isList (by simpa using hu) λh' eF sb=>?_
  have I1:Inv X af σ H { s with heap:=h' }:=I.turned (λb o hb e=>(sb.2 b hb).trans e) f0 f1 f3 f4 f5;obtain⟨o,e,c,d⟩:=id eF;exact⟨u,rfl,Hi e c d (by decide) ⟨x,H,I1,ru,⟨rfl,λys hy=>by rw[I.Dr hy hq];exact hx⟩,eF,λb hb=>(hf b hb).1⟩⟩
 done:=by
  intro X hP hw hK hc i af s σ H E I hf st hg;subst hP hw hK;obtain⟨xs,hq,hx⟩:=hg;obtain⟨ao,rv,p,hz⟩:=I.list hq;obtain⟨f0,f1,f2,f3,f4,f5⟩:=hf it (by simp);have hl:=rv.length;exact wpAny_pyNext_list_end (I.ok.hd (hc.resolve_right λz=>aaN z)) st p.isList (by simp;omega) λh' eb=>⟨rfl,I.turned (λb o hb e=>eb b o hb e) f0 f1 f3 f4 f5⟩
 self:=λ_ _ _ _ _ st h=>wpAny_pyIter_listiter st h
theorem Yv{K:PySem.W.Frag}(a it:Addr):Turn P w K tg (Ez K a) [it] it (λi h=>h.IsTupleIter it a i) where
 mem:=by simp
 obj:=λi h st b hb=>by
  have e:b=it:=by simpa using hb
  subst e;obtain⟨o,e,c,d⟩:=st;exact⟨o,e,λv z=>by rw[d] at z;cases z⟩
 keep:=λi h h' st k=>st.at λo e=>k it (by simp) o e
 item:=by
  intro X hP hw hK hc i af s σ H E I hf st hg;subst hP hw hK;obtain⟨xs,x,hq,hx⟩:=hg;obtain⟨ao,rv,p,hz⟩:=I.tuple hq;obtain⟨u,hu,ru⟩:=rv.get hx;obtain⟨f0,f1,f2,f3,f4,f5⟩:=hf it (by simp);refine wpAny_pyNext_tuple_item st (show s.heap.IsTuple a ao.toArray from p) (by simpa using hu) λh' eF sb=>?_
  have I1:Inv X af σ H { s with heap:=h' }:=I.turned (λb o hb e=>(sb.2 b hb).trans e) f0 f1 f3 f4 f5;obtain⟨o,e,c,d⟩:=id eF;exact⟨u,rfl,Hi e c d (by decide) ⟨x,H,I1,ru,⟨rfl,λys hy=>by rw[I.Xr hy hq];exact hx⟩,eF,λb hb=>(hf b hb).1⟩⟩
 done:=by
  intro X hP hw hK hc i af s σ H E I hf st hg;subst hP hw hK;obtain⟨xs,hq,hx⟩:=hg;obtain⟨ao,rv,p,hz⟩:=I.tuple hq;obtain⟨f0,f1,f2,f3,f4,f5⟩:=hf it (by simp);have hl:=rv.length;exact wpAny_pyNext_tuple_end (I.ok.hd (hc.resolve_right λz=>aaN z)) st (show s.heap.IsTuple a ao.toArray from p) (by simp;omega) λh' eb=>⟨rfl,I.turned (λb o hb e=>eb b o hb e) f0 f1 f3 f4 f5⟩
 self:=λ_ _ _ _ _ st h=>wpAny_pyIter_tupleiter st h
theorem Wv{K:PySem.W.Frag}(it:Addr)(lo:Int)(n:Nat):Turn P w K tg (ya lo n) [it] it (λi h=>IsRangeIter h it (lo+(i:Nat)*1) ((n:Int)-(i:Nat)) 1) where
 mem:=by simp
 obj:=λi h st b hb=>by
  have e:b=it:=by simpa using hb
  subst e;exact⟨_,st,λv z=>by
   have z':Data.fields _=Data.cell v:=z;cases z'⟩
 keep:=λi h h' st k=>k it (by simp) _ st
 item:=by
  intro X hP hw hK hc i af s σ H E I hf st hg;subst hP hw hK;obtain⟨f0,f1,f2,f3,f4,f5⟩:=hf it (by simp);refine wpAny_pyNext_range_item st (by have:i<n:=hg;omega) λh' eF sb=>?_
  have I1:Inv X af σ H { s with heap:=h',toks:=s.toks+1 }:=I.turned (λb o hb e=>(sb.2 b hb).trans e) f0 f1 f3 f4 f5;have e1:lo+((i+1:Nat):Int)*1=lo+(i:Int)*1+1:=by omega
  have e2:(n:Int)-((i+1:Nat):Int)=(n:Int)-(i:Int)-1:=by omega
  refine⟨_,rfl,Hi eF rfl rfl (by decide) ⟨.int (lo+i),H,I1,⟨s.toks,?_⟩,⟨rfl,rfl⟩,by rw[e1,e2];exact eF,λb hb=>(hf b hb).1⟩⟩;rw[Int.mul_one]
 done:=by
  intro X hP hw hK hc i af s σ H E I hf st hg;subst hP hw hK;obtain⟨f0,f1,f2,f3,f4,f5⟩:=hf it (by simp);rcases I.hq.hd with h0|⟨a',ob,u,vs,h0,h1,h2,h3⟩
  .exact wpAny_pyNext_range_end h0 st (by have:n<=i:=hg;omega) λh' eb=>⟨rfl,I.turned (λb o hb e=>eb b o hb e) f0 f1 f3 f4 f5⟩
  .exact Uq h0 (I.aD a' _ h1).1 h2 h3 st (by have:n<=i:=hg;omega) λh' eb=>⟨rfl,I.turned (λb o hb e=>eb b o hb e) f0 f1 f3 f4 f5⟩
 self:=λ_ _ _ _ _ st h=>wpAny_pyIter_rangeiter st h
section
variable{X:Cx}{tg:Expr}
theorem IU{R:It->Hp->Prop}{lo hi:Int}{t u v:Tok}{tk:Nat}(I:Inv X af σ H s)(h1:-(2 ^ 62)<=lo)(h2:lo<2 ^ 62)(h3:-(2 ^ 62)<=hi)(h4:hi<2 ^ 62)
  (q:R (ya lo (hi-lo).toNat) H):wpAny (model X.prog X.w) X.A (pyIter (.ref s.heap.objs.size)) (Oz X af σ tg R) E { s with heap:=s.heap.push { cls:=.type "range",data:=.fields #[.int lo t,.int hi u,.int 1 v] },toks:=tk }:=by
 refine wpAny_pyIter_range (IsRange.new ..) (small_one h1 h2 h3 h4) ?_;have I1:Inv X af σ H { s with heap:=s.heap.push { cls:=.type "range",data:=.fields #[.int lo t,.int hi u,.int 1 v] },toks:=tk }:=I.kept λb o e=>aab _ e
 refine⟨(s.heap.push { cls:=.type "range",data:=.fields #[.int lo t,.int hi u,.int 1 v] }).objs.size,[(s.heap.push { cls:=.type "range",data:=.fields #[.int lo t,.int hi u,.int 1 v] }).objs.size],_,_,H,rfl,
  I1.kept λb o e=>aab _ e,Wv _ lo (hi-lo).toNat,?_,λb hb=>?_,q⟩
 .have e1:lo+((0:Nat):Int)*1=lo:=by simp
  have e2:(((hi-lo).toNat:Nat):Int)-((0:Nat):Int)=Builtin.Range.rangeSize lo hi 1:=by rw[rangeSize_one];split<;>omega
  rw[e1,e2];exact aa6 _ rfl
 .have e:b=(s.heap.push { cls:=.type "range",data:=.fields #[.int lo t,.int hi u,.int 1 v] }).objs.size:=by simpa using hb
  subst e;exact I1.o_ (abd _) (I1.aD.fresh (abd _))
def YA(ta:TA):TI:=λσ H R=>ta σ H λvs H1=>∃j:Int,vs=[.int j]/\-(2 ^ 62)<=j/\j<2 ^ 62/\R (ya 0 j.toNat) H1
def UK(ta:TA):TI:=λσ H R=>ta σ H λvs H1=>∃i j:Int,vs=[.int i,.int j]/\(-(2 ^ 62)<=i/\i<2 ^ 62/\-(2 ^ 62)<=j/\j<2 ^ 62)/\R (ya i (j-i).toNat) H1
theorem SQ{ta:TA}(hg:Gl X "range")(hm:X.mg "range"=none)(ha:PA X [a] ta)(hs:starEach [a] X.env=[(false,eval a X.env)]:=by rfl):PI X tg (.Call (.Name "range" p) [a] [] pos) (YA ta):=by
 intro af s σ H R I h;refine Call_ (lJ I hg hm boot_range (adm (aM (ha pos af s σ H _ I h) λus s1 ⟨vs,H1,I1,r1,q1⟩=>?_) hs rfl));obtain⟨j,e,q1,q2,q⟩:=q1;subst e;cases r1 with
 |cons r rr=>
  cases rr;obtain⟨t,rfl⟩:=r;exact call_range_1 (IU I1 (by omega) (by omega) q1 q2 (by simpa using q))
theorem YL{ta:TA}(hg:Gl X "range")(hm:X.mg "range"=none)(ha:PA X [a,b] ta)(hs:starEach [a,b] X.env=[(false,eval a X.env),(false,eval b X.env)]:=by rfl)(bQ:starEach [b] X.env=[(false,eval b X.env)]:=by rfl):
  PI X tg (.Call (.Name "range" p) [a,b] [] pos) (UK ta):=by
 intro af s σ H R I h;refine Call_ (lJ I hg hm boot_range (adm (aM (ha pos af s σ H _ I h) λus s1 ⟨vs,H1,I1,r1,q1⟩=>?_) (by rw[hs,bQ]) (by rw[bQ];rfl)));obtain⟨i,j,e,⟨q1,q2,q3,q4⟩,q⟩:=q1;subst e;cases r1 with
 |cons r rr=>
  cases rr with
  |cons r' rr=>
   cases rr;obtain⟨t,rfl⟩:=r;obtain⟨t',rfl⟩:=r';exact call_range_2 (IU I1 q1 q2 q3 q4 q)
def Rm(wi:TI)(g:TG)(tb:TS):TS:=λD σ H=>wi σ H λJ H1=>∃W:Nat->Nat->St->Hp->Prop,(∃m,W 0 m σ H1)/\∀i m σ H,W i m σ H->
 (J.stop i H/\D.nx σ H)\/(J.go i H/\∃N:St->Hp->Prop,(∀aB H',N aB H'->∃m',m'<m/\W (i+1) m' aB H')/\∀x H',J.xN i H x H'->g x σ H' λgH H2=>tb { D with nx:=N,ct:=N,bk:=D.nx } gH H2)
noncomputable def vX(fp:List Addr)(h:Heap):List (Addr×Obj):=fp.filterMap λb=>(h.get? b).map λo=>(b,o)
theorem zp(hb:b∈fp)(e:h.get? b=some o):(b,o)∈vX fp h:=aeG.mpr ⟨b,hb,by rw[e];rfl⟩
theorem Vj{p:Addr×Obj}(hp:p∈vX fp h):p.1∈fp/\h.get? p.1=some p.2:=by
 obtain⟨b,hb,e⟩:=aeG.mp hp;exists q,h.get? b,o,e;have e':=abi e;subst e';exact⟨hb,q⟩
theorem Inv.pinned(I:Inv X af σ H s)(hf:∀b∈fp,ie X af H b)(ho:∀b∈fp,∃o,s.heap.get? b=some o/\∀v,o.data≠.cell v):Inv X (af++vX fp s.heap) σ H s:=
 I.qM λp hp=>(abb.mp hp).elim (λz=>I.pin p (aaE _ z)) λz=>by
  obtain⟨hb,e⟩:=Vj z;obtain⟨f0,f1,f2,_⟩:=hf p.1 hb;obtain⟨o,e',d⟩:=ho p.1 hb;rw[e] at e';cases e';exact⟨e,f0,f1,f2,d⟩
theorem Inv.yf(I:Inv X (af++pl) σ H s):Inv X af σ H s:=I.qM λp hp=>I.pin p (aaE _ (aaR _ hp))
theorem aay(hp:PassesOwn (model X.prog X.w) X.A X.env X.xe)(hc:X.calm=true)(hi:PI X tg iter wi)(hg:PG X tg g)(hb:gC X body tb)
  (hs:∀x,foldedSetIterable iter X.env x=pure x:=by intro _;rfl):PS X (.For tg iter body [] pos) (Rm wi g tb):=by
 intro af s σ H D I h;refine wpAny_For (aM (hi af s σ H _ I h) λv s1 h1=>aM h1 λAs s2 h2=>?_) hs;obtain⟨it,fp,tn,J,H2,e,I2,T,qg,f2,W,⟨m0,w0⟩,turn⟩:=h2;subst e;have qk:∀{H':Hp},(∀b∈fp,H' b=none)->∀b∈fp,ie X af H' b:=λhn b hb=>⟨hn b hb,(f2 b hb).2⟩
 refine codeAny_forLoop_any (λn s'=>∃i aB H',Inv X af aB H' s'/\tn i s'.heap/\(∀b∈fp,H' b=none)/\W i n aB H') ?_ m0 ⟨0,σ,H2,I2,qg,λb hb=>(f2 b hb).1,w0⟩
 rintro n s3 ⟨i,cR,H3,I3,HZ,M1,w3⟩
 rcases turn i n cR H3 w3 with⟨stop,qn⟩|⟨go,N,hN,step⟩
 .refine aeK hp (aM (T.done X rfl rfl rfl (.inl hc) i af s3 cR H3 X.xe I3 (qk M1) HZ stop) λr s4 ⟨hr,I4⟩=>?_);subst hr;exact afc ⟨cR,H3,I4,qn⟩
 .refine aeK hp (aM (T.item X rfl rfl rfl (.inl hc) i af s3 cR H3 X.xe I3 (qk M1) HZ go) λr s4 ⟨u,hr,h4⟩=>?_);subst hr;refine aeK hp (aM h4 λ_ s5 ⟨x,H5,I5,r5,y5,sO,kY⟩=>?_);have XY:=I5.pinned (qk kY) (T.obj _ _ sO);refine aeK hp (aM (hg _ s5 cR H5 x u _ XY r5 (step x H5 y5)) λ_ s6 ⟨iB,H6,I6,q6⟩=>?_);refine aeK hp (aM (hb _ s6 iB H6 _ I6 q6) λf s7 q7=>?_);have again:∀{lO:St}{H7:Hp},Inv X (af++vX fp s5.heap) lO H7 s7->N lO H7->∃m,m<n/\∃i aB H',Inv X af aB H' s7/\tn i s7.heap/\(∀b∈fp,H' b=none)/\W i m aB H':=λ{lO H7} I7 n7=>by
   obtain⟨m',hm,w7⟩:=hN lO H7 n7;refine⟨m',hm,i+1,lO,H7,I7.yf,T.keep _ _ _ sO λb hb o e=>(I7.pin (b,o) (aaE _ (aaE _ (zp hb e)))).1,λb hb=>?_,w7⟩;obtain⟨o,e,d⟩:=T.obj _ _ sO b hb;exact(I7.pin (b,o) (aaE _ (aaE _ (zp hb e)))).2.1
  cases f with
  |next=>obtain⟨lO,H7,I7,n7⟩:=q7;exact again I7 n7
  |cont=>obtain⟨lO,H7,I7,n7⟩:=q7;exact again I7 n7
  |brk=>obtain⟨lO,H7,I7,q7⟩:=q7;exact⟨lO,H7,I7.yf,q7⟩
  |ret v=>obtain⟨x7,lO,H7,I7,r7,q7⟩:=q7;exact⟨x7,lO,H7,I7.yf,r7,q7⟩
end
abbrev R2:=V->V->Hp->VK->Prop
def cY(X:Cx)(f:Value->Value->Sem Value)(r:R2):Prop:=
 ∀(af:List (Addr×Obj)) (s:Shared) (σ:St) (H:Hp) (x y:V) (v u:Value) (Q:VK),Inv X af σ H s->RelV x v->RelV y u->r x y H Q->
  wpAny (model X.prog X.w) X.A (f v u) (EP X af σ Q) X.xe s
def Fo(X:Cx)(f:Value->Sem Value)(r:V->Hp->VK->Prop):Prop:=
 ∀(af:List (Addr×Obj)) (s:Shared) (σ:St) (H:Hp) (x:V) (v:Value) (Q:VK),Inv X af σ H s->RelV x v->r x H Q->
  wpAny (model X.prog X.w) X.A (f v) (EP X af σ Q) X.xe s
def eX(X:Cx)(f:Value)(r:List V->Hp->VK->Prop):Prop:=
 ∀(af:List (Addr×Obj)) (s:Shared) (σ:St) (H:Hp) (xs:List V) (us:List Value) (Q:VK),Inv X af σ H s->aK xs us->r xs H Q->
  wpAny (model X.prog X.w) X.A (call f us) (EP X af σ Q) X.xe s
def abI(X:Cx)(r:V->Hp->(Bool->Hp->Prop)->Prop):Prop:=
 ∀(af:List (Addr×Obj)) (s:Shared) (σ:St) (H:Hp) (x:V) (v:Value) (Q:Bool->Hp->Prop),Inv X af σ H s->RelV x v->r x H Q->
  wpAny (model X.prog X.w) X.A (truthy v) (TP X af σ Q) X.xe s
def sA(r:R2)(ta tb:TE):TE:=λσ H Q=>ta σ H λx H1=>tb σ H1 λy H2=>r x y H2 Q
def Zw(r:V->Hp->VK->Prop)(ta:TE):TE:=λσ H Q=>ta σ H λx H1=>r x H1 Q
def rI(C:Int->Int->Prop)(g:Int->Int->V):R2:=λx y H Q=>∃i j,x=.int i/\y=.int j/\C i j/\Q (g i j) H
def mC(g:Int->Int->V):R2:=λx y H Q=>∃i j,x=.int i/\y=.int j/\Q (g i j) H
def rU(g:Int->V):V->Hp->VK->Prop:=λx H Q=>∃i,x=.int i/\Q (g i) H
section
variable{X:Cx}{a b c:Expr}{ta tb tc:TE}{pos:Pos}
theorem Fl(ha:PE X a ta)(hb:PE X b tb){R:V->V->Hp->Prop}(I:Inv X af σ H s)
  (h:ta σ H λx H1=>tb σ H1 λy H2=>R x y H2){f:Value->Value->Sem Value}
  (hf:∀v u s2 x y H2,Inv X af σ H2 s2->RelV x v->RelV y u->R x y H2->wpAny (model X.prog X.w) X.A (f v u) Q X.xe s2) :
  wpAny (model X.prog X.w) X.A (eval a X.env) (λv bE=>wpAny (model X.prog X.w) X.A (eval b X.env) (λu pV=>wpAny (model X.prog X.w) X.A (f v u) Q X.xe pV) X.xe bE) X.xe s:=by
 refine aM (ha af s σ H _ I h) λv s1 ⟨x,H1,I1,r1,q1⟩=>?_
 refine aM (hb af s1 σ H1 _ I1 q1) λu s2 ⟨y,H2,I2,r2,q2⟩=>?_
 exact hf v u s2 x y H2 I2 r1 r2 q2
theorem wA{op:Operator}{r:R2}(ho:cY X (binaryOp op) r)(ha:PE X a ta)(hb:PE X b tb):PE X (.BinOp a op b pos) (sA r ta tb):=by
 intro af s σ H Q I h;exact wpAny_BinOp (Fl ha hb I h λv u s2 x y H2 I2 rx ry q=>ho af s2 σ H2 x y v u Q I2 rx ry q)
theorem Zb{op:UnaryOp}{r:V->Hp->VK->Prop}(ho:Fo X (unaryOp op) r)(ha:PE X a ta):PE X (.UnaryOp op a pos) (Zw r ta):=by
 intro af s σ H Q I h;exact UnaryOp_ (aM (ha af s σ H _ I h) λv s1 ⟨x,H1,I1,r1,q1⟩=>ho af s1 σ H1 x v Q I1 r1 q1)
theorem MW{f:Value->Value->Sem Value}{C:Int->Int->Prop}{g:Int->Int->Int}
  (rule:∀(i j:Int) (t u:Tok) (s:Shared) (Q:Value->Shared->Prop) (E:Value->Shared->Prop),C i j->Q (.int (g i j) s.toks) { s with toks:=s.toks+1 }->wpAny (model X.prog X.w) X.A (f (.int i t) (.int j u)) Q E s) :
  cY X f (rI C λi j=>.int (g i j)):=by
 intro af s σ H x y v u Q I rx ry h;obtain⟨i,j,rfl,rfl,hc,q⟩:=h;obtain⟨t,rfl⟩:=rx;obtain⟨t',rfl⟩:=ry;exact rule i j t t' s _ _ hc ⟨.int (g i j),H,I.tok _,⟨_,rfl⟩,q⟩
theorem Lz{f:Value->Value->Sem Value}{g:Int->Int->Int}
  (rule:∀(i j:Int) (t u:Tok) (s:Shared) (Q:Value->Shared->Prop) (E:Value->Shared->Prop),Q (.int (g i j) s.toks) { s with toks:=s.toks+1 }->wpAny (model X.prog X.w) X.A (f (.int i t) (.int j u)) Q E s) :
  cY X f (mC λi j=>.int (g i j)):=by
 intro af s σ H x y v u Q I rx ry h;obtain⟨i,j,rfl,rfl,q⟩:=h;obtain⟨t,rfl⟩:=rx;obtain⟨t',rfl⟩:=ry;exact rule i j t t' s _ _ ⟨.int (g i j),H,I.tok _,⟨_,rfl⟩,q⟩
theorem Ak{f:Value->Value->Sem Value}{g:Int->Int->Bool}
  (rule:∀(i j:Int) (t u:Tok) (s:Shared) (Q:Value->Shared->Prop) (E:Value->Shared->Prop),Q (.bool (g i j)) s->wpAny (model X.prog X.w) X.A (f (.int i t) (.int j u)) Q E s) :
  cY X f (mC λi j=>.bl (g i j)):=by
 intro af s σ H x y v u Q I rx ry h;obtain⟨i,j,rfl,rfl,q⟩:=h;obtain⟨t,rfl⟩:=rx;obtain⟨t',rfl⟩:=ry;exact rule i j t t' s _ _ ⟨.bl (g i j),H,I,rfl,q⟩
def Qt(i j:Int):Prop:=0<j/\j<1073741824
theorem K0:cY X (binaryOp .Add) (mC λi j=>.int (i+j)):=Lz λ_ _ _ _ _ _ _ q=>add_int q
theorem aao:cY X (binaryOp .Sub) (mC λi j=>.int (i-j)):=Lz λ_ _ _ _ _ _ _ q=>sub_int q
theorem ac9:cY X (binaryOp .FloorDiv) (rI Qt λi j=>.int (i / j)):=MW λi j _ _ _ _ _ hc q=>by
 have h1:=hc.1;have h2:=hc.2;exact floordiv_int (by omega) (by rw[Int.fdiv_eq_ediv_of_nonneg i (by omega)];exact q) (.inl (PyProof.noPylong_small (by omega)))
theorem abS:cY X (binaryOp .Mod) (rI (λ_ j=>0<j) λi j=>.int (i % j)):=MW λi j _ _ _ _ _ hc q=>by
 have h1:=hc;exact mod_int' (by omega) (by rw[Int.fmod_eq_emod_of_nonneg i (by omega)];exact q)
theorem RX{f:Value->Sem Value}{g:Int->Int}
  (rule:∀(i:Int) (t:Tok) (s:Shared) (Q:Value->Shared->Prop) (E:Value->Shared->Prop),Q (.int (g i) s.toks) { s with toks:=s.toks+1 }->wpAny (model X.prog X.w) X.A (f (.int i t)) Q E s) :
  Fo X f (rU λi=>.int (g i)):=by
 intro af s σ H x v Q I rx h;obtain⟨i,rfl,q⟩:=h;obtain⟨t,rfl⟩:=rx;exact rule i t s _ _ ⟨.int (g i),H,I.tok _,⟨_,rfl⟩,q⟩
theorem adt:Fo X (unaryOp .USub) (rU λi=>.int (-i)):=RX λ_ _ _ _ _ q=>neg_int q
end
noncomputable def PY:V->V->Bool
 |.aC,.aC=>true|.aC,.int _=>true|.int _,.aC=>true|.aC,.bl _=>true|.bl _,.aC=>true|.aC,.str _=>true|.str _,.aC=>true
 |.int _,.int _=>true|.bl _,.bl _=>true|.str _,.str _=>true|.jG _,.jG _=>true
 |.int _,.str _=>true|.str _,.int _=>true|.bl _,.str _=>true|.str _,.bl _=>true
 |_,_=>false
def Pc:R2:=λx y H Q=>PY x y=true/\Q (.bl (decide (x=y))) H
def KR:R2:=λx y H Q=>PY x y=true/\Q (.bl (!decide (x=y))) H
theorem A9:decide (V.int i=V.int j)=(i==j):=by
 rw[aeL];simp
theorem zh:decide (V.bl i=V.bl j)=(i==j):=by
 rw[aeL];simp
theorem A1:decide (V.str i=V.str j)=(i==j):=by
 rw[aeL];simp
theorem O9{i j:Array UInt8}:decide (V.jG i=V.jG j)=(i.toList==j.toList):=by
 rw[aeL];cases i;cases j;simp
section
variable{X:Cx}{a b c:Expr}{ta tb tc:TE}{pos:Pos}
theorem dD(I:Inv X af σ H s)(q:Q (.bl k) H)(e:k=k'):EP X af σ Q (.bool k') s:=by
 subst e;exact⟨.bl k,H,I,rfl,q⟩
theorem Oh:cY X (compareOp .Eq) Pc:=by
 intro af s σ H x y v u Q I rx ry h;obtain⟨hs,q⟩:=h;cases x with
 |aC=>
  cases rx;cases y with
  |aC=>cases ry;exact PySem.EqNone.eq_none_none (dD I q (by simp))
  |bl j=>cases ry;exact PySem.EqNone.eq_none_bool (dD I q (by simp))
  |int j=>obtain⟨t',rfl⟩:=ry;exact PySem.EqNone.eq_none_int (dD I q (by simp))
  |str j=>obtain⟨t',rfl⟩:=ry;exact PySem.EqNone.eq_none_str (dD I q (by simp))
  |_=>exact absurd (show false=true from hs) aaN
 |bl i=>
  cases rx;cases y with
  |aC=>cases ry;exact PySem.EqNone.eq_bool_none (dD I q (by simp))
  |bl j=>cases ry;exact eq_bool (dD I q zh)
  |str j=>obtain⟨t',rfl⟩:=ry;exact PySem.EqMixed.eq_bool_str (dD I q (by simp))
  |_=>exact absurd (show false=true from hs) aaN
 |int i=>
  obtain⟨t,rfl⟩:=rx;cases y with
  |aC=>cases ry;exact PySem.EqNone.eq_int_none (dD I q (by simp))
  |int j=>obtain⟨t',rfl⟩:=ry;exact eq_int (dD I q A9)
  |str j=>obtain⟨t',rfl⟩:=ry;exact PySem.EqMixed.eq_int_str (dD I q (by simp))
  |_=>exact absurd (show false=true from hs) aaN
 |str i=>
  obtain⟨t,rfl⟩:=rx;cases y with
  |aC=>cases ry;exact PySem.EqNone.eq_str_none (dD I q (by simp))
  |bl j=>cases ry;exact PySem.EqMixed.eq_str_bool (dD I q (by simp))
  |int j=>obtain⟨t',rfl⟩:=ry;exact PySem.EqMixed.eq_str_int (dD I q (by simp))
  |str j=>obtain⟨t',rfl⟩:=ry;exact eq_str (dD I q A1)
  |_=>exact absurd (show false=true from hs) aaN
 |jG i=>
  obtain⟨t,rfl⟩:=rx;cases y with
  |jG j=>obtain⟨t',rfl⟩:=ry;exact PySem.W.eq_bytes (dD I q O9)
  |_=>exact absurd (show false=true from hs) aaN
 |_=>cases y<;>exact absurd (show false=true from hs) aaN
theorem Kl:cY X (compareOp .NotEq) KR:=by
 intro af s σ H x y v u Q I rx ry h;obtain⟨hs,q⟩:=h;cases x with
 |aC=>
  cases rx;cases y with
  |aC=>cases ry;exact PySem.EqNone.ne_none_none (dD I q (by simp))
  |bl j=>cases ry;exact PySem.EqNone.ne_none_bool (dD I q (by simp))
  |int j=>obtain⟨t',rfl⟩:=ry;exact PySem.EqNone.ne_none_int (dD I q (by simp))
  |str j=>obtain⟨t',rfl⟩:=ry;exact PySem.EqNone.ne_none_str (dD I q (by simp))
  |_=>exact absurd (show false=true from hs) aaN
 |bl i=>
  cases rx;cases y with
  |aC=>cases ry;exact PySem.EqNone.ne_bool_none (dD I q (by simp))
  |bl j=>cases ry;exact ne_bool (dD I q (congrArg not zh))
  |str j=>obtain⟨t',rfl⟩:=ry;exact PySem.EqMixed.ne_bool_str (dD I q (by simp))
  |_=>exact absurd (show false=true from hs) aaN
 |int i=>
  obtain⟨t,rfl⟩:=rx;cases y with
  |aC=>cases ry;exact PySem.EqNone.ne_int_none (dD I q (by simp))
  |int j=>obtain⟨t',rfl⟩:=ry;exact ne_int (dD I q (congrArg not A9))
  |str j=>obtain⟨t',rfl⟩:=ry;exact PySem.EqMixed.ne_int_str (dD I q (by simp))
  |_=>exact absurd (show false=true from hs) aaN
 |str i=>
  obtain⟨t,rfl⟩:=rx;cases y with
  |aC=>cases ry;exact PySem.EqNone.ne_str_none (dD I q (by simp))
  |bl j=>cases ry;exact PySem.EqMixed.ne_str_bool (dD I q (by simp))
  |int j=>obtain⟨t',rfl⟩:=ry;exact PySem.EqMixed.ne_str_int (dD I q (by simp))
  |str j=>obtain⟨t',rfl⟩:=ry;exact ne_str (dD I q (congrArg not A1))
  |_=>exact absurd (show false=true from hs) aaN
 |jG i=>
  obtain⟨t,rfl⟩:=rx;cases y with
  |jG j=>obtain⟨t',rfl⟩:=ry;exact PySem.W.ne_bytes (dD I q (congrArg not O9))
  |_=>exact absurd (show false=true from hs) aaN
 |_=>cases y<;>exact absurd (show false=true from hs) aaN
theorem Jx:cY X (compareOp .Lt) (mC λi j=>.bl (decide (i<j))):=Ak λ_ _ _ _ _ _ _ q=>lt_int q
theorem F1:cY X (compareOp .LtE) (mC λi j=>.bl (decide (i<=j))):=Ak λ_ _ _ _ _ _ _ q=>le_int q
theorem acN:cY X (compareOp .Gt) (mC λi j=>.bl (decide (j<i))):=Ak λ_ _ _ _ _ _ _ q=>gt_int q
theorem WQ:cY X (compareOp .GtE) (mC λi j=>.bl (decide (j<=i))):=Ak λ_ _ _ _ _ _ _ q=>ge_int q
theorem Lf:cY X (compareOp .Is) (λx y H Q=>y=.aC/\Q (.bl (decide (x=.aC))) H):=by
 intro af s σ H x y v u Q I rx ry h;obtain⟨rfl,q⟩:=h;cases ry;refine is_none_gen (dD I q ?_);cases x<;>first
  |(cases rx;rfl)
  |(obtain⟨t,rfl⟩:=rx;rfl)
theorem aas:cY X (compareOp .IsNot) (λx y H Q=>y=.aC/\Q (.bl (!decide (x=.aC))) H):=by
 intro af s σ H x y v u Q I rx ry h;obtain⟨rfl,q⟩:=h;cases ry;refine isnot_none_gen (dD I q ?_);cases x<;>first
  |(cases rx;rfl)
  |(obtain⟨t,rfl⟩:=rx;rfl)
theorem iV(b:Expr){op:CmpOp}(h:op≠.In:=by decide)(h2:op≠.NotIn:=by decide):behindInMarks op b=false:=by
 have e1:(op==CmpOp.In)=false:=by cases op<;>first|rfl|exact absurd rfl h
 have e2:(op==CmpOp.NotIn)=false:=by cases op<;>first|rfl|exact absurd rfl h2
 cases b<;>simp[behindInMarks,e1,e2]
theorem aau{op:CmpOp}{r:R2}(ho:cY X (compareOp op) r)(ha:PE X a ta)(hb:PE X b tb)(hm:behindInMarks op b=false):PE X (.Compare a [op] [b] pos) (sA r ta tb):=by
 intro af s σ H Q I h;exact wpAny_Compare1 (Fl ha hb I h λv u s2 x y H2 I2 rx ry q=>ho af s2 σ H2 x y v u Q I2 rx ry q) hm
def UY(t:TE):TT:=λσ H Q=>t σ H λx H'=>∃k,x=.bl k/\Q k H'
theorem X0{op:CmpOp}{r:R2}(ho:cY X (compareOp op) r)(ha:PE X a ta)(hb:PE X b tb)(hm:behindInMarks op b=false):PT X (.Compare a [op] [b] pos) (UY (sA r ta tb)):=by
 intro af s σ H Q I h;refine wpAny_isTrue_Compare1 (aM (ha af s σ H _ I h) λv s1 ⟨x,H1,I1,r1,q1⟩=>aM (hb af s1 σ H1 _ I1 q1) λu s2 ⟨y,H2,I2,r2,q2⟩=>
  aM (ho af s2 σ H2 x y v u _ I2 r1 r2 q2) λc s3 ⟨z,H3,I3,r3,k,e,q3⟩=>?_) hm
 subst e;cases r3;exact aec ⟨H3,I3,q3⟩
def Xy(r r':R2)(ta tb tc:TE):TE:=λσ H Q=>ta σ H λx H1=>tb σ H1 λy H2=>r x y H2 λz H3=>∃k,z=.bl k/\
 (if k=true then tc σ H3 λw' H4=>r' y w' H4 Q else Q (.bl false) H3)
theorem QV{op qp:CmpOp}{r r':R2}(ho:cY X (compareOp op) r)(kX:cY X (compareOp qp) r')(ha:PE X a ta)(hb:PE X b tb)(hc:PE X c tc)
  (hm:lastMarks [op,qp] [b,c]=false:=by with_unfolding_all rfl):PE X (.Compare a [op,qp] [b,c] pos) (Xy r r' ta tb tc):=by
 intro af s σ H Q I h;refine Compare_chain (aM (ha af s σ H _ I h) λv s1 ⟨x,H1,I1,r1,q1⟩=>chain_link (aM (hb af s1 σ H1 _ I1 q1) λu s2 ⟨y,H2,I2,r2,q2⟩=>
  aM (ho af s2 σ H2 x y v u _ I2 r1 r2 q2) λd s3 ⟨z,H3,I3,r3,k,e,q3⟩=>?_)) hm
 subst e;cases r3;refine aec ?_;cases k with
 |false=>exact ite_ff ⟨.bl false,H3,I3,rfl,q3⟩
 |true=>exact ite_tt (chain_last (aM (hc af s3 σ H3 _ I3 q3) λw' s4 ⟨z',H4,I4,r4,q4⟩=>kX af s4 σ H4 y z' u w' Q I4 r2 r4 q4))
def O7(K:PySem.W.Frag)(x:V)(H:Hp)(k:Bool):Prop:=
 match x with
 |.aC=>k=false
 |.bl b=>k=b
 |.int i=>k=(i != 0)
 |.str y=>y.length<=sizeLine/\k=((y.length:Int) != 0)
 |.jG y=>y.size<=sizeLine/\k=((y.size:Int) != 0)
 |.ref p=>(∃xs,bS K H p xs/\k=!xs.isEmpty)\/(∃xs,cg K H p xs/\k=!xs.isEmpty)\/∃aj,H p=some (.dK aj)/\k=!aj.isEmpty
 |_=>False
theorem Us{κ:Type}{aj:List (κ×V)}{vs:List (κ×Value)}(r:KV aj vs):(!vs.isEmpty)=!aj.isEmpty:=by
 cases r<;>rfl
theorem PL(r:aK xs ao):(!ao.toArray.isEmpty)=!xs.isEmpty:=by
 cases r<;>simp
theorem s_:(sizeLine:Nat)<2 ^ 63:=by rw[aeg];decide
theorem acM:abI X (λx H Q=>∃k,O7 X.K x H k/\Q k H):=by
 intro af s σ H x v Q I rx h;obtain⟨k,e,q⟩:=h;have hl:=s_;have hs:=aeg;cases x with
 |aC=>
  cases rx;have e':=e;subst e';exact truthy_none ⟨H,I,q⟩
 |bl b=>
  cases rx;have e':=e;subst e';exact aec ⟨H,I,q⟩
 |int i=>
  obtain⟨t,rfl⟩:=rx;have e':=e;subst e';exact PySem.P.truthy_int ⟨H,I,q⟩
 |str y=>
  obtain⟨t,rfl⟩:=rx;obtain⟨hy,e'⟩:y.length<=sizeLine/\k=((y.length:Int) != 0):=e;subst e';exact PySem.P.truthy_str (by omega) ⟨H,I.tok _,q⟩
 |jG y=>
  obtain⟨t,rfl⟩:=rx;obtain⟨hy,e'⟩:y.size<=sizeLine/\k=((y.size:Int) != 0):=e;subst e';exact PySem.W.truthy_bytes (by omega) ⟨H,I.tok _,q⟩
 |ref p=>
  cases rx;have e':=e;rcases e' with⟨xs,hx,e'⟩|⟨xs,hx,e'⟩|⟨aj,hx,e'⟩
  .subst e';obtain⟨ao,r,pl,hz⟩:=I.list hx;have hlen:=r.length;exact wpAny_truthy_list pl.isList (by simp only[aba];omega) ⟨H,I.tok _,by rw[PL r];exact q⟩
  .subst e';obtain⟨ao,r,pl,hz⟩:=I.tuple hx;have hlen:=r.length;exact truthy_tuple pl (by simp only[aba];omega) ⟨H,I.tok _,by rw[PL r];exact q⟩
  .subst e';obtain⟨hz,hS,vs,r,m⟩:aj.length<=sizeLine/\(p==sysModules)=false/\∃vs,KV aj vs/\s.heap.DictOf (fM X.prog X.w) p vs:=I.aD p _ hx;have hlen:=Paired.length r;exact wpAny_truthy_dict hS m (by omega) ⟨H,I.tok _,by rw[Us r];exact q⟩
 |_=>exact(show False from e).elim
theorem VC(ha:PE X a ta)(he:∀whole,isTrue a X.env whole=(do let v <- whole;standAt a.pos;holding [v] (truthy v))):
  PT X a (λσ H Q=>ta σ H λx H'=>∃k,O7 X.K x H' k/\Q k H'):=by
 intro af s σ H Q I h;exact isTrue_plain (aM (ha af s σ H _ I h) λv s1 ⟨x,H1,I1,r1,q1⟩=>acM af s1 σ H1 x v Q I1 r1 q1) (he _)
theorem vals1(r:aK [x] us):∃u,us=[u]/\RelV x u:=by
 cases r with
 |cons r1 r2=>cases r2;exact⟨_,rfl,r1⟩
theorem vals2(r:aK [x,y] us):∃u w',us=[u,w']/\RelV x u/\RelV y w':=by
 cases r with
 |cons r1 r2=>
  cases r2 with
  |cons r3 r4=>cases r4;exact⟨_,_,rfl,r1,r3⟩
theorem Nf(hc:X.calm=true):eX X (.builtin "min") (λxs H Q=>∃i j,xs=[.int i,.int j]/\Q (.int (if j<i then j else i)) H):=by
 intro af s σ H xs us Q I r h;obtain⟨i,j,rfl,q⟩:=h;obtain⟨u,w',rfl,⟨t,rfl⟩,⟨t',rfl⟩⟩:=vals2 r;refine min_two_ints (I.ok.hd hc) λh' tk k=>⟨_,H,I.kept k,?_,q⟩
 by_cases hj:j<i
 .rw[if_pos hj,if_pos hj];exact⟨_,rfl⟩
 .rw[abf hj,abf hj];exact⟨_,rfl⟩
end
structure qy(h:Heap)(x dx C:Addr)(mA:Str->Option Value):Prop where
 obj:h.get? x=some (PySem.W.instObj C dx)
 ns:h.Ns1 dx mA
 ne:dx≠x
theorem Yx{h:Heap}{dx:Addr}{mA:Str->Option Value}(n:h.Ns1 dx mA):∃od,h.get? dx=some od/\∀name,PySem.W.lookIn name od=some (mA name):=by
 obtain⟨o,es,ep,ho,hd,hk,_,hm⟩:=n;refine⟨o,ho,λname=>?_⟩;have e:=hm name;unfold nsFind findBy at e;rw[<- Array.find?_toList] at e;unfold PySem.W.lookIn;rw[hd];dsimp only
 split
 .rename_i y q;rw[q] at e;exact congrArg some e
 .rename_i q;rw[q] at e;have a:es.toList.any (·.refKey)=false:=by
   rw[List.any_eq_false];intro y hy;obtain⟨z,t,xD⟩:=hk y (Array.mem_toList_iff.mp hy);simp[DictEntry.refKey,xD]
  have a':¬es.toList.any (·.refKey)=true:=by rw[a];exact aaN
  rw[abf a'];exact congrArg some e
theorem qy.look(I:qy h x dx C mA):∃od,PySem.W.InstAt h x (PySem.W.instObj C dx) C (some od)/\∀name,PySem.W.lookIn name od=some (mA name):=
 let⟨od,ho,hl⟩:=Yx I.ns
 ⟨od,⟨I.obj,rfl,rfl,ho⟩,hl⟩
section
variable{prog:Program}{w:World}{A:Around}{E:Value->Shared->Prop}{s:Shared}{K:PySem.W.Frag}{x dx C f:Addr}{mA:Str->Option Value}{name:Str}{v:Value}
theorem get_map(X:K.In s.heap)(I:qy s.heap x dx C mA)(hg:PySem.W.plainGet K C name=true)(hh:PySem.W.hasDictIn K C=true)
  (ha:PySem.W.findIn K (.ref C) name=some none) (hv:mA name=some v) (nQ:PySem.W.handedIn v=true) (h:Q v { s with toks:=s.toks+1 }) :
  wpAny (model prog w) A (getAttr (.ref x) name expr) Q E s:=by
 obtain⟨od,J,hl⟩:=I.look;exact PySem.W.get_value X J (PySem.W.plainGet_of hg).1 (PySem.W.findObj_own hh ha rfl (by rw[hl,hv])) nQ h
theorem Rc{pl:Sem Bool}{Q:Value×List Value->Shared->Prop}(X:K.In s.heap)(I:qy s.heap x dx C mA)(hg:PySem.W.plainGet K C name=true)
  (hf:PySem.W.findIn K (.ref C) name=some (some (.ref f))) (ht:PySem.W.isFn K (.ref f)=true) (hv:mA name=none) (h:Q (.ref f,[.ref x]) s) :
  wpAny (model prog w) A (getMethod (.ref x) name pl) Q E s:=by
 obtain⟨od,J,hl⟩:=I.look;exact PySem.W.method_fn X J (PySem.W.plainGet_of hg).1 (PySem.W.plainGet_of hg).2 hf (aed.mp ht) (by show(PySem.W.lookIn name od).map (·.isSome)=some false;rw[hl,hv];rfl) h
theorem We{Q:Unit->Shared->Prop}(X:K.In s.heap)(I:qy s.heap x dx C mA)
  (hs:PySem.W.findIn K (.ref C) "__setattr__"=some (some (.builtin "object.__setattr__"))) (hp:PySem.W.plainOver K C=true) (ht:PySem.W.takerIn K C name=some none) (hh:PySem.W.hasDictIn K C=true)
  (hw:PySem.Within mA ns) (hsz:ns.length<=sizeLine)
  (h:∀h',qy h' x dx C (λy=>if y=name then some v else mA y)->Heap.SameBut dx s.heap h'->Q () { s with heap:=h',toks:=s.toks+2 }) :
  wpAny (model prog w) A (setAttr (.ref x) name v) Q E s:=by
 obtain⟨od,J,hl⟩:=I.look;refine PySem.W.set_plain X J hs (PySem.W.osa_open (r:=none) X J hp ht λb=>?_);obtain⟨cd,hc,CA⟩:=PySem.W.any_some hh;have hx:=I.obj;refine aan (abg (aan (aan (wpAny_loadPart hx (aan (PySem.W.Looks.here (PySem.W.looks_clsIn X hc) ?_))))));rw[CA];refine abg (aan (abg (aan ?_)));refine wpAny_nsSet1 I.ns λh' zc bQ=>?_
 obtain⟨oD,esD,epD,DH,AK,SX⟩:=zc.count (PySem.Within.cons name v hw);refine aan (wpAny_lookBehind DH (by rw[AK];exact pastItsLine_dict (aer SX (by rw[abj];omega))) ?_);exact abg (h _ ⟨(bQ.2 _ (aez I.ne)).trans I.obj,zc,I.ne⟩ bQ)
theorem Uv{R:Result->Shared->Prop}{kw:List (Str×Value)}(X:K.In s.heap)(hm:PySem.W.makesIn K C=true)
  (hi:PySem.W.findIn K (.ref C) "__init__"=some (some (.ref f))) (hf:PySem.W.typeIn K (.ref f)=some (.type "function"))
  (h:codeAny (model prog w) (A.under (.builtin "type.__call__" ⟨.ref C::vs,kw⟩)) (.call (.ref f) ⟨.ref (s.heap.objs.size + 1)::vs,kw⟩) (PySem.W.InitBack (s.heap.objs.size + 1) R)
   { s with heap:=(s.heap.push PySem.W.emptyDict).push (PySem.W.instObj C s.heap.objs.size) }) :
  codeAny (model prog w) A (.call (.ref C) ⟨vs,kw⟩) R s:=by
 obtain⟨hh,g,d,t,os⟩:=s;exact PySem.W.make_core (PySem.W.makes_of X hm) (PySem.W.looks_findIn X hi) (λself=>PySem.W.bind_fn X self hf) (.inl rfl) h
end
noncomputable def eB(f:Str)(v:V):List (Str×V)->List (Str×V)
 |[]=>[(f,v)]
 |(g,x)::r=>if g=f then(g,v)::r else(g,x)::eB f v r
theorem Ir(f g:Str)(v:V):∀fs:List (Str×V),(eB f v fs).lookup g=if g=f then some v else fs.lookup g
 |[]=>by
  show List.lookup g [(f,v)]=_
  by_cases h:g=f
  .have hb:=aed.mpr h;simp only[List.lookup,hb,if_pos h]
  .have hb:=ab0.mpr h;simp only[List.lookup,hb,abf h]
 |(k,x)::r=>by
  have ih:=Ir f g v r;rw[show eB f v ((k,x)::r)=(if k=f then(k,v)::r else(k,x)::eB f v r) from rfl]
  by_cases hk:k=f
  .rw[if_pos hk]
   by_cases h:g=k
   .have hb:=aed.mpr h;simp only[List.lookup,hb,if_pos (h.trans hk)]
   .have hb:=ab0.mpr h;simp only[List.lookup,hb,abf (λe:g=f=>h (e.trans hk.symm))]
  .rw[abf hk]
   by_cases h:g=k
   .have hb:=aed.mpr h;simp only[List.lookup,hb,abf (λe:g=f=>hk (h.symm.trans e))]
   .have hb:=ab0.mpr h;simp only[List.lookup,hb];exact ih
theorem BW(f:Str)(v:V):∀fs:List (Str×V),f∈(eB f v fs).map (·.1)/\∀g,g∈fs.map (·.1)->g∈(eB f v fs).map (·.1)
 |[]=>⟨by simp[eB],λg h=>by simp at h⟩
 |(k,x)::r=>by
  obtain⟨i1,i2⟩:=BW f v r;rw[show eB f v ((k,x)::r)=(if k=f then(k,v)::r else(k,x)::eB f v r) from rfl]
  by_cases hk:k=f
  .rw[if_pos hk];subst hk;exact⟨by simp,λg h=>by simpa using h⟩
  .rw[abf hk];refine⟨?_,λg h=>?_⟩
   .rw[aaF];exact aal _ i1
   .rw[aaF] at h ⊢;rcases aaM.mp h with e|e
    .exact aaM.mpr (.inl e)
    .exact aal _ (i2 g e)
theorem Ic(f:Str)(v:V):∀fs:List (Str×V),(eB f v fs).length<=fs.length+1
 |[]=>by simp[eB]
 |(k,x)::r=>by
  have ih:=Ic f v r;rw[show eB f v ((k,x)::r)=(if k=f then(k,v)::r else(k,x)::eB f v r) from rfl]
  by_cases hk:k=f
  .rw[if_pos hk,abj,abj];omega
  .rw[abf hk,abj,abj];omega
theorem gE.some_of{o:Option Value}(r:gE (some v) o):∃u,o=some u/\RelV v u:=by
 cases o with
 |none=>exact(show False from r).elim
 |some u=>exact⟨u,rfl,r⟩
theorem gE.none_of{o:Option Value}(r:gE none o):o=none:=by
 cases o with
 |none=>rfl
 |some u=>exact(show False from r).elim
theorem YV(r:RelV v u):PySem.W.handedIn u=true:=by
 cases v with
 |aC=>cases(show u=Value.none from r);rfl
 |bl b=>cases(show u=Value.bool b from r);rfl
 |int i=>obtain⟨t,e⟩:=(show ∃t,u=Value.int i t from r);cases e;rfl
 |str x=>obtain⟨t,e⟩:=(show ∃t,u=Value.str x t from r);cases e;rfl
 |jG b=>obtain⟨t,e⟩:=(show ∃t,u=Value.bytes b t from r);cases e;rfl
 |su b=>obtain⟨t,e⟩:=(show ∃t,u=Value.float b t from r);cases e;rfl
 |ref a=>cases(show u=Value.ref a from r);rfl
 |ty n=>cases(show u=Value.type n from r);rfl
section
variable{P:Program}{w:World}{H H':Hp}{h h':Heap}{a C dx:Addr}{fs pB:List (Str×V)}
theorem z7(aD:cK P w H h)(e:H a=some (.ins C dx fs)):∃mA,qy h a dx C mA/\(∀f,gE (fs.lookup f) (mA f))/\PySem.Within mA (fs.map (·.1))/\fs.length<=1000/\H dx=some (.own a):=by
 obtain⟨d,z,ne,ob,mA,n,r,q⟩:=(show cU P w H h a (.ins C dx fs) from aD a _ e)
 exact⟨mA,⟨ob,n,ne⟩,r,q,z,d⟩
end
structure jY(K:PySem.W.Frag)(C:Addr):Prop where
 pg:PySem.W.plainGet K C Str.empty=true
 hd:PySem.W.hasDictIn K C=true
 po:PySem.W.plainOver K C=true
 sa:PySem.W.findIn K (.ref C) "__setattr__"=some (some (.builtin "object.__setattr__"))
theorem jY.get{K:PySem.W.Frag}(c:jY K C)(f:Str):PySem.W.plainGet K C f=true:=c.pg
def ji(K:PySem.W.Frag)(C:Addr)(f:Str):Prop:=PySem.W.findIn K (.ref C) f=some none
theorem ji.Xc{K:PySem.W.Frag}(n:ji K C f):PySem.W.takerIn K C f=some none:=by
 unfold PySem.W.takerIn;rw[show PySem.W.findIn K (.ref C) f=some none from n];rfl
structure j6(K:PySem.W.Frag)(C:Addr)(m:Str)(f:Addr):Prop where
 at_:PySem.W.findIn K (.ref C) m=some (some (.ref f))
 fn:PySem.W.isFn K (.ref f)=true
 kp:PySem.W.keepIn K (.ref f)=true
section
variable{X:Cx}{af:List (Addr×Obj)}{σ:St}{H:Hp}{s:Shared}{a C dx:Addr}{fs:List (Str×V)}{f:Str}{v:V}{A:Around}{E:Value->Shared->Prop}
theorem Ms(I:Inv X af σ H s)(e:H a=some (.ins C dx fs))(c:jY X.K C)(n:ji X.K C f)(l:fs.lookup f=some v)
  (h:∀u s',Inv X af σ H s'->RelV v u->Q u s'):wpAny (model X.prog X.w) A (getAttr (.ref a) f b) Q E s:=by
 obtain⟨mA,O,r,_,_,_⟩:=z7 I.aD e;obtain⟨u,hu,ru⟩:=gE.some_of (by rw[<- l];exact r f);exact get_map I.cV O (c.get f) c.hd n hu (YV ru) (h u _ (I.tok _) ru)
theorem DY{pl:Sem Bool}{Q:Value×List Value->Shared->Prop}(I:Inv X af σ H s)(e:H a=some (.ins C dx fs))(c:jY X.K C)(k:j6 X.K C m g)(l:fs.lookup m=none)
  (h:Q (.ref g,[.ref a]) s):wpAny (model X.prog X.w) A (getMethod (.ref a) m pl) Q E s:=by
 obtain⟨mA,O,r,_,_,_⟩:=z7 I.aD e;have hn:=gE.none_of (by rw[<- l];exact r m);exact Rc I.cV O (c.get m) k.at_ k.fn hn h
theorem IZ{Q:Unit->Shared->Prop}(I:Inv X af σ H s)(e:H a=some (.ins C dx fs))(c:jY X.K C)(n:ji X.K C f)(hl:fs.length<1000)(ry:RelV y u)
  (h:∀s',Inv X af σ (upd H a (.ins C dx (eB f y fs))) s'->Q () s'):wpAny (model X.prog X.w) A (setAttr (.ref a) f u) Q E s:=by
 obtain⟨mA,O,r,wi,_,ho⟩:=z7 I.aD e;have hz:(fs.map (·.1)).length<=sizeLine:=by rw[aaf,aeg];omega
 refine We I.cV O c.sa c.po n.Xc c.hd wi hz λh' O' sb=>h _ ?_
 have hd:∃o,h'.get? dx=some o:=let⟨o,_,_,e',_⟩:=O'.ns;⟨o,e'⟩
 refine I.write (by rw[e];exact True.intro) (.inr ho) (λb q hb z=>(sb.2 b hb).trans z) hd ?_;refine⟨by rw[aO O.ne];exact ho,?_,O.ne,O'.obj,_,O'.ns,λg=>?_,λg hg=>?_⟩
 .have:=Ic f y fs;omega
 .show gE ((eB f y fs).lookup g) (if g=f then some u else mA g);rw[Ir]
  by_cases q:g=f
  .rw[if_pos q,if_pos q];exact ry
  .rw[abf q,abf q];exact r g
 .by_cases q:g=f
  .rw[q];exact(BW f y fs).1
  .refine(BW f y fs).2 g (wi g λz=>hg ?_);show(if g=f then some u else mA g)=none;rw[abf q];exact z
theorem Inv.made(I:Inv X af σ H s):Inv X af σ (upd (upd H s.heap.objs.size (.own (s.heap.objs.size+1))) (s.heap.objs.size+1) (.ins C s.heap.objs.size []))
  { s with heap:=(s.heap.push PySem.W.emptyDict).push (PySem.W.instObj C s.heap.objs.size) }:=by
 have e1:(s.heap.push PySem.W.emptyDict).get? s.heap.objs.size=some PySem.W.emptyDict:=aa6 s.heap rfl;have e2:((s.heap.push PySem.W.emptyDict).push (PySem.W.instObj C s.heap.objs.size)).get? (s.heap.objs.size+1)=some (PySem.W.instObj C s.heap.objs.size):=by
  have:=aa6 (s.heap.push PySem.W.emptyDict) (o:=PySem.W.instObj C s.heap.objs.size) rfl
  rwa [ae2] at this
 have e3:(s.heap.push PySem.W.emptyDict).Ns s.heap.objs.size (λ_=>none):=⟨PySem.W.emptyDict,#[],_,e1,rfl,(λe he=>absurd he (by simp)),λ_=>rfl⟩
 have I1:=I.laid (o:=.own (s.heap.objs.size+1)) (t':=s.toks) (λb u q=>aab _ q) (abd _) ⟨_,e1⟩;refine I1.laid (λb u q=>aab _ q) (Nat.le_of_eq (ae2 _ _)) ?_;have ne:s.heap.objs.size≠s.heap.objs.size+1:=abn (ae8 _);refine⟨by rw[aO ne,bT],aeh _,ne,e2,λ_=>none,(Heap.Ns1.of_empty e3).at λo q=>aab _ q,λ_=>True.intro,λy hy=>absurd rfl hy⟩
theorem aai{env:Env}(hb:attributeBase e f env (eval e env)=eval e env)
  (h:wpAny (model prog w) A (eval e env) (λo bE=>wpAny (model prog w) A (getAttr o f true) Q E bE) E s):wpAny (model prog w) A (eval (.Attribute e f pos) env) Q E s:=
 Attribute_any_ h (by rw[arm_eval_Attribute,hb])
end
def Vd(K:PySem.W.Frag)(ta:TE)(f:Str):TE:=λσ H Q=>ta σ H λx H1=>∃a C dx fs v,x=.ref a/\H1 a=some (.ins C dx fs)/\jY K C/\ji K C f/\fs.lookup f=some v/\Q v H1
def Zh(K:PySem.W.Frag)(ta tv:TE)(f:Str):TS:=λD σ H=>tv σ H λy H1=>ta σ H1 λx H2=>∃a C dx fs,x=.ref a/\H2 a=some (.ins C dx fs)/\jY K C/\ji K C f/\fs.length<1000/\
 D.nx σ (upd H2 a (.ins C dx (eB f y fs)))
def N1(X:Cx)(op:Operator)(rd:V->V->Hp->VK->Prop):Prop:=
 ∀(af:List (Addr×Obj)) (s:Shared) (σ:St) (H:Hp) (x y:V) (u v:Value) (Q:VK),Inv X af σ H s->RelV x u->RelV y v->rd x y H Q->wpAny (model X.prog X.w) X.A (inplaceOp op u v) (EP X af σ Q) X.xe s
def ZN(K:PySem.W.Frag)(ta tv:TE)(rd:V->V->Hp->VK->Prop)(f:Str):TS:=λD σ H=>ta σ H λx H1=>∃a C dx fs v,x=.ref a/\H1 a=some (.ins C dx fs)/\jY K C/\ji K C f/\fs.lookup f=some v/\
 tv σ H1 λy H2=>rd v y H2 λz H3=>∃xq pB,H3 a=some (.ins C xq pB)/\pB.length<1000/\D.nx σ (upd H3 a (.ins C xq (eB f z pB)))
section
variable{X:Cx}{o e value:Expr}{f:Str}{pos pos' Np:Pos}{ta tv:TE}
theorem uX(he:PE X e ta)(hb:attributeBase e f X.env (eval e X.env)=eval e X.env):PE X (.Attribute e f pos) (Vd X.K ta f):=by
 intro af s σ H Q I h;refine aai hb (aM (he af s σ H _ I h) λu s1 ⟨x,H1,I1,rx,a,C,dx,fs,v,ex,ea,c,n,l,q⟩=>?_);subst ex;obtain rfl:u=Value.ref a:=rx;exact Ms I1 ea c n l λu' s2 I2 ru=>⟨v,H1,I2,ru,q⟩
theorem R4(ha:PE X o ta)(hv:PE X value tv)(hs:swapsWith value (some (.Attribute o f pos')) pos.line X.env=pure false):PS X (.Assign [.Attribute o f pos'] value pos) (Zh X.K ta tv f):=by
 intro af s σ H D I h;refine plainObj_wpAny_Assign_Attribute (aM (hv af s σ H _ I h) λu s1 ⟨y,H1,I1,ry,q⟩=>aM (ha af s1 σ H1 _ I1 q) λov s2 ⟨x,H2,I2,rx,a,C,dx,fs,ex,ea,c,n,l,q2⟩=>?_) hs;subst ex;obtain rfl:ov=Value.ref a:=rx;exact IZ I2 ea c n l ry λs3 I3=>⟨σ,_,I3,q2⟩
theorem YK{op:Operator}{rd:V->V->Hp->VK->Prop}(ha:PE X o ta)(hv:PE X value tv)(TR:N1 X op rd):PS X (.AugAssign (.Attribute o f Np) op value pos) (ZN X.K ta tv rd f):=by
 intro af s σ H D I h;refine wpAny_AugAssign_AttributeAny (aM (ha af s σ H _ I h) λov s1 ⟨x,H1,I1,rx,a,C,dx,fs,v,ex,ea,c,n,l,q⟩=>?_);subst ex;obtain rfl:ov=Value.ref a:=rx;refine Ms I1 ea c n l λu s2 I2 ru=>aM (hv af s2 σ H1 _ I2 q) λw3 s3 ⟨y,H2,I3,ry,q3⟩=>aM (TR af s3 σ H2 v y u w3 _ I3 ru ry q3) λw4 s4 ⟨z,H3,I4,rz,xq,pB,ea',l',q4⟩=>?_
 exact IZ I4 ea' c n l' rz λs5 I5=>⟨σ,_,I5,q4⟩
def abG:V->V->Hp->VK->Prop:=λx y H Q=>∃i j,x=.int i/\y=.int j/\Q (.int (i+j)) H
theorem Xa:N1 X .Add abG:=by
 rintro af s σ H x y u v Q I rx ry ⟨i,j,rfl,rfl,q⟩
 obtain⟨t,rfl⟩:=(show ∃t,u=Value.int i t from rx)
 obtain⟨t',rfl⟩:=(show ∃t',v=Value.int j t' from ry)
 exact PyProof.Rows.iadd_int ⟨.int (i+j),H,I.tok _,⟨_,rfl⟩,q⟩
end
section
variable{X:Cx}{af:List (Addr×Obj)}{σ:St}{H:Hp}{s:Shared}{A:Around}{E:Value->Shared->Prop}{Q:Value->Shared->Prop}{c:Value}{b:Bool}
inductive iX(K:PySem.W.Frag)(H:Hp):V->Value->Prop where
 |aC:iX K H .aC (.type "NoneType")
 |bl (x:Bool):iX K H (.bl x) (.type "bool")
 |int (i:Int):iX K H (.int i) (.type "int")
 |str (x:Str):iX K H (.str x) (.type "str")
 |su (x:UInt64):iX K H (.su x) (.type "float")
 |lst {a:Addr}{xs:List V} (e:H a=some (.lst xs)):iX K H (.ref a) (.type "list")
 |dY {a:Addr}{o:Obj}{xs:List V} (e:H a=some (.dY o (.lst xs))):iX K H (.ref a) (.type "list")
 |tup {a:Addr}{xs:List V} (e:H a=some (.tup xs)):iX K H (.ref a) (.type "tuple")
 |dK {a:Addr}{aj:List (Key×V)} (e:H a=some (.dK aj)):iX K H (.ref a) (.type "dict")
 |dT {a:Addr}{aj:List (List Key×V)} (e:H a=some (.dT aj)):iX K H (.ref a) (.type "dict")
 |ins {a C dx:Addr}{fs:List (Str×V)} (e:H a=some (.ins C dx fs)) (cl:jY K C) (ha:PySem.W.findIn K (.ref C) "__class__"=some (some (.builtin "object.__class__")))
   (hn:PySem.W.specialIn K (.builtin "object.__class__") "__get__"=some (some (.builtin "getset_descriptor.__get__"))) (IV:PySem.W.takesIn K (.builtin "object.__class__")=some true)
   (hm:PySem.W.mroIn K C (.type "object")=some true):iX K H (.ref a) (.ref C)
theorem acg(I:Inv X af σ H s)(rx:RelV x u)(ty:iX X.K H x t)(e:PySem.W.kitOne X.K t c=some b)(h:∀tk,Q (.bool b) { s with toks:=tk }):
  wpAny (model X.prog X.w) A (call (.builtin "isinstance") [u,c]) Q E s:=by
 cases ty with
 |aC=>cases(show u=Value.none from rx);exact PySem.W.kia_one PySem.W.kitx_none I.cV True.intro e (λz=>nomatch z) h
 |bl y=>cases(show u=Value.bool y from rx);exact PySem.W.kia_one PySem.W.kitx_bool I.cV True.intro e (λz=>nomatch z) h
 |int i=>obtain⟨t,q⟩:=(show ∃t,u=Value.int i t from rx);cases q;exact PySem.W.kia_one PySem.W.kitx_int I.cV True.intro e (λz=>nomatch z) h
 |str y=>obtain⟨t,q⟩:=(show ∃t,u=Value.str y t from rx);cases q;exact PySem.W.kia_one PySem.W.kitx_str I.cV True.intro e (λz=>nomatch z) h
 |su y=>obtain⟨t,q⟩:=(show ∃t,u=Value.float y t from rx);cases q;exact PySem.W.kia_one PySem.W.kitx_float I.cV True.intro e (λz=>nomatch z) h
 | @lst a xs ea=>
  cases(show u=Value.ref a from rx);obtain⟨_,_,n,_,h1⟩:=(show cU X.prog X.w H s.heap a (.lst xs) from I.aD a _ ea)
  exact PySem.W.kia_one PySem.W.kitx_list I.cV ⟨_,h1,rfl⟩ e (λz=>nomatch z) h
 | @dY a ob xs ea=>
  cases(show u=Value.ref a from rx);obtain⟨_,_,_,n,_,h1⟩:=(show cU X.prog X.w H s.heap a (.dY ob (.lst xs)) from I.aD a _ ea)
  exact PySem.W.kia_one PySem.W.kitx_list I.cV ⟨_,h1,rfl⟩ e (λz=>nomatch z) h
 | @tup a xs ea=>
  cases(show u=Value.ref a from rx);obtain⟨_,_,_,p⟩:=(show cU X.prog X.w H s.heap a (.tup xs) from I.aD a _ ea)
  obtain⟨o,h1,h2,_⟩:=p;exact PySem.W.kia_one PySem.W.kitx_tuple I.cV ⟨o,h1,h2⟩ e (λz=>nomatch z) h
 | @dK a aj ea=>
  cases(show u=Value.ref a from rx);obtain⟨_,_,vs,_,p⟩:=(show cU X.prog X.w H s.heap a (.dK aj) from I.aD a _ ea)
  obtain⟨o,es,ep,h1,h2,_⟩:=p;exact PySem.W.kia_one PySem.W.kitx_dict I.cV ⟨o,h1,h2.1⟩ e (λz=>nomatch z) h
 | @dT a aj ea=>
  cases(show u=Value.ref a from rx);obtain⟨_,_,xs,_,o,es,ep,h1,h2,_⟩:=(show cU X.prog X.w H s.heap a (.dT aj) from I.aD a _ ea)
  exact PySem.W.kia_one PySem.W.kitx_dict I.cV ⟨o,h1,h2.1⟩ e (λz=>nomatch z) h
 | @ins a C dx fs ea cl ha hn IV hm=>
  cases(show u=Value.ref a from rx);obtain⟨mA,O,_⟩:=z7 I.aD ea;obtain⟨od,J,_⟩:=O.look;exact PySem.W.kia_one (PySem.W.kitx_own (cl.get _) cl.hd ha hn IV hm) I.cV J e (λz=>nomatch z) h
end
structure aZ(k:Nat)(A:Around)(cm:Bool:=true):Prop where
 hd:cm=true->A.handled=none
 dp:A.depth+3*k+5<recursionLimit
 un:A.units+16*k+200<cLine
 gd:A.guards=some []
theorem aZ.mono{j k:Nat}{A:Around}{cm:Bool}(r:aZ k A cm)(h:j<=k):aZ j A cm:=⟨r.hd,by have:=r.dp;omega,by have:=r.un;omega,r.gd⟩
theorem aZ.deeper{k:Nat}{A:Around}{cm:Bool}(r:aZ (k+1) A cm)(env:Env):aZ k (A.deeper env) cm:=
 ⟨r.hd,by have:=r.dp;show A.depth+1+3*k+5<_;omega,by have:=r.un;show A.units+3+16*k+200<_;omega,r.gd⟩
theorem aZ.in1{k:Nat}{A:Around}{cm:Bool}(r:aZ (k+1) A cm):aZ k A.in1 cm:=
 ⟨r.hd,by have:=r.dp;show A.depth+3*k+5<_;omega,by have:=r.un;show A.units+1+16*k+200<_;omega,r.gd⟩
theorem ac6{A:Around}{C:Addr}{us:List Value}{kw:List (Str×Value)}:(A.under (.builtin "type.__call__" ⟨.ref C::us,kw⟩)).depth=A.depth+1:=by
 first|rfl|simp[Around.under,Code.weight,Code.isCreation,Code.isGuard,Code.isCaller,Code.frames,Code.isFrame,guardIds]
theorem X6{A:Around}{C:Addr}{us:List Value}{kw:List (Str×Value)}:(A.under (.builtin "type.__call__" ⟨.ref C::us,kw⟩)).units=A.units+1:=by
 first|rfl|simp[Around.under,Code.cUnits,Code.frames,Code.isFrame]
theorem aZ.make(r:aZ (k+1) A cm)(C:Addr)(us:List Value)(kw:List (Str×Value)):aZ k (A.under (.builtin "type.__call__" ⟨.ref C::us,kw⟩)) cm:=
 ⟨r.hd,by have:=r.dp;rw[ac6];omega,by have:=r.un;rw[X6];omega,by first|exact r.gd|(simp[Around.under,Code.guards,Code.isGuard,guardIds,pushGuards];exact r.gd)⟩
theorem aZ.depth{k:Nat}{A:Around}{cm:Bool}(r:aZ k A cm):A.depth<recursionLimit:=by have:=r.dp;omega
theorem aZ.units{k:Nat}{A:Around}{cm:Bool}(r:aZ k A cm):A.units+64<cLine:=by have:=r.un;omega
def sG:TA:=λ_ H Q=>Q [] H
def Lp(ta:TE)(tr:TA):TA:=λσ H Q=>ta σ H λx H1=>tr σ H1 λxs H2=>Q (x::xs) H2
section
variable{X:Cx}{e:Expr}{es:List Expr}{te:TE}{t:TA}{pos:Pos}
theorem dN:PA X [] sG:=λ_ _ _ _ H Q I h=>Calls.spliced_nil ⟨[],H,I,.nil,h⟩
theorem bU(ha:PE X e te)(hr:PA X es t)(hs:starEach (e::es) X.env=(false,eval e X.env)::starEach es X.env:=by rfl):PA X (e::es) (Lp te t):=by
 intro pos af s σ H Q I h;rw[hs];refine aeS (aM (ha af s σ H _ I h) λu s1 ⟨x,H1,I1,r1,q1⟩=>?_);exact aM (hr pos af s1 σ H1 _ I1 q1) λus s2 ⟨xs,H2,I2,r2,q2⟩=>⟨x::xs,H2,I2,.cons r1 r2,q2⟩
def RI(t:TA):TE:=λσ H Q=>t σ H λxs H1=>xs.length<=sizeLine/\∀p,H1 p=none->Q (.ref p) (upd H1 p (.tup xs))
def nU(t:TA):TE:=λσ H Q=>t σ H λxs H1=>xs.length<=sizeLine/\∀p,H1 p=none->Q (.ref p) (upd H1 p (.lst xs))
theorem Jt{x1}(h:PA X es t):PE X (.Tuple es x1 pos) (RI t):=by
 intro af s σ H Q I hq;refine wpAny_Tuple_spliced (aM (h pos af s σ H _ I hq) λus s1 ⟨xs,H1,I1,r,z,q⟩=>⟨by rw[<- r.length];exact z,?_⟩);have hf:=I1.aD.fresh (abd _);refine⟨.ref s1.heap.objs.size,upd H1 s1.heap.objs.size (.tup xs),I1.laid (λb u e=>aab _ e) (abd _) ?_,rfl,q _ hf⟩;exact⟨z,us,r,⟨_,aa6 _ rfl,rfl,rfl,_,rfl⟩⟩
theorem LN(h:PA X es t):PE X (.List es pos) (nU t):=by
 intro af s σ H Q I hq;refine wpAny_List_spliced (aM (h pos af s σ H _ I hq) λus s1 ⟨xs,H1,I1,r,z,q⟩=>⟨by rw[<- r.length];exact z,?_⟩);have hf:=I1.aD.fresh (abd _);refine⟨.ref s1.heap.objs.size,upd H1 s1.heap.objs.size (.lst xs),I1.laid (λb u e=>aab _ e) (abd _) ?_,rfl,q _ hf⟩;exact⟨z,us,0,r,aa6 _ rfl⟩
end
abbrev Sp:=List V->Hp->VK->XK->Prop
abbrev jj:=List Env->Hp->Shared->XK->Value->Shared->Prop
structure rE(P:Program)(w:World)(K:PySem.W.Frag)(mg:Str->Option Value)(base:Heap)(A:Around)(outer:List Env)(s:Shared)(H:Hp):Prop where
 frames:A.frames=some outer
 mod:Mod K mg base
 bs:∀b o,base.get? b=some o->s.heap.get? b=some o/\H b=none
 iA:base.objs.size<=s.heap.objs.size
 iO:s.heap.FunFrames base outer
 lN:∀b∈bB outer,H b=none
 aD:cK P w H s.heap
 bare:AllBare s.gens
 hq:Hq K A H
def CE(outer:List Env)(P:Program)(w:World)(H:Hp)(s:Shared)(Q:VK)(u:Value)(s':Shared):Prop:=
 ∃v H',s'.os=s.os/\AllBare s'.gens/\Un (bB outer) [] H H' s.heap s'.heap/\cK P w H' s'.heap/\RelV v u/\Q v H'
def CR(CX:jj)(outer:List Env)(P:Program)(w:World)(H:Hp)(s:Shared)(Q:VK)(E:XK)(r:Result)(s':Shared):Prop:=
 match r with
 |.ok (.ret u)=>CE outer P w H s Q u s'
 |.ok _=>False
 |.error e=>CX outer H s E e s'
structure bN(P:Program)(w:World)(K:PySem.W.Frag)(mg:Str->Option Value)(base:Heap)(CX:jj)(k:Nat)(f:Addr)(fd:FuncData)(ps:List Str)(sp:Sp)(cm:Bool:=true):Prop where
 len:∀vs H Q E,sp vs H Q E->vs.length=ps.length
 run:∀(A:Around) (outer:List Env) (s:Shared) (H:Hp) (args:Args) (us:List Value) (vs:List V) (Q:VK) (E:XK),aZ k A cm->rE P w K mg base A outer s H->BindsTo s fd args (ps.zip us)->aK vs us->sp vs H Q E->
  codeAny (model P w) A (.call (.ref f) args) (CR CX outer P w H s Q E) s
theorem bN.imp{P:Program}{w:World}{K:PySem.W.Frag}{mg:Str->Option Value}{base:Heap}{sp Ly:Sp}(F:bN P w K mg base CX k f fd ps sp cm)
  (h:∀vs H Q E,Ly vs H Q E->sp vs H Q E):bN P w K mg base CX k f fd ps Ly cm:=
 ⟨λvs H Q E q=>F.len vs H Q E (h _ _ _ _ q),λA outer s H args us vs Q E hr he hb hv hs=>F.run A outer s H args us vs Q E hr he hb hv (h _ _ _ _ hs)⟩
theorem rE.make{K:PySem.W.Frag}{outer:List Env}(e:rE P w K mg base A outer s H)(C:Addr)(us:List Value)(kw:List (Str×Value)):
  rE P w K mg base (A.under (.builtin "type.__call__" ⟨.ref C::us,kw⟩)) outer s H:=⟨by first|exact e.frames|(simpa[Around.under,Code.envs,Code.isFrame,pushEnvs] using e.frames),e.mod,e.bs,e.iA,e.iO,e.lN,e.aD,e.bare,⟨e.hq.hd,e.hq.ok,e.hq.lm⟩⟩
section
variable{X:Cx}{af:List (Addr×Obj)}{σ:St}{H:Hp}{s s':Shared}
theorem Inv.Hu(I:Inv X af σ H s):rE X.prog X.w X.K X.mg X.base X.A X.stack s H:=
 ⟨I.ok.frames,I.ok.mod,I.bs,aer I.ok.iA I.sz,I.stack,I.uw,I.aD,I.bare,I.hq⟩
theorem Inv.after(I:Inv X af σ H s)(h:CE X.stack X.prog X.w H s Q u s'):EP X af σ Q u s':=by
 obtain⟨v,H',os,bare,un,aD,r,q⟩:=h;obtain⟨hh,g,d,t,YD⟩:=s';obtain rfl:YD=s.os:=os;exact⟨v,H',I.call (g':=g) (d':=d) (ch:=[]) un aD bare (λb z=>absurd z (by simp)),r,q⟩
end
def Zf(sp:Sp)(dQ:List V)(E:XK)(t:TA):TE:=λσ H Q=>t σ H λvs H1=>sp (vs++dQ) H1 Q E
def Ae(C:Addr)(m:Str)(sp:Sp)(dQ:List V)(E:XK)(ta:TE)(t:TA):TE:=λσ H Q=>ta σ H λx H1=>∃a dx fs,x=.ref a/\H1 a=some (.ins C dx fs)/\fs.lookup m=none/\
 t σ H1 λvs H2=>sp (x::(vs++dQ)) H2 Q E
def B6(C:Addr)(sp:Sp)(dQ:List V)(E:XK)(t:TA):TE:=λσ H Q=>t σ H λvs H1=>∀x dx,H1 x=none->H1 dx=none->dx≠x->
 sp (.ref x::(vs++dQ)) (upd (upd H1 dx (.own x)) x (.ins C dx [])) (λv H2=>v=.aC/\Q (.ref x) H2) E
def Binds(K:PySem.W.Frag)(fd:FuncData)(ps:List Str)(ds:List Value):Prop:=
 ∀(s:Shared) (us:List Value),K.In s.heap->(us++ds).length=ps.length->BindsTo s fd ⟨us,[]⟩ (ps.zip (us++ds))
theorem Binds.all{K:PySem.W.Frag}(h:∀us:List Value,us.length=ps.length->bindArgs fd ⟨us,[]⟩=pure (ps.zip us)):Binds K fd ps []:=λs us _ hl=>by
 rw[abM] at hl ⊢;exact .of_eq (h us hl)
def Passes(CX:jj)(X:Cx)(E:XK):Prop:=∀(af:List (Addr×Obj)) (σ:St) (H:Hp) (s:Shared) (e:Value) (s':Shared),Inv X af σ H s->CX X.stack H s E e s'->X.xe e s'
section
variable{X:Cx}{CX:jj}{k:Nat}{f C:Addr}{fd:FuncData}{ps:List Str}{sp:Sp}{dQ:List V}{ds:List Value}{E:XK}{x m:Str}{p pos apos:Pos}{e o:Expr}{es:List Expr}{ta:TE}{t:TA}
variable{cm:Bool}
theorem HE(F:bN X.prog X.w X.K X.mg X.base CX k f fd ps sp cm)(hr:aZ k X.A cm)(hb:Binds X.K fd ps ds)(hd:aK dQ ds)(hx:Passes CX X E)
  (I:Inv X af σ H s) (r:aK vs us) (h:sp (vs++dQ) H Q E):wpAny (model X.prog X.w) X.A (call (.ref f) us) (EP X af σ Q) X.xe s:=by
 have r2:=r.append hd;have hl:(us++ds).length=ps.length:=by rw[<- r2.length];exact F.len _ _ _ _ h
 refine afi (aeV (F.run X.A X.stack s H ⟨us,[]⟩ (us++ds) (vs++dQ) Q E hr I.Hu (hb s us I.cV hl) r2 h) λr s' hq=>?_);cases r with
 |error e=>exact hx af σ H s e s' I hq
 |ok fl=>
  cases fl with
  |ret u=>exact I.after hq
  |next=>exact False.elim hq
  |brk=>exact False.elim hq
  |cont=>exact False.elim hq
theorem xx(F:bN X.prog X.w X.K X.mg X.base CX k f fd ps sp cm)(hr:aZ k X.A cm)(hg:Gl X x)(hm:X.mg x=some (.ref f))(hk:PySem.W.keepIn X.K (.ref f)=true)(hb:Binds X.K fd ps ds)(hd:aK dQ ds)(hx:Passes CX X E)
  (ha:PA X (e::es) t) (eT:(x==("__debug__":Str))=false:=by decide) (he:starEach (e::es) X.env=(false,eval e X.env)::starEach es X.env:=by rfl) (hpl:(backTo pos (starEach es X.env)).any (·.1)=false:=by rfl) :
  PE X (.Call (.Name x p) (e::es) [] pos) (Zf sp dQ E t):=by
 intro af s σ H Q I h;refine adR (qX I hg hm ?_ eT);refine PySem.W.callWith_K (h₀:=X.base) I.ok.mod.qz hk (aM (ha pos af s σ H _ I h) λus s1 ⟨vs,H1,I1,r,q⟩=>⟨I1.cV,?_⟩) he hpl;exact HE F hr hb hd hx I1 r q
theorem Af{pl:Sem Bool}(he:PE X o ta)(c:jY X.K C)(hm:j6 X.K C m f)(F:bN X.prog X.w X.K X.mg X.base CX k f fd ps sp cm)(hr:aZ k X.A cm)(hb:Binds X.K fd ps ds)(hd:aK dQ ds)(hx:Passes CX X E)(ha:PA X (e::es) t)
  (cN:starEach (e::es) X.env=(false,eval e X.env)::starEach es X.env:=by rfl) (hpl:(backTo pos (starEach es X.env)).any (·.1)=false:=by rfl)
  (ht:eval (.Call (.Attribute o m apos) (e::es) [] pos) X.env=(do
   let ov <- eval o X.env
   standAt apos.atName
   let(f,first) <- holding [ov] (getMethod ov m pl)
   callWith pos f first (backTo pos (starEach (e::es) X.env)) (backToKw pos (keywordEach [] X.env))):=by rfl) :
  PE X (.Call (.Attribute o m apos) (e::es) [] pos) (Ae C m sp dQ E ta t):=by
 intro af s σ H Q I h;refine PySem.W.methodCall_KW (pl:=pl) (aM (he af s σ H _ I h) λu s1 ⟨x,H1,I1,rx,a,dx,fs,ex,ea,l,q⟩=>?_) ht;subst ex;obtain rfl:u=Value.ref a:=rx;refine DY I1 ea c hm l ?_;refine PySem.W.callWith_K (first:=[.ref a]) (h₀:=X.base) I.ok.mod.qz hm.kp (aM (ha pos af s1 σ H1 _ I1 q) λus s2 ⟨vs,H2,I2,r,q2⟩=>⟨I2.cV,?_⟩) cN hpl;exact HE (us:=.ref a::us) (vs:=.ref a::vs) F hr hb hd hx I2 (.cons rfl r) q2
theorem MX{pl:Sem Bool}(he:PE X o ta)(c:jY X.K C)(hm:j6 X.K C m f)(F:bN X.prog X.w X.K X.mg X.base CX k f fd ps sp cm)(hr:aZ k X.A cm)(hb:Binds X.K fd ps ds)(hd:aK dQ ds)(hx:Passes CX X E)
  (ht:eval (.Call (.Attribute o m apos) [] [] pos) X.env=(do
   let ov <- eval o X.env
   standAt apos.atName
   let(f,first) <- holding [ov] (getMethod ov m pl)
   callWith pos f first (backTo pos (starEach [] X.env)) (backToKw pos (keywordEach [] X.env))):=by rfl) :
  PE X (.Call (.Attribute o m apos) [] [] pos) (Ae C m sp dQ E ta sG):=by
 intro af s σ H Q I h;refine PySem.W.methodCall_KW (pl:=pl) (aM (he af s σ H _ I h) λu s1 ⟨x,H1,I1,rx,a,dx,fs,ex,ea,l,q⟩=>?_) ht;subst ex;obtain rfl:u=Value.ref a:=rx;refine DY I1 ea c hm l ?_;exact PySem.W.callWith_K0 (first:=[.ref a]) I1.cV hm.kp (HE (us:=[.ref a]) (vs:=[.ref a]) F hr hb hd hx I1 (.cons rfl .nil) q)
structure Mk(K:PySem.W.Frag)(C f:Addr):Prop where
 makes:PySem.W.makesIn K C=true
 init:PySem.W.findIn K (.ref C) "__init__"=some (some (.ref f))
 fn:PySem.W.isFn K (.ref f)=true
 kp:PySem.W.keepIn K (.ref C)=true
theorem J_(M:Mk X.K C f)(F:bN X.prog X.w X.K X.mg X.base CX k f fd ps sp cm)(hr:aZ (k+1) X.A cm)(hb:Binds X.K fd ps ds)(hd:aK dQ ds)
  (hx:Passes CX X E) (I:Inv X af σ H s) (r:aK vs us)
  (h:∀x dx,H x=none->H dx=none->dx≠x->sp (.ref x::(vs++dQ)) (upd (upd H dx (.own x)) x (.ins C dx [])) (λv H2=>v=.aC/\Q (.ref x) H2) E) :
  wpAny (model X.prog X.w) X.A (call (.ref C) us) (EP X af σ Q) X.xe s:=by
 have hq:=h (s.heap.objs.size+1) s.heap.objs.size (I.aD.fresh (Nat.le_succ _)) (I.aD.fresh (abd _)) (abn (ae8 _));have I2:=Inv.made (C:=C) I;have r2:aK (V.ref (s.heap.objs.size+1)::(vs++dQ)) (Value.ref (s.heap.objs.size+1)::(us++ds)):=.cons rfl (r.append hd);have hl:(Value.ref (s.heap.objs.size+1)::us++ds).length=ps.length:=by
  have e:=r2.length;rw[F.len _ _ _ _ hq] at e;exact e.symm
 refine afi (Uv I.cV M.makes M.init (aed.mp M.fn) (aeV (F.run _ X.stack _ _ ⟨Value.ref (s.heap.objs.size + 1)::us,[]⟩ (Value.ref (s.heap.objs.size + 1)::(us++ds)) _ _ E (hr.make C us [])
  (I2.Hu.make C us []) (hb _ (Value.ref (s.heap.objs.size+1)::us) I2.cV hl) r2 hq) λr s' nK=>?_))
 cases r with
 |error e=>exact hx af σ _ _ e s' I2 nK
 |ok fl=>
  cases fl with
  |ret u=>
   obtain⟨v,H',I3,rv,ev,q3⟩:=I2.after nK;subst ev;exact⟨rv,⟨V.ref (s.heap.objs.size+1),H',I3,rfl,q3⟩⟩
  |next=>exact False.elim nK
  |brk=>exact False.elim nK
  |cont=>exact False.elim nK
theorem My(M:Mk X.K C f)(F:bN X.prog X.w X.K X.mg X.base CX k f fd ps sp cm)(hr:aZ (k+1) X.A cm)(hg:Gl X x)(hm:X.mg x=some (.ref C))(hb:Binds X.K fd ps ds)(hd:aK dQ ds)(hx:Passes CX X E)
  (ha:PA X (e::es) t) (eT:(x==("__debug__":Str))=false:=by decide) (he:starEach (e::es) X.env=(false,eval e X.env)::starEach es X.env:=by rfl) (hpl:(backTo pos (starEach es X.env)).any (·.1)=false:=by rfl) :
  PE X (.Call (.Name x p) (e::es) [] pos) (B6 C sp dQ E t):=by
 intro af s σ H Q I h;refine adR (qX I hg hm ?_ eT);refine PySem.W.callWith_K (h₀:=X.base) I.ok.mod.qz M.kp (aM (ha pos af s σ H _ I h) λus s1 ⟨vs,H1,I1,r,q⟩=>⟨I1.cV,?_⟩) he hpl;exact J_ M F hr hb hd hx I1 r q
theorem Ug(M:Mk X.K C f)(F:bN X.prog X.w X.K X.mg X.base CX k f fd ps sp cm)(hr:aZ (k+1) X.A cm)(hg:Gl X x)(hm:X.mg x=some (.ref C))(hb:Binds X.K fd ps ds)(hd:aK dQ ds)(hx:Passes CX X E)
  (eT:(x==("__debug__":Str))=false:=by decide):PE X (.Call (.Name x p) [] [] pos) (B6 C sp dQ E sG):=by
 intro af s σ H Q I h;refine adR (qX I hg hm ?_ eT);exact PySem.W.callWith_K0 I.cV M.kp (J_ (us:=[]) M F hr hb hd hx I .nil h)
end
structure mF(N P:List Str)(sc:Scope):Prop where
 kind:sc.kind=.function
 co:sc.isCoroutine=false
 gen:sc.isGenerator=false
 nd:N.Nodup
 pre:N.take P.length=P
 par:∀x∈P,sc.names.lookup x=some .local\/sc.names.lookup x=some .cell
 Y4:∀y∈sc.names,y.2≠.free
theorem Nl{kindOf:Str->Option NameKind}:∀{binds:List (Str×Value)}{m:Str->Option Value},(∀v,(x,v)∉binds)->bindL kindOf binds m x=m x
 |[],_,_=>rfl
 |(n,v)::r,m,h=>by
  unfold bindL;rw[Nl λw hw=>h w (aal _ hw)]
  split
  .have:x≠n:=by rintro rfl;exact h v aax
   simp[this]
  .rfl
theorem P7{kindOf:Str->Option NameKind}:∀{binds:List (Str×Value)}{m:Str->Option Value},(∀v,(x,v)∉binds)->bindC kindOf binds m x=m x
 |[],_,_=>rfl
 |(n,v)::r,m,h=>by
  unfold bindC;rw[P7 λw hw=>h w (aal _ hw)]
  split
  .rfl
  .have:x≠n:=by rintro rfl;exact h v aax
   simp[this]
theorem NH{kindOf:Str->Option NameKind}:∀{P:List Str}{vs:List Value}{i:Nat}{m:Str->Option Value},P.Nodup->P[i]? = some x->vs[i]? = some v->kindOf x=some .local->
  bindL kindOf (P.zip vs) m x=some v
 |[],_,_,_,_,h,_,_=>by simp at h
 |_::_,[],_,_,_,_,h,_=>by simp at h
 |p::P,w::vs,0,m,nd,h1,h2,hk=>by
  simp at h1 h2;subst h1;subst h2;show bindL kindOf ((p,w)::P.zip vs) m p=_;unfold bindL;rw[Nl λv hv=>(abu.mp nd).1 (List.of_mem_zip hv).1,if_pos hk];simp
 |p::P,w::vs,i+1,m,nd,h1,h2,hk=>by
  unfold bindL;exact NH (abu.mp nd).2 (by simpa using h1) (by simpa using h2) hk
theorem NP{kindOf:Str->Option NameKind}:∀{P:List Str}{vs:List Value}{i:Nat}{m:Str->Option Value},P.Nodup->P[i]? = some x->vs[i]? = some v->kindOf x≠some .local->
  bindC kindOf (P.zip vs) m x=some v
 |[],_,_,_,_,h,_,_=>by simp at h
 |_::_,[],_,_,_,_,h,_=>by simp at h
 |p::P,w::vs,0,m,nd,h1,h2,hk=>by
  simp at h1 h2;subst h1;subst h2;show bindC kindOf ((p,w)::P.zip vs) m p=_;unfold bindC;rw[P7 λv hv=>(abu.mp nd).1 (List.of_mem_zip hv).1,abf hk];simp
 |p::P,w::vs,i+1,m,nd,h1,h2,hk=>by
  unfold bindC;exact NP (abu.mp nd).2 (by simpa using h1) (by simpa using h2) hk
noncomputable def start(N:List Str)(vs:List V):St:=vs.map some++List.replicate (N.length-vs.length) none
noncomputable def e_(CX:jj)(P:Program)(w:World)(K:PySem.W.Frag)(mg:Str->Option Value)(base:Heap)(N:List Str)(qual:Str)(scope:Scope)(f:Addr)(cd:Value)(A:Around)(outer:List Env)(s:Shared)(H:Hp)(E:XK)(cm:Bool:=true):Cx where
 prog:=P
 w:=w
 K:=K
 mg:=mg
 base:=base
 A:=A.deeper (envOfC qual scope s.heap.objs.size f cd)
 N:=N
 cI:=s
 tY:=H
 env:=envOfC qual scope s.heap.objs.size f cd
 outer:=outer
 stack:=envOfC qual scope s.heap.objs.size f cd::outer
 ex:=[]
 calm:=cm
 fn:=λ_=>true
 pn:=[]
 xe:=λe s'=>wpAny (model P w) (A.deeper (envOfC qual scope s.heap.objs.size f cd)) (leaving (envOfC qual scope s.heap.objs.size f cd) e) (λ_ fL=>CX outer H s E e fL) (λe' fL=>CX outer H s E e' fL) s'
theorem OE{sc:Scope}{n:Nat}{x:Str}(h:sc.names.lookup x=some .cell):∃c,(cellsFrom n sc.names []).lookup x=some c:=by
 have q:=PySem.W.cellsFrom_some sc.names n [] (.inl h);exact aew.mp q
theorem RG{CX:jj}{P:Program}{w:World}{K:PySem.W.Frag}{mg:Str->Option Value}{base:Heap}{N ps:List Str}{qual:Str}{scope:Scope}{outer:List Env}
  (S:mF N ps scope) (hd:cm=true->A.handled=none) (e0:rE P w K mg base A outer s H) (hl:vs.length=ps.length) (r:aK vs us)
  (x:InCallC s s.heap.objs.size (bindL (envOfC qual scope s.heap.objs.size f cd).kindOf (ps.zip us) λ_=>none) (cellsFrom (s.heap.objs.size+1) scope.names []) (bindC (envOfC qual scope s.heap.objs.size f cd).kindOf (ps.zip us) λ_=>none) s1) :
  Inv (e_ CX P w K mg base N qual scope f cd A outer s H E cm) [] (start N vs) H s1:=by
 have hpl:ps.length<=N.length:=by have:=congrArg List.length S.pre;rw[adf] at this;omega
 obtain⟨h1,tk,rfl,hk⟩:=x.done;have sD:∀b:Addr,b∉(e_ CX P w K mg base N qual scope f cd A outer s H E cm).ex:=λb z=>absurd (show b∈([]:List Addr) from z) (by simp)
 refine⟨⟨e0.mod,S.kind,rfl,rfl,abd _,λy z c h1 h2=>?_,λy hy=>?_,λy c _ h=>?_,hd,Around.frames_deeper e0.frames,.inr ⟨rfl,rfl⟩,λb z=>absurd z (sD b),e0.bs,e0.iA,λb _ _=>sD b,λb z=>absurd z (sD b),e0.iO,e0.lN⟩,
  rfl,e0.bare,Un.kept hk,⟨_,x.toInCall.ns,λi y v h1 h2 h3=>?_⟩,λy c h=>⟨_,x.cell y c h⟩,e0.aD.fresh (abd _),λy c h=>?_,λp hp=>absurd (show p∈([]:List (Addr×Obj)) from hp) (by simp),e0.aD.kept hk,?_,⟨e0.hq.hd,e0.hq.ok,e0.hq.lm⟩⟩
 .exact name_of_addr x.apart (PySem.mem_of_lookup h1) (PySem.mem_of_lookup h2)
 .have hy:=hy;rcases hy with hy|hy
  .exact OE hy
  .exact absurd rfl (S.Y4 _ (PySem.mem_of_lookup hy))
 .exact ad3 (x.above y c (PySem.mem_of_lookup h))
 .have hi:i<vs.length:=by
   unfold start at h2
   by_cases hi:i<vs.length
   .exact hi
   .rw[aeD (by simpa using hi)] at h2;rw[List.getElem?_replicate] at h2
    split at h2<;>cases h2
  have ha:vs[i]? = some v:=by
   unfold start at h2;rw[aeo (by simpa using hi),abW] at h2;exists e,vs[i]?,a,h2;cases h2;rfl
  obtain⟨u,hu,rv⟩:=r.get ha;have hp:ps[i]? = some y:=by
   rw[<- S.pre,List.getElem?_take_of_lt (by omega)];exact h1
  have IP:ps.Nodup:=by rw[<- S.pre];exact S.nd.sublist (List.take_sublist _ _)
  refine⟨u,rv,?_⟩;rcases S.par y (List.mem_of_getElem? hp) with k|k
  .exact .inl ⟨k,NH IP hp hu k⟩
  .obtain⟨c,e⟩:=OE k;refine .inr ⟨.inl k,c,e,?_⟩;have q:=x.cell y c e;rw[NP IP hp hu (by show scope.names.lookup y≠_;rw[k];decide)] at q;exact q
 .exact e0.aD.fresh (ad3 (x.above y c (PySem.mem_of_lookup h)))
 .unfold start;show _=N.length;rw[abe,aaf,aeH];omega
theorem Ng{CX:jj}{P:Program}{w:World}{K:PySem.W.Frag}{mg:Str->Option Value}{base:Heap}{k:Nat}{f:Addr}{name qual:Str}{params:Arguments}{body:List Stmt}{scope:Scope}{dV kV doc pm aR ct oc:Value}{an od:Option Addr}
  {mG:Array (Option Value)}{N ps:List Str}{sp:Sp}{cm:Bool} (lk:K.lookup f=some ⟨oc,od,.func (PySem.W.fnOf name qual params body scope dV kV doc pm an aR ct),mG⟩) (gG:PySem.W.codeIn K aR qual=true) (S:mF N ps scope)
  (len:∀vs H Q E,sp vs H Q E->vs.length=ps.length)
  (yh:∀(A:Around) (outer:List Env) (s:Shared) (H:Hp) (vs:List V) (Q:VK) (E:XK),aZ k (A.deeper (envOfC qual scope s.heap.objs.size f aR)) cm->sp vs H Q E->
   ∃t,gC (e_ CX P w K mg base N qual scope f aR A outer s H E cm) body t/\t { nx:=λ_ H'=>Q .aC H',rt:=Q } (start N vs) H) :
  bN P w K mg base CX (k+1) f (PySem.W.fnOf name qual params body scope dV kV doc pm an aR ct) ps sp cm:=by
 refine⟨len,λA outer s H args us vs Q E hr e0 hb r pF=>?_⟩;have hl:=len _ _ _ _ pF;have KX:K.In s.heap:=e0.mod.qz.keeps λb o e=>(e0.bs b o e).1
 have lim:s.heap.NoLimit:=e0.mod.nolimit.keeps λb o e=>(e0.bs b o e).1
 have Yl:∀y∈ps.zip us,scope.names.lookup y.1=some .local\/(scope.names.lookup y.1=some .cell/\((cellsFrom (s.heap.objs.size+1) scope.names []).lookup y.1).isSome=true):=λ⟨n,v⟩ hy=>by
  rcases S.par n (List.of_mem_zip hy).1 with q|q
  .exact .inl q
  .exact .inr ⟨q,PySem.W.cellsFrom_some _ _ _ (.inl q)⟩
 refine codeAny_call_function hr.depth (KX _ _ lk) rfl S.co S.gen rfl (PySem.W.codeRec_of KX gG) (hb _ _ _ _ ?_);refine wpAny_newFunctionEnv_cells S.kind Yl λenv he s1 x=>?_
 subst he;refine⟨lim.keeps x.toInCall.keep,codeAny_func ?_⟩;obtain⟨t,ht,hq⟩:=yh A outer s H vs Q E (hr.deeper _) pF;have I:Inv (e_ CX P w K mg base N qual scope f aR A outer s H E cm) [] (start N vs) H s1:=RG S hr.hd e0 hl r x;refine acH (ht [] s1 (start N vs) H _ I hq) (λfl s' hs=>?_) λe s' hs=>hs
 have fin:∀{aB:St}{H':Hp}{v:V}{u:Value},Inv (e_ CX P w K mg base N qual scope f aR A outer s H E cm) [] aB H' s'->RelV v u->Q v H'->CE outer P w H s Q u s':=
  λ{aB H' v u} J rv q=>⟨v,H',J.os,J.bare,J.base,J.aD,rv,q⟩
 cases fl with
 |ret u=>
  obtain⟨v,aB,H',J,rv,q⟩:=hs;exact fin J rv q
 |next=>
  obtain⟨aB,H',J,q⟩:=hs;exact fin (v:=V.aC) (u:=Value.none) J rfl q
 |brk=>
  obtain⟨_,_,_,q⟩:=hs;exact False.elim q
 |cont=>
  obtain⟨_,_,_,q⟩:=hs;exact False.elim q
section
variable{X:Cx}{x:Str}{p pos:Pos}{e:Expr}{es:List Expr}{t:TA}{id T:String}{r:List V->Hp->VK->Prop}
def CD(r:List V->Hp->VK->Prop)(t:TA):TE:=λσ H Q=>t σ H λvs H1=>r vs H1 Q
theorem mY(hc:eX X (.builtin id) r)(hg:Gl X x)(hm:X.mg x=none)(hv:bootBuiltins x=some (.builtin id))(ha:PA X (e::es) t)(hn:x≠"__name__":=by decide)(eT:(x==("__debug__":Str))=false:=by decide)
  (he:starEach (e::es) X.env=(false,eval e X.env)::starEach es X.env:=by rfl) (hpl:(backTo pos (starEach es X.env)).any (·.1)=false:=by rfl):PE X (.Call (.Name x p) (e::es) [] pos) (CD r t):=by
 intro af s σ H Q I h;refine adR (lJ I hg hm hv ?_ hn eT);exact PyProof.Rows.callWith_builtin1 (aM (ha pos af s σ H _ I h) λus s1 ⟨vs,H1,I1,r1,q1⟩=>hc af s1 σ H1 vs us Q I1 r1 q1) he hpl
theorem ym(hc:eX X (.type T) r)(hg:Gl X x)(hm:X.mg x=none)(hv:bootBuiltins x=some (.type T))(ha:PA X (e::es) t)(hn:x≠"__name__":=by decide)(eT:(x==("__debug__":Str))=false:=by decide)
  (he:starEach (e::es) X.env=(false,eval e X.env)::starEach es X.env:=by rfl) (hpl:(backTo pos (starEach es X.env)).any (·.1)=false:=by rfl):PE X (.Call (.Name x p) (e::es) [] pos) (CD r t):=by
 intro af s σ H Q I h;refine adR (lJ I hg hm hv ?_ hn eT);exact adm (aM (ha pos af s σ H _ I h) λus s1 ⟨vs,H1,I1,r1,q1⟩=>hc af s1 σ H1 vs us Q I1 r1 q1) he hpl
end
end L2
namespace HT
open PySem PyProof.Rows
section
variable{prog:Program}{w:World}{A:Around}{E:Value->Shared->Prop}{s:Shared}
noncomputable def fT(n d:Nat):Option Int->Nat
 |none=>d
 |some v=>if v<0 then(v+(n:Int)).toNat else min v.toNat n
theorem An(n d:Nat):fT n d none=d:=rfl
theorem ze(n d k:Nat):fT n d (some (k:Int))=min k n:=by
 show(if(k:Int)<0 then((k:Int)+(n:Int)).toNat else min (k:Int).toNat n)=min k n;rw[abf (by omega),afj]
end
end HT
namespace L2
open PySem PySem.Spec PyProof.Rows
abbrev TO:=St->Hp->(Option Int->Hp->Prop)->Prop
def PO(X:Cx)(e:Option Expr)(t:TO):Prop:=
 ∀(af:List (Addr×Obj)) (s:Shared) (σ:St) (H:Hp) (Q:Option Int->Hp->Prop),Inv X af σ H s->t σ H Q->
  wpAny (model X.prog X.w) X.A (evalPart e X.env) (λu s'=>∃o H',Inv X af σ H' s'/\IsPart u o/\Q o H') X.xe s
noncomputable def abO:TO:=λ_ H Q=>Q none H
noncomputable def acp(t:TE):TO:=λσ H Q=>t σ H λx H1=>∃i,x=.int i/\Q (some i) H1
theorem intsAre_of:∀{us:List Value},aK (ns.map V.int) us->IntsAre us ns:=by
 induction ns with
 |nil=>intro us r;rw[afm] at r;cases r;exact .nil
 |cons n ns ih=>
  intro us r;rw[aaF] at r;cases r with
  |cons r1 r2=>
   obtain⟨t,e⟩:=r1;subst e;exact .cons n t (ih r2)
section
variable{X:Cx}{e:Expr}{te:TE}{lo hi:Option Expr}{tl th:TO}{pos p2:Pos}
theorem BX:PO X none abO:=by
 intro af s σ H Q I h;rw[evalPart_none];exact abg ⟨none,H,I,.none,h⟩
theorem FF(h:PE X e te):PO X (some e) (acp te):=by
 intro af s σ H Q I hw;rw[evalPart_some];refine aM (h af s σ H _ I hw) λu s1 ⟨x,H1,I1,r1,q1⟩=>?_
 obtain⟨i,rfl,q⟩:=q1;obtain⟨t,rfl⟩:=r1;exact⟨some i,H1,I1,.int i t,q⟩
def MC(X:Cx)(r:V->Option Int->Option Int->Hp->VK->Prop):Prop:=
 ∀(af:List (Addr×Obj)) (s:Shared) (σ:St) (H:Hp) (x:V) (v vl vu:Value) (lo hi:Option Int) (sl:Addr) (Q:VK),Inv X af σ H s->RelV x v->s.heap.IsSliceOf sl vl vu .none->IsPart vl lo->IsPart vu hi->r x lo hi H Q->
  ∃T id,typeLookup (.type T) "__getitem__"=pure (some (.builtin id))/\s.TypeIs v T/\wpAny (model X.prog X.w) X.A (getItem v (.ref sl)) (EP X af σ Q) X.xe s
def VP(r:V->Option Int->Option Int->Hp->VK->Prop)(te:TE)(tl th:TO):TE:=λσ H Q=>te σ H λx H1=>tl σ H1 λl H2=>th σ H2 λu H3=>r x l u H3 Q
theorem E8{r:V->Option Int->Option Int->Hp->VK->Prop}(hr:MC X r)(he:PE X e te)(hl:PO X lo tl)(hu:PO X hi th):PE X (.Subscript e (.Slice lo hi none p2) pos) (VP r te tl th):=by
 intro af s σ H Q I h;refine Subscript_ (aM (he af s σ H _ I h) λv s1 ⟨x,H1,I1,r1,q1⟩=>?_);refine wpAny_Slice (aM (hl af s1 σ H1 _ I1 q1) λvl s2 ⟨l,H2,I2,pl,q2⟩=>aM (hu af s2 σ H2 _ I2 q2) λvu s3 ⟨u,H3,I3,pu,q3⟩=>?_);rw[evalPart_none];refine abg ?_;have I4:Inv X af σ H3 { s3 with heap:=s3.heap.push { cls:=.type "slice",data:=.fields #[vl,vu,.none] } }:=I3.kept λb ob q=>aab _ q
 obtain⟨T,id,hT,ht,hg⟩:=hr af { s3 with heap:=s3.heap.push { cls:=.type "slice",data:=.fields #[vl,vu,.none] } } σ H3 x v vl vu l u s3.heap.objs.size Q I4 r1 (Heap.IsSliceOf.new ..) pl pu q3;exact tail_any (ops:=[.ref s3.heap.objs.size,v]) ht hT hg (by with_unfolding_all rfl)
def kg(xs:List V)(lo hi:Option Int):List V:=(xs.drop (HT.fT xs.length 0 lo)).take (HT.fT xs.length xs.length hi-HT.fT xs.length 0 lo)
theorem aad(xs:List V)(lo hi:Option Int):(kg xs lo hi).length<=xs.length:=by
 unfold kg;rw[adf,List.length_drop];omega
end
noncomputable def iw(n:Nat)(i:Int):Option Nat:=if 0<=i then(if i<n then some i.toNat else none) else if -(n:Int)<=i then some (i+n).toNat else none
def cP{α:Type}(xs:List α)(i:Int):Option α:=(iw xs.length i).bind λj=>xs[j]?
theorem LH(h:iw n i=some j):seqIndex? i n=some j/\j<n/\-(n:Int)<=i/\i<n:=by
 unfold iw at h
 by_cases h0:0<=i
 .rw[if_pos h0] at h;obtain⟨h1,h⟩:=ci h;have e:=abi h;exact⟨by rw[seqIndex_of h0 h1,e],by omega,by omega,h1⟩
 .rw[abf h0] at h;obtain⟨h1,h⟩:=ci h;have e:=abi h;exact⟨by rw[seqIndex_neg (by omega) h1,e],by omega,h1,by omega⟩
theorem E2{α:Type}{xs:List α}{v:α}(h:cP xs i=some v):∃j,seqIndex? i xs.length=some j/\xs[j]? = some v/\j<xs.length/\-(xs.length:Int)<=i/\i<xs.length:=by
 unfold cP at h;exists e,iw xs.length i,j,h;obtain⟨h1,h2,h3,h4⟩:=LH e;exact⟨j,h1,h,h2,h3,h4⟩
def zH(b:Expr):Prop:=∀o i,subscripted b false o i=operate [o,i] (getItem o i)
def oi(X:Cx)(r:R2):Prop:=
 ∀(value slice:Expr) (af:List (Addr×Obj)) (s:Shared) (σ:St) (H:Hp) (x y:V) (v u:Value) (Q:VK),Inv X af σ H s->RelV x v->RelV y u->r x y H Q->
  subscripted slice false v u=operate [v,u] (getItem v u)->wpAny (model X.prog X.w) X.A (subscriptTail value slice v u) (EP X af σ Q) X.xe s
def xw(X:Cx)(id:String)(r:V->List V->Hp->VK->Prop):Prop:=
 ∀(af:List (Addr×Obj)) (s:Shared) (σ:St) (H:Hp) (x:V) (xs:List V) (v:Value) (us:List Value) (Q:VK),Inv X af σ H s->RelV x v->aK xs us->r x xs H Q->
  wpAny (model X.prog X.w) X.A (call (.builtin id) (v::us)) (EP X af σ Q) X.xe s
section
variable{X:Cx}{a b:Expr}{ta tb:TE}{pos:Pos}
theorem oi.or{r r':R2}(h:oi X r)(h':oi X r'):oi X (λx y H Q=>r x y H Q\/r' x y H Q):=by
 intro value slice af s σ H x y v u Q I rx ry q hs;rcases q with q|q
 .exact h value slice af s σ H x y v u Q I rx ry q hs
 .exact h' value slice af s σ H x y v u Q I rx ry q hs
theorem G_{r:R2}(hr:oi X r)(ha:PE X a ta)(hb:PE X b tb)(hs:zH b):PE X (.Subscript a b pos) (sA r ta tb):=by
 intro af s σ H Q I h;exact Subscript_ (Fl ha hb I h λv u s2 x y H2 I2 rx ry q=>hr a b af s2 σ H2 x y v u Q I2 rx ry q (hs _ _))
def CH(K:PySem.W.Frag):R2:=λx y H Q=>∃p xs i v,x=.ref p/\y=.int i/\bS K H p xs/\cP xs i=some v/\Q v H
def Cr(K:PySem.W.Frag):R2:=λx y H Q=>∃p xs i v,x=.ref p/\y=.int i/\cg K H p xs/\cP xs i=some v/\Q v H
def Cu:R2:=λx y H Q=>∃z i c,x=.str z/\y=.int i/\z.length<=sizeLine/\cP z.cps.toList i=some c/\Q (.str ⟨#[c]⟩) H
theorem abJ:oi X (CH X.K):=by
 intro value slice af s σ H x y v u Q I rx ry h hs;obtain⟨p,xs,i,z,rfl,rfl,hq,he,q⟩:=h;cases rx;obtain⟨t,rfl⟩:=ry;obtain⟨ao,r,pl,hz⟩:=I.list hq;obtain⟨j,h1,h2,h3,h4,h5⟩:=E2 he;obtain⟨w,ew,dM⟩:=r.get h2;have hl:=r.length;have hn:=s_;have fin:EP X af σ Q w s:=⟨z,H,I,dM,q⟩
 by_cases h0:0<=i
 .have hj:i.toNat=j:=by
   rw[seqIndex_of h0 h5] at h1;exact abi h1
  exact item_listR pl.isList h0 (by omega) (by rw[hj];simpa using ew) fin hs
 .have hj:(i+(ao.toArray.size:Int)).toNat=j:=by
   rw[seqIndex_neg (by omega) h4] at h1;rw[aba,<- hl];exact abi h1
  exact subscriptTail_builtinR pl.isList.typeIs slot_list_getitem.lookup
   (wpAny_getItem_list_neg pl.isList (by omega) (by rw[aba]<;>omega) (by omega) (by rw[hj];simpa using ew) ⟨rfl,fin⟩) hs
theorem UM:oi X (Cr X.K):=by
 intro value slice af s σ H x y v u Q I rx ry h hs;obtain⟨p,xs,i,z,rfl,rfl,hq,he,q⟩:=h;cases rx;obtain⟨t,rfl⟩:=ry;obtain⟨ao,r,pl,hz⟩:=I.tuple hq;obtain⟨j,h1,h2,h3,h4,h5⟩:=E2 he;obtain⟨w,ew,dM⟩:=r.get h2;have hl:=r.length;have hn:=s_;have fin:EP X af σ Q w s:=⟨z,H,I,dM,q⟩
 exact subscriptTail_builtinR pl.typeIs slot_tuple_getitem.lookup
  (getItem_tuple pl (by omega) (by omega) (by rw[aba,<- hl];exact h1) (by simpa using ew) ⟨rfl,fin⟩) hs
theorem Tv:oi X Cu:=by
 intro value slice af s σ H x y v u Q I rx ry h hs;obtain⟨z,i,c,rfl,rfl,hz,he,q⟩:=h;obtain⟨t,rfl⟩:=rx;obtain⟨t',rfl⟩:=ry;obtain⟨j,h1,h2,h3,h4,h5⟩:=E2 he;have hl:z.cps.toList.length=z.length:=by simp[Str.length]
 rw[hl] at h1 h4 h5;have hn:=s_;exact tail_any (typeIs_str s z t) slot_str_getitem.lookup (getItem_str (by
  have e1:decide (i < -(2 ^ 63:Int))=false:=abo (by omega);have e2:decide (i >= 2 ^ 63)=false:=abo (by omega);rw[e1,e2,Bool.or_false]) (by rw[h1];simpa using h2) ⟨.str ⟨#[c]⟩,H,I.tok _,⟨_,rfl⟩,q⟩) hs
def Wp(K:PySem.W.Frag):R2:=λx y H Q=>CH K x y H Q\/Cr K x y H Q\/Cu x y H Q
theorem BO:oi X (Wp X.K):=abJ.or (UM.or Tv)
theorem Ur(ao:List Value)(n j:Nat)(u:Value):Obj.mapSeq (·.setIfInBounds j u) { cls:=.type "list",data:=.seq ao.toArray n }={ cls:=.type "list",data:=.seq (ao.set j u).toArray n }:=by
 simp[Obj.mapSeq]
theorem Inv.lst{af:List (Addr×Obj)}{σ:St}{H:Hp}{s:Shared}{p:Addr}{xs:List V}(I:Inv X af σ H s)(h:H p=some (.lst xs)):
  ∃(ao:List Value) (n:Nat),aK xs ao/\s.heap.get? p=some { cls:=.type "list",data:=.seq ao.toArray n }/\xs.length<=sizeLine:=by
 obtain⟨z,ao,n,r,e⟩:=I.aD p _ h;exact⟨ao,n,r,e,z⟩
theorem Inv.abk{af:List (Addr×Obj)}{σ:St}{H:Hp}{s:Shared}{p:Addr}{xs ys:List V}{ao its':List Value}{n n':Nat}{f:Obj->Obj}(I:Inv X af σ H s)(h:H p=some (.lst xs))
  (ho:s.heap.get? p=some { cls:=.type "list",data:=.seq ao.toArray n }) (hf:f { cls:=.type "list",data:=.seq ao.toArray n }={ cls:=.type "list",data:=.seq its'.toArray n' }) (r:aK ys its') (hz:ys.length<=sizeLine) (t:Nat) :
  Inv X af σ (upd H p (.lst ys)) { s with heap:=s.heap.update p f,toks:=t }:=by
 have e:(s.heap.update p f).get? p=some { cls:=.type "list",data:=.seq its'.toArray n' }:=by
  rw[aeF f ho (by rw[hf]<;>rfl),hf]
 refine I.write (by rw[h];trivial) (.inl rfl) (λb u hb q=>(ad8 _ _ (aez hb)).trans q) ⟨_,e⟩ ?_;exact⟨hz,its',n',r,e⟩
def acJ:V->V->V->Hp->(Hp->Prop)->Prop:=λo i v H Q=>∃p xs k j,o=.ref p/\i=.int k/\H p=some (.lst xs)/\iw xs.length k=some j/\Q (upd H p (.lst (xs.set j v)))
theorem set_list:Kc X acJ:=by
 intro af s σ H o i v ov iv u Q I ro ri rv h;obtain⟨p,xs,k,j,rfl,rfl,hp,hj,q⟩:=h;cases ro;obtain⟨t,rfl⟩:=ri;obtain⟨ao,n,r,ho,hz⟩:=I.lst hp;obtain⟨h1,h2,h3,h4⟩:=LH hj;have hl:=r.length;have hn:=s_;have I':Inv X af σ (upd H p (.lst (xs.set j v))) { s with heap:=s.heap.update p (Obj.mapSeq (·.setIfInBounds j u)) }:=
  I.abk hp ho (Ur ao n j u) (r.set rv j) (by rw[aet];exact hz) s.toks
 by_cases h0:0<=k
 .have hk:k.toNat=j:=by
   rw[seqIndex_of h0 h4] at h1;exact abi h1
  exact PySem.W.ki_setAt ho h0 (by omega) (by rw[aba,<- hl];exact h4) (by rw[hk];exact⟨_,I',q⟩)
 .have hk:(k+(ao.toArray.size:Int)).toNat=j:=by
   rw[seqIndex_neg (by omega) h3] at h1;rw[aba,<- hl];exact abi h1
  exact PySem.W.ki_setBack ho (by omega) (by rw[aba,<- hl];exact h3) (by omega) (by rw[hk];exact⟨_,I',q⟩)
theorem QW(lo hi:Option Int)(n:Nat):(sliceBounds lo hi none n).1=((HT.fT n 0 lo:Nat):Int)/\(sliceBounds lo hi none n).2.1=((HT.fT n n hi:Nat):Int)/\(sliceBounds lo hi none n).2.2=1:=by
 refine⟨?_,?_,rfl⟩
 .cases lo with
  |none=>simp[sliceBounds,HT.fT]
  |some i=>
   simp only[sliceBounds,HT.fT,Option.getD_none,show(1:Int) > 0 by decide,if_true]
   by_cases h:i<0
   .simp only[h,if_true]<;>omega
   .simp only[h,if_false]<;>omega
 .cases hi with
  |none=>simp[sliceBounds,HT.fT]
  |some i=>
   simp only[sliceBounds,HT.fT,Option.getD_none,show(1:Int) > 0 by decide,if_true]
   by_cases h:i<0
   .simp only[h,if_true]<;>omega
   .simp only[h,if_false]<;>omega
theorem abZ(ao:List Value)(lo hi:Option Int):slicePick ao.toArray lo hi none=((ao.drop (HT.fT ao.length 0 lo)).take (HT.fT ao.length ao.length hi-HT.fT ao.length 0 lo)).toArray:=by
 obtain⟨h1,h2,h3⟩:=QW lo hi ao.toArray.size;unfold slicePick;rw[h1,h2,h3];simp only[sliceRange_one,pick_run,aba]<;>rfl
def PF(K:PySem.W.Frag):V->Option Int->Option Int->Hp->VK->Prop:=λx lo hi H Q=>∃a xs,x=.ref a/\bS K H a xs/\∀p,H p=none->Q (.ref p) (upd H p (.lst (kg xs lo hi)))
theorem EZ:MC X (PF X.K):=by
 intro af s σ H x v vl vu lo hi sl Q I rx hs pl pu h;obtain⟨a,xs,rfl,hx,q⟩:=h;cases rx;obtain⟨ao,r,ht,hz⟩:=I.list hx;have hlen:=r.length;refine⟨"list",_,slot_list_getitem.lookup,ht.isList.typeIs,?_⟩;refine wpAny_getItem_list_slice ht.isList hs pl pu .none (by simp) ?_ (by rw[aba]<;>omega);rw[abZ,<- hlen];refine⟨.ref s.heap.objs.size,_,I.laid (λb ob q=>aab _ q) (abd _) ?_,rfl,q _ (I.aD.fresh (abd _))⟩;exact⟨aer (aad xs lo hi) hz,_,0,(r.drop (HT.fT xs.length 0 lo)).take (HT.fT xs.length xs.length hi-HT.fT xs.length 0 lo),aa6 _ rfl⟩
noncomputable def mj:V->Bool
 |.aC=>true
 |.bl _=>true
 |.int _=>true
 |.str _=>true
 |_=>false
noncomputable def pS:V->V->Bool
 |.aC,.aC=>true
 |.bl a,.bl b=>a==b
 |.bl a,.int b=>(if a then 1 else 0)==b
 |.int a,.bl b=>a==(if b then 1 else 0)
 |.int a,.int b=>a==b
 |.str a,.str b=>a==b
 |_,_=>false
theorem Xi(ry:RelV y u)(rx:RelV x v)(fy:mj y=true)(fx:mj x=true):SeqAt.EqAt A s u v (pS y x):=by
 cases y with
 |aC=>
  cases ry;cases x with
  |aC=>cases rx;exact SeqAt.EqAt.same _
  |bl b=>cases rx;exact SeqAt.EqAt.none_bool b
  |int b=>obtain⟨t,rfl⟩:=rx;exact SeqAt.EqAt.none_int b t
  |str b=>obtain⟨t,rfl⟩:=rx;exact SeqAt.EqAt.none_str b t
  |_=>exact absurd (show false=true from fx) aaN
 |bl a=>
  cases ry;cases x with
  |aC=>cases rx;exact SeqAt.EqAt.bool_none a
  |bl b=>cases rx;exact SeqAt.EqAt.bool_bool a b
  |int b=>obtain⟨t,rfl⟩:=rx;exact SeqAt.EqAt.bool_int a b t
  |str b=>obtain⟨t,rfl⟩:=rx;exact SeqAt.EqAt.bool_str a b t
  |_=>exact absurd (show false=true from fx) aaN
 |int a=>
  obtain⟨t',rfl⟩:=ry;cases x with
  |aC=>cases rx;exact SeqAt.EqAt.int_none a t'
  |bl b=>cases rx;exact SeqAt.EqAt.int_bool a t' b
  |int b=>obtain⟨t,rfl⟩:=rx;exact SeqAt.EqAt.int_int a t' b t
  |str b=>obtain⟨t,rfl⟩:=rx;exact SeqAt.EqAt.int_str a t' b t
  |_=>exact absurd (show false=true from fx) aaN
 |str a=>
  obtain⟨t',rfl⟩:=ry;cases x with
  |aC=>cases rx;exact SeqAt.EqAt.str_none a t'
  |bl b=>cases rx;exact SeqAt.EqAt.str_bool a t' b
  |int b=>obtain⟨t,rfl⟩:=rx;exact SeqAt.EqAt.str_int a t' b t
  |str b=>obtain⟨t,rfl⟩:=rx;exact SeqAt.EqAt.str_str a t' b t
  |_=>exact absurd (show false=true from fx) aaN
 |_=>exact absurd (show false=true from fy) aaN
def gu(x:V)(u:Value):Bool:=match u with
 |.none=>pS .aC x
 |.bool b=>pS (.bl b) x
 |.int i _=>pS (.int i) x
 |.str z _=>pS (.str z) x
 |_=>false
theorem Jb(r:RelV y u)(f:mj y=true):gu x u=pS y x:=by
 cases y with
 |aC=>cases r;rfl
 |bl b=>cases r;rfl
 |int i=>obtain⟨t,rfl⟩:=r;rfl
 |str z=>obtain⟨t,rfl⟩:=r;rfl
 |_=>exact absurd (show false=true from f) aaN
theorem yk:∀{xs:List V}{us:List Value},aK xs us->xs.all mj=true->us.any (gu x)=xs.any λy=>pS y x
 |_,_,.nil,_=>rfl
 |y::xs,u::us,.cons r t,f=>by
  rw[List.all_cons,aaL] at f;rw[afd,afd,Jb r f.1,yk t f.2]
theorem qL(rx:RelV x v)(fx:mj x=true):∀{xs:List V}{us:List Value},aK xs us->xs.all mj=true->∀u∈us,SeqAt.EqAt A s u v (gu x u)
 |_,_,.nil,_=>λu hu=>by cases hu
 |y::xs,u::us,.cons r t,f=>λu' hu=>by
  rw[List.all_cons,aaL] at f;rcases aaM.mp hu with rfl|hu
  .rw[Jb r f.1];exact Xi r rx f.1 fx
  .exact qL rx fx t f.2 u' hu
def sL(x:V)(xs:List V):Bool:=xs.any λy=>pS y x
def AQ(K:PySem.W.Frag)(neg:Bool):R2:=λx y H Q=>∃p xs,y=.ref p/\(bS K H p xs\/cg K H p xs)/\mj x=true/\xs.all mj=true/\Q (.bl (if neg then !sL x xs else sL x xs)) H
theorem JP:cY X (compareOp .In) (AQ X.K false):=by
 intro af s σ H x y v u Q I rx ry h;obtain⟨p,xs,rfl,hq,fx,fs,q⟩:=h;cases ry;rcases hq with hq|hq
 .obtain⟨ao,r,pl,hz⟩:=I.list hq;refine SeqAt.in_listAt (gu x) pl.isList (λw hw=>qL rx fx r fs w (by simpa using hw)) ⟨.bl _,H,I,rfl,?_⟩;rw[show ao.toArray.any (gu x)=ao.any (gu x) by simp,yk r fs];exact q
 .obtain⟨ao,r,pl,hz⟩:=I.tuple hq;refine SeqAt.in_tupleAt (gu x) pl (λw hw=>qL rx fx r fs w (by simpa using hw)) ⟨.bl _,H,I,rfl,?_⟩;rw[show ao.toArray.any (gu x)=ao.any (gu x) by simp,yk r fs];exact q
theorem BJ:cY X (compareOp .NotIn) (AQ X.K true):=by
 intro af s σ H x y v u Q I rx ry h;obtain⟨p,xs,rfl,hq,fx,fs,q⟩:=h;cases ry;rcases hq with hq|hq
 .obtain⟨ao,r,pl,hz⟩:=I.list hq;refine SeqAt.notIn_listAt (gu x) pl.isList (λw hw=>qL rx fx r fs w (by simpa using hw)) ⟨.bl _,H,I,rfl,?_⟩;rw[show ao.toArray.any (gu x)=ao.any (gu x) by simp,yk r fs];exact q
 .obtain⟨ao,r,pl,hz⟩:=I.tuple hq;refine SeqAt.notIn_tupleAt (gu x) pl (λw hw=>qL rx fx r fs w (by simpa using hw)) ⟨.bl _,H,I,rfl,?_⟩;rw[show ao.toArray.any (gu x)=ao.any (gu x) by simp,yk r fs];exact q
theorem ZA:eX X (.builtin "len") (λxs H Q=>∃p ys,xs=[.ref p]/\(bS X.K H p ys\/cg X.K H p ys)/\Q (.int ys.length) H):=by
 intro af s σ H xs us Q I r h;obtain⟨p,ys,rfl,hq,q⟩:=h;obtain⟨u,rfl,rx⟩:=vals1 r;cases rx;have hn:=s_;rcases hq with hq|hq
 .obtain⟨ao,r',pl,hz⟩:=I.list hq;have hlen:=r'.length;exact Calls.call_len_list pl.isList (by simp only[aba]<;>omega) ⟨.int ys.length,H,I.tok _,⟨s.toks+1,by rw[aba,hlen]⟩,q⟩
 .obtain⟨ao,r',pl,hz⟩:=I.tuple hq;have hlen:=r'.length;exact len_tuple pl (by simp only[aba]<;>omega) ⟨.int ys.length,H,I.tok _,⟨s.toks+1,by rw[aba,hlen]⟩,q⟩
theorem VU:eX X (.type "list") (λxs H Q=>∃p ys,xs=[.ref p]/\(bS X.K H p ys\/cg X.K H p ys)/\∀l,H l=none->Q (.ref l) (upd H l (.lst ys))):=by
 intro af s σ H xs us Q I r h;obtain⟨p,ys,rfl,hq,q⟩:=h;obtain⟨u,rfl,rx⟩:=vals1 r;cases rx;have fin:∀(ao:List Value),aK ys ao->ys.length<=sizeLine->∀(h':Heap) (c':Nat),(∀b o',s.heap.get? b=some o'->h'.get? b=some o')->
   h'.get? s.heap.objs.size=some { cls:=.type "list",dict:=none,data:=.seq ao.toArray c',slots:=#[] }->EP X af σ Q (.ref s.heap.objs.size) { s with heap:=h' }:=λao r' hz h' c' kp e=>
  ⟨.ref s.heap.objs.size,_,I.laid kp (abd _) (show cU X.prog X.w _ h' _ (.lst ys) from⟨hz,ao,c',r',e⟩),rfl,q _ (I.aD.fresh (abd _))⟩
 rcases hq with hq|hq
 .obtain⟨ao,r',pl,hz⟩:=I.list hq;have hlen:=r'.length;obtain⟨o,ho,hc,n,hd⟩:=pl.isList;exact call_list_seq p (.inl rfl) ho hc hd (λh' c' kp e=>fin ao r' hz h' c' kp e) (by simp only[aba]<;>omega)
 .obtain⟨ao,r',pl,hz⟩:=I.tuple hq;have hlen:=r'.length;obtain⟨o,ho,hc,n,hd⟩:=pl;exact call_list_seq p (.inr rfl) ho hc hd (λh' c' kp e=>fin ao r' hz h' c' kp e) (by simp only[aba]<;>omega)
theorem Zr:eX X (.type "tuple") (λxs H Q=>∃p ys,xs=[.ref p]/\((bS X.K H p ys/\∀l,H l=none->Q (.ref l) (upd H l (.tup ys)))\/(cg X.K H p ys/\Q (.ref p) H))):=by
 intro af s σ H xs us Q I r h;obtain⟨p,ys,rfl,h⟩:=h;obtain⟨u,rfl,rx⟩:=vals1 r;cases rx;rcases h with⟨hq,q⟩|⟨hq,q⟩
 .obtain⟨ao,r',pl,hz⟩:=I.list hq;have hlen:=r'.length;refine call_tuple_list pl.isList (λh' kp=>?_) (by simp only[aba]<;>omega);have I1:=I.kept (t':=s.toks) kp;have I2:Inv X af σ (upd H h'.objs.size (.tup ys)) { s with heap:=h'.push { cls:=.type "tuple",data:=.seq ao.toArray } }:=
   I1.laid (λb o e=>aab _ e) (abd _) (show cU X.prog X.w _ _ _ (.tup ys) from⟨hz,ao,r',lF.new _ _⟩)
  exact⟨.ref h'.objs.size,_,I2,rfl,q _ (I1.aD.fresh (abd _))⟩
 .obtain⟨ao,r',pl,hz⟩:=I.tuple hq;exact call_tuple_same pl ⟨.ref p,H,I,rfl,q⟩
def Ci(K:PySem.W.Frag)(T:String)(x:V)(H:Hp):Prop:=match x with
 |.str _=>T="str"
 |.int _=>T="int"
 |.ref p=>(T="list"/\∃xs,bS K H p xs)\/(T="tuple"/\∃o,K.lookup p=some o/\o.cls=.type "tuple"/\o.dict=none)\/
   (T="dict"/\((∃aj,H p=some (.dK aj))\/∃aj,H p=some (.dT aj)))\/(T="set"/\∃S n,H p=some (.set S n))
 |_=>False
theorem I_{T:String}(I:Inv X af σ H s)(r:RelV x v)(ty:Ci X.K T x H):
  s.TypeIs v T/\∀a,v=.ref a->∃ob,s.heap.get? a=some ob/\ob.dict=none:=by
 cases x with
 |str z=>
  obtain⟨t,rfl⟩:=r;cases(show T="str" from ty);exact⟨typeIs_str s z t,λ_ e=>nomatch e⟩
 |int i=>
  obtain⟨t,rfl⟩:=r;cases(show T="int" from ty);exact⟨typeIs_int s i t,λ_ e=>nomatch e⟩
 |ref p=>
  cases r;rcases ty with⟨rfl,xs,hq⟩|⟨rfl,o,hk,hc,hd⟩|⟨rfl,hk⟩|⟨rfl,S,n,hk⟩
  .obtain⟨ao,_,pl,_⟩:=I.list hq;refine⟨pl.isList.typeIs,λa e=>?_⟩;cases e;obtain⟨o,n,e,c,hd,_⟩:=pl;exact⟨o,e,hd⟩
  .refine⟨⟨o,I.cV p o hk,hc⟩,λa e=>?_⟩;cases e;exact⟨o,I.cV _ o hk,hd⟩
  .have z:∃o,s.heap.get? p=some o/\o.ExactDict:=by
    rcases hk with⟨aj,hk⟩|⟨aj,hk⟩
    .obtain⟨_,_,_,_,o,_,_,e,ex,_⟩:=I.aD p _ hk;exact⟨o,e,ex⟩
    .obtain⟨_,_,_,_,o,_,_,e,ex,_⟩:=I.aD p _ hk;exact⟨o,e,ex⟩
   obtain⟨o,e,ex⟩:=z;refine⟨⟨o,e,ex.1⟩,λa e2=>?_⟩;cases e2;exact⟨o,e,ex.2.1⟩
  .obtain⟨o,_,_,_,e,ex,_⟩:=I.aD p _ hk;refine⟨⟨o,e,ex.1⟩,λa e2=>?_⟩;cases e2;exact⟨o,e,ex.2.1⟩
 |_=>exact False.elim ty
def LK(K:PySem.W.Frag)(T:String)(r:V->List V->Hp->VK->Prop)(to:TE):TE:=λσ H Q=>to σ H λx H1=>Ci K T x H1/\r x [] H1 Q
def Te(K:PySem.W.Frag)(T:String)(r:V->List V->Hp->VK->Prop)(to:TE)(t:TA):TE:=λσ H Q=>to σ H λx H1=>Ci K T x H1/\t σ H1 λxs H2=>r x xs H2 Q
variable{o e:Expr}{es:List Expr}{to:TE}{t:TA}{name:Str}{apos dR:Pos}{T id:String}{r:V->List V->Hp->VK->Prop}
theorem Zk(pa:PlainAttrs T)(slot:Slot T name id)(xK:typeOf (.builtin id)=pure (.type "method_descriptor"))(hm:xw X id r)(ho:PE X o to)
  (i_:attributeBase o name X.env (eval o X.env)=eval o X.env:=by rfl) (jb:(apos.endLine==dR.line)=true:=by rfl):PE X (.Call (.Attribute o name apos) [] [] dR) (LK X.K T r to):=by
 intro af s σ H Q I h;refine wpAny_Call_method0_late i_ jb (aM (ho af s σ H _ I h) λv s1 ⟨x,H1,I1,r1,ty,q1⟩=>?_);obtain⟨h1,h2⟩:=I_ I1 r1 ty;exact⟨T,id,pa,slot,xK,h1,h2,Calls.callWith_builtin rfl (PySem.evalArgs_none (hm af s1 σ H1 x [] v [] Q I1 r1 .nil q1))⟩
theorem sX(pa:PlainAttrs T)(slot:Slot T name id)(xK:typeOf (.builtin id)=pure (.type "method_descriptor"))(hm:xw X id r)(ho:PE X o to)(ha:PA X (e::es) t)
  (i_:attributeBase o name X.env (eval o X.env)=eval o X.env:=by rfl)
  (jT:((backTo dR (starEach (e::es) X.env)).all (λx=>!x.1)&&(backToKw dR (keywordEach [] X.env)).all (λx=>x.1.isSome)
   && decide ((e::es).length+([]:List Keyword).length+(if([]:List Keyword).isEmpty then 0 else 1)<30))=true:=by rfl)
  (jb:(apos.endLine==dR.line)=true:=by rfl) (hs:starEach (e::es) X.env=(false,eval e X.env)::starEach es X.env:=by rfl) (ZI:(backTo dR (starEach es X.env)).any (·.1)=false:=by rfl) :
  PE X (.Call (.Attribute o name apos) (e::es) [] dR) (Te X.K T r to t):=by
 intro af s σ H Q I h;refine wpAny_Call_method_late i_ jT jb rfl (aM (ho af s σ H _ I h) λv s1 ⟨x,H1,I1,r1,ty,q1⟩=>?_);obtain⟨h1,h2⟩:=I_ I1 r1 ty;refine⟨T,id,pa,slot,xK,h1,h2,?_⟩;have hA:=ha dR af s1 σ H1 _ I1 q1;rw[hs] at hA ⊢;refine Calls.callWith_builtin (by show(false||(backTo dR (starEach es X.env)).any (·.1))=false;rw[ZI]<;>rfl) (Calls.evalArgs_plain ?_);exact aM hA λus s2 ⟨vs,H2,I2,r2,q2⟩=>hm af s2 σ H2 x vs v us Q I2 r1 r2 q2
end
def Gs(X:Cx)(id:String)(r:V->List V->Hp->VK->Prop):Prop:=
 ∀(af:List (Addr×Obj)) (s:Shared) (σ:St) (H:Hp) (x:V) (xs:List V) (v:Value) (us:List Value) (Q:VK),Inv X af σ H s->RelV x v->aK xs us->r x xs H Q->
  wpAny (model X.prog X.w) X.A (call (.builtin id) (v::us)) (EP X af σ Q) X.xe s
theorem aK.one:∀{x:V}{us:List Value},aK [x] us->∃u,us=[u]/\RelV x u
 |_,_,.cons r .nil=>⟨_,rfl,r⟩
theorem aK.zero:∀{us:List Value},aK [] us->us=[]
 |_,.nil=>rfl
theorem aK.dropLast(h:aK xs us):aK xs.dropLast us.dropLast:=by
 induction h with
 |nil=>exact .nil
 |cons r t ih=>
  cases t with
  |nil=>exact .nil
  |cons q t'=>exact .cons r ih
theorem aK.eraseIdx:∀{xs:List V}{us:List Value} (i:Nat),aK xs us->aK (xs.eraseIdx i) (us.eraseIdx i)
 |_,_,_,.nil=>.nil
 |_,_,0,.cons _ t=>t
 |_,_,i+1,.cons r t=>.cons r (aK.eraseIdx i t)
theorem aK.reverse(h:aK xs us):aK xs.reverse us.reverse:=by
 induction h with
 |nil=>exact .nil
 |cons r t ih=>rw[afk,afk];exact aK.append ih (.cons r .nil)
theorem aK.rep(h:aK xs us):∀k:Nat,aK (List.replicate k xs).flatten (List.replicate k us).flatten
 |0=>.nil
 |k+1=>by
  rw[aen,aen,aeM,aeM];exact aK.append h (aK.rep h k)
theorem WK{α:Type}(l:List α):l.eraseIdx (l.length-1)=l.dropLast:=by
 induction l with
 |nil=>rfl
 |cons a r ih=>
  cases r with
  |nil=>rfl
  |cons b r=>
   have e:(a::b::r).length-1=((b::r).length-1)+1:=by
    have h1:(a::b::r).length=r.length+2:=rfl;have h2:(b::r).length=r.length+1:=rfl;omega
   rw[e,List.eraseIdx_cons_succ,ih]
   all_goals rfl
theorem foldl_rep(ao:List Value):∀(k:Nat) (acc:List Value),
  List.foldl (λx1 x2=>x1++x2) acc.toArray (List.replicate k ao.toArray)=(acc++(List.replicate k ao).flatten).toArray
 |0,acc=>by simp
 |k+1,acc=>by
  have e:acc.toArray++ao.toArray=(acc++ao).toArray:=by simp
  have e2:(acc++ao)++(List.replicate k ao).flatten=acc++(List.replicate (k+1) ao).flatten:=by
   rw[aen,aeM,List.append_assoc]
  rw[<- e2,<- foldl_rep ao k (acc++ao),<- e,aen,aeN]
section
variable{X:Cx}{af:List (Addr×Obj)}{σ:St}{H:Hp}{s:Shared}{l b:Addr}{xs ys zs:List V}
theorem Inv.EI{ao its':List Value}{n:Nat}{f:Array Value->Array Value}{t':Nat}(I:Inv X af σ H s)(hH:H l=some (.lst xs))
  (e:s.heap.get? l=some { cls:=.type "list",data:=.seq ao.toArray n }) (hf:f ao.toArray=its'.toArray) (hv:aK ys its') (hz:ys.length<=sizeLine) :
  Inv X af σ (upd H l (.lst ys)) { s with heap:=s.heap.update l (Obj.mapSeq f),toks:=t' }:=by
 have q:=PySem.IsL.update e f;rw[hf] at q;refine I.write (by rw[hH];exact trivial) (.inl rfl) (λb' u hb hu=>(ad8 s.heap (Obj.mapSeq f) (aez hb)).trans hu) ⟨_,q⟩ ?_;exact⟨hz,its',_,hv,q⟩
theorem Inv.OX(I:Inv X af σ H s)(hv:aK ys ao)(hz:ys.length<=sizeLine):
  Inv X af σ (upd H s.heap.objs.size (.lst ys)) { s with heap:=s.heap.push { cls:=.type "list",data:=.seq ao.toArray },toks:=t' }:=
 I.laid (λ_ _ q=>aab _ q) (abd _) ⟨hz,ao,0,hv,aa6 _ rfl⟩
theorem Inv.fresh(I:Inv X af σ H s):H s.heap.objs.size=none:=I.aD.fresh (abd _)
theorem Inv.rT(I:Inv X af σ H s)(hH:H l=some (.lst xs)):xs.length<=sizeLine/\∃(ao:List Value) (n:Nat),aK xs ao/\xs.length=ao.length/\s.heap.get? l=some { cls:=.type "list",data:=.seq ao.toArray n }:=by
 obtain⟨z,ao,n,r,e⟩:=I.aD l _ hH;exact⟨z,ao,n,r,r.length,e⟩
theorem ZZ(h:n<=sizeLine):Builtin.List.listTooLong n=false:=by
 unfold Builtin.List.listTooLong;exact abo (by omega)
end
section
variable{X:Cx}
def UD:V->List V->Hp->VK->Prop:=λx vs H Q=>∃l xs y,x=.ref l/\vs=[y]/\H l=some (.lst xs)/\xs.length<sizeLine/\Q .aC (upd H l (.lst (xs++[y])))
theorem Fi:Gs X "list.append" UD:=by
 intro af s σ H x vs v us Q I rx rv h;obtain⟨l,xs,y,rfl,rfl,hH,hz,q⟩:=h;cases rx;obtain⟨u,rfl,ru⟩:=rv.one;obtain⟨z,ao,n,r,hl,e⟩:=I.rT hH;refine aeY F.slot_list_append ⟨_,e,rfl⟩ F.entry_list_append (F.args_list_append_2 _ _) (PySem.list_append l ao.toArray n u (by rw[aba];omega)) ⟨e,?_⟩;refine⟨.aC,_,I.EI (its':=ao++[u]) hH e (by simp) (r.append (.cons ru .nil)) ?_,rfl,q⟩;rw[abe,aee];omega
def PJ:V->List V->Hp->VK->Prop:=λx vs H Q=>∃l xs y,x=.ref l/\vs=[]/\H l=some (.lst xs)/\xs[xs.length-1]? = some y/\Q y (upd H l (.lst xs.dropLast))
theorem RA:Gs X "list.pop" PJ:=by
 intro af s σ H x vs v us Q I rx rv h;obtain⟨l,xs,y,rfl,rfl,hH,hy,q⟩:=h;cases rx;have hus:=rv.zero;subst hus;obtain⟨z,ao,n,r,hl,e⟩:=I.rT hH;obtain⟨u,hu,ru⟩:=r.get hy;have UN:ao.toArray[ao.toArray.size-1]? = some u:=by
  show ao.toArray[ao.length-1]? = some u;rw[<- Array.getElem?_toList,<- hl];exact hu
 refine aeY F.slot_list_pop ⟨_,e,rfl⟩ F.entry_list_pop (F.args_list_pop_1 _) (MeetsSeq.list_pop_last l ao.toArray n u UN (by rw[aba];omega)) ⟨e,?_⟩;refine⟨y,_,I.EI (its':=ao.dropLast) hH e ?_ r.dropLast ?_,ru,q⟩
 .show ao.toArray.eraseIdxIfInBounds (ao.toArray.size-1)=ao.dropLast.toArray;rw[aba,List.eraseIdxIfInBounds_toArray,WK]
 .rw[List.length_dropLast];omega
def adX:R2:=λx y H Q=>∃l b xs zs,x=.ref l/\y=.ref b/\H l=some (.lst xs)/\H b=some (.lst zs)/\xs.length+zs.length<=sizeLine/\∀p,H p=none->Q (.ref p) (upd H p (.lst (xs++zs)))
theorem aaV:cY X (binaryOp .Add) adX:=by
 intro af s σ H x y v u Q I rx ry h;obtain⟨l,b,xs,zs,rfl,rfl,hH,hB,hz,q⟩:=h;cases rx;cases ry;obtain⟨z,ao,n,r,hl,e⟩:=I.rT hH;obtain⟨z2,Ln,n2,r2,rD,e2⟩:=I.rT hB;refine PySem.P.add_list e e2 ?_ (by rw[aba,aba];omega);have ea:ao.toArray++Ln.toArray=(ao++Ln).toArray:=by simp
 rw[ea];exact⟨.ref _,_,I.OX (r.append r2) (by rw[abe];omega),rfl,q _ I.fresh⟩
def Va:R2:=λx y H Q=>∃l k xs,x=.ref l/\y=.int k/\H l=some (.lst xs)/\-(2 ^ 63)<=k/\k<2 ^ 63/\xs.length*k.toNat<=sizeLine/\
 ∀p,H p=none->Q (.ref p) (upd H p (.lst (List.replicate k.toNat xs).flatten))
theorem len_rep{α:Type}(xs:List α)(k:Nat):(List.replicate k xs).flatten.length=k*xs.length:=by
 induction k with
 |zero=>simp
 |succ k ih=>rw[aen,aeM,abe,ih,Nat.succ_mul,Nat.add_comm]
theorem ac7:cY X (binaryOp .Mult) Va:=by
 intro af s σ H x y v u Q I rx ry h;obtain⟨l,k,xs,rfl,rfl,hH,h1,h2,hz,q⟩:=h;cases rx;obtain⟨t,rfl⟩:=ry;obtain⟨z,ao,n,r,hl,e⟩:=I.rT hH;have hlen:ao.toArray.size*k.toNat<=sizeLine:=by rw[aba,<- hl];exact hz
 have acj:¬ao.toArray.size*k.toNat > (2 ^ 63-1) / 8:=by
  have:(sizeLine:Nat)<=(2 ^ 63-1) / 8:=by decide
  omega
 have aaD:¬(!Builtin.List.listFitsIndex k)=true:=by
  rw[fitsIndex_both h1 h2];exact aaN
 have aci:¬Builtin.List.listTooLong (ao.toArray.size*k.toNat)=true:=by
  rw[ZZ hlen];exact aaN
 have yj:List.foldl (λx1 x2=>x1++x2) #[] (List.replicate (if ao.toArray.isEmpty=true then 0 else k.toNat) ao.toArray)=(List.replicate k.toNat ao).flatten.toArray:=by
  have f0:∀m:Nat,List.foldl (λx1 x2=>x1++x2) #[] (List.replicate m ao.toArray)=(List.replicate m ao).flatten.toArray:=λm=>by
   have:=foldl_rep ao m [];rw[aei] at this;exact this
  rw[f0];cases ao with
  |nil=>simp
  |cons a r'=>rw[abf (by simp)]
 refine wpAny_binaryOp_repeat_ref (T:="list") (U:="int") (by decide) ⟨_,e,rfl⟩ (λs'=>typeIs_int s' k t) noFill_list_mul F.fills_int_mul F.slot_int_rmul repeat_list F.slot_int_index.lookup
  (aeY F.slot_int_rmul (typeIs_int s k t) F.entry_int_rmul (F.args_int_rmul_2 _ _) (int___rmul___int_list k t l ao.toArray n)
   ⟨e,rfl,⟨_,e,rfl⟩,aeY F.slot_list_mul ⟨_,e,rfl⟩ F.entry_list_mul (F.args_list_mul_2 _ _) (AutoListH.list___mul___list_int_3 l ao.toArray n k t aaD acj aci) ⟨e,?_⟩⟩)
 rw[yj];exact⟨.ref _,_,I.OX (r.rep k.toNat) (by rw[len_rep,Nat.mul_comm];exact hz),rfl,q _ I.fresh⟩
end
section
variable{κ:Type}[DecidableEq κ]
def eg(aj:List (κ×V))(k:κ):Option V:=(aj.find? λkv=>decide (kv.1=k)).map (·.2)
def putK(aj:List (κ×V))(k:κ)(v:V):List (κ×V):=
 if(aj.any λkv=>decide (kv.1=k))=true then aj.map (λkv=>if kv.1=k then(kv.1,v) else kv) else aj++[(k,v)]
theorem wL{p:κ×V}{r:List (κ×V)}{k:κ}(e:p.1=k):eg (p::r) k=some p.2:=by simp[eg,aej,e]
theorem vz{p:κ×V}{r:List (κ×V)}{k:κ}(e:¬p.1=k):eg (p::r) k=eg r k:=by simp[eg,aej,e]
theorem Fk(k:κ):∀aj:List (κ×V),(aj.any λkv=>decide (kv.1=k))=(eg aj k).isSome
 |[]=>rfl
 |p::r=>by
  rw[afd]
  by_cases e:p.1=k
  .simp only[wL e,aa1 e,Bool.true_or,Option.isSome_some]
  .rw[vz e,abo e,Bool.false_or];exact Fk k r
theorem Gg(aj:List (κ×V))(k:κ)(v:V):(putK aj k v).length<=aj.length+1:=by
 unfold putK
 split
 .rw[aaf];omega
 .rw[abe,abj,List.length_nil];omega
theorem gE.uP{o:Option V}{u:Option Value}(r:gE o u):o.isSome=u.isSome:=by
 cases o with
 |none=>cases u with
  |none=>rfl
  |some _=>exact(show False from r).elim
 |some _=>cases u with
  |none=>exact(show False from r).elim
  |some _=>rfl
theorem gE.getD{o:Option V}{u:Option Value}{d:V}{d':Value}(r:gE o u)(rd:RelV d d'):RelV (o.getD d) (u.getD d'):=by
 cases o with
 |none=>cases u with
  |none=>exact rd
  |some _=>exact(show False from r).elim
 |some _=>cases u with
  |none=>exact(show False from r).elim
  |some _=>exact r
theorem KV.val{aj:List (κ×V)}{vs:List (κ×Value)}(r:KV aj vs)(k:κ):gE (eg aj k) (valueAt vs k):=by
 unfold KV at r
 induction r with
 |nil=>exact True.intro
 | @cons p q ps qs h t ih=>
  obtain⟨h1,h2⟩:=h
  by_cases e:p.1=k
  .have e':=h1.symm.trans e;have b:valueAt (q::qs) k=some q.2:=by simp[valueAt,aej,e']
   rw[wL e,b];exact h2
  .have e':¬q.1=k:=λz=>e (h1.trans z)
   have b:valueAt (q::qs) k=valueAt qs k:=by simp[valueAt,aej,e']
   rw[vz e,b];exact ih
theorem KV.any{aj:List (κ×V)}{vs:List (κ×Value)}(r:KV aj vs)(k:κ):(aj.any λkv=>decide (kv.1=k))=vs.any λkv=>decide (kv.1=k):=by
 unfold KV at r
 induction r with
 |nil=>rfl
 |cons h t ih=>rw[afd,afd,ih,h.1]
theorem KV.F9{aj:List (κ×V)}{vs:List (κ×Value)}(r:KV aj vs)(k:κ)(ry:RelV y u):
  KV (aj.map λkv=>if kv.1=k then(kv.1,y) else kv) (vs.map λkv=>if kv.1=k then(kv.1,u) else kv):=by
 unfold KV at r ⊢
 induction r with
 |nil=>exact .nil
 | @cons p q ps qs h t ih=>
  rw[aaF,aaF];refine .cons ?_ ih;obtain⟨h1,h2⟩:=h
  by_cases e:p.1=k
  .rw[if_pos e,if_pos (h1.symm.trans e)];exact⟨h1,ry⟩
  .rw[abf e,abf (λz=>e (h1.trans z))];exact⟨h1,h2⟩
theorem KV.put{aj:List (κ×V)}{vs:List (κ×Value)}(r:KV aj vs)(k:κ){y:V}{u:Value}(ry:RelV y u):KV (putK aj k y) (stored vs k u):=by
 unfold putK stored;rw[r.any k]
 by_cases e:(vs.any λkv=>decide (kv.1=k))=true
 .rw[if_pos e,if_pos e];exact r.F9 k ry
 .rw[abf e,abf e];exact Paired.snoc r ⟨rfl,ry⟩
theorem KV.keys{aj:List (κ×V)}{vs:List (κ×Value)}(r:KV aj vs):aj.map (·.1)=vs.map (·.1):=by
 unfold KV at r
 induction r with
 |nil=>rfl
 |cons h t ih=>rw[aaF,aaF,ih,h.1]
theorem KV.length{aj:List (κ×V)}{vs:List (κ×Value)}(r:KV aj vs):aj.length=vs.length:=Paired.length r
end
theorem sy(r:RelV (kV k) u):(fM P w).is k u=true:=by
 cases k with
 |inl i=>obtain⟨t,e⟩:=(show ∃t,u=Value.int i t from r);subst e;exact ZR P w i t
 |inr x=>obtain⟨t,e⟩:=(show ∃t,u=Value.str x t from r);subst e;exact Zi P w x t
theorem Ff:∀{ks:List Key}{us:List Value},aK (ks.map kV) us->ItemsAre (fM P w) ks us
 |[],_,r=>by rw[afm] at r;cases r;exact .nil
 |k::ks,_,r=>by
  rw[aaF] at r;cases r with
  |cons h t=>exact .cons (sy h) (Ff t)
abbrev KT(H:Hp):List (List Key×V)->List (List Key×Addr×Value)->Prop:=Paired λp q=>p.1=q.1/\Tk H q.2.1 (p.1.map kV)/\RelV p.2 q.2.2
theorem KT.val{aj:List (List Key×V)}{xs:List (List Key×Addr×Value)}(r:KT H aj xs)(k:List Key):gE (eg aj k) ((atKey xs k).map (·.2)):=by
 induction r with
 |nil=>exact True.intro
 | @cons p q ps qs h t ih=>
  obtain⟨h1,_,h2⟩:=h
  by_cases e:p.1=k
  .have e':=h1.symm.trans e;have b:atKey (q::qs) k=some q.2:=by simp[atKey,aej,e']
   rw[wL e,b];exact h2
  .have e':¬q.1=k:=λz=>e (h1.trans z)
   have b:atKey (q::qs) k=atKey qs k:=by simp[atKey,aej,e']
   rw[vz e,b];exact ih
theorem KT.F9{aj:List (List Key×V)}{xs:List (List Key×Addr×Value)}(r:KT H aj xs)(k:List Key)(ry:RelV y u):
  KT H (aj.map λkv=>if kv.1=k then(kv.1,y) else kv) (xs.map (putAt k u)):=by
 induction r with
 |nil=>exact .nil
 | @cons p q ps qs h t ih=>
  rw[aaF,aaF];refine .cons ?_ ih;obtain⟨h1,h2,h3⟩:=h;unfold putAt
  by_cases e:p.1=k
  .rw[if_pos e,if_pos (h1.symm.trans e)];exact⟨h1,h2,ry⟩
  .rw[abf e,abf (λz=>e (h1.trans z))];exact⟨h1,h2,h3⟩
theorem KT.put{H:Hp}{aj:List (List Key×V)}{xs:List (List Key×Addr×Value)}(r:KT H aj xs)(k:List Key){b:Addr}{y:V}{u:Value}(hb:Tk H b (k.map kV))(ry:RelV y u):
  KT H (putK aj k y) (storedH xs k b u):=by
 have e:(aj.any λkv=>decide (kv.1=k))=(atKey xs k).isSome:=by
  rw[Fk,(r.val k).uP,afl]
 unfold putK storedH;rw[e]
 by_cases q:(atKey xs k).isSome=true
 .rw[if_pos q,if_pos q];exact r.F9 k ry
 .rw[abf q,abf q];exact Paired.snoc r ⟨rfl,hb,ry⟩
theorem KT.keeps{aj:List (List Key×V)}{xs:List (List Key×Addr×Value)}(r:KT H aj xs)(ht:∀b (t:lE),H b=some t.ho->H' b=some t.ho):KT H' aj xs:=
 Paired.yF r λ_ _ z=>⟨z.1,let⟨t,e,g⟩:=z.2.1;⟨t,e,ht _ t g⟩,z.2.2⟩
section
variable{P:Program}{w:World}{H:Hp}{h:Heap}{a:Addr}
theorem Nc{u:HO}(ok:cK P w H h)(e:Rd H a u):cU P w H h a u:=e.ok ok
theorem nR{aj:List (Key×V)}(ok:cK P w H h)(e:Rd H a (.dK aj)):aj.length<=sizeLine/\(a==sysModules)=false/\∃vs,KV aj vs/\h.DictOf (fM P w) a vs:=
 show cU P w H h a (.dK aj) from Nc ok e
theorem Me{aj:List (Key×V)}(ok:cK P w H h)(e:H a=some (.dK aj)):aj.length<=sizeLine/\(a==sysModules)=false/\∃vs,KV aj vs/\h.DictOf (fM P w) a vs:=nR ok (.inl e)
theorem tE{ks:List Key}(ok:cK P w H h)(e:Tk H a (ks.map kV)):(tupleKind (fM P w)).is h ks a:=by
 have q:cU P w H h a (.tup (ks.map kV)):=by
  obtain⟨t,e1,e2⟩:=e;cases t with
  |tup xs=>cases e1;exact ok a _ e2
  |sV o xs=>cases e1;exact(ok a _ e2).2
  |gZ _ _=>cases e1
  |iJ _=>cases e1
 obtain⟨_,ao,r,o,h1,h2,_,n,h3⟩:=q;exact⟨o,ao.toArray,n,h1,h2,h3,by simpa using Ff r⟩
theorem nN{aj:List (List Key×V)}(ok:cK P w H h)(e:Rd H a (.dT aj)):aj.length<=sizeLine/\(a==sysModules)=false/\
  ∃xs,KT H aj xs/\h.DictOfH (tupleKind (fM P w)) a xs:=by
 obtain⟨z,y,xs,r,o,es,ep,h1,h2,h3,h4,h5⟩:=(show cU P w H h a (.dT aj) from Nc ok e)
 refine⟨z,y,xs,r,o,es,ep,h1,h2,h3,h4,λx hx=>?_,h5⟩;have all:∀{l:List (List Key×V)}{m:List (List Key×Addr×Value)},KT H l m->∀x∈m,(tupleKind (fM P w)).is h x.1 x.2.1:=by
  intro l m q
  induction q with
  |nil=>intro x hx;exact nomatch hx
  | @cons p q ps qs hq t ih=>
   intro x hx;rcases aaM.mp hx with e|hx
   .subst e;exact tE ok (by rw[<- hq.1];exact hq.2.1)
   .exact ih x hx
 exact all r x hx
theorem Qj{aj:List (List Key×V)}(ok:cK P w H h)(e:H a=some (.dT aj)):aj.length<=sizeLine/\(a==sysModules)=false/\
  ∃xs,KT H aj xs/\h.DictOfH (tupleKind (fM P w)) a xs:=nN ok (.inl e)
end
def iQ(H:Hp)(a:Addr)(y:V)(r:Option V):Prop:=
 (∃aj k,Rd H a (.dK aj)/\y=kV k/\r=eg aj k)\/∃aj k b,Rd H a (.dT aj)/\y=.ref b/\Tk H b (k.map kV)/\r=eg aj k
def ua(H:Hp)(a:Addr)(y v:V)(H':Hp):Prop:=
 (∃aj k,H a=some (.dK aj)/\y=kV k/\aj.length<sizeLine/\H'=upd H a (.dK (putK aj k v)))\/
 ∃aj k b,H a=some (.dT aj)/\y=.ref b/\Tk H b (k.map kV)/\aj.length<sizeLine/\H'=upd H a (.dT (putK aj k v))
theorem iQ.k{H:Hp}{a:Addr}{aj:List (Key×V)}{k:Key}(e:H a=some (.dK aj)):iQ H a (kV k) (eg aj k):=.inl ⟨aj,k,.inl e,rfl,rfl⟩
theorem ua.k{H:Hp}{a:Addr}{aj:List (Key×V)}{k:Key}{v:V}(e:H a=some (.dK aj))(hl:aj.length<sizeLine):ua H a (kV k) v (upd H a (.dK (putK aj k v))):=.inl ⟨aj,k,e,rfl,hl,rfl⟩
section
variable{X:Cx}{af:List (Addr×Obj)}{σ:St}{H:Hp}{s:Shared}{a:Addr}{y v:V}{u r:Value}{o:Option V}{A:Around}{E:Value->Shared->Prop}
theorem Inv.big(I:Inv X af σ H s):sysModules<s.heap.objs.size:=by
 have h:=(I.mod.glob.keeps I.bk).lt;exact Nat.lt_trans (by decide) h
theorem Yr(hu:A.units+1<cLine)(I:Inv X af σ H s)(g:iQ H a y (some v))(ry:RelV y u)(h:∀w' s',Inv X af σ H s'->RelV v w'->Q w' s'):
  wpAny (model X.prog X.w) A (getItem (.ref a) u) Q E s:=by
 rcases g with⟨aj,k,e,ey,l⟩|⟨aj,k,b,e,ey,eb,l⟩
 .subst ey;obtain⟨z,hd,vs,rel,dd⟩:=nR I.aD e;obtain⟨w',hw,dM⟩:=gE.some_of (by rw[l];exact rel.val k);exact wpAny_getItem_of (sy ry) dd.mapOf hw (h w' _ (I.tok _) dM)
 .subst ey;cases(show u=Value.ref b from ry);obtain⟨z,hd,xs,rel,dd⟩:=nN I.aD e;obtain⟨w',hw,dM⟩:=gE.some_of (by rw[l];exact rel.val k);obtain⟨p,hp,uI⟩:=acI.mp hw;refine wpAny_getItem_heap (aex hu) (tE I.aD eb) dd hp ?_;rw[uI];exact h w' _ (I.tok _) dM
theorem acC(hu:A.units+1<cLine)(I:Inv X af σ H s)(g:iQ H a y o)(ry:RelV y u)(h:∀s',Inv X af σ H s'->Q (.bool o.isSome) s'):
  wpAny (model X.prog X.w) A (compareOp .In u (.ref a)) Q E s:=by
 rcases g with⟨aj,k,e,ey,l⟩|⟨aj,k,b,e,ey,eb,l⟩
 .subst ey;obtain⟨z,hd,vs,rel,dd⟩:=nR I.aD e;refine wpAny_in_of (sy ry) hd dd.mapOf ?_;rw[<- (rel.val k).uP,<- l];exact h _ (I.tok _)
 .subst ey;cases(show u=Value.ref b from ry);obtain⟨z,hd,xs,rel,dd⟩:=nN I.aD e;refine wpAny_in_heap (aex hu) (tE I.aD eb) hd dd ?_;have q:=(rel.val k).uP;rw[afl] at q;rw[<- q,<- l];exact h _ (I.tok _)
theorem WD(hu:A.units+1<cLine)(I:Inv X af σ H s)(g:iQ H a y o)(ry:RelV y u)(h:∀s',Inv X af σ H s'->Q (.bool (!o.isSome)) s'):
  wpAny (model X.prog X.w) A (compareOp .NotIn u (.ref a)) Q E s:=by
 rcases g with⟨aj,k,e,ey,l⟩|⟨aj,k,b,e,ey,eb,l⟩
 .subst ey;obtain⟨z,hd,vs,rel,dd⟩:=nR I.aD e;refine wpAny_notIn_of (sy ry) hd dd.mapOf ?_;rw[<- (rel.val k).uP,<- l];exact h _ (I.tok _)
 .subst ey;cases(show u=Value.ref b from ry);obtain⟨z,hd,xs,rel,dd⟩:=nN I.aD e;refine wpAny_notIn_heap (aex hu) (tE I.aD eb) hd dd ?_;have q:=(rel.val k).uP;rw[afl] at q;rw[<- q,<- l];exact h _ (I.tok _)
theorem Oq{ob:HO}(I:Inv X af σ H s)(mu:vp (H a))(hs:Heap.SameBut a s.heap h')(he:∃q,h'.get? a=some q)(new:cU X.prog X.w (upd H a ob) h' a ob):
  Inv X af σ (upd H a ob) { s with heap:=h',toks:=t' }:=
 I.write mu (.inl rfl) (λb q hb z=>(hs.2 b hb).trans z) he new
theorem Ej{aj:List (Key×V)}(z:aj.length<=sizeLine)(hd:(a==sysModules)=false)(rel:KV aj vs)(dd:h'.DictOf (fM P w) a vs):
  cU P w H' h' a (.dK aj):=⟨z,hd,vs,rel,dd⟩
theorem WV{H':Hp}{Q:Unit->Shared->Prop}(hu:A.units+1<cLine)(I:Inv X af σ H s)(g:ua H a y v H')(ry:RelV y u)(rv:RelV v r)(h:∀s',Inv X af σ H' s'->Q () s'):
  wpAny (model X.prog X.w) A (setItem (.ref a) u r) Q E s:=by
 rcases g with⟨aj,k,e,ey,l,eH⟩|⟨aj,k,b,e,ey,eb,l,eH⟩
 .subst ey eH;obtain⟨z,hd,vs,rel,dd⟩:=Me I.aD e;have hz:vs.length<=sizeLine:=by rw[<- rel.length];exact z
  have hl:(putK aj k v).length<=sizeLine:=by have:=Gg aj k v;omega
  refine wpAny_setItem_pairs (hsz:=hz) (sy ry) dd λh' i9 hs=>h _ ?_
  have he:∃q,h'.get? a=some q:=let⟨q,_,_,hq,_⟩:=i9;⟨q,hq⟩
  exact Oq I (by rw[e];exact True.intro) hs he (Ej hl hd (rel.put k rv) i9)
 .subst ey eH;cases(show u=Value.ref b from ry);obtain⟨z,hd,xs,rel,dd⟩:=Qj I.aD e;have hz:xs.length<=sizeLine:=by rw[<- Paired.length rel];exact z
  have hl:(putK aj k v).length<=sizeLine:=by have:=Gg aj k v;omega
  refine wpAny_setItem_heap (hsz:=hz) (aex hu) (tE I.aD eb) dd λh' i9 hs=>h _ ?_
  obtain⟨q,es,ep,hq,h2,h3,h4,_,h5⟩:=i9;refine Oq I (by rw[e];exact True.intro) hs ⟨q,hq⟩ ⟨hl,hd,_,(rel.put k eb rv).keeps λc ys ec=>?_,q,es,ep,hq,h2,h3,h4,h5⟩;rw[aO (adl ec e (by cases ys<;>intro z<;>cases z))];exact ec
end
section
variable{X:Cx}{af:List (Addr×Obj)}{σ:St}{H:Hp}{s:Shared}{a:Addr}{aj:List (Key×V)}{k:Key}{u:Value}{A:Around}{E:Value->Shared->Prop}
theorem Qv(I:Inv X af σ H s)(e:Rd H a (.dK aj))(h:∀t s',Inv X af σ H s'->Q (.int aj.length t) s'):wpAny (model X.prog X.w) A (call (.builtin "len") [.ref a]) Q E s:=by
 obtain⟨z,hd,vs,rel,dd⟩:=nR I.aD e;refine call_len_dict hd dd (by rw[<- rel.length];rw[aeg] at z;omega) ?_;rw[<- rel.length];exact h _ _ (I.tok _)
end
def xR(i:Expr):Prop:=∀ov iv,subscripted i false ov iv=operate [ov,iv] (getItem ov iv)
theorem LC{env:Env}{T id:String}
  (hl:typeLookup (.type T) "__getitem__"=pure (some (.builtin id))) (hs:xR slice)
  (h:wpAny (model prog w) A (eval value env) (λo bE=>wpAny (model prog w) A (eval slice env) (λi pV=>pV.TypeIs o T/\wpAny (model prog w) A (getItem o i) Q E pV) E bE) E s) :
  wpAny (model prog w) A (eval (.Subscript value slice pos) env) Q E s:=by
 refine Subscript_ (acH h (λo bE yt=>acH yt (λi pV Co=>?_) λ_ _ x=>x) λ_ _ x=>x);obtain⟨hT,Co⟩:=Co;unfold subscriptTail;refine aan ?_;rw[getitemInPython_of_ne hT.not_modules];refine aan (afe hT hl ?_);have fin:wpAny (model prog w) A (subscripted slice false o i) (λr Bm=>wpAny (model prog w) A (letTemporaryGo value o r >>= λ_=>pure r) Q E Bm) E pV:=by
  rw[hs o i];exact wpAny_operating (acH Co (λr Bm aah=>aan (wpAny_letTemporaryGo (abg aah))) λ_ _ x=>x)
 first
  |exact abg (aan fin)
  |exact aan (abg (aan fin))
  |exact aan fin
theorem aaY{o:Option V}(I:Inv X af σ H s)(g:iQ H a y o):s.TypeIs (.ref a) "dict":=by
 rcases g with⟨aj,k,e,_,_⟩|⟨aj,k,b,e,_,_,_⟩
 .obtain⟨_,_,vs,_,dd⟩:=nR I.aD e;exact dd.typeIs
 .obtain⟨_,_,xs,_,dd⟩:=nN I.aD e;exact dd.typeIs
def Vc(td ty:TE):TE:=λσ H Q=>td σ H λx H1=>ty σ H1 λy H2=>∃a v,x=.ref a/\iQ H2 a y (some v)/\Q v H2
def Si(ty td:TE):TE:=λσ H Q=>ty σ H λy H1=>td σ H1 λx H2=>∃a o,x=.ref a/\iQ H2 a y o/\Q (.bl o.isSome) H2
def YO(ty td:TE):TE:=λσ H Q=>ty σ H λy H1=>td σ H1 λx H2=>∃a o,x=.ref a/\iQ H2 a y o/\Q (.bl (!o.isSome)) H2
def Rh(td ty tv:TE):TS:=λD σ H=>tv σ H λv H1=>td σ H1 λx H2=>ty σ H2 λy H3=>∃a H4,x=.ref a/\ua H3 a y v H4/\D.nx σ H4
section
variable{X:Cx}{o i e value:Expr}{pos pos' Np:Pos}{td ty tv:TE}
theorem Rl(hu:X.A.units+1<cLine)(ho:PE X o td)(hi:PE X i ty)(hs:xR i):PE X (.Subscript o i pos) (Vc td ty):=by
 intro af s σ H Q I h;refine LC PySem.F.slot_dict_getitem.lookup hs (aM (ho af s σ H _ I h) λu s1 ⟨x,H1,I1,rx,q1⟩=>aM (hi af s1 σ H1 _ I1 q1) λiv s2 ⟨y,H2,I2,ry,a,v,ex,g,q2⟩=>?_);subst ex;obtain rfl:u=Value.ref a:=rx;exact⟨aaY I2 g,Yr hu I2 g ry λw' s3 I3 dM=>⟨v,H2,I3,dM,q2⟩⟩
theorem Mv(hu:X.A.units+1<cLine)(hi:PE X i ty)(ho:PE X o td):PC X .In i o (Si ty td):=by
 intro af s σ H Q I h;refine aM (hi af s σ H _ I h) λiv s1 ⟨y,H1,I1,ry,q1⟩=>aM (ho af s1 σ H1 _ I1 q1) λu s2 ⟨x,H2,I2,rx,a,ov,ex,g,q2⟩=>?_
 subst ex;obtain rfl:u=Value.ref a:=rx;exact acC hu I2 g ry λs3 I3=>⟨.bl ov.isSome,H2,I3,rfl,q2⟩
theorem abB(hu:X.A.units+1<cLine)(hi:PE X i ty)(ho:PE X o td):PC X .NotIn i o (YO ty td):=by
 intro af s σ H Q I h;refine aM (hi af s σ H _ I h) λiv s1 ⟨y,H1,I1,ry,q1⟩=>aM (ho af s1 σ H1 _ I1 q1) λu s2 ⟨x,H2,I2,rx,a,ov,ex,g,q2⟩=>?_
 subst ex;obtain rfl:u=Value.ref a:=rx;exact WD hu I2 g ry λs3 I3=>⟨.bl (!ov.isSome),H2,I3,rfl,q2⟩
theorem GN(hu:X.A.units+1<cLine)(ho:PE X o td)(hi:PE X i ty)(hv:PE X value tv)(hs:swapsWith value (some (.Subscript o i pos')) pos.line X.env=pure false):
  PS X (.Assign [.Subscript o i pos'] value pos) (Rh td ty tv):=by
 intro af s σ H D I h;refine wpAny_Assign_Subscript (aM (hv af s σ H _ I h) λr s1 ⟨v,H1,I1,rv,q1⟩=>aM (ho af s1 σ H1 _ I1 q1) λu s2 ⟨x,H2,I2,rx,q2⟩=>aM (hi af s2 σ H2 _ I2 q2) λiv s3 ⟨y,H3,I3,ry,a,H4,ex,g,q3⟩=>?_) hs;subst ex;obtain rfl:u=Value.ref a:=rx;exact WV hu I3 g ry rv λs4 I4=>⟨σ,H4,I4,q3⟩
end
theorem VI(h:Heap)(hb:sysModules<h.objs.size):cU P w H (h.push { cls:=.type "dict",data:=.dict #[] }) h.objs.size (.dK []):=
 ⟨aeh _,ab0.mpr (aez (abn hb)),[],.nil,Heap.DictOf.new h⟩
theorem Vg(h:Heap)(hb:sysModules<h.objs.size):cU P w H (h.push { cls:=.type "dict",data:=.dict #[] }) h.objs.size (.dT []):=
 ⟨aeh _,ab0.mpr (aez (abn hb)),[],.nil,_,#[],0,aa6 _ rfl,⟨rfl,rfl,rfl⟩,rfl,rfl,abF⟩
def adb:TE:=λ_ H Q=>∀p,H p=none->Q (.ref p) (upd H p (.dK []))
def abV:TE:=λ_ H Q=>∀p,H p=none->Q (.ref p) (upd H p (.dT []))
section
variable{X:Cx}{pos:Pos}
theorem Sg:PE X (.Dict [] [] pos) adb:=λaf s σ H Q I h=>
 wpAny_Dict_empty ⟨.ref s.heap.objs.size,_,I.laid (λ_ _ q=>aab _ q) (abd _) (VI s.heap I.big),rfl,h _ (I.aD.fresh (abd _))⟩
theorem Uz:PE X (.Dict [] [] pos) abV:=λaf s σ H Q I h=>
 wpAny_Dict_empty ⟨.ref s.heap.objs.size,_,I.laid (λ_ _ q=>aab _ q) (abd _) (Vg s.heap I.big),rfl,h _ (I.aD.fresh (abd _))⟩
end
structure M2(X:Cx)(o:Expr)(m:Str)(apos:Pos)(e f:Expr)(dR:Pos):Prop where
 base:attributeBase o m X.env (eval o X.env)=eval o X.env
 few:((backTo dR (starEach [e,f] X.env)).all (λx=>!x.1)&&(backToKw dR (keywordEach [] X.env)).all (λx=>x.1.isSome)
  && decide (([e,f]:List Expr).length+([]:List Keyword).length+(if([]:List Keyword).isEmpty then 0 else 1)<30))=true
 line:(apos.endLine==dR.line)=true
 trees:backTo dR (starEach [e,f] X.env)=[(false,eval e X.env),(false,eval f X.env)]
def KP(H:Hp)(a:Addr):Prop:=(∃aj,Rd H a (.dK aj))\/∃aj,Rd H a (.dT aj)
theorem SK(I:Inv X af σ H s)(d:KP H a):
  s.TypeIs (.ref a) "dict"/\(∀b,Value.ref a=.ref b->∃ob,s.heap.get? b=some ob/\ob.dict=none)/\(a==sysModules)=false:=by
 rcases d with⟨aj,e⟩|⟨aj,e⟩
 .obtain⟨_,hd,vs,_,dd⟩:=nR I.aD e;refine⟨dd.typeIs,λb q=>?_,hd⟩;cases q;obtain⟨ob,_,_,h1,h2,_⟩:=dd;exact⟨ob,h1,h2.2.1⟩
 .obtain⟨_,hd,xs,_,dd⟩:=nN I.aD e;refine⟨dd.typeIs,λb q=>?_,hd⟩;cases q;obtain⟨ob,_,_,h1,h2,_⟩:=dd;exact⟨ob,h1,h2.2.1⟩
section
variable{X:Cx}{af:List (Addr×Obj)}{σ:St}{H:Hp}{s:Shared}{a:Addr}{y d:V}{u r:Value}{o:Option V}{A:Around}{E:Value->Shared->Prop}
theorem QJ(hu:A.units+1<cLine)(I:Inv X af σ H s)(g:iQ H a y o)(ry:RelV y u)(rd:RelV d r)(h:∀w' s',Inv X af σ H s'->RelV (o.getD d) w'->Q w' s'):
  wpAny (model X.prog X.w) A (call (.builtin "dict.get") [.ref a,u,r]) Q E s:=by
 rcases g with⟨aj,k,e,ey,l⟩|⟨aj,k,b,e,ey,eb,l⟩
 .subst ey;obtain⟨z,hd,vs,rel,dd⟩:=nR I.aD e;refine call_meetsIn PySem.F.slot_dict_get dd.typeIs PySem.F.entry_dict_get (PySem.F.args_dict_get_3 _ _ _) (meets_dict_get_default (fM X.prog X.w) a (sy ry) hd r) ⟨_,dd.mapOf,h _ _ (I.tok _) ?_⟩;rw[l];exact(rel.val k).getD rd
 .subst ey;cases(show u=Value.ref b from ry);obtain⟨z,hd,xs,rel,dd⟩:=nN I.aD e;refine call_meetsIn PySem.F.slot_dict_get dd.typeIs PySem.F.entry_dict_get (PySem.F.args_dict_get_3 _ _ _) (meetsH_dict_get_default (tupleKind (fM X.prog X.w)) a b hd r) ⟨aex hu,k,xs,tE I.aD eb,dd,h _ _ (I.tok _) ?_⟩;rw[l];exact(rel.val k).getD rd
end
def Zn(td ty tx:TE):TE:=λσ H Q=>td σ H λx H1=>∃a,x=.ref a/\KP H1 a/\ty σ H1 λy H2=>tx σ H2 λz H3=>∃o,iQ H3 a y o/\Q (o.getD z) H3
section
variable{X:Cx}{o e f:Expr}{apos dR:Pos}{td ty tx:TE}
theorem ML(hu:X.A.units+1<cLine)(ho:PE X o td)(he:PE X e ty)(hf:PE X f tx)(m:M2 X o "get" apos e f dR):PE X (.Call (.Attribute o "get" apos) [e,f] [] dR) (Zn td ty tx):=by
 intro af s σ H Q I h;refine wpAny_Call_method m.base m.few m.line PySem.F.plainAttrs_dict PySem.F.slot_dict_get PySem.F.type_dict_get (aM (ho af s σ H _ I h) λu s1 ⟨x,H1,I1,rx,a,ex,d,q1⟩=>?_);subst ex;obtain rfl:u=Value.ref a:=rx;obtain⟨t1,t2,_⟩:=SK I1 d;refine⟨t1,t2,?_⟩;rw[m.trees];refine Calls.callWith_builtin rfl (Calls.evalArgs_plain (aeS (aM (he af s1 σ H1 _ I1 q1) λiv s2 ⟨y,H2,I2,ry,q2⟩=>
  aeS (aM (hf af s2 σ H2 _ I2 q2) λfv s3 ⟨z,H3,I3,rz,ov,g,q3⟩=>Calls.spliced_nil ?_))))
 exact QJ hu I3 g ry rz λw' s4 I4 dM=>⟨_,H3,I4,dM,q3⟩
end
section
variable{X:Cx}{af:List (Addr×Obj)}{σ:St}{H:Hp}{s:Shared}{a:Addr}{aj:List (Key×V)}{A:Around}{E:Value->Shared->Prop}
theorem adB(I:Inv X af σ H s)(e:Rd H a (.dK aj))(h:∀p s',H p=none->Inv X af σ (upd H p (.dK aj)) s'->Q (.ref p) s'):wpAny (model X.prog X.w) A (call (.type "dict") [.ref a]) Q E s:=by
 obtain⟨z,hd,vs,rel,dd⟩:=nR I.aD e;refine kt_call_dict hd dd (by rw[<- rel.length];exact z) λh' i9 hs=>?_
 refine h _ _ (I.aD.fresh (abd _)) (I.laid (λb q hq=>?_) (abd _) (Ej z (ab0.mpr (aez (abn I.big))) rel i9));exact(hs.2 b (abn (aaZ hq))).trans (aab _ hq)
end
end L2
namespace M7
open PySem PySem.W PySem.Calls PyProof.Rows
theorem XJ:∀(ns:List Int) (vs:List Value),WellAll P h vs (ns.map WData.int)->IntsAre vs ns:=by
 intro ns
 induction ns with
 |nil=>
  intro vs w;rw[afm] at w;cases w;exact .nil
 |cons n ns ih=>
  intro vs w;rw[aaF] at w;cases w with
  |cons a b=>
   cases a;exact .cons _ _ (ih _ b)
theorem YU{l:OpenLaw}(hn:l.most=some n){args:List WData}
  (AB:l.row.toRowW.claim.pre args=true) (EW:WellAll P h vals args) :
  ∃a vs ns,vals=[Value.ref a]/\args=[WData.list (ns.map WData.int)]/\h.get? a=some { cls:=.type "list",data:=.seq vs.toArray }/\IntsAre vs ns/\ns.length<=n:=by
 have hsh:=(pre_splitW AB).1;have hc:l.pre.holds [] { args:=args }=true:=(pre_splitW AB).2;obtain⟨d,r,rfl,h1,h2⟩:=hasAllW_cons hsh;obtain rfl:=hasAllW_nil h2;obtain⟨xs,rfl,h3⟩:=hasW_list h1;obtain⟨ns,rfl⟩:=items_int h3;have hlen:ns.length<=n:=by
  unfold OpenLaw.pre at hc;have h4:(WTm.not (.lt (.lit (.int (n:Int))) (.len (.arg 0)))).holds [] { args:=[.list (ns.map .int)] }=true:=by
   have h4:=(holds_andW hc).1;rw[hn] at h4;exact h4
  have h5:=condW_of h4 (w_not (w_lt w_lit (w_len_list (w_arg rfl))));rw[aaf] at h5;refine Nat.le_of_not_lt λq=>?_
  have q':(n:Int)<((ns.length:Nat):Int):=by omega
  first
   |(rw[aa1 q'] at h5;exact absurd h5 (by decide))
   |(simp at h5;omega)
 cases EW with
 |cons w1 w2=>
  cases w2;cases w1 with
  |list ho EE=>exact⟨_,_,ns,rfl,rfl,ho,XJ ns _ EE,hlen⟩
theorem UB(l:OpenLaw)(args:List WData):l.row.toRowW.claim.post args (.bool true) args=true:=
 postW_of (r:=l.row.toRowW) (X:=(true==true))
  (show WShape.has [] (.bool true) .bool=true by first|rfl|decide|simp[WShape.has,WShape.arms,WShape.armsAll])
  (show(WTm.eq .res (.lit (.bool true))).value [] { args:=args,res:=some (.bool true),after:=args }=some (.bool (true==true)) from w_eq_bool (w_res rfl) w_lit) rfl
theorem ZP{l:OpenLaw}{XP:(Str->Option Value)->Heap->Prop}{YP:World->Heap->Prop}
  (hn:l.most=some n) (xE:d.params.defaults=[])
  (call:∀(w:World) (cI bE:Shared) (mg mb:Str->Option Value) (fa:Addr) (o:Obj) (pm cd doc:Value) (a:Addr) (vs:List Value) (ns:List Int),
   Ground q loose [] XP w cI mg mb bE.heap->YP w bE.heap->
   bE.heap.get? fa=some o->o.data=.func (docDef d.name d.params d.body d.scope pm cd doc)->bE.heap.CodeRec cd d.name->mg d.name=some (.ref fa)->
   bE.heap.get? a=some { cls:=.type "list",data:=.seq vs.toArray }->IntsAre vs ns->ns.length<=n->bE.gens=#[]->
   codeAny (model l.prog w) callerA (.call (.ref fa) ⟨[.ref a],[]⟩) (λr s'=>r=.ok (.ret (.bool true))/\OldK bE.heap s'.heap/\s'.os=bE.os/\AllBare s'.gens) bE) :
  WalkO q loose XP YP l.row.toRowW d [] (λf vs=>PySem.call f vs):=by
 intro w cI bE mg mb G Y fa o pm cd doc dV kV ho hd gG hD vj hg args vals as AB ad0 hrd EW vR;obtain rfl:dV=.none:=Dflts.none hD xE;obtain rfl:kV=.none:=Dflts.noKw hD;obtain⟨a,vs,ns,rfl,rfl,Ft,hints,hlen⟩:=YU hn AB EW;refine enter_call (aeV (call w cI bE mg mb fa o pm cd doc a vs ns G Y ho (fd_plain hd) gG vj Ft hints hlen hg) λr s' hq=>?_);obtain⟨rfl,h2,h3,h4⟩:=hq;exact⟨.inl ⟨.bool true,.bool true,[],rfl,λ_=>rfl,.bool true,UB l _,λ_=>⟨List.Pairwise.nil,λ_ hm=>(nomatch hm)⟩⟩,h2,h3,h4⟩
end M7
namespace L2
open PySem PySem.Spec PyProof.Rows
theorem DC:∀{vs:List Value}{ns:List Int},IntsAre vs ns->aK (ns.map V.int) vs
 |_,_,.nil=>.nil
 |_,_,.cons n t h=>.cons ⟨t,rfl⟩ (DC h)
noncomputable abbrev cE:jj:=λ_ _ _ _ _ _=>False
noncomputable abbrev E0:XK:=λ_ _ _=>False
theorem jt{X:Cx}:Passes cE X E0:=λ_ _ _ _ _ _ _ h=>h.elim
structure gJ(K:PySem.W.Frag)(x qual:Str)(st:Stmt)(f:Addr)(fd:FuncData):Prop where
 ex:∃(oc:Value) (od:Option Addr) (kV doc pm:Value) (an:Option Addr) (aR ct:Value) (mG:Array (Option Value)),
  fd=PySem.W.fnOf x qual (lW st) (fZ st) (b_ st) .none kV doc pm an aR ct/\K.lookup f=some ⟨oc,od,.func fd,mG⟩/\PySem.W.codeIn K aR qual=true
 kp:PySem.W.keepIn K (.ref f)=true
section
variable{P:Program}{w:World}{K:PySem.W.Frag}{mg:Str->Option Value}{base:Heap}
theorem gJ.ok{x qual:Str}{st:Stmt}{f:Addr}{fd:FuncData}{N ps:List Str}{k:Nat}{sp:Sp}{cm:Bool}(F:gJ K x qual st f fd)(S:mF N ps (b_ st))(len:∀vs H Q E,sp vs H Q E->vs.length=ps.length)
  (yh:∀(aR:{c:Value // c=fd.code}) (A:Around) (outer:List Env) (s:Shared) (H:Hp) (vs:List V) (Q:VK) (E:XK),aZ k (A.deeper (envOfC qual (b_ st) s.heap.objs.size f aR)) cm->sp vs H Q E->
   ∃t,gC (e_ cE P w K mg base N qual (b_ st) f aR A outer s H E cm).gz (fZ st) t/\t { nx:=λ_ H'=>Q .aC H',rt:=Q } (start N vs) H):bN P w K mg base cE (k+1) f fd ps sp cm:=by
 obtain⟨oc,od,kV,doc,pm,an,aR,ct,mG,rfl,lk,gG⟩:=F.ex;refine Ng lk gG S len λA outer s H vs Q E hr pF=>?_
 obtain⟨t,h,q⟩:=yh ⟨aR,rfl⟩ A outer s H vs Q E hr pF;exact⟨t,h.gz,q⟩
theorem gJ.binds{x qual:Str}{st:Stmt}(F:gJ K x qual st f fd)
  (h:∀(kV doc pm:Value) (an:Option Addr) (aR ct:Value) (us:List Value),us.length=ps.length->bindArgs (PySem.W.fnOf x qual (lW st) (fZ st) (b_ st) .none kV doc pm an aR ct) ⟨us,[]⟩=pure (ps.zip us)):Binds K fd ps []:=by
 obtain⟨oc,od,kV,doc,pm,an,aR,ct,mG,rfl,lk,gG⟩:=F.ex;exact .all (h kV doc pm an aR ct)
theorem JR{st:Stmt}{od an:Option Addr}{mG:Array (Option Value)}{kV doc pm aR ct:Value}(l:K.lookup f=some ⟨oc,od,.func (PySem.W.fnOf x qual (lW st) (fZ st) (b_ st) .none kV doc pm an aR ct),mG⟩)
  (c:PySem.W.codeIn K aR qual=true) (k:PySem.W.keepIn K (.ref f)=true):gJ K x qual st f (PySem.W.fnOf x qual (lW st) (fZ st) (b_ st) .none kV doc pm an aR ct):=⟨⟨oc,od,kV,doc,pm,an,aR,ct,mG,rfl,l,c⟩,k⟩
end
theorem iT{A:Around}{k:Nat}{cm:Bool}(hr:aZ k A cm):A.units+1<cLine:=aeT (Nat.add_le_add_left (by decide:1<=64) _) hr.units
theorem uH(h:n<=1000):n<sizeLine:=aeT h (by decide)
theorem aaI{A B:Prop}(h:B):if false=true then A else B:=by
 rw[abf aaN];exact h
theorem aak{A B:Prop}(h:A):if true=true then A else B:=by
 rw[if_pos rfl];exact h
def aF(H H':Hp):Prop:=∀b o,H b=some o->H' b=some o
theorem aF.refl(H:Hp):aF H H:=λ_ _ h=>h
theorem aF.trans{H H1 H2:Hp}(a:aF H H1)(b:aF H1 H2):aF H H2:=λc o h=>b c o (a c o h)
theorem aF.free{H H':Hp}(e:aF H H'){l:Addr}(h:H' l=Option.none):H l=Option.none:=by
 cases q:H l with
 |none=>rfl
 |some o=>
  rw[e l o q] at h;cases h
section
variable{X:Cx}
theorem Sf:eX X (.builtin "len") (λxs H Q=>∃a aj,xs=[V.ref a]/\H a=some (.dK aj)/\Q (.int aj.length) H):=by
 intro af s σ H xs us Q I r h;obtain⟨a,aj,rfl,ha,q⟩:=h;obtain⟨u,rfl,ru⟩:=vals1 r;cases ru;exact Qv I (.inl ha) λt s' I'=>⟨.int aj.length,H,I',⟨t,rfl⟩,q⟩
end
end L2
namespace L2.ZF
open PySem PyProof.Rows
section
variable{st eF:SortSt}{prog:Program}{w:World}{A:Around}{E:Value->Shared->Prop}{s:Shared}
noncomputable abbrev C2:=Option (Array Keyed)×Array Keyed×Nat×Nat×Nat×Nat×Nat
end
noncomputable abbrev H2:=Option (Array Keyed)×Nat×Nat×Array Keyed×Nat×Nat×Nat
noncomputable abbrev H1:=Option (Array Keyed)×Nat×Nat×Array Keyed×Nat×Nat
noncomputable abbrev H0:=Option (Array Keyed)×Nat×Nat×Array Keyed×Nat
end L2.ZF
namespace L2
open PySem PySem.Spec PyProof.Rows
noncomputable def J8(a:Addr)(cls:Value)(de:Option Addr):HO:=.ext λh=>∃oe,h.get? a=some oe/\oe.cls=cls/\(∀dx,de=some dx->oe.dict=some dx/\PySem.W.notCls oe=true)
theorem Mh{de:Option Addr}(e:h.get? a=some oe)(c:oe.cls=cls)(d:∀dx,de=some dx->oe.dict=some dx/\PySem.W.notCls oe=true):cU P w H h a (J8 a cls de):=
 ⟨⟨oe,e,c,d⟩,⟨oe,e⟩,λ_ _ ⟨o,q,z⟩ k=>⟨o,k o q,z⟩⟩
def tK(ob:Obj)(a:Addr)(cls:Value)(de:Option Addr):HO:=.dY ob (J8 a cls de)
theorem Oj{de:Option Addr}(x:cK P w H h)(e:H a=some (tK ob a cls de)):∃oe,h.get? a=some oe/\oe.cls=cls:=let⟨oe,a,b,_⟩:=(x a _ e).2.1;⟨oe,a,b⟩
noncomputable def G4(n:Nat)(t:Tok):Str->Option Value:=λy=>if y="slot" then some (.int n t) else none
def Hh(dx:Addr)(n:Nat):HO:=.ext λh=>∃t,h.Ns1 dx (G4 n t)
theorem XU{t:Tok}(e:h.Ns1 dx (G4 n t)):cU P w H h dx (Hh dx n):=
 ⟨⟨t,e⟩,let⟨o,_,_,q,_⟩:=e;⟨o,q⟩,λ_ _ ⟨t,e⟩ k=>⟨t,e.at k⟩⟩
noncomputable def mh(o:Obj):Option Value:=match o.data with
 |.fields vs=>vs[2]?
 |_=>none
def DK{α:Type}:Sem α->Prop
 |.pure _=>True
 |.raise _=>True
 |.unsupported _=>True
 |.finish _=>True
 |.rule _ k=>DK (k ())
 |.at _ k=>DK (k ())
 |.load _ _ k=>∀o,DK (k o)
 |.update _ _ f k=>(∀o,(f o).dict=o.dict/\mh (f o)=mh o)/\DK (k ())
 |.alloc _ k=>∀a,DK (k a)
 |.stack k=>∀l,DK (k l)
 |_=>False
def Kd(h h':Heap):Prop:=∀(a:Nat) (o:Obj),h.objs[a]? = some o->∃o',h'.objs[a]? = some o'/\o'.dict=o.dict/\mh o'=mh o
theorem Kd.refl(h:Heap):Kd h h:=λa o e=>⟨o,e,rfl,rfl⟩
theorem Kd.trans{h h1 h2:Heap}(x:Kd h h1)(y:Kd h1 h2):Kd h h2:=λa o e=>by
 obtain⟨o1,e1,d1,f1⟩:=x a o e;obtain⟨o2,e2,d2,f2⟩:=y a o1 e1;exact⟨o2,e2,d2.trans d1,f2.trans f1⟩
theorem Kd.push(h:Heap)(o:Obj):Kd h (h.push o):=λa u e=>by
 obtain⟨objs,l⟩:=h;refine⟨u,?_,rfl,rfl⟩;show(objs.push o)[a]? = some u;have lt:=(Array.getElem?_eq_some_iff.mp e).1;rw[Array.getElem?_push_lt lt];rw[Array.getElem?_eq_getElem lt] at e;exact e
theorem Kd.update(h:Heap)(b:Addr){f:Obj->Obj}(hf:∀o,(f o).dict=o.dict/\mh (f o)=mh o):Kd h (h.update b f):=λa u e=>by
 obtain⟨objs,l⟩:=h;show ∃o',(objs.modify b f)[a]? = some o'/\_;have e:=e;rw[Array.getElem?_modify,e]
 split
 .exact⟨f u,rfl,hf u⟩
 .exact⟨u,rfl,rfl,rfl⟩
theorem Kd.at{h h':Heap}(k:Kd h h'){a:Addr}{o o':Obj}(e:h.get? a=some o)(e':h'.get? a=some o'):o'.dict=o.dict/\mh o'=mh o:=by
 have raw:∀{h:Heap}{o:Obj},h.get? a=some o->h.objs[a]? = some o:=λ{h o} e=>by
  unfold Heap.get? at e
  split at e
  .cases e
  .exact e
 obtain⟨u,q,d⟩:=k a o (raw e);rw[raw e'] at q;cases q;exact d
section
variable{α β:Type}{M:Model}
theorem Vh{Γ:PySem.Ctx}:∀(t:Sem α) {Q:α->Pos->Shared->Prop}{E:Value->Pos->Shared->Prop}{p:Pos}{s:Shared},DK t->Kd h0 s.heap->Sem.wp M Γ t Q E p s->Sem.wp M Γ t (λa p' s'=>Q a p' s'/\Kd h0 s'.heap) (λe p' s'=>E e p' s'/\Kd h0 s'.heap) p s:=by
 intro t
 induction t with
 |pure a=>intro Q E p s d k h;exact⟨h,k⟩
 |raise e=>intro Q E p s d k h;exact⟨h,k⟩
 |unsupported w=>intro Q E p s d k h;exact h
 |finish e=>intro Q E p s d k h;exact h
 |rule tag f ih=>intro Q E p s d k h;exact ih () d k h
 | «at» pos f ih=>intro Q E p s d k h;exact ih () d k h
 |load a part f ih=>intro Q E p s d k h;obtain⟨o,e,h⟩:=h;exact⟨o,e,ih o (d o) k h⟩
 |update a part f g ih=>intro Q E p s d k h;exact⟨h.1,ih () d.2 (k.trans (Kd.update _ _ d.1)) h.2⟩
 |alloc o f ih=>intro Q E p s d k h;exact ih _ (d _) (k.trans (Kd.push _ _)) h
 |stack f ih=>intro Q E p s d k h;exact ih _ (d _) k h
 |loadIfAlive=>intro Q E p s d;exact d.elim
 |point=>intro Q E p s d;exact d.elim
 |register=>intro Q E p s d;exact d.elim
 |fresh=>intro Q E p s d;exact d.elim
 |ask=>intro Q E p s d;exact d.elim
 |choose=>intro Q E p s d;exact d.elim
 |os=>intro Q E p s d;exact d.elim
 |call=>intro Q E p s d;exact d.elim
 |handled=>intro Q E p s d;exact d.elim
 |newGen=>intro Q E p s d;exact d.elim
 |genState=>intro Q E p s d;exact d.elim
 |resume=>intro Q E p s d;exact d.elim
 |yield=>intro Q E p s d;exact d.elim
 |fork=>intro Q E p s d;exact d.elim
 |thread=>intro Q E p s d;exact d.elim
 |await=>intro Q E p s d;exact d.elim
theorem uz{t:Sem α}{Q:α->Shared->Prop}(d:DK t)(h:wpAny M A t Q E s):wpAny M A t (λa s'=>Q a s'/\Kd s.heap s'.heap) (λe s'=>E e s'/\Kd s.heap s'.heap) s:=
 λΓ p XA=>Vh t d (Kd.refl _) (h Γ p XA)
theorem DK.bind{f:α->Sem β}:∀{m:Sem α},DK m->(∀a,DK (f a))->DK (m >>= f):=by
 intro m
 induction m with
 |pure a=>intro d h;exact h a
 |raise e=>intro d h;exact d
 |unsupported w=>intro d h;exact d
 |finish e=>intro d h;exact d
 |rule tag g ih=>intro d h;exact ih () d h
 | «at» pos g ih=>intro d h;exact ih () d h
 |load a part g ih=>intro d h o;exact ih o (d o) h
 |update a part f g ih=>intro d h;exact⟨d.1,ih () d.2 h⟩
 |alloc o g ih=>intro d h a;exact ih a (d a) h
 |stack g ih=>intro d h l;exact ih l (d l) h
 |loadIfAlive=>intro d;exact d.elim
 |point=>intro d;exact d.elim
 |register=>intro d;exact d.elim
 |fresh=>intro d;exact d.elim
 |ask=>intro d;exact d.elim
 |choose=>intro d;exact d.elim
 |os=>intro d;exact d.elim
 |call=>intro d;exact d.elim
 |handled=>intro d;exact d.elim
 |newGen=>intro d;exact d.elim
 |genState=>intro d;exact d.elim
 |resume=>intro d;exact d.elim
 |yield=>intro d;exact d.elim
 |fork=>intro d;exact d.elim
 |thread=>intro d;exact d.elim
 |await=>intro d;exact d.elim
end
theorem Fp(a:Addr):DK (load a):=λ_=>trivial
theorem WH(v:Value):DK (fieldsOf v):=by
 unfold fieldsOf
 split
 .refine(Fp _).bind λo=>?_
  split<;>trivial
 .trivial
theorem AM(v:Value)(i:Nat):DK (field v i):=by
 unfold field;refine(WH v).bind λo=>?_
 split<;>trivial
theorem DS(v:Value)(i:Nat)(x:Value)(hi:i≠2):DK (setField v i x):=by
 unfold setField
 split
 .unfold updateField;refine(Fp _).bind λo=>?_
  split
  .split
   .refine⟨λo=>?_,trivial⟩;obtain⟨c,d,dt,sl⟩:=o;cases dt with
    |fields vs=>exact⟨rfl,by show(vs.setIfInBounds i x)[2]? = vs[2]?;rw[Array.getElem?_setIfInBounds_ne hi]⟩
    |_=>exact⟨rfl,rfl⟩
   .trivial
  .trivial
 .trivial
theorem G8(e:Value)(f:Option Addr):DK (setFlight e f):=by
 unfold setFlight;refine(AM e 1).bind λtb=>?_
 split
 .exact DS _ _ _ (by decide)
 .trivial
theorem QI(env:Env)(outer:List Env):DK (behindIsImport env outer):=by
 unfold behindIsImport
 split
 .trivial
 .split
  .trivial
  .exact(AM _ _).bind λ_=>trivial
theorem XW:DK underTheClaimsCaller:=λ_=>trivial
theorem Sa(env:Env)(i:Bool)(l:List Env):DK (keptBack env i l):=by
 unfold keptBack
 split
 .split
  .trivial
  .exact XW.bind λ_=>trivial
 .trivial
theorem Pj:∀l:List Env,DK (readyFrames l)
 |[]=>trivial
 |env::outer=>by
  unfold readyFrames
  split
  .refine(Fp _).bind λo=>?_
   split
   .trivial
   .refine(QI _ _).bind λ_=>(Sa _ _ _).bind λ_=>?_
    exact⟨λ_=>⟨rfl,rfl⟩,Pj outer⟩
  .trivial
theorem Yt(env:Env):DK (PySem.frameOf env):=by
 unfold PySem.frameOf;refine DK.bind (λ_=>trivial) λl=>?_
 refine DK.bind ?_ λr=>?_
 .unfold frameObject
  split
  .trivial
  .exact(Pj _).bind λ_=>trivial
 .split<;>trivial
theorem Rf(f:Addr)(b:Bool):DK (entryPlaceOf f b):=by
 unfold entryPlaceOf;refine DK.bind (λ_=>trivial) λl=>?_
 split<;>trivial
theorem YQ(a b c d e:Value)(pl:List Value):DK (EntryCells.newEntry a b c d e pl):=by
 unfold EntryCells.newEntry newFields newObj;dsimp only
 split<;>split<;>first|trivial|exact λ_=>trivial
theorem Jc(e:Value)(env:Env):DK (noteFrame e env):=by
 unfold noteFrame
 split
 .refine(AM e 1).bind λhead=>?_
  have rest:∀f:Addr,DK (do setField e 1 (<- EntryCells.newEntry head (<- PySem.frameOf env) .none (rawInt f) .none (<- entryPlaceOf f (head != .none)))):=λf=>(Yt env).bind λ_=>(Rf _ _).bind λ_=>(YQ _ _ _ _ _ _).bind λ_=>DS _ _ _ (by decide)
  split
  .refine(AM head 3).bind λx=>?_
   split
   .trivial
   .exact(DS _ _ _ (by decide)).bind λ_=>rest _
  .exact rest _
 .trivial
theorem BP(env:Env)(e:Value):DK (leaving env e):=(Jc e env).bind λ_=>G8 e none
section
variable{P:Program}{w:World}{H:Hp}{h h':Heap}
theorem cK.tracked(x:cK P w H h)(k:∀b u o,H b=some o->h.get? b=some u->h'.get? b=some u):cK P w H h':=λa o e=>
 (x a o e).dZ (λb u hb q=>hb.elim (λz=>k b u o (by rw[z];exact e) q) λz=>k b u _ z q) (λ_ z=>z) λ_ _ z=>z
theorem cK.alive(x:cK P w H h){o:HO}(e:H a=some o):∃u,h.get? a=some u:=by
 have q:=x a o e;cases o with
 |lst xs=>obtain⟨_,_,_,_,e⟩:=q;exact⟨_,e⟩
 |tup xs=>obtain⟨_,_,_,ob,e,_⟩:=q;exact⟨_,e⟩
 |dK aj=>obtain⟨_,_,_,_,ob,_,_,e,_⟩:=q;exact⟨_,e⟩
 |dT aj=>obtain⟨_,_,_,_,ob,_,_,e,_⟩:=q;exact⟨_,e⟩
 |set S n=>obtain⟨ob,_,_,_,e,_⟩:=q;exact⟨_,e⟩
 |ins C dx fs=>obtain⟨_,_,_,e,_⟩:=q;exact⟨_,e⟩
 |own y=>exact q
 |xd fs=>obtain⟨_,⟨_,_,_,e,_⟩,_⟩:=q;exact⟨_,e⟩
 |bG lo hi=>obtain⟨_,_,_,e⟩:=q;exact⟨_,e⟩
 |dY ob u=>exact⟨_,q.1⟩
 |pR ps=>exact⟨_,(show h.get? a=some _ from q)⟩
 |gZ _ _=>obtain⟨_,e,_⟩:=q;exact⟨_,e⟩
 |iJ _=>obtain⟨_,_,_,_,e,g,_⟩:=q;cases e;exact⟨_,g⟩
 |met f y=>exact⟨_,(show h.get? a=some _ from q)⟩
 |ext φ=>exact q.2.1
end
def XT(h:Heap)(H:Hp)(nw:Addr->Prop)(e:Addr):Option Addr->Prop
 |none=>True
 |some n=>∃oe dx t,h.get? e=some oe/\oe.dict=some dx/\h.Ns1 dx (G4 n t)/\H dx=none/\nw dx
def kj(h:Heap)(H:Hp)(nw:Addr->Prop)(e:Addr)(aN:Option Addr):Prop:=(∃oe,h.get? e=some oe/\mh oe=some .none)/\XT h H nw e aN
theorem kj.keep{h h':Heap}{H:Hp}{nw v_:Addr->Prop}{e:Addr}{aN:Option Addr}(x:kj h H nw e aN)(kd:Kd h h')(he:∃o,h'.get? e=some o)(st:∀b o,h.get? b=some o->(∀vs,o.data≠.fields vs)->∃sl,h'.get? b=some { o with slots:=sl })(hn:∀a,nw a->v_ a):kj h' H v_ e aN:=by
 obtain⟨⟨o0,g1,g2⟩,x⟩:=x;obtain⟨vW,he⟩:=he;refine⟨⟨vW,he,(kd.at g1 he).2.trans g2⟩,?_⟩;cases aN with
 |none=>trivial
 |some n=>
  obtain⟨oe,dx,t,h1,h2,⟨o,es,ep,q1,q2,q3⟩,h4,h5⟩:=x;obtain⟨sl,q4⟩:=st dx o q1 λvs z=>by rw[q2] at z;cases z
  exact⟨vW,dx,t,he,(kd.at h1 he).1.trans h2,⟨_,es,ep,q4,q2,q3⟩,h4,hn dx h5⟩
theorem kj.imp{h:Heap}{H:Hp}{nw v_:Addr->Prop}{e:Addr}{aN:Option Addr}(x:kj h H nw e aN)(hn:∀a,nw a->v_ a):kj h H v_ e aN:=by
 obtain⟨g,x⟩:=x;refine⟨g,?_⟩;cases aN with
 |none=>trivial
 |some n=>
  obtain⟨oe,dx,t,h1,h2,h3,h4,h5⟩:=x;exact⟨oe,dx,t,h1,h2,h3,h4,hn dx h5⟩
structure Jy(h:Heap)(H:Hp)(h0:Heap)(e:Addr)(cls:Value)(aN:Option Addr):Prop where
 py:kj h H (λa=>h0.get? a=none) e aN
 nw:h0.get? e=none
 fr:H e=none
 ob:∃oe vs a0 T oT ts,h.get? e=some oe/\oe.cls=cls/\vs[0]? = some a0/\oe.data=.fields vs/\vs[1]? = some (.ref T)/\T≠e/\h0.get? T=none/\H T=none/\h.get? T=some oT/\oT.data=.fields ts/\ts[3]? = some .none
structure K2(h:Heap)(H:Hp)(h0:Heap)(e:Addr)(cls:Value)(aN:Option Addr):Prop where
 py:kj h H (λa=>h0.get? a=none) e aN
 nw:h0.get? e=none
 fr:H e=none
 ob:∃oe vs a0,h.get? e=some oe/\oe.cls=cls/\vs[0]? = some a0/\oe.data=.fields vs/\vs[1]? = some .none
structure Zd(h:Heap)(H:Hp)(h0:Heap)(L e:Addr)(cls:Value)(aN:Option Addr):Prop where
 py:kj h H (λa=>h0.get? a=none) e aN
 nw:h0.get? e=none
 fr:H e=none
 ob:∃oe vs a0 T oT ts,h.get? e=some oe/\oe.cls=cls/\vs[0]? = some a0/\oe.data=.fields vs/\vs[1]? = some (.ref T)/\T≠e/\h0.get? T=none/\H T=none/\h.get? T=some oT/\oT.data=.fields ts/\ts[3]? = some (rawInt L)
def Ow(h:Heap)(H:Hp)(h0:Heap)(L e:Addr)(cls:Value)(aN:Option Addr):Prop:=K2 h H h0 e cls aN\/Jy h H h0 e cls aN\/Zd h H h0 L e cls aN
def gS(P:Program)(w:World):jj:=λouter H s E e s'=>∃a H' cls aN,e=.ref a/\s'.os=s.os/\AllBare s'.gens/\Un (bB outer) [] H H' s.heap s'.heap/\cK P w H' s'.heap/\Jy s'.heap H' s.heap a cls aN/\E cls aN H'
theorem Un.dead(u:Un fs [] H H' h h')(n:h'.get? a=none):h.get? a=none:=by
 cases q:h.get? a with
 |none=>rfl
 |some o=>
  obtain⟨o',e⟩:=u.there a o q (by simp);rw[n] at e;cases e
theorem IY{K:PySem.W.Frag}{outer:List Env}{aN:Option Addr}
  (I:Inv (e_ (gS P w) P w K mg base N qual scope f cd A outer s0 H0 E) af σ H s) (fl:Ow s.heap H s0.heap (e_ (gS P w) P w K mg base N qual scope f cd A outer s0 H0 E).env.locals e cls aN) (hE:E cls aN H) :
  (e_ (gS P w) P w K mg base N qual scope f cd A outer s0 H0 E).xe (.ref e) s:=by
 generalize hX:e_ (gS P w) P w K mg base N qual scope f cd A outer s0 H0 E=X at I fl ⊢;have hxe:X.xe=λe s'=>wpAny (model P w) X.A (leaving X.env e) (λ_ fL=>gS P w outer H0 s0 E e fL) (λe' fL=>gS P w outer H0 s0 E e' fL) s':=by rw[<- hX];rfl
 have cN:X.stack=X.env::outer:=by rw[<- hX];rfl
 have nF:X.A.frames=some (X.env::outer):=by rw[<- cN];exact I.ok.frames
 have hf:X.env.frame=some X.env.locals:=by rw[<- hX];rfl
 have hl:=I.stack;rw[cN] at hl;have u:Un (bB outer) [] H0 H s0.heap s.heap:=by
  have:=I.base;rw[<- hX] at this;exact this
 have hos:s.os=s0.os:=by
  have:=I.os;rw[<- hX] at this;exact this
 have aD:cK P w H s.heap:=by
  have:=I.aD;rw[<- hX] at this;exact this
 have free:=I.uw;rw[cN] at free;have lf:∀b,b∈bB (X.env::outer)->(∃o,s.heap.get? b=some o/\∀vs,o.data≠.fields vs):=λb m=>(hl.mem m).2
 have AH:=fl.elim (·.nw) λz=>z.elim (·.nw) (·.nw)
 have zS:=fl.elim (·.fr) λz=>z.elim (·.fr) (·.fr)
 have Yz:=fl.elim (·.py) λz=>z.elim (·.py) (·.py)
 rw[hxe];dsimp only;have fin:∀(xs:List Addr) (h':Heap),(∀x∈xs,s0.heap.get? x=none/\H x=none)->(∃a0,Heap.LeftW (PySem.W.hideAll s.heap (bB (X.env::outer)++xs)) (X.env::outer) e cls a0 s.heap h')->e∈xs->Kd s.heap h'->gS P w outer H0 s0 E (.ref e) { s with heap:=h' }:=λxs h' jn hL E4 kd=>by
  obtain⟨a0,k1,k2,k3,k4⟩:=hL;have dZ:∀b o,s.heap.get? b=some o->b∉bB (X.env::outer)->b∉xs->h'.get? b=some o:=λb o q n1 n2=>k1 b o (PySem.W.hideAll_get _ q λm=>(abb.mp m).elim n1 n2)
  have nx:∀b o,s0.heap.get? b=some o->b∉xs:=λb o q m=>by rw[(jn b m).1] at q;cases q
  have WN:∀b o,s0.heap.get? b=some o->b≠X.env.locals:=λb o q z=>by
   have h1:=I.ok.above;have h2:X.cI=s0:=by rw[<- hX];rfl
   rw[h2,<- z] at h1;exact absurd (aaZ q) (Nat.not_lt.mpr h1)
  have nfr:∀b o,s0.heap.get? b=some o->b∉bB outer->b∉bB (X.env::outer):=λb o q n m=>by
   have m:b∈(X.env::outer).filterMap (·.frame):=m;rw[ad4,hf] at m;exact(aaM.mp m).elim (WN b o q) n
  have sub:∀b,b∈bB outer->b∈bB (X.env::outer):=λb m=>by
   show b∈(X.env::outer).filterMap (·.frame);rw[ad4,hf];exact aal _ m
  refine⟨e,H,cls,aN,rfl,hos,I.bare,⟨λb o q n nf _=>?_,λb o q n m _=>?_,u.free,λb o q _=>?_,u.iZ,u.jh,u.jV⟩,aD.tracked λb v o hb q=>?_,⟨Yz.keep kd (by obtain⟨oe,vs,T,oT,ts,r1,_⟩:=k3;exact⟨oe,r1⟩) k4 λ_ z=>z,AH,zS,?_⟩,hE⟩
  .exact dZ b o (u.keep b o q n nf (by simp)) (nfr b o q nf) (nx b o q)
  .obtain⟨sl,q2⟩:=u.slot b o q n m (by simp);obtain⟨o2,q3,q4⟩:=lf b (sub b m);rw[q2] at q3;cases q3;obtain⟨pq,q5⟩:=k4 b _ q2 q4;exact⟨pq,q5⟩
  .obtain⟨o',q2⟩:=u.there b o q (by simp)
   by_cases m:b∈bB (X.env::outer)
   .obtain⟨o2,q3,q4⟩:=lf b m;rw[q2] at q3;cases q3;obtain⟨pq,q5⟩:=k4 b _ q2 q4;exact⟨_,q5⟩
   .exact⟨o',dZ b o' q2 m (nx b o q)⟩
  .refine dZ b v q (λm=>?_) λm=>?_
   .rw[free b m] at hb;cases hb
   .rw[(jn b m).2] at hb;cases hb
  .obtain⟨oe,vs,T,oT,ts,r1,⟨r2,r0⟩,r3,r4,r5,r6,r7,r8,r9⟩:=k3;refine⟨oe,vs,a0,T,oT,ts,r1,r2,r0,r3,r4,r6,?_,?_,r7,r8,r9⟩
   .cases q:s0.heap.get? T with
    |none=>rfl
    |some o=>
     exfalso
     obtain⟨o',q2⟩:=u.there T o q (by simp)
     by_cases m:T∈bB (X.env::outer)
     .obtain⟨o2,q3,q4⟩:=(k2.mem m).2;rw[r7] at q3;cases q3;exact q4 ts r8
     .have:=PySem.W.hideAll_get (bB (X.env::outer)++xs) q2 λz=>(abb.mp z).elim m (nx T o q)
      rw[r5] at this;cases this
   .cases q:H T with
    |none=>rfl
    |some o=>
     exfalso
     obtain⟨v,q2⟩:=aD.alive q;have:=PySem.W.hideAll_get (bB (X.env::outer)++xs) q2 λz=>(abb.mp z).elim (λm=>by rw[free T m] at q;cases q) λm=>by rw[(jn T m).2] at q;cases q
     rw[r5] at this;cases this
 have hide:∀xs:List Addr,s.heap.FunFrames (PySem.W.hideAll s.heap (bB (X.env::outer)++xs)) (X.env::outer):=λxs=>PySem.W.funFrames_hide hl λwB he a ha=>aaR _ (aeG.mpr ⟨wB,he,ha⟩)
 rcases fl with fl|fl|fl
 .obtain⟨oe,vs,a0,h1,h2,h0,h3,h5⟩:=fl.ob;refine acH (uz (BP _ _) (wpAny_leaving_firstW (Q:=λ_ fL=>∃h',fL={ s with heap:=h' }/\Heap.LeftW (PySem.W.hideAll s.heap (bB (X.env::outer)++[e])) (X.env::outer) e oe.cls a0 s.heap h') (E:=λ_ _=>False) (base:=PySem.W.hideAll s.heap (bB (X.env::outer)++[e])) nF (hide _) hf h1 (λb o q=>PySem.W.of_hideAll _ q) (PySem.W.hideAll_none _ (by simp)) h3 h5 h0 λh' hL=>⟨h',rfl,hL⟩)) (λ_ fL ⟨⟨h',eh,hL⟩,kd⟩=>?_) λ_ _ z=>z.1.elim
  subst eh;rw[h2] at hL;exact fin [e] h' (λx m=>by rw[aaH.mp m];exact⟨AH,zS⟩) ⟨a0,hL⟩ (by simp) kd
 .obtain⟨oe,vs,a0,T,oT,ts,h1,h2,h0,h3,t1,t2,t3,t4,t5,t6,t7⟩:=fl.ob;refine acH (uz (BP _ _) (wpAny_leaving_nextW (Q:=λ_ fL=>∃h',fL={ s with heap:=h' }/\Heap.LeftW (PySem.W.hideAll s.heap (bB (X.env::outer)++[e,T])) (X.env::outer) e cls a0 s.heap h') (E:=λ_ _=>False) (base:=PySem.W.hideAll s.heap (bB (X.env::outer)++[e,T])) (cls:=cls) (a0:=a0) nF (hide _) hf ⟨oe,vs,T,oT,ts,h1,⟨h2,h0⟩,h3,t1,PySem.W.hideAll_none _ (by simp),t2,t5,t6,t7⟩ (λb o q=>PySem.W.of_hideAll _ q) (PySem.W.hideAll_none _ (by simp)) λh' hL=>⟨h',rfl,hL⟩)) (λ_ fL ⟨⟨h',eh,hL⟩,kd⟩=>?_) λ_ _ z=>z.1.elim
  subst eh;refine fin [e,T] h' (λx m=>?_) ⟨a0,hL⟩ (by simp) kd;rcases aaM.mp m with z|z
  .rw[z];exact⟨AH,zS⟩
  .rw[aaH.mp z];exact⟨t3,t4⟩
 .obtain⟨oe,vs,a0,T,oT,ts,h1,h2,h0,h3,t1,t2,t3,t4,t5,t6,t7⟩:=fl.ob;have ak:Heap.HeldW (PySem.W.hideAll s.heap (bB (X.env::outer)++[e,T])) (X.env::outer) e cls a0 X.env.locals s.heap:=⟨λb o q=>PySem.W.of_hideAll _ q,PySem.W.hideAll_none _ (by simp),hide _,oe,vs,T,oT,ts,h1,⟨h2,h0⟩,h3,t1,PySem.W.hideAll_none _ (by simp),t2,t5,t6,t7⟩
  have key:wpAny (model P w) X.A (leaving X.env (.ref e)) (λ_ fL=>∃h',fL={ s with heap:=h' }/\Heap.LeftW (PySem.W.hideAll s.heap (bB (X.env::outer)++[e,T])) (X.env::outer) e cls a0 s.heap h') (λ_ _=>False) s:=by
   unfold leaving;refine aan (wpAny_noteFrame_againW hf ak.2.2.2 ?_);exact wpAny_landsW ak λh' ⟨k1,k2,k3,k4⟩ up=>⟨h',rfl,k1,k3,k4,up⟩
  refine acH (uz (BP _ _) key) (λ_ fL ⟨⟨h',eh,hL⟩,kd⟩=>?_) λ_ _ z=>z.1.elim
  subst eh;refine fin [e,T] h' (λx m=>?_) ⟨a0,hL⟩ (by simp) kd;rcases aaM.mp m with z|z
  .rw[z];exact⟨AH,zS⟩
  .rw[aaH.mp z];exact⟨t3,t4⟩
abbrev XS:=Value->Option Addr->St->Hp->Prop
def Eb(X:Cx)(E:XS):Prop:=∀(af:List (Addr×Obj)) (σ:St) (H:Hp) (s:Shared) (e:Addr) (cls:Value) (aN:Option Addr),Inv X af σ H s->K2 s.heap H X.cI.heap e cls aN->E cls aN σ H->X.xe (.ref e) s
theorem T4{K:PySem.W.Frag}{outer:List Env}:
  Eb (e_ (gS P w) P w K mg base N qual scope f cd A outer s0 H0 E) (λcls aN _ H=>E cls aN H):=λaf σ H s e cls aN I fl hE=>IY I (.inl fl) hE
structure yU(K:PySem.W.Frag)(C:Addr):Prop where
 ex:∃B newId LL sQ bm N nm qn bs hdct sn sub ab col dd k0 k1 k2 k3 k5,ExcBaseFacts B newId LL sQ/\K.lookup C=some (excClassObj nm qn C N bs bm hdct sn sub ab col dd k0 k1 k2 k3 k5 newId)/\
  PySem.W.nsOkIn K N=true/\PySem.W.nsIn K N "__init__"=some none/\PySem.W.tailIn K sQ bm=true
def Qy(C:Addr)(E:XS)(t:TA):TS:=λ_ σ H=>t σ H λvs H1=>vs.length<=sizeLine/\E (.ref C) none σ H1
section
variable{X:Cx}{x:Str}{C:Addr}{np dR pos:Pos}{e:Expr}{es:List Expr}{t:TA}{E:XS}
theorem XE(hc:X.calm=true)(hx:X.ex=[])(th:Eb X E)(cl:yU X.K C)(hg:Gl X x)(hm:X.mg x=some (.ref C))(ha:PA X (e::es) t)(eT:(x==("__debug__":Str))=false:=by decide)
  (he:starEach (e::es) X.env=(false,eval e X.env)::starEach es X.env:=by rfl) (hpl:(backTo dR (starEach es X.env)).any (·.1)=false:=by rfl) :
  PS X (.Raise (some (.Call (.Name x np) (e::es) [] dR)) none pos) (Qy C E t):=by
 intro af s σ H D I h;obtain⟨B,newId,LL,sQ,bm,N,nm,qn,bs,hdct,sn,sub,ab,col,dd,k0,k1,k2,k3,k5,FB,hl,n1,n2,n3⟩:=cl.ex;have hh:=I.ok.hd hc;have KI:=I.ok.mod.qz;have hC:=KI _ _ hl;have hN:=Heap.Ns.of_isNs (PySem.W.isNs_of_in KI n1);have zA:=PySem.W.nsMap_none_of_in KI n1 n2;have T:=PySem.W.tail_of_in KI n3;refine wpAny_Raise_call_subT (nm:=nm) (q:=qn) (N:=N) (bs:=bs) (bm:=bm) (hdct:=hdct) (sn:=sn) (sub:=sub) (ab:=ab) (col:=col) (dd:=dd) (k0:=k0) (k1:=k1) (k2:=k2) (k3:=k3) (k5:=k5)
  FB (T.hasType FB.hasBase) hh (by rw[he];show(false||(backTo dR (starEach es X.env)).any (·.1))=false;rw[hpl];rfl) zA (qX I hg hm ⟨rfl,?_⟩ eT)
 have key:=ha dR af s σ H _ I h;rw[he] at key ⊢;refine Calls.evalArgs_plain (acH key (λus s1 hq=>?_) λ_ _ y=>y);obtain⟨vs,H1,I1,r,hz,q1⟩:=hq;refine⟨rfl,by rw[<- r.length];exact hz,I1.bk _ _ hC,hN.keeps I1.bk,T.keeps I1.bk,λh' e' j7=>?_⟩;have I2:=I1.kept (t':=s1.toks) j7.keeps;refine th af σ H1 _ e' (.ref C) none I2 ⟨⟨?_,trivial⟩,?_,?_,?_⟩ q1
 .obtain⟨tp,z,_,_⟩:=j7.there;exact⟨_,z,rfl⟩
 .have u:=I1.base;rw[hx] at u;exact u.dead j7.new
 .cases qq:H1 e' with
  |none=>rfl
  |some o=>
   obtain⟨v,z⟩:=I1.aD.alive qq;rw[j7.new] at z;cases z
 .obtain⟨tp,z,_,_⟩:=j7.there;exact⟨_,_,_,z,rfl,rfl,rfl,rfl⟩
end
section
variable{X:Cx}{af:List (Addr×Obj)}{σ:St}{H:Hp}{s:Shared}{h':Heap}
theorem Inv.slots(I:Inv X af σ H s)(xs:List Addr)(dZ:∀b o,s.heap.get? b=some o->b∉bB X.stack->b∉xs->h'.get? b=some o)(slot:∀b o,s.heap.get? b=some o->b∈bB X.stack->∃sl,h'.get? b=some { o with slots:=sl })
  (jn:∀x∈xs,X.cI.heap.get? x=none/\H x=none/\x≠X.env.locals/\(∀y c,X.env.cells.lookup y=some c->c≠x)/\∀p∈X.pn++af,p.1≠x):Inv X af σ H { s with heap:=h' }:=by
 have any:∀b o,s.heap.get? b=some o->b∉xs->∃sl,h'.get? b=some { o with slots:=sl }:=λb o q n=>by
  by_cases m:b∈bB X.stack
  .exact slot b o q m
  .exact⟨o.slots,dZ b o q m n⟩
 have out:∀b,b≠X.env.locals->b∉X.fs->b∉bB X.stack:=λb n1 n2 m=>(aaM.mp (I.Ag b m)).elim n1 n2
 have Av:∀b o,X.cI.heap.get? b=some o->b≠X.env.locals:=λb o e=>abn (abP (aaZ e) I.ok.above)
 have G0:∀b o,X.cI.heap.get? b=some o->b∉xs:=λb o e m=>by rw[(jn b m).1] at e;cases e
 have cellK:∀x c,X.env.cells.lookup x=some c->∀v,s.heap.IsCell c v->h'.IsCell c v:=λx c e v ⟨o,ho,hd⟩=>by
  obtain⟨sl,q⟩:=any c o ho λz=>(jn c z).2.2.2.1 x c e rfl
  exact⟨_,q,hd⟩
 refine⟨I.ok,I.os,I.bare,⟨λb o e n hb hx=>?_,λb o e n hb hx=>?_,I.base.free,λb o e hx=>?_,I.base.iZ,I.base.jh,I.base.jV⟩,?_,λx c e=>?_,I.free,I.f_,λp hp=>?_,I.aD.tracked λb v o hb q=>?_,I.len,I.hq⟩
 .exact dZ b o (I.base.keep b o e n hb hx) (out b (Av b o e) hb) (G0 b o e)
 .obtain⟨sl,e1⟩:=I.base.slot b o e n hb hx;obtain⟨pq,e2⟩:=any b _ e1 (G0 b o e);exact⟨pq,e2⟩
 .obtain⟨o',e1⟩:=I.base.there b o e hx;obtain⟨sl,e2⟩:=any b o' e1 (G0 b o e);exact⟨_,e2⟩
 .obtain⟨m,⟨o,es,ep,ho,r⟩,hl⟩:=I.loc;obtain⟨sl,hL⟩:=any _ o ho λz=>(jn _ z).2.2.1 rfl
  refine⟨m,⟨_,es,ep,hL,r⟩,λi x v e1 e2 e3=>?_⟩;obtain⟨u,rr,l⟩:=hl i x v e1 e2 e3;refine⟨u,rr,?_⟩;rcases l with l|⟨k,c,e,z⟩
  .exact .inl l
  .exact .inr ⟨k,c,e,cellK x c e _ z⟩
 .obtain⟨v,z⟩:=I.cell x c e;exact⟨v,cellK x c e v z⟩
 .obtain⟨e,n,ne,nf,d⟩:=I.pin p hp;exact⟨dZ p.1 p.2 e (out p.1 ne nf) λz=>(jn p.1 z).2.2.2.2 p hp rfl,n,ne,nf,d⟩
 .refine dZ b v q (λm=>?_) λm=>?_
  .rw[I.uw b m] at hb;cases hb
  .rw[(jn b m).2.1] at hb;cases hb
theorem Inv.apart(I:Inv X af σ H s){x:Addr}(hx:X.ex=[])(n:s.heap.get? x=none):X.cI.heap.get? x=none/\x≠X.env.locals/\(∀y c,X.env.cells.lookup y=some c->c≠x)/\∀p∈X.pn++af,p.1≠x:=by
 refine⟨?_,λz=>?_,λy c e z=>?_,λp hp z=>?_⟩
 .have u:=I.base;rw[hx] at u;exact u.dead n
 .obtain⟨m,⟨o,_,_,ho,_⟩,_⟩:=I.loc;rw[<- z,n] at ho;cases ho
 .obtain⟨v,o,ho,_⟩:=I.cell y c e;rw[z,n] at ho;cases ho
 .have:=(I.pin p hp).1;rw[z,n] at this;cases this
noncomputable abbrev Apart(X:Cx)(af:List (Addr×Obj))(a:Addr):Prop:=X.cI.heap.get? a=none/\a≠X.env.locals/\(∀y c,X.env.cells.lookup y=some c->c≠a)/\∀p∈X.pn++af,p.1≠a
structure fB(X:Cx)(af:List (Addr×Obj))(σ:St)(H:Hp)(e:Addr)(cls:Value)(aN:Option Addr)(s:Shared):Prop where
 py:kj s.heap H (Apart X af) e aN
 inv:Inv X af σ H s
 fr:H e=none
 ap:X.cI.heap.get? e=none/\e≠X.env.locals/\(∀y c,X.env.cells.lookup y=some c->c≠e)/\∀p∈X.pn++af,p.1≠e
 ob:∃oe vs a0 T oT ts,s.heap.get? e=some oe/\oe.cls=cls/\vs[0]? = some a0/\oe.data=.fields vs/\vs[1]? = some (.ref T)/\T≠e/\H T=none/\(X.cI.heap.get? T=none/\T≠X.env.locals/\(∀y c,X.env.cells.lookup y=some c->c≠T)/\∀p∈X.pn++af,p.1≠T)/\s.heap.get? T=some oT/\oT.data=.fields ts/\(ts[3]? = some .none\/ts[3]? = some (rawInt X.env.locals))
end
section
variable{X:Cx}{af:List (Addr×Obj)}{σ:St}{H:Hp}{s:Shared}{e:Addr}{cls:Value}{aN:Option Addr}{M:Model}{A':Around}{E':Value->Shared->Prop}
theorem landAt(I:Inv X af σ H s)(hx:X.ex=[])(fr:H e=none)(ap:X.cI.heap.get? e=none/\e≠X.env.locals/\(∀y c,X.env.cells.lookup y=some c->c≠e)/\∀p∈X.pn++af,p.1≠e)(E4:e∈xs)
  (jn:∀x∈xs,H x=none/\X.cI.heap.get? x=none/\x≠X.env.locals/\(∀y c,X.env.cells.lookup y=some c->c≠x)/\∀p∈X.pn++af,p.1≠x)
  (k1:(PySem.W.hideAll s.heap (bB X.stack++xs)).StaysIn h') (k3:h'.FunFrames (PySem.W.hideAll s.heap (bB X.stack++xs)) X.stack) (tr:h'.TracedAtW (PySem.W.hideAll s.heap (bB X.stack++xs)) e cls a0 fl) (hfl:fl=.none\/fl=rawInt X.env.locals) (up:s.heap.UpToSlots h') (py:kj s.heap H (Apart X af) e aN) (kd:Kd s.heap h'):fB X af σ H e cls aN { s with heap:=h' }:=by
 obtain⟨oe,vs,T,oT,ts,r1,⟨r2,r0⟩,r3,r4,r5,r6,r7,r8,r9⟩:=tr;have dZ:∀b o,s.heap.get? b=some o->b∉bB X.stack->b∉xs->h'.get? b=some o:=λb o q n1 n2=>k1 b o (PySem.W.hideAll_get _ q λm=>(abb.mp m).elim n1 n2)
 have slot:∀b o,s.heap.get? b=some o->b∈bB X.stack->∃sl,h'.get? b=some { o with slots:=sl }:=λb o q m=>by
  obtain⟨_,o2,q3,q4⟩:=I.stack.mem m;rw[q] at q3;cases q3;exact up b o q q4
 have J:=I.slots xs dZ slot λx m=>let⟨a,b,c⟩:=jn x m;⟨b,a,c⟩
 have tH:H T=none:=by
  cases q:H T with
  |none=>rfl
  |some o=>
   exfalso
   obtain⟨v,q2⟩:=I.aD.alive q;have:=PySem.W.hideAll_get (bB X.stack++xs) q2 λz=>(abb.mp z).elim (λm=>by rw[I.uw T m] at q;cases q) λm=>by rw[(jn T m).1] at q;cases q
   rw[r5] at this;cases this
 have tF:T∉bB X.stack:=λm=>by
  obtain⟨_,o2,q3,q4⟩:=k3.mem m;rw[r7] at q3;cases q3;exact q4 ts r8
 have tA:X.cI.heap.get? T=none/\T≠X.env.locals/\(∀y c,X.env.cells.lookup y=some c->c≠T)/\∀p∈X.pn++af,p.1≠T:=by
  by_cases m:T∈xs
  .exact(jn T m).2
  .have dead:s.heap.get? T=none:=by
    cases q:s.heap.get? T with
    |none=>rfl
    |some o=>
     have:=PySem.W.hideAll_get (bB X.stack++xs) q λz=>(abb.mp z).elim tF m
     rw[r5] at this;cases this
   refine⟨?_,λz=>?_,λy c e z=>?_,λp hp z=>?_⟩
   .cases q:X.cI.heap.get? T with
    |none=>rfl
    |some o=>
     exfalso
     obtain⟨o',q2⟩:=I.base.there T o q (by rw[hx];simp);rw[dead] at q2;cases q2
   .obtain⟨m,⟨o,_,_,ho,_⟩,_⟩:=I.loc;rw[<- z,dead] at ho;cases ho
   .obtain⟨v,o,ho,_⟩:=I.cell y c e;rw[z,dead] at ho;cases ho
   .have:=(I.pin p hp).1;rw[z,dead] at this;cases this
 exact⟨py.keep kd ⟨oe,r1⟩ up λ_ z=>z,J,fr,ap,oe,vs,a0,T,oT,ts,r1,r2,r0,r3,r4,r6,tH,tA,r7,r8,hfl.elim (λz=>.inl (z ▸ r9)) λz=>.inr (z ▸ r9)⟩
theorem land(I:Inv X af σ H s)(hx:X.ex=[])(fr:H e=none)(ap:Apart X af e)(E4:e∈xs)(jn:∀x∈xs,H x=none/\Apart X af x)
  (fl:Heap.FlyingW (PySem.W.hideAll s.heap (bB X.stack++xs)) X.stack e cls a0 h') (up:s.heap.UpToSlots h') (py:kj s.heap H (Apart X af) e aN) (kd:Kd s.heap h'):fB X af σ H e cls aN { s with heap:=h' }:=
 landAt I hx fr ap E4 jn fl.1 fl.2.2.1 fl.2.2.2 (.inl rfl) up py kd
theorem fB.ado{R:Shared->Prop}(L:fB X af σ H e cls aN s)(hx:X.ex=[])(cN:X.stack=X.env::X.outer)(hf:X.env.frame=some X.env.locals)(k:∀s3,fB X af σ H e cls aN s3->R s3):
  wpAny M X.A (noteFrame (.ref e) X.env) (λ_ s2=>wpAny M X.A (setFlight (.ref e) none) (λ_ s3=>R s3) E' s2) E' s:=by
 obtain⟨oe,vs,a0,T,oT,ts,h1,h2,h0,h3,t1,t2,tH,tA,t5,t6,t7⟩:=L.ob;have I:=L.inv;have nF:X.A.frames=some (X.env::X.outer):=by rw[<- cN];exact I.ok.frames
 have hF:=PySem.W.funFrames_hide (as:=bB X.stack++[e,T]) I.stack λwB he a ha=>aaR _ (aeG.mpr ⟨wB,he,ha⟩)
 have fin:∀h4,Heap.HeldW (PySem.W.hideAll s.heap (bB X.stack++[e,T])) (X.env::X.outer) e cls a0 X.env.locals h4->s.heap.UpToSlots h4->Kd s.heap h4->wpAny M X.A (setFlight (.ref e) none) (λ_ s3=>R s3) E' { s with heap:=h4 }:=λh4 ak x9 CQ=>by
  refine acH (uz (G8 _ _) (wpAny_landsW (Q:=λ_ s5=>∃h5,s5={ s with heap:=h5 }/\Heap.FlyingW (PySem.W.hideAll s.heap (bB X.stack++[e,T])) (X.env::X.outer) e cls a0 h5/\h4.UpToSlots h5) (E:=λ_ _=>False) ak λh5 yJ Cf=>⟨h5,rfl,yJ,Cf⟩)) (λ_ s5 ⟨⟨h5,e5,yJ,Cf⟩,Xm⟩=>?_) λ_ _ z=>z.1.elim
  subst e5;refine k _ (show fB X af σ H e cls aN { s with heap:=h5 } from land (a0:=a0) (xs:=[e,T]) I hx L.fr L.ap (by simp) (λx m=>?_) ?_ (x9.trans Cf) L.py (CQ.trans Xm))
  .rcases aaM.mp m with z|z
   .rw[z];exact⟨L.fr,L.ap⟩
   .rw[aaH.mp z];exact⟨tH,tA⟩
  .rw[<- cN] at yJ;exact yJ
 rcases t7 with t7|t7
 .have F:Heap.FlyingW (PySem.W.hideAll s.heap (bB X.stack++[e,T])) (X.env::X.outer) e cls a0 s.heap:=by
   rw[<- cN];exact⟨λb o q=>PySem.W.of_hideAll _ q,PySem.W.hideAll_none _ (by simp),hF,oe,vs,T,oT,ts,h1,⟨h2,h0⟩,h3,t1,PySem.W.hideAll_none _ (by simp),t2,t5,t6,t7⟩
  refine acH (uz (Jc _ _) (wpAny_looks_onW (Q:=λ_ s4=>∃h4,s4={ s with heap:=h4 }/\Heap.HeldW (PySem.W.hideAll s.heap (bB X.stack++[e,T])) (X.env::X.outer) e cls a0 X.env.locals h4/\s.heap.UpToSlots h4) (E:=λ_ _=>False) nF hf F λh4 ak x9=>⟨h4,rfl,ak,x9⟩)) (λ_ s4 ⟨⟨h4,e4,ak,x9⟩,CQ⟩=>?_) λ_ _ z=>z.1.elim
  subst e4;exact fin h4 ak x9 CQ
 .have F:Heap.HeldW (PySem.W.hideAll s.heap (bB X.stack++[e,T])) (X.env::X.outer) e cls a0 X.env.locals s.heap:=by
   rw[<- cN];exact⟨λb o q=>PySem.W.of_hideAll _ q,PySem.W.hideAll_none _ (by simp),hF,oe,vs,T,oT,ts,h1,⟨h2,h0⟩,h3,t1,PySem.W.hideAll_none _ (by simp),t2,t5,t6,t7⟩
  exact wpAny_noteFrame_againW hf F.2.2.2 (fin s.heap F (λb o hb _=>⟨o.slots,hb⟩) (Kd.refl _))
theorem fB.fly(L:fB X af σ H e cls aN s):Ow s.heap H X.cI.heap X.env.locals e cls aN:=by
 obtain⟨oe,vs,a0,T,oT,ts,h1,h2,h0,h3,t1,t2,tH,tA,t5,t6,t7⟩:=L.ob;rcases t7 with t7|t7
 .exact .inr (.inl ⟨L.py.imp λ_ z=>z.1,L.ap.1,L.fr,oe,vs,a0,T,oT,ts,h1,h2,h0,h3,t1,t2,tA.1,tH,t5,t6,t7⟩)
 .exact .inr (.inr ⟨L.py.imp λ_ z=>z.1,L.ap.1,L.fr,oe,vs,a0,T,oT,ts,h1,h2,h0,h3,t1,t2,tA.1,tH,t5,t6,t7⟩)
end
def tW(X:Cx)(E:XS):Prop:=∀(af:List (Addr×Obj)) (σ:St) (H:Hp) (s:Shared) (e:Addr) (cls:Value) (aN:Option Addr),fB X af σ H e cls aN s->E cls aN σ H->X.xe (.ref e) s
theorem VF{K:PySem.W.Frag}{outer:List Env}:
  tW (e_ (gS P w) P w K mg base N qual scope f cd A outer s0 H0 E) (λcls aN _ H=>E cls aN H):=λaf σ H s e cls aN L hE=>IY L.inv L.fly hE
section
variable{M:Model}{A:Around}{E:Value->Shared->Prop}
variable{nm q:Str}{C N:Addr}{bs bm:List Value}{hdct:Bool}{sn:List Str}{sub:List Value}{ab:Bool}{col:Option Bool}{dd:Option Addr}{k0 k1 k2 k3 k5:Option Value}{newId:String}
variable{tN q':Str}{D N':Addr}{sP nS:List Value}{sR:Bool}{uf:List Str}{uG:List Value}{uF:Bool}{uS:Option Bool}{i9:Option Addr}{j0 j1 j2 j3 j5:Option Value}{tw:String}
theorem aaj{g:Array GenState}{d:Drawn}{os:OsState}{Q:Bool->Shared->Prop}
  (hC:h.get? C=some (excClassObj nm q C N bs bm hdct sn sub ab col dd k0 k1 k2 k3 k5 newId)) (hD:h.get? D=some (excClassObj tN q' D N' sP nS sR uf uG uF uS i9 j0 j1 j2 j3 j5 tw)) (he:h.get? e=some oe) (vf:oe.cls=.ref C)
  (hb:nS.contains (.type "BaseException")=true) (hq:Q ((Value.ref C::bm).contains (.ref D)) ⟨h,g,d,t,os⟩):wpAny M A (excMatches (.ref e) (.ref D)) Q E ⟨h,g,d,t,os⟩:=by
 have WI:(Value.ref D::nS).contains (.type "BaseException")=true:=by rw[List.contains_cons,hb,Bool.or_true]
 have f:=tc_notTuple;unfold excMatches
 repeat (first|(with_reducible refine wpAny_loadPart_at he ?_;rw[vf])|with_reducible refine wpAny_loadPart_at hD ?_|(with_reducible refine wpAny_isSubtype_exc hD ?_;rw[WI])|(with_reducible refine wpAny_isSubtype_exc hC ?_)|wp_step)
 cases hz:(Value.ref C::bm).contains (.ref D)<;>(rw[hz] at hq;wp_walk;exact hq)
end
section
variable{X:Cx}{af:List (Addr×Obj)}{σ:St}{H:Hp}{s:Shared}{e:Addr}{cls:Value}{aN:Option Addr}{M:Model}{A':Around}{E':Value->Shared->Prop}
theorem fB.again{Q:Unit->Shared->Prop}(L:fB X af σ H e cls aN s)(hx:X.ex=[])(k:∀s',fB X af σ H e cls aN s'->Q () s'):wpAny M A' (setFlight (.ref e) none) Q E' s:=by
 obtain⟨oe,vs,a0,T,oT,ts,h1,h2,h0,h3,t1,t2,tH,tA,t5,t6,t7⟩:=L.ob;obtain⟨fl,t7⟩:∃fl,ts[3]? = some fl:=t7.elim (λz=>⟨_,z⟩) λz=>⟨_,z⟩
 have I:=L.inv;refine acH (uz (G8 _ _) (wpAny_setFlight_noneW (Q:=λ_ s'=>∃h',s'={ s with heap:=h' }/\(PySem.W.hideAll s.heap (bB X.stack++[e,T])).StaysIn h'/\h'.FunFrames (PySem.W.hideAll s.heap (bB X.stack++[e,T])) X.stack/\h'.TracedW (PySem.W.hideAll s.heap (bB X.stack++[e,T])) e cls a0/\(∀b o,s.heap.get? b=some o->(∀vs,o.data≠.fields vs)->h'.get? b=some o)) (E:=λ_ _=>False) (base:=PySem.W.hideAll s.heap (bB X.stack++[e,T])) (cls:=cls) (a0:=a0) (fl:=fl) (λb o q=>PySem.W.of_hideAll _ q)
  (PySem.W.funFrames_hide I.stack λwB he a ha=>aaR _ (aeG.mpr ⟨wB,he,ha⟩)) ⟨oe,vs,T,oT,ts,h1,⟨h2,h0⟩,h3,t1,PySem.W.hideAll_none _ (by simp),t2,t5,t6,t7⟩ λh' k1 k2 k3 k4=>⟨h',rfl,k1,k2,k3,k4⟩)) (λ_ s' ⟨⟨h',eh,k1,k2,k3,k4⟩,kd⟩=>?_) λ_ _ z=>z.1.elim
 subst eh;refine k _ (land (a0:=a0) (xs:=[e,T]) I hx L.fr L.ap (by simp) (λx m=>?_) ⟨k1,PySem.W.hideAll_none _ (by simp),k2,k3⟩ (λb o q n=>⟨o.slots,k4 b o q n⟩) L.py kd);rcases aaM.mp m with z|z
 .rw[z];exact⟨L.fr,L.ap⟩
 .rw[aaH.mp z];exact⟨tH,tA⟩
end
def AI(X:Cx)(af:List (Addr×Obj))(σ:St)(E:XK)(e:Value)(s':Shared):Prop:=∃a cls aN H',e=.ref a/\fB X af σ H' a cls aN s'/\E cls aN H'
abbrev TX:=St->Hp->VK->XK->Prop
def PX(X:Cx)(e:Expr)(t:TX):Prop:=
 ∀(af:List (Addr×Obj)) (s:Shared) (σ:St) (H:Hp) (Q:VK) (E:XK),Inv X af σ H s->t σ H Q E->wpAny (model X.prog X.w) X.A (eval e X.env) (EP X af σ Q) (AI X af σ E) s
section
variable{X:Cx}{cm:Bool}{k:Nat}{f C:Addr}{fd:FuncData}{ps:List Str}{sp:Sp}{dQ:List V}{ds:List Value}{x m:Str}{p pos apos:Pos}{e o:Expr}{es:List Expr}{ta:TE}{t:TA}
theorem Z1{e:Value}(I:Inv X af σ H s)(hx:X.ex=[])(h:gS X.prog X.w X.stack H s E e s'):AI X af σ E e s':=by
 obtain⟨a,H',cls,aN,rfl,os,bare,un,aD,fl,hE⟩:=h;have I':=I.O_ (ch:=[]) os un aD bare λb z=>absurd z (by simp)
 obtain⟨oe,vs,a0,T,oT,ts,h1,h2,h0,h3,t1,t2,t3,t4,t5,t6,t7⟩:=fl.ob;exact⟨a,cls,aN,H',rfl,⟨fl.py.imp λ_ z=>I.apart hx z,I',fl.fr,I.apart hx fl.nw,oe,vs,a0,T,oT,ts,h1,h2,h0,h3,t1,t2,t4,I.apart hx t3,t5,t6,.inl t7⟩,hE⟩
theorem Xv(F:bN X.prog X.w X.K X.mg X.base (gS X.prog X.w) k f fd ps sp cm)(hr:aZ k X.A cm)(hb:Binds X.K fd ps ds)(hd:aK dQ ds)(hx:X.ex=[])
  (I:Inv X af σ H s) (r:aK vs us) (h:sp (vs++dQ) H Q E):wpAny (model X.prog X.w) X.A (call (.ref f) us) (EP X af σ Q) (AI X af σ E) s:=by
 have r2:=r.append hd;have hl:(us++ds).length=ps.length:=by rw[<- r2.length];exact F.len _ _ _ _ h
 refine afi (aeV (F.run X.A X.stack s H ⟨us,[]⟩ (us++ds) (vs++dQ) Q E hr I.Hu (hb s us I.cV hl) r2 h) λr s' hq=>?_);cases r with
 |error e=>exact Z1 I hx hq
 |ok fl=>
  cases fl with
  |ret u=>exact I.after hq
  |next=>exact False.elim hq
  |brk=>exact False.elim hq
  |cont=>exact False.elim hq
def VY(C:Addr)(m:Str)(sp:Sp)(dQ:List V)(ta:TE)(t:TA):TX:=λσ H Q E=>ta σ H λx H1=>∃a dx fs,x=.ref a/\H1 a=some (.ins C dx fs)/\fs.lookup m=none/\
 t σ H1 λvs H2=>sp (x::(vs++dQ)) H2 Q E
theorem QB{Q:List V->Hp->Prop}(ha:PA X.gz es t)(I:Inv X af σ H s)(h:t σ H Q):
  wpAny (model X.prog X.w) X.A (spliced (backTo pos (starEach es X.env))) (AP X af σ Q) E' s:=
 acH (ha pos af s σ H Q (I.kh _) h) (λus s1 ⟨vs,H1,I1,q⟩=>⟨vs,H1,I1.mO,q⟩) λ_ _ z=>False.elim z
theorem VE(ha:PE X.gz o ta)(I:Inv X af σ H s)(h:ta σ H Q):
  wpAny (model X.prog X.w) X.A (eval o X.env) (EP X af σ Q) E' s:=
 acH (ha af s σ H Q (I.kh _) h) (λus s1 ⟨vs,H1,I1,q⟩=>⟨vs,H1,I1.mO,q⟩) λ_ _ z=>False.elim z
theorem Z3{pl:Sem Bool}(he:PE X.gz o ta)(c:jY X.K C)(hm:j6 X.K C m f)(F:bN X.prog X.w X.K X.mg X.base (gS X.prog X.w) k f fd ps sp cm)(hr:aZ k X.A cm)(hx:X.ex=[])(hb:Binds X.K fd ps ds)(hd:aK dQ ds)(ha:PA X.gz (e::es) t)
  (cN:starEach (e::es) X.env=(false,eval e X.env)::starEach es X.env:=by rfl) (hpl:(backTo pos (starEach es X.env)).any (·.1)=false:=by rfl)
  (ht:eval (.Call (.Attribute o m apos) (e::es) [] pos) X.env=(do
   let ov <- eval o X.env
   standAt apos.atName
   let(f,first) <- holding [ov] (getMethod ov m pl)
   callWith pos f first (backTo pos (starEach (e::es) X.env)) (backToKw pos (keywordEach [] X.env))):=by rfl) :
  PX X (.Call (.Attribute o m apos) (e::es) [] pos) (VY C m sp dQ ta t):=by
 intro af s σ H Q E I h;refine PySem.W.methodCall_KW (pl:=pl) (aM (VE he I h) λu s1 ⟨x,H1,I1,rx,a,dx,fs,ex,ea,l,q⟩=>?_) ht;subst ex;obtain rfl:u=Value.ref a:=rx;refine DY I1 ea c hm l ?_;exact PySem.W.callWith_K (first:=[.ref a]) (h₀:=X.base) I.ok.mod.qz hm.kp (aM (QB ha I1 q) λus s2 ⟨vs,H2,I2,r,q2⟩=>⟨I2.cV,Xv (us:=.ref a::us) (vs:=.ref a::vs) F hr hb hd hx I2 (.cons rfl r) q2⟩) cN hpl
end
section
variable{X:Cx}{e:Expr}{t:TX}{ES:XS}{pos:Pos}
theorem abX(th:tW X ES)(h:AI X af σ (λcls aN H=>ES cls aN σ H) v s):X.xe v s:=by
 obtain⟨a,cls,aN,H',rfl,L,q⟩:=h;exact th af σ H' s a cls aN L q
def Wu(ES:XS)(t:TX):TS:=λD σ H=>t σ H (λ_ H1=>D.nx σ H1) λcls aN H'=>ES cls aN σ H'
theorem Qg(th:tW X ES)(he:PX X e t)(hs:swapsWith e none pos.line X.env=pure false:=by rfl):PS X (.Expr e pos) (Wu ES t):=by
 intro af s σ H D I h;exact wpAny_Expr_any (acH (he af s σ H _ _ I h) (λv s1 ⟨x,H1,I1,r1,q1⟩=>⟨σ,H1,I1,q1⟩) λ_ _ z=>abX th z) I.quiet hs
end
noncomputable abbrev Cx.jS(X:Cx)(af:List (Addr×Obj))(R:XS):Cx:={ X with pn:=X.pn++af,xe:=λe s'=>∃σ H a cls aN,e=.ref a/\fB X af σ H a cls aN s'/\R cls aN σ H }
section
variable{X:Cx}{af u9:List (Addr×Obj)}{R:XS}{σ:St}{H:Hp}{s:Shared}{e:Addr}{cls:Value}{aN:Option Addr}
theorem Cx.Ok.jS(ok:X.Ok):(X.jS af R).Ok:=
 ⟨ok.mod,ok.kind,ok.glob,ok.blt,ok.above,ok.inj,ok.has,ok.nu,ok.hd,ok.frames,ok.pL,ok.qU,ok.bs,ok.iA,ok.nv,ok.n5,ok.iO,ok.lN⟩
theorem Cx.Ok.nk(ok:(X.jS af R).Ok):X.Ok:=
 ⟨ok.mod,ok.kind,ok.glob,ok.blt,ok.above,ok.inj,ok.has,ok.nu,ok.hd,ok.frames,ok.pL,ok.qU,ok.bs,ok.iA,ok.nv,ok.n5,ok.iO,ok.lN⟩
theorem Inv.jS(I:Inv X af σ H s):Inv (X.jS af R) [] σ H s:=⟨I.ok.jS,I.os,I.bare,I.base,I.loc,I.cell,I.free,I.f_,λp hp=>I.pin p (by simpa using hp),I.aD,I.len,I.hq⟩
theorem Inv.nk(I:Inv (X.jS af R) u9 σ H s):Inv X af σ H s:=⟨I.ok.nk,I.os,I.bare,I.base,I.loc,I.cell,I.free,I.f_,λp hp=>I.pin p (aaR _ hp),I.aD,I.len,I.hq⟩
theorem fB.nk(L:fB (X.jS af R) u9 σ H e cls aN s):fB X af σ H e cls aN s:=by
 obtain⟨py,I,fr,⟨a1,a2,a3,a4⟩,oe,vs,a0,T,oT,ts,h1,h2,h0,h3,t1,t2,tH,⟨b1,b2,b3,b4⟩,t5⟩:=L;exact⟨py.imp λ_ z=>⟨z.1,z.2.1,z.2.2.1,λp hp=>z.2.2.2 p (aaR _ hp)⟩,I.nk,fr,⟨a1,a2,a3,λp hp=>a4 p (aaR _ hp)⟩,oe,vs,a0,T,oT,ts,h1,h2,h0,h3,t1,t2,tH,⟨b1,b2,b3,λp hp=>b4 p (aaR _ hp)⟩,t5⟩
theorem ade:tW (X.jS af R) R:=λu9 σ H s e cls aN L q=>⟨σ,H,e,cls,aN,rfl,L.nk,q⟩
end
noncomputable abbrev Cx.lQ(X:Cx)(a:Addr):Cx:={ X with A:=X.A.mark (some (.ref a)),calm:=false,xe:=λ_ _=>False }
section
variable{X:Cx}{af:List (Addr×Obj)}{σ:St}{H:Hp}{s:Shared}{e:Addr}{cls:Value}{aN:Option Addr}
theorem Inv.lQ(I:Inv X af σ H s)(a:Addr)(hq:qJ (X.A.mark (some (.ref a))) H):Inv (X.lQ a) af σ H s:=
 ⟨⟨I.ok.mod,I.ok.kind,I.ok.glob,I.ok.blt,I.ok.above,I.ok.inj,I.ok.has,I.ok.nu,λz=>Bool.noConfusion z,I.ok.frames,I.ok.pL,I.ok.qU,I.ok.bs,I.ok.iA,I.ok.nv,I.ok.n5,I.ok.iO,I.ok.lN⟩,I.os,I.bare,I.base,I.loc,I.cell,I.free,I.f_,I.pin,I.aD,I.len,⟨hq,I.hq.ok,I.hq.lm⟩⟩
theorem Inv.Q_(hc:X.calm=true)(I0:Inv X af σ H s)(I:Inv (X.lQ a) af aB H' s'):Inv X af aB H' s':=
 ⟨I0.ok,I.os,I.bare,I.base,I.loc,I.cell,I.free,I.f_,I.pin,I.aD,I.len,⟨.inl (I0.ok.hd hc),I.hq.ok,I.hq.lm⟩⟩
theorem Inv.AJ{u:HO}(I:Inv X af σ H s)(fr:H e=none)(ap:Apart X af e)(ok:cU X.prog X.w (upd H e u) s.heap e u):Inv X af σ (upd H e u) s:=by
 obtain⟨a1,a2,a3,a4⟩:=ap;have ne:∀{b:Addr}{o:HO},H b=some o->b≠e:=λ{b o} q z=>by rw[z,fr] at q;cases q
 refine⟨I.ok,I.os,I.bare,⟨I.base.keep,I.base.slot,λb o q n hx=>?_,I.base.there,λb xs q=>?_,λb o u q=>?_,λb ps q=>?_⟩,I.loc,I.cell,?_,λx c q=>?_,λp hp=>?_,λb o q=>?_,I.len,I.hq.mono (λb o u q=>by rw[aO (ne q)];exact q) λb t q=>by rw[aO (ne q)];exact q⟩
 .rw[aO λz=>by rw[z,a1] at q;cases q];exact I.base.free b o q n hx
 .have w:=I.base.iZ b xs q;rw[aO (ne w)];exact w
 .have w:=I.base.jh b o u q;rw[aO (ne w)];exact w
 .obtain⟨more,w⟩:=I.base.jV b ps q;exact⟨more,by rw[aO (ne w)];exact w⟩
 .rw[aO λz=>a2 z.symm];exact I.free
 .rw[aO (a3 x c q)];exact I.f_ x c q
 .obtain⟨p1,p2,p3⟩:=I.pin p hp;exact⟨p1,by rw[aO (a4 p hp)];exact p2,p3⟩
 .by_cases z:b=e
  .subst z;rw[bT] at q;cases q;exact ok
  .rw[aO z] at q;exact(I.aD b o q).dZ (λ_ _ _ q=>q) (λc q=>by rw[aO (ne q)];exact q) λc xs q=>by rw[aO (ne q)];exact q
def pZ(H H':Hp)(a:Addr)(cls:Value)(aN:Option Addr):Prop:=∃ob vs,ob.data=.fields vs/\vs[2]? = some .none/\match aN with
 |none=>H'=upd H a (tK ob a cls none)
 |some n=>∃dx,dx≠a/\H dx=none/\H'=upd (upd H dx (Hh dx n)) a (tK ob a cls (some dx))
theorem fB.known(L:fB X af σ H e cls aN s):∃H',pZ H H' e cls aN/\Inv X af σ H' s:=by
 obtain⟨oe,vs,a0,T,oT,ts,h1,h2,h0,hd,_⟩:=L.ob;obtain⟨⟨o0,c1,c2⟩,py⟩:=L.py;rw[h1] at c1;cases c1;have c3:vs[2]? = some .none:=by unfold mh at c2;rw[hd] at c2;exact c2
 have nc:PySem.W.notCls oe=true:=by
  obtain⟨c,d,dt,sl⟩:=oe;dsimp only at hd;subst hd;rfl
 cases aN with
 |none=>exact⟨_,⟨oe,vs,hd,c3,rfl⟩,L.inv.AJ L.fr L.ap ⟨h1,Mh h1 h2 λ_ z=>by cases z⟩⟩
 |some n=>
  obtain⟨vW,dx,t,g1,g2,g3,g4,g5⟩:=py;rw[h1] at g1;cases g1;have ne:dx≠e:=λz=>by
   obtain⟨o,es,ep,q1,q2,_⟩:=g3;rw[z,h1] at q1;cases q1;rw[hd] at q2;cases q2
  have I1:=L.inv.AJ g4 g5 (XU g3);exact⟨_,⟨oe,vs,hd,c3,dx,ne,g4,rfl⟩,I1.AJ (by rw[aO ne.symm];exact L.fr) L.ap ⟨h1,Mh h1 h2 λ_ z=>by cases z;exact⟨g2,nc⟩⟩⟩
theorem pZ.hq{A:Around}{H H':Hp}{a:Addr}{cls:Value}{aN:Option Addr}(k:pZ H H' a cls aN):qJ (A.mark (some (.ref a))) H':=by
 obtain⟨ob,vs,h1,h2,k⟩:=k;refine .inr ⟨a,ob,?_⟩;cases aN with
 |none=>subst k;exact⟨_,vs,rfl,bT,h1,h2⟩
 |some n=>obtain⟨dx,_,_,rfl⟩:=k;exact⟨_,vs,rfl,bT,h1,h2⟩
theorem pZ.same{H H':Hp}{a:Addr}{cls:Value}{aN:Option Addr}(k:pZ H H' a cls aN)(fr:H a=none){b:Addr}{o:HO}(q:H b=some o):H' b=some o:=by
 obtain⟨ob,vs,_,_,k⟩:=k;cases aN with
 |none=>subst k;rw[aO (cC q fr)];exact q
 |some n=>obtain⟨dx,ne,d,rfl⟩:=k;rw[aO (cC q fr),aO (cC q d)];exact q
end
section
variable{prog:Program}{w:World}{A:Around}{R:Result->Shared->Prop}{s:Shared}
theorem US{env:Env}(Iv:Nat->Shared->Prop)
  (turn:∀n s,Iv n s->wpAny (model prog w) A (pyNext it) (λr s1=>match r with
   |none=>R (.ok .next) s1
   | some v=>wpAny (model prog w) A (letOwnedTupleGo tg it v) (λ_ tP=>wpAny (model prog w) A (assign tg env v) (λ_ s2=>
     wpAny (model prog w) A (forIn ifs true λc r=>if r=true then do let ok <- isTrue c env (eval c env);pure (ForInStep.yield ok) else pure (ForInStep.yield r)) (λok s3=>
      if ok=true then wpAny (model prog w) A (eval elt env) (λx s4=>
       wpAny (model prog w) A (call (.builtin "list.append") [acc,x]) (λ_ s5=>∃m,m<n/\Iv m s5) (λ_ _=>False) s4) (λ_ _=>False) s3
      else ∃m,m<n/\Iv m s3) (λ_ _=>False) s2) (λ_ _=>False) tP) (λ_ _=>False) s1) (λ_ _=>False) s)
  (n:Nat) (hn:Iv n s):codeAny (model prog w) A (.compLoop (.ListComp elt [⟨tg,iter,ifs,0⟩] scope pos) 0 it acc env) R s:=by
 have ff:∀{E:Value->Shared->Prop} (x:Value) (s:Shared),False->E x s:=λ_ _ f=>f.elim
 refine codeAny_loop rfl Iv (λk s0 hI=>?_) n hn;refine wpAny_noted ?_;rw[compTurn_list];refine aan (wpAny_standAt (aan (acH (turn k s0 hI) (λr s1 h1=>?_) ff)));cases r with
 |none=>exact abg h1
 |some v=>
  refine aan (acH h1 (λ_ tP gm=>aan (acH gm (λ_ s2 h2=>aan (acH h2 (λok s3 h3=>?_) ff)) ff)) ff);cases ok with
  |false=>exact abg ⟨rfl,h3⟩
  |true=>exact aan (aan (acH h3 (λx s4 h4=>aan (acH h4 (λ_ s5 h5=>abg (abg ⟨rfl,h5⟩)) ff)) ff))
end
noncomputable def frees(sc:Scope):List Str:=(sc.names.filter λx=>x.2 == .free).map (·.1)
noncomputable def kW(env:Env):List (Str×NameKind)->List (Str×Addr)->List (Str×Addr)
 |[],cs=>cs
 |(n,k)::r,cs=>kW env r (if k == .free then(n,(env.cells.lookup n).getD 0)::cs else cs)
theorem Lr{env:Env}(h:∀x∈frees sc,∃c,env.cells.lookup x=some c):closureFor sc env=pure (kW env sc.names []):=by
 have key:∀(l:List (Str×NameKind)) (cs:List (Str×Addr)),(∀x∈(l.filter λx=>x.2 == .free).map (·.1),∃c,env.cells.lookup x=some c)->
   (forIn l cs λx r=>(do
    let(name,kind):=x
    if kind == .free then do
     let a <- cellOf env name
     pure (ForInStep.yield ((name,a)::r))
    else pure (ForInStep.yield r):Sem (ForInStep (List (Str×Addr)))))=pure (kW env l cs):=by
  intro l
  induction l with
  |nil=>intro cs _;rfl
  |cons p r ih=>
   obtain⟨n,k⟩:=p;intro cs h;rw[List.forIn_cons]
   by_cases hk:(k==NameKind.free)=true
   .obtain⟨c,hc⟩:=h n (by simp[hk]);have Es:=ih ((n,c)::cs) λx hx=>h x (by simp only[List.filter_cons,hk,if_true,aaF,aaM];exact Or.inr hx)
    have e:cellOf env n=pure c:=by unfold cellOf;rw[hc]
    simp only[hk,if_true,e,pure_bind,kW,hc,aeO];exact Es
   .have Es:=ih cs λx hx=>h x (by simp only[List.filter_cons,hk];exact hx)
    simp only[hk,kW,aeU,if_false,pure_bind];exact Es
 unfold closureFor;have k:=key sc.names [] h;simp only[bind_pure] at k ⊢
 first
  |exact k
  |(simp only[pure_bind];exact k)
theorem K_{env:Env}:∀{l:List (Str×NameKind)}{cs:List (Str×Addr)}{x:Str}{c:Addr},(kW env l cs).lookup x=some c->
  cs.lookup x=some c\/((x,NameKind.free)∈l/\c=(env.cells.lookup x).getD 0)
 |[],_,_,_,h=>.inl h
 |(n,k)::r,cs,x,c,h=>by
  rcases K_ (l:=r) h with q|⟨q,e⟩
  .by_cases hk:(k==NameKind.free)=true
   .rw[if_pos hk,acL] at q
    by_cases hx:(x==n)=true
    .rw[hx] at q;have e:=eq_of_beq hx;subst e;have Zp:k=.free:=by cases k<;>first|rfl|exact absurd hk (by decide)
     subst Zp;exact .inr ⟨aax,(abi q).symm⟩
    .rw[Bool.not_eq_true] at hx;rw[hx] at q;exact .inl q
   .rw[abf hk] at q;exact .inl q
  .exact .inr ⟨aal _ q,e⟩
theorem FQ{env:Env}:∀{l:List (Str×NameKind)}{cs:List (Str×Addr)}{x:Str},(∃c,cs.lookup x=some c)\/(x,NameKind.free)∈l->∃c,(kW env l cs).lookup x=some c
 |[],_,_,h=>h.elim id λz=>nomatch z
 |(n,k)::r,cs,x,h=>by
  refine FQ (l:=r) ?_;rcases h with⟨c,h⟩|h
  .left
   by_cases hk:(k==NameKind.free)=true
   .rw[if_pos hk,acL]
    by_cases hx:(x==n)=true
    .rw[hx];exact⟨_,rfl⟩
    .rw[Bool.not_eq_true] at hx;rw[hx];exact⟨c,h⟩
   .rw[abf hk];exact⟨c,h⟩
  .rcases aaM.mp h with e|h
   .left
    cases e;rw[if_pos (by decide),acL,adH];exact⟨_,rfl⟩
   .exact .inr h
def eU(X:Cx)(N:List Str)(sc:Scope)(s3:Shared)(H3:Hp)(fp:List Addr):Cx:=
 { X with N:=N,cI:=s3,tY:=H3,env:=compEnvC sc (kW X.env sc.names []) s3.heap.objs.size X.env,outer:=X.stack,stack:=X.stack,ex:=fp,fn:=λ_=>false,pn:=[],xe:=λ_ _=>False }
noncomputable def lD(js:List (Option Nat))(σ:St):St:=js.map λj=>match j with
 |none=>none
 |some j=>(σ[j]?).join
noncomputable def nH(N:List Str)(sc:Scope):List Str->List (Option Nat)->Bool
 |[],[]=>true
 |x::r,none::js=>nH N sc r js
 |x::r,some j::js=>decide (N[j]? = some x)&&decide (sc.names.lookup x=some .free)&&nH N sc r js
 |_,_=>false
theorem zP:∀{M:List Str}{js:List (Option Nat)},nH N sc M js=true->js.length=M.length
 |[],[],_=>rfl
 |_::r,none::js,h=>by
  have:=zP (js:=js) h;simp[this]
 |_::r,some j::js,h=>by
  unfold nH at h;have:=zP ((aaL _ _).mp h).2;simp[this]
 |[],_::_,h=>by cases h
 |_::_,[],h=>by cases h
theorem DN:∀{M:List Str}{js:List (Option Nat)}{i j:Nat}{x:Str},nH N sc M js=true->M[i]? = some x->js[i]? = some (some j)->N[j]? = some x/\sc.names.lookup x=some .free
 |[],_,_,_,_,_,h,_=>by simp at h
 |_::_,[],_,_,_,h,_,_=>by cases h
 |y::r,none::js,0,j,x,h,h1,h2=>by simp at h2
 |y::r,some q::js,0,j,x,h,h1,h2=>by
  simp at h1 h2;subst h1 h2;unfold nH at h;obtain⟨a,b⟩:=(aaL _ _).mp ((aaL _ _).mp h).1;exact⟨aa3 a,aa3 b⟩
 |y::r,none::js,i+1,j,x,h,h1,h2=>DN (js:=js) h (by simpa using h1) (by simpa using h2)
 |y::r,some q::js,i+1,j,x,h,h1,h2=>by
  unfold nH at h;exact DN ((aaL _ _).mp h).2 (by simpa using h1) (by simpa using h2)
structure nG(X:Cx)(M:List Str)(js:List (Option Nat))(sc:Scope):Prop where
 kind:sc.kind=.function
 vS:∀y∈sc.names,y.2≠.cell
 loc:∀y∈sc.names,y.2=.local->sc.names.lookup y.1=some .local
 D4:nH X.N sc M js=true
 free:∀x∈frees sc,X.env.kindOf x=some .cell\/X.env.kindOf x=some .free
 nd:M.Nodup
def GK(wi:TI)(js:List (Option Nat))(g:TG)(tt:TT)(te:TE):TE:=λσ H Q=>wi σ H λJ H1=>∀D,H1 D=none->
 ∃W:Nat->Nat->St->Hp->Prop,(∃m,W 0 m (lD js σ) (upd H1 D (.lst [])))/\∀i m aB H',W i m aB H'->
  (J.stop i H'/\Q (.ref D) H')\/(J.go i H'/\∀x H2,J.xN i H' x H2->g x aB H2 λcR H3=>tt cR H3 λb H4=>
   if b=true then te cR H4 λy H5=>∃xs,H5 D=some (.lst xs)/\xs.length<sizeLine/\∃m',m'<m/\W (i+1) m' cR (upd H5 D (.lst (xs++[y])))
   else ∃m',m'<m/\W (i+1) m' cR H4)
def x8(X:Cx)(ifs:List Expr)(t:TT):Prop:=
 ∀(af:List (Addr×Obj)) (s:Shared) (σ:St) (H:Hp) (Q:Bool->Hp->Prop),Inv X af σ H s->t σ H Q->
  wpAny (model X.prog X.w) X.A (forIn ifs true λc r=>if r=true then do let ok <- isTrue c X.env (eval c X.env);pure (ForInStep.yield ok) else pure (ForInStep.yield r)) (TP X af σ Q) X.xe s
theorem acO{t:TT}(h:PT X c t):x8 X [c] t:=λaf s σ H Q I q=>wpAny_tests_one (h af s σ H Q I q)
section
variable{X:Cx}
theorem Inv.comp(S:nG X M js sc)(I:Inv X af σ H3 s3)
  (hf:∀b∈fp,ie X af H3 b) (dP:∀b∈fp,b<s3.heap.objs.size) (hn:h'.Ns s3.heap.objs.size λ_=>none) (hk:∀b o,s3.heap.get? b=some o->h'.get? b=some o) :
  Inv (eU X M sc s3 H3 fp) [] (lD js σ) H3 { s3 with heap:=h',toks:=tk }:=by
 have cl:∀{x:Str}{c:Addr},(kW X.env sc.names []).lookup x=some c->X.env.cells.lookup x=some c:=λ{x c} e=>by
  rcases K_ e with q|⟨q,e'⟩
  .cases q
  .obtain⟨c',hc⟩:=I.ok.has x (S.free x (acs.mpr ⟨(x,.free),adY.mpr ⟨q,rfl⟩,rfl⟩));rw[hc] at e' ⊢;rw[e'];rfl
 have iA:=aer I.ok.iA I.sz;have lk:∀{x:Str},sc.names.lookup x=some .free->(relabel sc X.env).names.lookup x=some .cell\/(relabel sc X.env).names.lookup x=some .free:=λ{x} e=>by
  have key:∀(l:List (Str×NameKind)),l.lookup x=some .free->(l.map λ(n,k)=>if(k==NameKind.free&&X.env.scope.kind == .function&&X.env.kindOf n==some .cell) then(n,NameKind.cell) else(n,k)).lookup x=some .cell\/
    (l.map λ(n,k)=>if(k==NameKind.free&&X.env.scope.kind == .function&&X.env.kindOf n==some .cell) then(n,NameKind.cell) else(n,k)).lookup x=some .free:=by
   intro l
   induction l with
   |nil=>intro e;cases e
   |cons p r ih=>
    obtain⟨n,k⟩:=p;intro e;rw[acL] at e;rw[aaF]
    by_cases hx:(x==n)=true
    .rw[hx] at e;have e':=abi e;subst e';dsimp only
     split
     .left;rw[acL,hx]
     .right;rw[acL,hx]
    .rw[Bool.not_eq_true] at hx;rw[hx] at e;dsimp only
     split<;>(rw[acL,hx];exact ih e)
  exact key sc.names e
 have kf:∀{x:Str},((relabel sc X.env).names.lookup x=some .cell\/(relabel sc X.env).names.lookup x=some .free)->(x,NameKind.free)∈sc.names:=λ{x} e=>by
  have key:∀(l:List (Str×NameKind)),(∀y∈l,y.2≠.cell)->((l.map λ(n,k)=>if(k == NameKind.free&&X.env.scope.kind == .function&&X.env.kindOf n == some .cell) then(n,NameKind.cell) else(n,k)).lookup x=some .cell\/
    (l.map λ(n,k)=>if(k==NameKind.free&&X.env.scope.kind == .function&&X.env.kindOf n==some .cell) then(n,NameKind.cell) else(n,k)).lookup x=some .free)->(x,NameKind.free)∈l:=by
   intro l
   induction l with
   |nil=>intro _ e;rcases e with e|e<;>cases e
   |cons p r ih=>
    obtain⟨n,k⟩:=p;intro nc e;rw[aaF] at e
    by_cases hx:(x==n)=true
    .have e0:=eq_of_beq hx;subst e0;have XM:k=.free:=by
      dsimp only at e
      split at e
      .rename_i hc;have:=((aaL _ _).mp ((aaL _ _).mp hc).1).1;cases k<;>first|rfl|exact absurd this (by decide)
      .rw[acL,adH] at e;rcases e with e|e
       .exact absurd (abi e) (nc _ aax)
       .exact abi e
     rw[XM];exact aax
    .rw[Bool.not_eq_true] at hx;refine aal _ (ih (λy hy=>nc y (aal _ hy)) ?_);dsimp only at e
     split at e<;>(rw[acL,hx] at e;exact e)
  exact key sc.names S.vS e
 refine⟨⟨I.ok.mod,S.kind,I.ok.glob,I.ok.blt,abd _,λx y c h1 h2=>I.ok.inj x y c (cl h1) (cl h2),λx hx=>FQ (.inr (kf hx)),(λx c h _=>by cases h),I.ok.hd,I.ok.frames,.inl rfl,λb hb=>⟨abn (dP b hb),λx c e=>(hf b hb).2.2.2.2.1 x c (cl e)⟩,
   I.bs,iA,λb o e hb=>?_,λb hb wU=>?_,I.stack,I.uw⟩,
  rfl,I.bare,Un.kept hk,⟨_,hn,λi x v h1 h2 h3=>?_⟩,λx c e=>?_,I.aD.fresh (abd _),λx c e=>I.f_ x c (cl e),λp hp=>absurd (show p∈([]:List (Addr×Obj)) from hp) (by simp),I.aD.kept hk,?_,I.hq⟩
 .rcases(hf b hb).2.2.2.1 with z|z
  .exact I.ok.nv b o e z
  .exact absurd (abP (aaZ e) (aer I.ok.iA z)) (adw _)
 .rcases aaM.mp (I.Ag b wU) with z|z
  .exact(hf b hb).2.1 z
  .exact(hf b hb).2.2.1 z
 .have hlen:=zP S.D4;have hi:i<js.length:=by rw[hlen];exact(abU.mp h1).1
  unfold lD at h2;rw[abW,aa0 hi,Option.map_some] at h2;exists hj,js[i],j,h2;have mq:(σ[j]?).join=some v:=abi h2;obtain⟨a,b⟩:=DN S.D4 h1 (by rw[aa0 hi,hj]);have hs:σ[j]? = some (some v):=by
   exists q,σ[j]?,z,mq;rw[show z=some v from mq]
  have nF:=S.free x (acs.mpr ⟨(x,.free),adY.mpr ⟨PySem.mem_of_lookup b,rfl⟩,rfl⟩);obtain⟨m,hm,hl⟩:=I.loc;obtain⟨u,ru,l⟩:=hl j x v a hs (nF.elim (λz=>.inr (.inl z)) λz=>.inr (.inr z));refine⟨u,ru,.inr ⟨lk b,?_⟩⟩;rcases l with⟨k,_⟩|⟨_,c,e,hc⟩
  .rcases nF with z|z<;>(rw[z] at k;cases k)
  .obtain⟨c',p_⟩:=FQ (env:=X.env) (cs:=[]) (.inr (PySem.mem_of_lookup b));have e':=cl p_;rw[e] at e';have e2:=abi e';subst e2;obtain⟨o,ho,hd⟩:=hc;exact⟨c,p_,o,hk _ _ ho,hd⟩
 .obtain⟨v,o,ho,hd⟩:=I.cell x c (cl e);exact⟨v,o,hk _ _ ho,hd⟩
 .unfold lD;rw[aaf];exact zP S.D4
theorem Inv.PV(I:Inv X af σ H3 s3)(hf:∀b∈fp,ie X af H3 b)
  (J:Inv (eU X M sc s3 H3 fp) u9 aB H' s') (hs:Heap.SameBut s3.heap.objs.size s'.heap h'):Inv X af σ H' { s' with heap:=h' }:=by
 have B:=J.base;have ne:∀{b:Addr}{o:Obj},s3.heap.get? b=some o->b≠s3.heap.objs.size:=λe=>abn (aaZ e)
 have B':Un (bB X.stack) fp H3 H' s3.heap h':=⟨λb o e n hb hx=>(hs.2 b (ne e)).trans (B.keep b o e n hb hx),λb o e n hb hx=>let⟨sl,q⟩:=B.slot b o e n hb hx;⟨sl,(hs.2 b (ne e)).trans q⟩,B.free,
  λb o e hx=>let⟨o',q⟩:=B.there b o e hx;⟨o',(hs.2 b (ne e)).trans q⟩,B.iZ,B.jh,B.jV⟩
 have fr:H' s3.heap.objs.size=none:=J.free;refine I.O_ (s':={ s' with heap:=h' }) (ch:=fp) J.os B' (λb u e=>?_) J.bare λb hb=>⟨(hf b hb).2.2.2.1,(hf b hb).2.1,(hf b hb).2.2.2.2.1,(hf b hb).2.2.2.2.2⟩
 refine(J.aD b u e).dZ (λc v hc q=>(hs.2 c ?_).trans q) (λ_ q=>q) λ_ _ q=>q
 rintro rfl
 rcases hc with rfl|hc
 .rw[fr] at e;cases e
 .rw[fr] at hc;cases hc
theorem OL{tt:TT}
  {tn:Nat->Heap->Prop}{J:It}{Q:VK}{RR:Value->Addr->Result->Shared->Prop} (S:nG X M js sc) (hc:X.calm=true\/J.rg=true) (I2:Inv X af σ H2 s2) (T:Turn X.prog X.w X.K tg J fp it tn) (st:tn 0 s2.heap) (hf:∀b∈fp,ie X af H2 b)
  (hb:∀s3 H3 fp,PG (eU X M sc s3 H3 fp) tg g/\x8 (eU X M sc s3 H3 fp) ifs tt/\PE (eU X M sc s3 H3 fp) elt te)
  (h:∀D,H2 D=none->∃W:Nat->Nat->St->Hp->Prop,(∃m,W 0 m (lD js σ) (upd H2 D (.lst [])))/\∀i m aB H',W i m aB H'->
   (J.stop i H'/\Q (.ref D) H')\/(J.go i H'/\∀x H2,J.xN i H' x H2->g x aB H2 λcR H3=>tt cR H3 λb H4=>
    if b=true then te cR H4 λy H5=>∃xs,H5 D=some (.lst xs)/\xs.length<sizeLine/\∃m',m'<m/\W (i+1) m' cR (upd H5 D (.lst (xs++[y])))
    else ∃m',m'<m/\W (i+1) m' cR H4))
  (hR:∀D s3 H3 s' aB H',Inv X af σ H3 s3->(∀b∈fp,ie X af H3 b)->Inv (eU X M sc s3 H3 fp) [] aB H' s'->Q (.ref D) H'->RR (.ref D) s3.heap.objs.size (.ok .next) s') :
  wpAny (model X.prog X.w) X.A (newList []) (λacc Bm=>wpAny (model X.prog X.w) X.A (newFunctionEnv sc X.env.globals (kW X.env sc.names []) [] X.env.qual none .none (some X.env)) (λLj acT=>
   codeAny (model X.prog X.w) X.A (.compStart (.ListComp elt [⟨tg,iter,ifs,0⟩] sc pos) 0 (.ref it) acc { Lj with scope:=relabel sc X.env }) (RR acc Lj.locals) acT) X.xe Bm) X.xe s2:=by
 have acw:=I2.aD.fresh (abd _);obtain⟨W,⟨m0,w0⟩,turn⟩:=h _ acw;have I3:Inv X af σ (upd H2 s2.heap.objs.size (.lst [])) { s2 with heap:=s2.heap.push { cls:=.type "list",data:=.seq ([]:List Value).toArray } }:=
  I2.laid (λ_ _ q=>aab _ q) (abd _) ⟨aeh _,[],0,.nil,aa6 _ rfl⟩
 have BE:∀b∈fp,b<s2.heap.objs.size:=λb hb=>let⟨_,e,_⟩:=T.obj _ _ st b hb;aaZ e
 have GA:∀b∈fp,ie X af (upd H2 s2.heap.objs.size (.lst [])) b:=λb hb=>⟨by rw[aO (abn (BE b hb))];exact(hf b hb).1,(hf b hb).2⟩
 have hsz:(s2.heap.push { cls:=.type "list",data:=.seq ([]:List Value).toArray }).objs.size=s2.heap.objs.size+1:=ae2 ..;refine aeb (wpAny_newFunctionEnv S.vS (λy hy=>nomatch hy) (λh1 hn1 hs1=>?_) S.kind);generalize xH:({ s2 with heap:=s2.heap.push { cls:=.type "list",dict:=none,data:=.seq ([]:List Value).toArray } }:Shared)=s3 at *;have Lw:∀b o,s3.heap.get? b=some o->h1.get? b=some o:=λb o e=>(hs1.2 b (abn (aaZ e))).trans (aab _ e)
 have Ou:∀b∈fp,b<s3.heap.objs.size:=λb hb=>by rw[<- xH];show b<(s2.heap.push _).objs.size;rw[hsz];exact Nat.lt_succ_of_lt (BE b hb)
 have I4:Inv (eU X M sc s3 (upd H2 s2.heap.objs.size (.lst [])) fp) [] (lD js σ) (upd H2 s2.heap.objs.size (.lst [])) { s3 with heap:=h1,toks:=s3.toks+([]:List (Str×Value)).length }:=I3.comp S GA Ou hn1 Lw;obtain⟨hg,ht,he⟩:=hb s3 (upd H2 s2.heap.objs.size (.lst [])) fp;have qk:∀{H':Hp},(∀b∈fp,H' b=none)->∀b∈fp,ie (eU X M sc s3 (upd H2 s2.heap.objs.size (.lst [])) fp) [] H' b:=λ{H'} hn b hb=>
  ⟨hn b hb,abn (Ou b hb),I4.ok.n5 b hb,.inl hb,(I4.ok.qU b hb).2,λp hp=>absurd (show p∈([]:List (Addr×Obj)) from hp) (by simp)⟩
 have NK:=T.keep _ _ _ st λb hb o e=>Lw b o (by rw[<- xH];exact aab _ e)
 have Z_:∀b∈fp,upd H2 s2.heap.objs.size (.lst []) b=none:=λb hb=>(GA b hb).1
 have loop:codeAny (model X.prog X.w) X.A (.compLoop (.ListComp elt [⟨tg,iter,ifs,0⟩] sc pos) 0 (.ref it) (.ref s2.heap.objs.size) (compEnvC sc (kW X.env sc.names []) s3.heap.objs.size X.env)) (RR (.ref s2.heap.objs.size) s3.heap.objs.size)
   { s3 with heap:=h1,toks:=s3.toks+([]:List (Str×Value)).length }:=by
  refine US (λn s'=>∃i aB H',Inv (eU X M sc s3 (upd H2 s2.heap.objs.size (.lst [])) fp) [] aB H' s'/\tn i s'.heap/\(∀b∈fp,H' b=none)/\W i n aB H') ?_ m0 ⟨0,_,_,I4,NK,Z_,w0⟩
  rintro n s5 ⟨i,zg,H5,I5,sO,kY,w5⟩
  rcases turn i n zg H5 w5 with⟨stop,q⟩|⟨go,step⟩
  .refine aM (T.done (eU X M sc s3 (upd H2 s2.heap.objs.size (.lst [])) fp) rfl rfl rfl hc i [] s5 zg H5 _ I5 (qk kY) sO stop) λr s6 ⟨hr,I6⟩=>?_
   subst hr;exact hR _ _ _ _ _ _ I3 GA I6 q
  .refine aM (T.item (eU X M sc s3 (upd H2 s2.heap.objs.size (.lst [])) fp) rfl rfl rfl hc i [] s5 zg H5 _ I5 (qk kY) sO go) λr s6 ⟨u,hr,h6⟩=>?_
   subst hr;refine aM h6 λ_ s7 ⟨x,H7,I7,r7,y7,Ce,Vu⟩=>?_
   have I7':=I7.pinned (qk Vu) (T.obj _ _ Ce);have back:∀{oW:St}{H8:Hp}{s8:Shared},Inv (eU X M sc s3 (upd H2 s2.heap.objs.size (.lst [])) fp) ([]++vX fp s7.heap) oW H8 s8->tn (i+1) s8.heap/\(∀b∈fp,H8 b=none):=λ{oW H8 s8} I8=>
    ⟨T.keep _ _ _ Ce λb hb o e=>(I8.pin (b,o) (aaE _ (aaE _ (zp hb e)))).1,λb hb=>by
     obtain⟨o,e,_⟩:=T.obj _ _ Ce b hb;exact(I8.pin (b,o) (aaE _ (aaE _ (zp hb e)))).2.1⟩
   refine aM (hg _ s7 zg H7 x u _ I7' r7 (step x H7 y7)) λ_ s8 ⟨oW,H8,I8,q8⟩=>?_
   refine aM (ht _ s8 oW H8 _ I8 q8) λok s9 ⟨H9,I9,q9⟩=>?_
   cases ok with
   |false=>
    rw[abf aaN] at q9 ⊢;obtain⟨m',hm,w9⟩:=q9;obtain⟨a9,b9⟩:=back I9;exact⟨m',hm,i+1,oW,H9,I9.yf,a9,b9,w9⟩
   |true=>
    rw[if_pos rfl] at q9 ⊢;refine aM (he _ s9 oW H9 _ I9 q9) λy bP ⟨yv,Px,Z0,V8,xs,hD,hz,m',hm,WE⟩=>?_
    refine aM (Fi _ bP oW Px (.ref s2.heap.objs.size) [yv] (.ref s2.heap.objs.size) [y] (λv M4=>v=.aC/\M4=upd Px s2.heap.objs.size (.lst (xs++[yv]))) Z0 rfl (.cons V8 .nil) ⟨_,xs,yv,rfl,rfl,hD,hz,rfl,rfl⟩) λ_ bA ⟨v11,M4,Li,_,_,MA⟩=>?_
    subst MA;obtain⟨a9,b9⟩:=back Li;exact⟨m',hm,i+1,oW,_,Li.yf,a9,b9,WE⟩
 exact codeAny_compStart_list loop (T.self _ 0 _ _ _ NK loop)
theorem Q0{tt:TT}(S:nG X M js sc)(hc:X.calm=true)(hi:PI X tg iter wi)
  (hb:∀s3 H3 fp,PG (eU X M sc s3 H3 fp) tg g/\x8 (eU X M sc s3 H3 fp) ifs tt/\PE (eU X M sc s3 H3 fp) elt te) (hs:∀x,foldedSetIterable iter X.env x=pure x:=by intro _;rfl) :
  PE X (.ListComp elt [⟨tg,iter,ifs,0⟩] sc pos) (GK wi js g tt te):=by
 intro af s σ H Q I h;rw[eval_ListComp];refine wpAny_comprehension_free (use:=none) rfl hs (Lr λx hx=>I.ok.has x (S.free x hx)) S.kind S.loc ?_;refine aM (hi af s σ H _ I h) λv s1 h1=>aM h1 λAs s2 ⟨it,fp,tn,J,H2,e,I2,T,qg,f2,h2⟩=>?_
 subst e;refine OL (RR:=λacc C=>compPost (model X.prog X.w) X.A X.xe none (EP X af σ Q) acc C) S (.inl hc) I2 T qg f2 hb h2 λD s3 H3 s' aB H' I3 f3 J' q=>?_
 obtain⟨m,hm,_⟩:=J'.loc;exact⟨m,hm,λh' ck=>⟨.ref D,H',I3.PV f3 J' ck,rfl,q⟩⟩
theorem YT{tt:TT}(hN:X.N.Nodup)(hy:X.N[i]? = some y)(hl:X.env.scope.names.lookup y=some .local)
  (S:nG X M js sc) (hc:X.calm=true) (hi:PI X tg iter wi) (hb:∀s3 H3 fp,PG (eU X M sc s3 H3 fp) tg g/\x8 (eU X M sc s3 H3 fp) ifs tt/\PE (eU X M sc s3 H3 fp) elt te)
  (jX:swapsWith (.ListComp elt [⟨tg,iter,ifs,0⟩] sc pos) (some (.Name y py)) Fz.line X.env=pure true:=by rfl) (hs:∀x,foldedSetIterable iter X.env x=pure x:=by intro _;rfl) :
  PS X (.Assign [.Name y py] (.ListComp elt [⟨tg,iter,ifs,0⟩] sc pos) Fz) (C0 (GK wi js g tt te) (Az i)):=by
 intro af s σ H D I h;rw[exec_Assign_Name_used _ _ _ _ jX];refine aan (wpAny_standAt (aan ?_));refine aan (acH (wpAny_comprehension_free (use:=some (assign (.Name y py) X.env)) rfl hs (Lr λx hx=>I.ok.has x (S.free x hx)) S.kind S.loc ?_) (λ_ s' q=>abg (abg q)) λ_ _ e=>e);refine aM (hi af s σ H _ I h) λv s1 h1=>aM h1 λAs s2 ⟨it,fp,tn,J,H2,e,I2,T,qg,f2,h2⟩=>?_
 subst e;refine OL (Q:=λx H1=>Az i x σ H1 D.nx) (RR:=λacc C=>compPost (model X.prog X.w) X.A X.xe (some (assign (.Name y py) X.env)) (λ_ s'=>SP X af D .next s') acc C) S (.inl hc) I2 T qg f2 hb h2 λDa s3 H3 s' aB H' I3 f3 J' q=>?_
 have sb:Heap.SameBut s3.heap.objs.size s'.heap s'.heap:=⟨rfl,λ_ _=>rfl⟩
 have I5:=I3.PV f3 J' sb;obtain⟨m,hm,_⟩:=J'.loc;have ne:=abn I3.lt;refine wpAny_assign_Name (JN I5 hN hy (.inl hl) (show RelV (.ref Da) (.ref Da) from rfl) (λs6 I6 ⟨a,B8,ha⟩=>?_) (.inr hl));have jE:∀x c,X.env.cells.lookup x=some c->c≠s3.heap.objs.size:=λx c e=>by
  obtain⟨v',nQ⟩:=I3.cell x c e;exact abn nQ.lt
 have na:=ha.elim (λe=>by rw[e];exact ne) λz=>jE y a z
 refine⟨m,hm.sameBut B8 (aez na),λh' ck=>⟨_,H',I6.turned (λb o hb e=>(ck.2 b hb).trans e) J'.free (aez ne) (.inr I3.sz) jE (λp hp=>?_),q⟩⟩;exact abn (aaZ (I3.pin p hp).1)
end
theorem acd:typeLookup (.type "dict") "__len__"=pure (some (.builtin "dict.__len__")):=by rw[aev,ads];kernel_rfl
section
variable{prog:Program}{w:World}{A:Around}{E:Value->Shared->Prop}{s:Shared}
theorem Sj{κ:Type}[DecidableEq κ]{knd:KeyKind prog w κ}{aj:List (κ×Value)}{Q:List Value->Shared->Prop}(hh:A.handled=none)(hd:(d==sysModules)=false)(hm:s.heap.DictOf knd d aj)(hz:aj.length<=sizeLine)
  (hQ:∀s' acc,s.heap.objs.size<=s'.heap.objs.size->(∀b o,s.heap.get? b=some o->s'.heap.get? b=some o)->s'.gens=s.gens->s'.drawn=s.drawn->s'.os=s.os->ItemsOf (λi v=>∃k x,aj[i]? = some (k,x)/\knd.is k v=true) acc aj.length->Q acc.toList s') :
  wpAny (model prog w) A (collect (.ref d)) Q E s:=by
 obtain⟨ep,hm⟩:=hm.dictAt;have dP:=hm.lt_size;unfold collect;refine aan (wpAny_runValue (aef F.entry_proto_collect ?_));rw[aem F.plain_proto_collect _];refine aan (aeb ?_);refine abg ⟨aeZ F.plain_list_iadd _,aef F.entry_list_iadd ?_⟩;rw[aem F.plain_list_iadd _];have BL:=hm.push { cls:=.type "list",data:=.seq ([]:List Value).toArray };have Tz:({ s with heap:=s.heap.push { cls:=.type "list",data:=.seq ([]:List Value).toArray } }:Shared).TypeIs (.ref d) "dict":=BL.dictOf.typeIs;show wpAny (model prog w) A.in1 (Builtin.List.listExtendWith (.ref s.heap.objs.size) (.ref d) (.ref s.heap.objs.size)) _ _ _;unfold Builtin.List.listExtendWith;refine aan (wpAny_typeOf Tz ?_);have h1:Builtin.List.listSameRef (.ref s.heap.objs.size) (.ref d)=false:=by simp[Builtin.List.listSameRef,aes dP]
 have h2:(Value.type "dict" == Value.type "list")=false:=by decide
 have h3:(Value.type "dict" == Value.type "tuple")=false:=by decide
 simp only[h1,h2,h3,Bool.or_false,aeU,if_false];refine aan (wpAny_pyIter_dict hd BL ?_);refine aan (ad7 ?_);have kc:=BL.push { cls:=.type "dict_keyiterator",data:=.fields #[.ref d,.int 0 0,.int aj.length 0,.int ep 0] };have Dm:({ s with heap:=(s.heap.push { cls:=.type "list",data:=.seq ([]:List Value).toArray }).push { cls:=.type "dict_keyiterator",data:=.fields #[.ref d,.int 0 0,.int aj.length 0,.int ep 0] } }:Shared).TypeIs (.ref d) "dict":=kc.dictOf.typeIs;unfold Builtin.List.listLengthHint;refine aan (afe Dm acd ?_);generalize qY:("dict.__len__":String)=wV
 (fail_if_success (clear qY wV))
 wp_delta
 rw[show splitId wV=some ("dict","__len__") from by subst qY;decide +kernel];subst qY;refine aan (ae7 (b:=true) Dm (by rw[ae3];kernel_rfl) ?_);refine aan (wpAny_typeOf Dm ?_);refine abg ?_;refine aan (afh ?_);have hsz:(s.heap.push { cls:=.type "list",data:=.seq ([]:List Value).toArray }).objs.size=s.heap.objs.size+1:=ae2 ..;generalize yu:s.heap.push { cls:=.type "list",data:=.seq ([]:List Value).toArray }=h1 at *;have hS1:h1.get? s.heap.objs.size=some { cls:=.type "list",data:=.seq ([]:List Value).toArray }:=by rw[<- yu];exact aa6 _ rfl
 have Q6:∀b o,s.heap.get? b=some o->h1.get? b=some o:=λb o e=>by rw[<- yu];exact aab _ e
 dsimp only;have QN:(h1.push { cls:=.type "dict_keyiterator",data:=.fields #[.ref d,.int 0 0,.int aj.length 0,.int ep 0] }).get? h1.objs.size=some { cls:=.type "dict_keyiterator",data:=.fields #[.ref d,.int 0 0,.int aj.length 0,.int ep 0] }:=aa6 _ rfl;have Ij:(h1.push { cls:=.type "dict_keyiterator",data:=.fields #[.ref d,.int 0 0,.int aj.length 0,.int ep 0] }).get? s.heap.objs.size=some { cls:=.type "list",data:=.seq ([]:List Value).toArray }:=aab _ hS1;have ab3:∀b o,s.heap.get? b=some o->(h1.push { cls:=.type "dict_keyiterator",data:=.fields #[.ref d,.int 0 0,.int aj.length 0,.int ep 0] }).get? b=some o:=λb o e=>aab _ (Q6 b o e)
 generalize K7:h1.push { cls:=.type "dict_keyiterator",data:=.fields #[.ref d,.int 0 0,.int aj.length 0,.int ep 0] }=h2 at *;have Ik:s.heap.objs.size≠h1.objs.size:=by rw[hsz];exact abn (ae8 _)
 have MK:=aes dP;have Rx:d≠h1.objs.size:=by rw[hsz];exact abn (Nat.lt_succ_of_lt dP)
 refine aan ?_;refine aan (wpAny_updateSeq Ij rfl ?_);have Lb:=aeF (Obj.mapSeq (·.push Value.none)) Ij rfl;refine wpAny_updateSeq Lb rfl ?_;have hS4:=aeF (Obj.mapSeq (·.pop)) Lb rfl;have DT:∀b o,b≠s.heap.objs.size->h2.get? b=some o->((h2.update s.heap.objs.size (Obj.mapSeq (·.push Value.none))).update s.heap.objs.size (Obj.mapSeq (·.pop))).get? b=some o:=
  λb o hb e=>(ad8 _ _ (aez hb)).trans ((ad8 _ _ (aez hb)).trans e)
 have W:=(Walks.dictKeys (prog:=prog) (A:=A.in1) (knd:=knd) hh h1.objs.size d Rx aj ep).toS;refine abg ⟨aeZ F.plain_extend_loop _,codeAny_extend_loopS W hz s.heap.objs.size (by simp;exact⟨Ik,MK⟩) _ aj.length 0 _ _ _ rfl (aeh _) ?_ hS4 (ItemsOf.nil _) λs' j9 c' zT kB iy=>?_⟩
 .exact⟨⟨_,DT _ _ (aez Ik) QN,rfl,rfl⟩,kc.at' λo e=>DT _ _ (aez MK) e⟩
 .show wpAny (model prog w) A (load s.heap.objs.size >>= _) _ _ s';refine aan (wpAny_load kB ?_);refine abg (hQ s' j9 (ad3 (aaZ kB)) (λb o e=>?_) zT.gens zT.drawn zT.os iy);have hb:=aaZ e;refine zT.heap b o ?_ (DT b o (abn hb) (ab3 b o e));intro m;rcases aaM.mp m with z|z
  .exact absurd hb (by rw[z];exact adw _)
  .have z:=aaH.mp z;rw[hsz] at z;exact absurd hb (by rw[z];exact Nat.not_lt.mpr (Nat.le_succ _))
theorem acB(hc:∀(Q':List Value->Shared->Prop),(∀vs s',(∃ns,IntsAre vs ns/\∀(out:Array Value) (cB:List Int),IntsAre out.toList cB->cB.Perm ns->cB.Pairwise (·<=·)->
    Q (.ref s'.heap.objs.size) { s' with heap:=sortedHeap (s'.heap.push (seqObj "list" vs.toArray 0)) s'.heap.objs.size vs out })/\vs.length<64->Q' vs s')->wpAny (model prog w) A.in1 (collect x) Q' E s):wpAny (model prog w) A (call (.builtin "sorted") [x]) Q E s:=by
 refine call_function_tree kind_sorted plain_sorted entry_sorted (args_sorted1 _) ?_;unfold Builtin.«sorted»;refine aan (abg ?_);refine aan (hc _ λvs s' ⟨⟨ns,hI,h⟩,k8⟩=>?_);refine aan (wpAny_newList ?_);have AV:(s'.heap.push (seqObj "list" vs.toArray 0)).get? s'.heap.objs.size=some (seqObj "list" vs.toArray 0):=aa6 _ rfl;refine aan (ad7 (ae6 slot_list_sort ⟨_,AV,rfl⟩ entry_list_sort (list_sort_tree AV hI k8 λout cB a1 a2 a3=>⟨_,rfl,?_⟩) (args_list_sort _)));exact abg (h out cB a1 a2 a3)
end
section
variable{X:Cx}
theorem Mm:∀{ks:List Int}{aj:List (Key×Value)}{vs:List Value},aj.map (·.1)=ks.map Sum.inl->vs.length=aj.length->(∀(i:Nat) v,vs[i]? = some v->∃k x,aj[i]? = some (k,x)/\(fM P w).is k v=true)->IntsAre vs ks
 |[],[],vs,_,hl,_=>by cases vs with
  |nil=>exact .nil
  |cons _ _=>simp at hl
 |[],_::_,_,e,_,_=>by simp at e
 |_::_,[],_,e,_,_=>by simp at e
 |k::ks,(q,x)::aj,vs,e,hl,h=>by
  simp only[aaF,ael] at e;obtain⟨rfl,e⟩:=e;cases vs with
  |nil=>simp at hl
  |cons v vs=>
   obtain⟨k',x',e0,hk⟩:=h 0 v rfl;have Su:=abi e0;cases Su;rcases m5 (show rN (Sum.inl k) v=true from hk) with⟨i,t,e1,e2⟩|⟨y,t,e1,e2⟩
   .cases e1;subst e2;exact .cons k t (Mm e (by simpa using hl) λi v hv=>h (i+1) v (by simpa using hv))
   .cases e1
def LY(K:PySem.W.Frag):List V->Hp->VK->Prop:=λxs H Q=>∃(p:Addr) (ks:List Int),xs=[.ref p]/\ks.length<64/\((∃aj:List (Key×V),H p=some (.dK aj)/\aj.map (·.1)=ks.map Sum.inl)\/bS K H p (ks.map V.int))/\
 ∀(l:Addr) (n6:List Int),H l=none->n6.Perm ks->n6.Pairwise (·<=·)->Q (.ref l) (upd H l (.lst (n6.map V.int)))
theorem T6(hc:X.calm=true):eX X (.builtin "sorted") (LY X.K):=by
 intro af s σ H xs us Q I r h;obtain⟨p,ks,rfl,k8,EJ,q⟩:=h;obtain⟨u,rfl,ru⟩:=vals1 r;cases ru;have fin:∀(vs:List Value) (s':Shared),s.heap.objs.size<=s'.heap.objs.size->(∀b o,s.heap.get? b=some o->s'.heap.get? b=some o)->s'.gens=s.gens->s'.drawn=s.drawn->s'.os=s.os->∀(out:Array Value) (cB:List Int),IntsAre out.toList cB->cB.Perm ks->cB.Pairwise (·<=·)->
   EP X af σ Q (.ref s'.heap.objs.size) { s' with heap:=sortedHeap (s'.heap.push (seqObj "list" vs.toArray 0)) s'.heap.objs.size vs out }:=by
  intro vs s' hle hk e1 e2 e3 out cB a1 a2 a3;obtain⟨h',g',d',t',o'⟩:=s';dsimp only at e1 e2 e3 hk hle;subst e1 e2 e3;obtain⟨e,he⟩:=sortedHeap_at (vs:=vs) (out:=out) (show(h'.push (seqObj "list" vs.toArray 0)).get? h'.objs.size=some (seqObj "list" vs.toArray 0) from aa6 _ rfl);have hlen:cB.length<64:=by rw[a2.length_eq];exact k8
  refine⟨.ref h'.objs.size,upd H h'.objs.size (.lst (cB.map V.int)),I.laid (λb o eb=>?_) hle ?_,rfl,q _ cB (I.aD.fresh hle) a2 a3⟩
  .have hb:=aaZ (hk b o eb);rw[sortedHeap_old (abn hb) (by rw[ae2];exact Nat.lt_succ_of_lt hb)];exact aab _ (hk b o eb)
  .exact⟨by rw[aaf];exact ad3 (uH (by omega)),out.toList,e,DC a1,by rw[he]⟩
 have hh:=I.ok.hd hc;refine acB λQ' LJ=>?_
 rcases EJ with⟨aj,hp,hk⟩|hp
 .obtain⟨hz,hd,vs,rel,dd⟩:=Me I.aD hp;refine Sj hh hd dd (by rw[<- rel.length];exact hz) λs' acc hle kp e1 e2 e3 it=>LJ _ s' ⟨⟨ks,?_,λout cB a1 a2 a3=>fin _ s' hle kp e1 e2 e3 out cB a1 a2 a3⟩,?_⟩
  .refine Mm (P:=X.prog) (aj:=vs) (by rw[<- rel.keys];exact hk) (by rw[ady];exact it.1) λi v hv=>it.2 i v (by rw[<- Array.getElem?_toList];exact hv)
  .rw[ady,it.1,<- rel.length];have:=congrArg List.length hk;rw[aaf,aaf] at this;omega
 .obtain⟨ao,rv,pl,hz⟩:=I.list hp;have hi:=intsAre_of rv;have k1:s.heap.objs.size<=((s.heap.push (seqObj "list" #[] 0)).update s.heap.objs.size (Obj.mapSeq (·++ao.toArray))).objs.size:=by
   rw[Heap.size_update,ae2];exact Nat.le_succ _
  have k2:∀b o,s.heap.get? b=some o->((s.heap.push (seqObj "list" #[] 0)).update s.heap.objs.size (Obj.mapSeq (·++ao.toArray))).get? b=some o:=λb o e=>
   (ad8 _ _ (aes (aaZ e))).trans (aab _ e)
  refine collect_list pl.isList (LJ _ _ ⟨⟨ks,hi,λout cB a1 a2 a3=>fin ao { s with heap:=(s.heap.push (seqObj "list" #[] 0)).update s.heap.objs.size (Obj.mapSeq (·++ao.toArray)) } k1 k2 rfl rfl rfl out cB a1 a2 a3⟩,?_⟩) (by rw[<- rv.length];exact hz);rw[<- rv.length,aaf];exact k8
end
theorem XZ(a d:Value):argsOk "min" ⟨[a],[("default",d)]⟩:=by unfold argsOk;kernel_rfl
section
variable{prog:Program}{w:World}{A:Around}{R:Result->Shared->Prop}{it:Addr}{dJ jP:List Addr}{n:Nat}{P:Nat->Value->Prop}{T:Nat->Heap->Prop}
theorem Xo:(toString "min"++toString ".loop":String)="min.loop":=by decide
theorem Rb(W:Walks prog w A.in1 it dJ jP 0 P T)(key:Str)(dv:Value)(B:Addr)(st:T 0 s.heap)
  (gB:s.heap.get? B=some { cls:=.type "list",dict:=none,data:=.seq #[] c,slots:=#[] })
  (fin:∀h' tk,(∀b o,b∉jP->s.heap.get? b=some o->h'.get? b=some o)->R (.ok (.ret dv)) { s with heap:=h',toks:=tk }) :
  codeAny (model prog w) A (.builtin "min.loop" ⟨[.ref it,.none,.ref B],[(key,dv)]⟩) R s:=by
 refine aef F.entry_min_loop ?_;rw[aem F.plain_min_loop _];refine aan (wpAny_seqItems gB rfl ?_);refine aan (wpAny_tryCatch (W.done s _ _ st λh1 t1 kp=>?_));exact aan (afh (abg (fin h1 t1 kp)))
end
section
variable{prog:Program}{w:World}{A:Around}{E:Value->Shared->Prop}{s:Shared}
theorem RW{id:String}{b:Builtin}{kw:List (Str×Value)}(hk:builtinKind id=none)(hp:plainId id=true)(hb:entryFor table id=some b)(ha:argsOk id ⟨args,kw⟩)
  (hc:wpAny (model prog w) A.in1 (b ⟨args,kw⟩) (λfin s'=>match fin with
   |.done f=>(match(Except.ok f:Result) with|.ok (.ret v)=>Q v s'|.ok _=>False|.error e=>E e s')
   |.again c=>c.quiet=true/\codeAny (model prog w) A c (λr s'=>match r with|.ok (.ret v)=>Q v s'|.ok _=>False|.error e=>E e s') s') E s):wpAny (model prog w) A (call (.builtin id) args kw) Q E s:=by
 refine afi (ae1 hp hb ?_);simp only[checkBuiltinCall,hk];cases Ub:Manifest.signature? id with
 |none=>exact abg hc
 |some sig=>
  have h2:Bind.checkArgs id sig ⟨args,kw⟩=pure ():=by simpa only[argsOk,Ub] using ha
  simp only[h2];exact abg hc
theorem adn(hh:A.handled=none)(hl:s.heap.IsList l #[])
  (fin:∀h' tk,(∀b o,s.heap.get? b=some o->h'.get? b=some o)->Q dv { s with heap:=h',toks:=tk }) :
  wpAny (model prog w) A (call (.builtin "min") [.ref l] [("default",dv)]) Q E s:=by
 refine RW F.kind_min F.plain_min F.entry_min (XZ _ _) ?_;refine aan (wpAny_of_eq (show Builtin.Builtins.bindParams "min" ["key","default"] 0 ⟨[],[("default",dv)]⟩=pure [none,some dv] from rfl) ?_);refine aan (abg (aan (wpAny_pyIter_list hl ?_)));refine aan (aeb ?_);rw[Xo];have Rt:=let⟨_,ho,_⟩:=hl;aaZ ho
 have W:=Walks.list (prog:=prog) (w:=w) (A:=A.in1.in1) hh s.heap.objs.size l (abn Rt) #[];refine abg ⟨aeZ F.plain_min_loop _,Rb W.of_in1 _ dv _ ⟨⟨_,aab _ (aa6 _ rfl),rfl,rfl⟩,hl.at λo e=>aab _ (aab _ e)⟩ (aa6 _ rfl) λh' tk kp=>?_⟩;exact fin h' tk λb o e=>kp b o (λm=>absurd (aaZ e) (by rw[aaH.mp m];exact adw _)) (aab _ (aab _ e))
end
section
variable{X:Cx}{p pos:Pos}{a:Expr}{ta td:TE}
def RB(K:PySem.W.Frag)(ta td:TE):TE:=λσ H Q=>ta σ H λx H1=>td σ H1 λy H2=>∃l:Addr,x=.ref l/\bS K H2 l []/\Q y H2
theorem acD(hc:X.calm=true)(hm:X.mg "min"=none)(ha:PE X a ta)(hb:PE X b td)(hg:Gl X "min":=by rfl)(hs:starEach [a] X.env=[(false,eval a X.env)]:=by rfl)
  (h1:backTo pos (starEach [a] X.env)=(false,eval a X.env)::backTo pos (starEach [] X.env):=by rfl) (h2:(backTo pos (starEach [a] X.env)).any (·.1)=false:=by rfl)
  (h3:(backToKw pos (keywordEach [⟨some "default",b,kp⟩] X.env)).all (·.1.isSome)=true:=by rfl) (h4:(backToKw pos (keywordEach [⟨some "default",b,kp⟩] X.env)).any (·.1.isNone)=false:=by rfl)
  (h5:(backToKw pos (keywordEach [⟨some "default",b,kp⟩] X.env)).filterMap (·.1)=[("default":Str)]:=by rfl) :
  PE X (.Call (.Name "min" p) [a] [⟨some "default",b,kp⟩] pos) (RB X.K ta td):=by
 intro af s σ H Q I h;refine adR (lJ I hg hm (show bootBuiltins "min"=some (.builtin "min") by decide +kernel) ?_ (by decide) (by decide));refine callWith_kw ?_ h1 h2 h3 h4;rw[h5];refine aM (bU ha dN hs pos af s σ H (λvs H1=>match vs with|[x]=>td σ H1 λy H2=>∃l:Addr,x=.ref l/\bS X.K H2 l []/\Q y H2|_=>False) I h) λus s1 ⟨vs,H1,I1,rv,q1⟩=>?_
 rcases vs with _|⟨x,_|⟨x2,r2⟩⟩
 .exact q1.elim
 .obtain⟨u,rfl,ru⟩:=vals1 rv;refine kws_cons (aM (hb af s1 σ H1 _ I1 q1) λdv s2 ⟨y,H2,I2,ry,l,ex,hq,q2⟩=>kws_nil ?_);subst ex;cases ru;obtain⟨ao,ri,pl,hz⟩:=I2.list hq;cases ri;exact adn (I2.ok.hd hc) pl.isList λh' tk kp=>⟨y,H2,I2.kept kp,ry,q2⟩
 .exact q1.elim
end
end L2
namespace PySem
theorem adP:typeLookup (.type "list") "keys"=pure none:=by rw[aev,ads];kernel_rfl
theorem Rq:typeLookup (.type "tuple") "keys"=pure none:=by rw[aev,ads];kernel_rfl
section
variable{prog:Program}{w:World}{A:Around}{E:Value->Shared->Prop}{s:Shared}{a:Addr}{xs:Array Value}{k:Nat}{sl:Array (Option Value)}{Q:Option Value->Shared->Prop}
theorem Xe(hx:s.heap.get? a=some { cls:=.type "list",dict:=none,data:=.seq xs k,slots:=sl })(hA:A.handled=none)
  (h:∀h' tk,(∀b o,s.heap.get? b=some o->h'.get? b=some o)->Q none { s with heap:=h',toks:=tk }):wpAny (model prog w) A (getAttr? (.ref a) "keys") Q E s:=by
 obtain⟨hp,g,d,tk,os⟩:=s;have hT:∀qZ,(⟨hp,g,d,qZ,os⟩:Shared).TypeIs (.ref a) "list":=λ_=>⟨_,hx,rfl⟩
 have f1:=sub_AttributeError;have f3:=F.slot_list_getattribute.lookup;have f4:=F.slot_list_getattribute.bind (.ref a);have f5:=am_list_getattr_none;unfold getAttr? getAttrBy? getAttrBy
 repeat (any_goals (first|assumption|exact hT _|((with_reducible show wpAny _ _ (call (Value.builtin "list.__getattribute__") _ _) _ _ _);refine aeY F.slot_list_getattribute (hT _) am_entry_list_getattribute (F.args_list_getattribute_2 _ _) (meets_getattribute_miss_list a xs k sl "keys" _ adP (by decide +kernel)) ⟨hx,hA,λh' qZ e xJ=>?_⟩)|wp_step))
 obtain⟨t',u',he⟩:=xJ.there;unfold getattributeRaised
 repeat (any_goals (first|assumption|wp_step))
 all_goals exact h _ _ xJ.keeps
theorem T3(hx:s.heap.get? a=some { cls:=.type "tuple",dict:=none,data:=.seq xs k,slots:=sl })(hA:A.handled=none)
  (h:∀h' tk,(∀b o,s.heap.get? b=some o->h'.get? b=some o)->Q none { s with heap:=h',toks:=tk }):wpAny (model prog w) A (getAttr? (.ref a) "keys") Q E s:=by
 obtain⟨hp,g,d,tk,os⟩:=s;have hT:∀qZ,(⟨hp,g,d,qZ,os⟩:Shared).TypeIs (.ref a) "tuple":=λ_=>⟨_,hx,rfl⟩
 have f1:=sub_AttributeError;have f3:=F.slot_tuple_getattribute.lookup;have f4:=F.slot_tuple_getattribute.bind (.ref a);have f5:=am_tuple_getattr_none;unfold getAttr? getAttrBy? getAttrBy
 repeat (any_goals (first|assumption|exact hT _|((with_reducible show wpAny _ _ (call (Value.builtin "tuple.__getattribute__") _ _) _ _ _);refine aeY F.slot_tuple_getattribute (hT _) am_entry_tuple_getattribute (F.args_tuple_getattribute_2 _ _) (meets_getattribute_miss_tuple a xs k sl "keys" _ Rq (by decide +kernel)) ⟨hx,hA,λh' qZ e xJ=>?_⟩)|wp_step))
 obtain⟨t',u',he⟩:=xJ.there;unfold getattributeRaised
 repeat (any_goals (first|assumption|wp_step))
 all_goals exact h _ _ xJ.keeps
end
end PySem
namespace L2
open PySem PySem.Spec PyProof.Rows
theorem yR:plainId "dict.update.loop"=true:=by decide +kernel
theorem N3:entryFor table "dict.update.loop"=some Builtin.«dict.update.loop»:=entryFor_of_fast (by kernel_rfl)
def pairAt{prog:Program}{w:World}{κ:Type}[DecidableEq κ](knd:KeyKind prog w κ)(h:Heap)(no:List Addr)(v:Value)(p:κ×Value):Prop:=∃a key,v=.ref a/\a∉no/\IsTup h a #[key,p.2]/\knd.is p.1 key=true
section
variable{prog:Program}{w:World}{A:Around}{R:Result->Shared->Prop}{κ:Type}[DecidableEq κ]{knd:KeyKind prog w κ}{it d:Addr}{dJ jP:List Addr}{n:Nat}{P:Nat->Value->Prop}{T:Nat->Heap->Prop}
theorem VZ(W:Walks prog w A.in1 it dJ jP n P T)(hd:d∉dJ)(h0:Heap)(ps:List (κ×Value))(hn:ps.length=n)(hP:∀i v,P i v->∃p,ps[i]? = some p/\pairAt knd h0 (d::jP) v p)(res:Value):
  ∀(k i:Nat) (s:Shared) (m:List (κ×Value)) (CC:Tok),n-i=k->i<=n->T i s.heap->s.heap.DictOf knd d m->m.length+(n-i)<=sizeLine->(∀b o,b∉d::jP->h0.get? b=some o->s.heap.get? b=some o)->
   (∀h' tk,h'.DictOf knd d ((ps.drop i).foldl (λm p=>stored m p.1 p.2) m)->(∀b o,b∉d::jP->h0.get? b=some o->h'.get? b=some o)->R (.ok (.ret res)) { s with heap:=h',toks:=tk })->
   codeAny (model prog w) A (.builtin "dict.update.loop" ⟨[.ref d,.ref it,.int i CC,res],[]⟩) R s:=by
 have nd:d∉jP:=λm=>hd (W.sub _ m)
 intro k
 induction k with
 |zero=>
  intro i s m CC e1 e2 st dm hz kp fin;have en:i=n:=by omega
  subst en;refine aef N3 ?_;rw[aem yR _];refine aan (W.done s _ _ st λh1 t1 k1=>?_);refine aan (abg (abg (fin h1 t1 ?_ λb o mb e=>k1 b o (λz=>mb (aal _ z)) (kp b o mb e))));rw[List.drop_eq_nil_of_le (by omega)];obtain⟨o,es,ep,ho,r⟩:=dm;exact⟨o,es,ep,k1 d o nd ho,r⟩
 |succ k ih=>
  intro i s m CC e1 e2 st dm hz kp fin;have lt:i<n:=by omega
  refine aef N3 ?_;rw[aem yR _];refine aan (W.item i s _ _ lt st λv h1 t1 pv HX k1=>?_);obtain⟨p,ep,a,key,rfl,na,Z6,xD⟩:=hP i v pv;have VV:h1.DictOf knd d m:=by
   obtain⟨o,es,ep,ho,r⟩:=dm;exact⟨o,es,ep,k1 d o nd ho,r⟩
  obtain⟨oa,YJ,Uk,na',V0⟩:=Z6;have ga:=k1 a oa (λz=>na (aal _ z)) (kp a oa na YJ);refine aan (ad7 ?_);refine aan (wpAny_tryCatch ?_);unfold Builtin.Dict.pairItems;refine aan (wpAny_typeOf (T:="tuple") ⟨oa,ga,Uk⟩ ?_);rw[if_pos (by decide)];refine aan (wpAny_seqItems ga V0 (abg ?_));refine ad7 (wpAny_dictSet_pairs xD VV (λh2 Qo sb=>?_) (by omega));have Oe:∀b o,b≠d->h1.get? b=some o->h2.get? b=some o:=λb o hb e=>(sb.2 b hb).trans e
  have qg:=W.frame _ _ _ HX λb mb o e=>Oe b o (λz=>hd (by rw[<- z];exact mb)) e
  have rD:(stored m p.1 p.2).length<=m.length+1:=by
   unfold stored
   split
   .rw[aaf];exact Nat.le_succ _
   .rw[abe];exact abd _
  refine abg ⟨aeZ yR _,?_⟩;refine ih (i+1) _ (stored m p.1 p.2) 0 (by omega) lt qg Qo (by omega) (λb o mb e=>Oe b o (λz=>mb (by rw[z];exact aax)) (k1 b o (λz=>mb (aal _ z)) (kp b o mb e))) λh3 t3 E3 k3=>?_
  refine fin h3 t3 ?_ k3;have hi:i<ps.length:=by omega
  have xF:ps[i]=p:=by rw[aa0 hi] at ep;exact abi ep
  rw[ae4 hi,aeN,xF];exact E3
theorem JX(ps:List (κ×Value))(hz:ps.length<=sizeLine)(T0:String)(VG:(Value.type T0 != Value.type "dict")=true)
  (xK:∀o,({ s with heap:=s.heap.push o }:Shared).TypeIs x T0)
  (hk:∀(o:Obj) (Q':Option Value->Shared->Prop) (E':Value->Shared->Prop),(∀h' tk,(∀b ob,(s.heap.push o).get? b=some ob->h'.get? b=some ob)->Q' none { s with heap:=h',toks:=tk })->wpAny (model prog w) A.in1.in1 (getAttr? x "keys") Q' E' { s with heap:=s.heap.push o })
  (hi:∀(s2:Shared) (Q':Value->Shared->Prop) (E':Value->Shared->Prop),(∀b ob,s.heap.get? b=some ob->s2.heap.get? b=some ob)->(∃o,s2.heap.get? s.heap.objs.size=some o)->
   (∀I dJ jP n P T h3,Walks prog w A.in1.in1 I dJ jP n P T->T 0 h3->ps.length=n->s.heap.objs.size∉dJ->(∀b ob,s2.heap.get? b=some ob->h3.get? b=some ob)->(∀b∈jP,s.heap.get? b=none)->(∀i v,P i v->∃p,ps[i]? = some p/\pairAt knd s.heap (s.heap.objs.size::jP) v p)->Q' (.ref I) { s2 with heap:=h3 })->
   wpAny (model prog w) A.in1.in1 (pyIter x) Q' E' s2)
  (h:∀h' tk,h'.DictOf knd s.heap.objs.size (ps.foldl (λm p=>stored m p.1 p.2) [])->(∀b o,s.heap.get? b=some o->h'.get? b=some o)->Q (.ref s.heap.objs.size) { s with heap:=h',toks:=tk }) :
  wpAny (model prog w) A (call (.type "dict") [x]) Q E s:=by
 refine callType_codes (Q₁:=λobj bE=>obj=.ref s.heap.objs.size/\bE={ s with heap:=s.heap.push { cls:=.type "dict",data:=.dict #[] } }) F.kt_called_dict (F.kt_typeCall_dict_1 _) F.entry_dict_init (kt_code_dict_new _ ⟨rfl,rfl⟩) ?_
 rintro obj bE ⟨rfl,rfl⟩
 have yj:(s.heap.push { cls:=.type "dict",data:=.dict #[] }).DictOf knd s.heap.objs.size []:=Heap.DictOf.new s.heap;refine⟨yj.typeIs,F.args_dict_init_2 _ _,?_⟩;unfold Builtin.«dict.__init__»;refine aan ?_;unfold Builtin.Dict.selfAndRest;refine aan (wpAny_notOrdered_dict yj.typeIs ?_);refine abg ?_;show wpAny (model prog w) _ (Builtin.Dict.updateFrom "dict.__init__" s.heap.objs.size x [] .none) _ _ _;unfold Builtin.Dict.updateFrom;refine aan (wpAny_typeOf (xK _) ?_);rw[if_pos VG];refine aan (hk _ _ _ λh1 t1 k1=>?_);refine aan (afh (aan ?_));have o1:∀b ob,s.heap.get? b=some ob->h1.get? b=some ob:=λb ob e=>k1 b ob (aab _ e)
 refine hi { s with heap:=h1,toks:=t1 } _ _ o1 ⟨_,k1 _ _ (aa6 _ rfl)⟩ (λI dJ jP n P T h3 W st hn hd k3 hw hP=>?_);have E3:h3.DictOf knd s.heap.objs.size []:=by
  obtain⟨o,es,ep,ho,r⟩:=yj;exact⟨o,es,ep,k3 _ o (k1 _ o ho),r⟩
 refine abg ⟨aeZ yR _,VZ W hd s.heap ps hn hP .none n 0 _ [] 0 rfl (aeh _) st E3 (by rw[List.length_nil];omega) (λb o _ e=>k3 b o (o1 b o e)) λh4 t4 RN k4=>?_⟩;refine⟨rfl,h h4 t4 (by simpa using RN) λb o e=>k4 b o (λm=>?_) e⟩;rcases aaM.mp m with z|z
 .exact absurd (aaZ e) (by rw[z];exact adw _)
 .rw[hw b z] at e;cases e
end
section
variable{X:Cx}
theorem Qa{κ:Type}[DecidableEq κ]:∀{ps:List (κ×V)}{qs:List (κ×Value)}{m:List (κ×V)}{r:List (κ×Value)},KV ps qs->KV m r->KV (ps.foldl (λm p=>putK m p.1 p.2) m) (qs.foldl (λm p=>stored m p.1 p.2) r)
 |_,_,_,_,.nil,h=>h
 |_,_,_,_,.cons (a:=p) (b:=q) e t,h=>by
  rw[aeN,aeN];refine Qa t ?_;rw[<- e.1];exact h.put p.1 e.2
def EG(K:PySem.W.Frag):List V->Hp->VK->Prop:=λxs H Q=>∃(p:Addr) (ys:List V) (ps:List (Key×V)),xs=[.ref p]/\(bS K H p ys\/cg K H p ys)/\Paired (λy (q:Key×V)=>∃a,y=.ref a/\cg K H a [kV q.1,q.2]) ys ps/\
 ∀l,H l=none->Q (.ref l) (upd H l (.dK (ps.foldl (λm q=>putK m q.1 q.2) [])))
theorem FD(I:Inv X af σ H s):∀{ys:List V}{ps:List (Key×V)}{ao:List Value},Paired (λy (q:Key×V)=>∃a,y=.ref a/\cg X.K H a [kV q.1,q.2]) ys ps->aK ys ao->
  ∃qs:List (Key×Value),KV ps qs/\∀(i:Nat) (v:Value),ao[i]? = some v->∃q,qs[i]? = some q/\∃a key,v=.ref a/\IsTup s.heap a #[key,q.2]/\(fM X.prog X.w).is q.1 key=true
 |_,_,_,.nil,.nil=>⟨[],.nil,λi v e=>by simp at e⟩
 |_,_,_,.cons (b:=q) ⟨a,ey,hr⟩ t,.cons (b:=u) r rs=>by
  obtain⟨qs,h1,h2⟩:=FD I t rs;subst ey;cases r;obtain⟨us,ru,pt,_⟩:=I.tuple hr;obtain⟨key,x,rfl,rk,rx⟩:=vals2 ru;refine⟨(q.1,x)::qs,.cons ⟨rfl,rx⟩ h1,λi v e=>?_⟩;cases i with
  |zero=>
   have e':=abi e;subst e';exact⟨_,rfl,a,key,rfl,pt,sy rk⟩
  |succ i=>
   obtain⟨q',e1,e2⟩:=h2 i v (by simpa using e);exact⟨q',by simpa using e1,e2⟩
theorem abD(hc:X.calm=true):eX X (.type "dict") (EG X.K):=by
 intro af s σ H xs us Q I r h;obtain⟨p,ys,ps,rfl,EJ,qu,q⟩:=h;obtain⟨u,rfl,ru⟩:=vals1 r;cases ru;have hh:=I.ok.hd hc;have big:=I.big;have fin:∀(ao:List Value) (qs:List (Key×Value)),KV ps qs->ys.length<=sizeLine->∀h' tk,h'.DictOf (fM X.prog X.w) s.heap.objs.size (qs.foldl (λm p=>stored m p.1 p.2) [])->(∀b o,s.heap.get? b=some o->h'.get? b=some o)->
   EP X af σ Q (.ref s.heap.objs.size) { s with heap:=h',toks:=tk }:=by
  intro ao qs nj hz h' tk dm kp;have rel:=Qa (r:=[]) nj .nil;have qT:∀(l:List (Key×V)) (m:List (Key×V)),(l.foldl (λm q=>putK m q.1 q.2) m).length<=m.length+l.length:=by
   intro l
   induction l with
   |nil=>intro m;exact abd _
   |cons a l ih=>
    intro m;rw[aeN];have h1:=ih (putK m a.1 a.2);have h2:=Gg m a.1 a.2;rw[abj];omega
  have hl:=(Paired.length qu).symm;refine⟨.ref s.heap.objs.size,_,I.laid kp (abd _) (Ej ?_ (ab0.mpr (aez (abn big))) rel dm),rfl,q _ (I.aD.fresh (abd _))⟩;have:=qT ps [];rw[List.length_nil] at this;omega
 have Aa:∀{qs:List (Key×Value)},KV ps qs->qs.length=ys.length:=λh=>by rw[<- h.length];exact(Paired.length qu).symm
 have o6:∀{s2:Shared},(∃o,s2.heap.get? s.heap.objs.size=some o)->s.heap.objs.size<s2.heap.objs.size:=λ⟨_,e⟩=>aaZ e
 rcases EJ with hq|hq
 .obtain⟨ao,rv,pl,hz⟩:=I.list hq;obtain⟨qs,nj,nO⟩:=FD I qu rv;obtain⟨o,n,ho,kr,vO,n8⟩:=pl;have hp:=aaZ ho;refine JX (knd:=fM X.prog X.w) qs (by rw[Aa nj];exact hz) "list" (by decide) (λob=>⟨o,aab _ ho,kr⟩) (λob Q' E' k=>?_) (λs2 Q' E' o2 hS k=>?_) (λh' tk dm kp=>fin ao qs nj hz h' tk dm kp)
  .obtain⟨c0,d0,Vr,sl0⟩:=o;dsimp only at kr vO n8;subst kr vO n8;exact Xe (aab _ ho) hh λh1 t1 kp=>k h1 t1 kp
  .have rD:s2.heap.IsList p ao.toArray:=⟨o,o2 p o ho,kr,n,n8⟩
   refine wpAny_pyIter_list rD (k s2.heap.objs.size [s2.heap.objs.size,p] [s2.heap.objs.size] _ _ _ _ (Walks.list (A:=X.A.in1.in1) hh s2.heap.objs.size p (abn (Nat.lt_trans hp (o6 hS))) ao.toArray) ⟨⟨_,aa6 _ rfl,rfl,rfl⟩,rD.push _⟩ (by rw[Aa nj,aba,<- rv.length]) ?_ (λb ob e=>aab _ e) ?_ λi v e=>?_)
   .intro m;rcases aaM.mp m with z|z
    .exact absurd z (abn (o6 hS))
    .exact absurd (aaH.mp z) (aes hp)
   .intro b m;rw[aaH.mp m];exact ae0 (ad3 (o6 hS))
   .obtain⟨q',e1,a,key,e2,e3,e4⟩:=nO i v (by simpa using e);refine⟨q',e1,a,key,e2,λm=>?_,e3,e4⟩;obtain⟨oa,ha,_⟩:=e3;rcases aaM.mp m with z|z
    .exact absurd (aaZ ha) (by rw[z];exact adw _)
    .exact absurd (aaZ ha) (by rw[aaH.mp z];exact Nat.not_lt.mpr (ad3 (o6 hS)))
 .obtain⟨ao,rv,⟨o,ho,kr,vO,n,n8⟩,hz⟩:=I.KO hq;obtain⟨qs,nj,nO⟩:=FD I qu rv;have hp:=aaZ ho;refine JX (knd:=fM X.prog X.w) qs (by rw[Aa nj];exact hz) "tuple" (by decide) (λob=>⟨o,aab _ ho,kr⟩) (λob Q' E' k=>?_) (λs2 Q' E' o2 hS k=>?_) (λh' tk dm kp=>fin ao qs nj hz h' tk dm kp)
  .obtain⟨c0,d0,Vr,sl0⟩:=o;dsimp only at kr vO n8;subst kr vO n8;exact T3 (aab _ ho) hh λh1 t1 kp=>k h1 t1 kp
  .have rD:s2.heap.IsTuple p ao.toArray:=⟨o,o2 p o ho,kr,n,n8⟩
   refine wpAny_pyIter_tuple rD (k s2.heap.objs.size [s2.heap.objs.size,p] [s2.heap.objs.size] _ _ _ _ (Walks.tuple (A:=X.A.in1.in1) hh s2.heap.objs.size p (abn (Nat.lt_trans hp (o6 hS))) ao.toArray) ⟨⟨_,aa6 _ rfl,rfl,rfl⟩,rD.push _⟩ (by rw[Aa nj,aba,<- rv.length]) ?_ (λb ob e=>aab _ e) ?_ λi v e=>?_)
   .intro m;rcases aaM.mp m with z|z
    .exact absurd z (abn (o6 hS))
    .exact absurd (aaH.mp z) (aes hp)
   .intro b m;rw[aaH.mp m];exact ae0 (ad3 (o6 hS))
   .obtain⟨q',e1,a,key,e2,e3,e4⟩:=nO i v (by simpa using e);refine⟨q',e1,a,key,e2,λm=>?_,e3,e4⟩;obtain⟨oa,ha,_⟩:=e3;rcases aaM.mp m with z|z
    .exact absurd (aaZ ha) (by rw[z];exact adw _)
    .exact absurd (aaZ ha) (by rw[aaH.mp z];exact Nat.not_lt.mpr (ad3 (o6 hS)))
end
end L2
namespace L2.Ev
open PySem PySem.Spec PyProof.Rows
structure VA(X:Cx)(i:Nat)(x:Str):Prop where
 N:X.N[i]? = some x
 v:Bt X.env.scope x
 d:(x==("__debug__":Str))=false
 c:(x==("__classdict__":Str))=false
theorem VA.pe{X:Cx}{i:Nat}{x:Str}{p:Pos}(h:VA X i x):PE X (.Name x p) (xy i):=Dl h.N h.v h.d h.c
def uC(X:Cx)(o:Expr)(m:Str)(apos:Pos)(as:List Expr)(pos:Pos)(pl:Sem Bool):Prop:=eval (.Call (.Attribute o m apos) as [] pos) X.env=(do
   let ov <- eval o X.env
   standAt apos.atName
   let(f,first) <- holding [ov] (getMethod ov m pl)
   callWith pos f first (backTo pos (starEach as X.env)) (backToKw pos (keywordEach [] X.env)))
def SE(X:Cx)(e:Expr)(es:List Expr)(pos:Pos):Prop:=starEach (e::es) X.env=(false,eval e X.env)::starEach es X.env/\(backTo pos (starEach es X.env)).any (·.1)=false
def GD(X:Cx)(x:Str):Prop:=Gl X x/\(x==("__debug__":Str))=false
noncomputable abbrev XN:=Str×Option Nat
inductive D where
 |aC|bl (b:Bool)|int (i:Int)|str (x:Str)|tup (ds:List D)|lst (ds:List D)|gW (ds:List D)|bK (aj:List (Key×D))|eS (aj:List (List Key×D))|ins (cn:Str) (fs:List (Str×D))|exc (cn:XN)
def oZ(K:PySem.W.Frag)(H:Hp)(a:Addr)(xs:List V):Prop:=(∃o,H a=some (.dY o (.lst xs)))\/
 ∃(o:Obj) (ao:Array Value) (n:Nat),K.lookup a=some o/\o.cls=.type "list"/\o.dict=none/\o.data=.seq ao n/\ao.size<=sizeLine/\aK xs ao.toList
theorem oZ.sq{K:PySem.W.Frag}{H:Hp}{a:Addr}{xs:List V}(h:oZ K H a xs):bS K H a xs:=h.elim (λz=>.inl (.inr z)) .inr
mutual
inductive Rep(K:PySem.W.Frag)(H:Hp):D->V->List Addr->Prop
 |aC:Rep K H .aC .aC []
 |bl (b:Bool):Rep K H (.bl b) (.bl b) []
 |int (i:Int):Rep K H (.int i) (.int i) []
 |str (x:Str):Rep K H (.str x) (.str x) []
 |tup {a:Addr}{xs:List V}{ds:List D}{fp:List Addr}:cg K H a xs->ay K H ds xs fp->Rep K H (.tup ds) (.ref a) fp
 |lst {a:Addr}{xs:List V}{ds:List D}{fp:List Addr}:H a=some (.lst xs)->ay K H ds xs fp->Rep K H (.lst ds) (.ref a) (a::fp)
 |z9 {a:Addr}{xs:List V}{ds:List D}{fp:List Addr}:oZ K H a xs->ay K H ds xs fp->Rep K H (.gW ds) (.ref a) fp
 |bK {a:Addr}{aj:List (Key×V)}{es:List (Key×D)}{fp:List Addr}:H a=some (.dK aj)->es.map (·.1)=aj.map (·.1)->ay K H (es.map (·.2)) (aj.map (·.2)) fp->Rep K H (.bK es) (.ref a) (a::fp)
 |eS {a:Addr}{aj:List (List Key×V)}{es:List (List Key×D)}{fp:List Addr}:H a=some (.dT aj)->es.map (·.1)=aj.map (·.1)->ay K H (es.map (·.2)) (aj.map (·.2)) fp->Rep K H (.eS es) (.ref a) (a::fp)
 |ins {cn:Str}{a C dx:Addr}{fs:List (Str×V)}{es:List (Str×D)}{fp:List Addr}:PySem.W.nsIn K mainGlobals cn=some (some (.ref C))->H a=some (.ins C dx fs)->H dx=some (.own a)->es.map (·.1)=fs.map (·.1)->ay K H (es.map (·.2)) (fs.map (·.2)) fp->Rep K H (.ins cn es) (.ref a) (a::dx::fp)
 |exc {cn:XN}{a C:Addr}{de:Option Addr}{ob:Obj}:PySem.W.nsIn K mainGlobals cn.1=some (some (.ref C))->H a=some (tK ob a (.ref C) de)->(∀n,cn.2=some n->∃dx,de=some dx/\H dx=some (Hh dx n))->Rep K H (.exc cn) (.ref a) []
inductive ay(K:PySem.W.Frag)(H:Hp):List D->List V->List Addr->Prop
 |nil:ay K H [] [] []
 |cons {d:D}{v:V}{ds:List D}{vs:List V}{f1 f2:List Addr}:Rep K H d v f1->ay K H ds vs f2->ay K H (d::ds) (v::vs) (f1++f2)
end
def aX(H H':Hp):Prop:=(∀a xs,H a=some (.tup xs)->H' a=some (.tup xs))/\(∀a o u,H a=some (.dY o u)->H' a=some (.dY o u))/\∀a φ,H a=some (.ext φ)->H' a=some (.ext φ)
theorem aX.X8{K:PySem.W.Frag}(i:aX H H')(h:cg K H a xs):cg K H' a xs:=by
 rcases h with(h|⟨o,h⟩)|h
 .exact .inl (.inl (i.1 _ _ h))
 .exact .inl (.inr ⟨o,i.2.1 _ _ _ h⟩)
 .exact .inr h
theorem aX.dY{K:PySem.W.Frag}(i:aX H H')(h:oZ K H a xs):oZ K H' a xs:=by
 rcases h with⟨o,h⟩|h
 .exact .inl ⟨o,i.2.1 _ _ _ h⟩
 .exact .inr h
theorem aX.of{H H':Hp}(h:aF H H'):aX H H':=⟨λ_ _ e=>h _ _ e,λ_ _ _ e=>h _ _ e,λ_ _ e=>h _ _ e⟩
theorem aX.refl(H:Hp):aX H H:=⟨λ_ _ e=>e,λ_ _ _ e=>e,λ_ _ e=>e⟩
theorem aX.trans{H H1 H2:Hp}(a:aX H H1)(b:aX H1 H2):aX H H2:=⟨λ_ _ e=>b.1 _ _ (a.1 _ _ e),λ_ _ _ e=>b.2.1 _ _ _ (a.2.1 _ _ _ e),λ_ _ e=>b.2.2 _ _ (a.2.2 _ _ e)⟩
noncomputable def j4:HO->Bool
 |.lst _|.dK _|.dT _|.ins _ _ _|.own _=>true
 |_=>false
theorem aX.upd{o o':HO}(h:H p=some o)(m:j4 o=true):aX H (upd H p o'):=by
 refine⟨λa xs e=>?_,λa q u e=>?_,λa q e=>?_⟩
 .rw[aO]
  .exact e
  .rintro rfl;rw[h] at e;cases e;cases m
 .rw[aO]
  .exact e
  .rintro rfl;rw[h] at e;cases e;cases m
 .rw[aO]
  .exact e
  .rintro rfl;rw[h] at e;cases e;cases m
section
variable{K:PySem.W.Frag}{H H':Hp}
theorem Rep.frame(r:Rep K H d v fp)(k:∀a∈fp,H' a=H a)(i:aX H H'):Rep K H' d v fp:=
 Rep.rec (motive_1:=λd v fp _=>(∀a∈fp,H' a=H a)->Rep K H' d v fp) (motive_2:=λd v fp _=>(∀a∈fp,H' a=H a)->ay K H' d v fp) (λ_=>.aC) (λb _=>.bl b) (λn _=>.int n) (λx _=>.str x) (λh _ r k=>.tup (i.X8 h) (r k))
  (λh _ r k=>.lst ((k _ (.head _)).trans h) (r λa m=>k a (.tail _ m))) (λh _ r k=>.z9 (i.dY h) (r k)) (λh e _ r k=>.bK ((k _ (.head _)).trans h) e (r λa m=>k a (.tail _ m))) (λh e _ r k=>.eS ((k _ (.head _)).trans h) e (r λa m=>k a (.tail _ m)))
  (λg h h2 e _ r k=>.ins g ((k _ (.head _)).trans h) ((k _ (.tail _ (.head _))).trans h2) e (r λa m=>k a (.tail _ (.tail _ m)))) (λg h p _=>.exc g (i.2.1 _ _ _ h) λn e=>(p n e).imp λ_ q=>⟨q.1,i.2.2 _ _ q.2⟩)
  (λ_=>.nil) (λ_ _ h t k=>.cons (h λa m=>k a (aaR _ m)) (t λa m=>k a (aaE _ m))) r k
theorem ay.frame:∀{ds:List D}{vs:List V}{fp:List Addr},ay K H ds vs fp->(∀a∈fp,H' a=H a)->aX H H'->ay K H' ds vs fp
 |_,_,_,.nil,_,_=>.nil
 |_,_,_,.cons h t,k,i=>.cons (h.frame (λa m=>k a (aaR _ m)) i) (ay.frame t (λa m=>k a (aaE _ m)) i)
theorem Rep.dH(r:Rep K H d v fp):∀a∈fp,∃o,H a=some o/\j4 o=true:=by
 have c:∀{b:Addr}{o:HO}{f:List Addr},H b=some o->j4 o=true->(∀a∈f,∃o,H a=some o/\j4 o=true)->∀a∈b::f,∃o,H a=some o/\j4 o=true:=λh m r a=>λ| .head _=>⟨_,h,m⟩|.tail _ z=>r a z
 have n:∀a∈([]:List Addr),∃o,H a=some o/\j4 o=true:=λ_ m=>nomatch m
 exact Rep.rec (motive_1:=λ_ _ fp _=>∀a∈fp,∃o,H a=some o/\j4 o=true) (motive_2:=λ_ _ fp _=>∀a∈fp,∃o,H a=some o/\j4 o=true) n (λ_=>n) (λ_=>n) (λ_=>n) (λ_ _ r=>r) (λh _ r=>c h rfl r) (λ_ _ r=>r) (λh _ _ r=>c h rfl r) (λh _ _ r=>c h rfl r)
  (λ_ h h2 _ _ r=>c h rfl (c h2 rfl r)) (λ_ _ _=>n) n (λ_ _ h t a m=>(abb.mp m).elim (h a) (t a)) r
theorem ay.dH:∀{ds:List D}{vs:List V}{fp:List Addr},ay K H ds vs fp->∀a∈fp,∃o,H a=some o/\j4 o=true
 |_,_,_,.nil,_,m=>nomatch m
 |_,_,_,.cons h t,a,m=>(abb.mp m).elim (h.dH a) (ay.dH t a)
theorem Rep.same{d:D}{v:V}{fp:List Addr}(h:Rep K H d v fp)(s:aF H H'):Rep K H' d v fp:=
 h.frame (λa m=>let⟨o,e,_⟩:=h.dH a m;(s a o e).trans e.symm) (.of s)
theorem ay.same{ds:List D}{vs:List V}{fp:List Addr}(h:ay K H ds vs fp)(s:aF H H'):ay K H' ds vs fp:=
 h.frame (λa m=>let⟨o,e,_⟩:=h.dH a m;(s a o e).trans e.symm) (.of s)
theorem ay.length:∀{ds:List D}{vs:List V}{fp:List Addr},ay K H ds vs fp->ds.length=vs.length
 |_,_,_,.nil=>rfl
 |_,_,_,.cons _ t=>by rw[abj,abj,ay.length t]
theorem ay.get:∀{ds:List D}{vs:List V}{fp:List Addr}{i:Nat}{d:D},ay K H ds vs fp->ds[i]? = some d->∃v f,vs[i]? = some v/\Rep K H d v f/\∀a∈f,a∈fp
 |_,_,_,_,_,.nil,e=>by simp at e
 |_,_,_,0,_,.cons h t,e=>by
  have e':=abi e;subst e';exact⟨_,_,rfl,h,λa m=>aaR _ m⟩
 |_,_,_,i+1,d,.cons h t,e=>by
  obtain⟨v,f,e1,r,s⟩:=ay.get (d:=d) t (by simpa using e);exact⟨v,f,by simpa using e1,r,λa m=>aaE _ (s a m)⟩
theorem ay.append:∀{ds es:List D}{vs ws:List V}{f g:List Addr},ay K H ds vs f->ay K H es ws g->ay K H (ds++es) (vs++ws) (f++g)
 |_,_,_,_,_,_,.nil,s=>s
 |_,_,_,_,_,g,.cons h t,s=>by
  rw[List.append_assoc];exact .cons h (ay.append t s)
end
theorem Rep.gO{K:PySem.W.Frag}(r:Rep K H (.int i) v fp):v=.int i/\fp=[]:=by cases r;exact⟨rfl,rfl⟩
theorem Rep.zu{K:PySem.W.Frag}(r:Rep K H (.bl i) v fp):v=.bl i/\fp=[]:=by cases r;exact⟨rfl,rfl⟩
theorem Rep.uZ{K:PySem.W.Frag}(r:Rep K H (.str i) v fp):v=.str i/\fp=[]:=by cases r;exact⟨rfl,rfl⟩
theorem Rep.zM{K:PySem.W.Frag}(r:Rep K H .aC v fp):v=.aC/\fp=[]:=by cases r;exact⟨rfl,rfl⟩
mutual
noncomputable def aG:D->Bool
 |.lst _|.bK _|.eS _|.ins _ _=>false
 |.tup ds=>aP ds
 |.gW ds=>aP ds
 |_=>true
noncomputable def aP:List D->Bool
 |[]=>true
 |d::ds=>aG d&&aP ds
end
section
variable{K:PySem.W.Frag}{H H':Hp}
theorem Rep.aG(r:Rep K H d v fp)(e:aG d=true):fp=[]:=
 Rep.rec (motive_1:=λd _ fp _=>L2.Ev.aG d=true->fp=[]) (motive_2:=λds _ fp _=>aP ds=true->fp=[]) (λ_=>rfl) (λ_ _=>rfl) (λ_ _=>rfl) (λ_ _=>rfl) (λ_ _ r e=>r (by rw[L2.Ev.aG] at e;exact e)) (λ_ _ _ e=>by delta L2.Ev.aG at e;cases e) (λ_ _ r e=>r (by rw[L2.Ev.aG] at e;exact e))
  (λ_ _ _ _ e=>by delta L2.Ev.aG at e;cases e) (λ_ _ _ _ e=>by delta L2.Ev.aG at e;cases e) (λ_ _ _ _ _ _ e=>by delta L2.Ev.aG at e;cases e) (λ_ _ _ _=>rfl) (λ_=>rfl) (λ_ _ h t e=>by
   rw[aP,aaL] at e;rw[h e.1,t e.2];rfl) r e
theorem ay.aG:∀{ds:List D}{vs:List V}{fp:List Addr},ay K H ds vs fp->aP ds=true->fp=[]
 |_,_,_,.nil,_=>rfl
 |_,_,_,.cons h t,e=>by
  rw[aP,aaL] at e;rw[h.aG e.1,ay.aG t e.2];rfl
end
inductive Tag where
 |own|lk|sh (o:List Nat)
noncomputable abbrev Slot:=Option (D×Tag)
abbrev aE:=List Slot
def tS(z:Addr->Option Nat)(i:Nat):Tag->List Addr->Prop
 |.sh o,fp=>∀a∈fp,∀j,z a=some j->j∈o
 |_,fp=>fp.Nodup/\∀a∈fp,z a=some i
def uT(ρ:aE)(j:Nat):Prop:=∀d,ρ[j]?≠some (some (d,.own))
structure bZ where
 d:D
 v:V
 fp:List Addr
 z0:Addr->Option Nat
structure Ok(K:PySem.W.Frag)(H0:Hp)(S:List Addr)(z:Addr->Option Nat)(ak:List bZ)(ρ:aE)(σ:St)(H:Hp):Prop where
 sl:∀i d t,ρ[i]? = some (some (d,t))->∃v fp,σ[i]? = some (some v)/\Rep K H d v fp/\tS z i t fp
 hl:∀p∈ak,Rep K H p.d p.v p.fp/\∀a∈p.fp,∀j,z a=some j->p.z0 a=some j/\uT ρ j
 zd:∀a j,z a=some j->(∃o,H a=some o)/\(H0 a=none\/a∈S)
 en:∀a o,H0 a=some o->a∉S->H a=some o
 ln:ρ.length=σ.length
theorem Ok.same{K:PySem.W.Frag}{H0:Hp}{S:List Addr}{z:Addr->Option Nat}(h:Ok K H0 S z ak ρ σ H)(s:aF H H'):Ok K H0 S z ak ρ σ H':=
 ⟨λi d t e=>let⟨v,fp,a,b,c⟩:=h.sl i d t e;⟨v,fp,a,b.same s,c⟩,λp m=>let⟨a,b⟩:=h.hl p m;⟨a.same s,b⟩,
  λa j e=>let⟨⟨o,x⟩,y⟩:=h.zd a j e;⟨⟨o,s _ _ x⟩,y⟩,λa o e n=>s _ _ (h.en a o e n),h.ln⟩
def cO(z:Addr->Option Nat)(H:Hp):Tag->List Addr->Prop
 |.sh o,fp=>∀a∈fp,∀j,z a=some j->j∈o
 |_,fp=>fp.Nodup/\∀a∈fp,H a=none
theorem cO.nil{z:Addr->Option Nat}{H:Hp}{t:Tag}:cO z H t []:=by
 cases t with
 |sh o=>intro a m;cases m
 |own=>exact⟨abF,λa m=>nomatch m⟩
 |lk=>exact⟨abF,λa m=>nomatch m⟩
abbrev EF:=aE->Option (D×Tag)
def FP(X:Cx)(e:Expr)(f:EF):Prop:=∃t,PE X e t/\∀{H0:Hp}{S:List Addr}{z:Addr->Option Nat}{ak:List bZ}{ρ:aE}{σ:St}{H:Hp}{Q:VK}{d:D}{tg:Tag},
 Ok X.K H0 S z ak ρ σ H->f ρ=some (d,tg)->(∀H' v fp,aF H H'->Rep X.K H' d v fp->cO z H tg fp->Q v H')->t σ H Q
abbrev AF:=aE->Option (List (D×Tag))
abbrev TF:=aE->Option Bool
def FT(X:Cx)(e:Expr)(f:TF):Prop:=∃t,PT X e t/\∀{H0:Hp}{S:List Addr}{z:Addr->Option Nat}{ak:List bZ}{ρ:aE}{σ:St}{H:Hp}{Q:Bool->Hp->Prop}{b:Bool},
 Ok X.K H0 S z ak ρ σ H->f ρ=some b->(∀H',aF H H'->Q b H')->t σ H Q
noncomputable def Gx(i:Nat):Tag->Tag
 |.sh o=>.sh o
 |_=>.sh [i]
def ah(i:Nat):EF:=λρ=>match ρ[i]? with
 |some (some (d,t))=>some (d,Gx i t)
 |_=>none
section
variable{X:Cx}
theorem ai(i:Nat){x:Str}{pos:Pos}(va:VA X i x:=by walk_at "va"):FP X (.Name x pos) (ah i):=by
 exists 20,va.pe;unfold ah at e;exists h,ρ[i]?,s,e,0;cases s with
 |none=>rw[h] at e;cases e
 |some p=>
  obtain⟨d',t⟩:=p;rw[h] at e;have e':=abi e;have e1:=congrArg Prod.fst e';have e2:=congrArg Prod.snd e';subst e1 e2;obtain⟨v,fp,hs,r,zz⟩:=ok.sl i d' t h;refine⟨v,hs,q H v fp (aF.refl H) r ?_⟩;cases t with
  |sh o=>exact zz
  |own=>intro a m j ej;rw[zz.2 a m] at ej;cases ej;exact aax
  |lk=>intro a m j ej;rw[zz.2 a m] at ej;cases ej;exact aax
noncomputable def eC(d:D):EF:=λ_=>some (d,.own)
theorem aU{i j pos}:FP X (.Constant (.int i) j pos) (eC (.int i)):=⟨_,Hx,@λ_ _ _ _ _ _ H _ _ _ _ e q=>by cases e;exact q H _ _ (aF.refl H) (.int i) .nil⟩
theorem fq{b j pos}:FP X (.Constant (.bool b) j pos) (eC (.bl b)):=⟨_,aat,@λ_ _ _ _ _ _ H _ _ _ _ e q=>by cases e;exact q H _ _ (aF.refl H) (.bl b) .nil⟩
theorem lP{j pos}:FP X (.Constant .none j pos) (eC .aC):=⟨_,Qw,@λ_ _ _ _ _ _ H _ _ _ _ e q=>by cases e;exact q H _ _ (aF.refl H) .aC .nil⟩
theorem c9{x j pos}:FP X (.Constant (.str x) j pos) (eC (.str x)):=⟨_,Xs,@λ_ _ _ _ _ _ H _ _ _ _ e q=>by cases e;exact q H _ _ (aF.refl H) (.str x) .nil⟩
noncomputable def e2(op:D->D->Option D)(fa fb:EF):EF:=λρ=>match fa ρ,fb ρ with
 |some (d1,_),some (d2,_)=>(op d1 d2).map λd=>(d,.own)
 |_,_=>none
theorem mJ{op:D->D->Option D}{fa fb:EF}{ρ:aE}{d:D}{tg:Tag}(e:e2 op fa fb ρ=some (d,tg)):∃d1 t1 d2 t2,fa ρ=some (d1,t1)/\fb ρ=some (d2,t2)/\op d1 d2=some d/\tg=.own:=by
 unfold e2 at e;exists h1,fa ρ,p,e,0;obtain⟨d1,t1⟩:=p;cases h2:fb ρ with
 |none=>rw[h1,h2] at e;cases e
 |some p=>
  obtain⟨d2,t2⟩:=p;rw[h1,h2] at e;dsimp only at e;exists h3,op d1 d2,d3,e;cases e;exact⟨d1,t1,d2,t2,rfl,rfl,h3,rfl⟩
def fm(K:PySem.W.Frag)(r:R2)(op:D->D->Option D):Prop:=∀(H:Hp) (x y:V) (d1 d2:D) (f1 f2:List Addr) (d:D) (Q:VK),Rep K H d1 x f1->Rep K H d2 y f2->op d1 d2=some d->
 (∀H' v,aF H H'->Rep K H' d v []->Q v H')->r x y H Q
theorem fp_2{a b e:Expr}{r:R2}{op:D->D->Option D}(dd:fm X.K r op)(ha:FP X a fa)(hb:FP X b fb)(he:∀ta tb,PE X a ta->PE X b tb->PE X e (sA r ta tb)):FP X e (e2 op fa fb):=by
 obtain⟨ta,pa,sa⟩:=ha;obtain⟨tb,pb,sb⟩:=hb;exists 20,he ta tb pa pb;obtain⟨d1,t1,d2,t2,e1,fY,e3,rfl⟩:=mJ e;refine sa ok e1 λH1 x f1 s1 r1 _=>?_
 refine sb (ok.same s1) fY λH2 y f2 s2 r2 _=>?_
 exact dd H2 x y d1 d2 f1 f2 d Q (r1.same s2) r2 e3 λH3 v s3 r3=>q H3 v [] ((s1.trans s2).trans s3) r3 .nil
end
end L2.Ev
namespace L2.Ev
open PySem PySem.Spec PyProof.Rows
noncomputable def OS:Tag->Tag->Tag
 |.sh o,.sh p=>.sh (o++p)
 |.sh o,_=>.sh o
 |_,t=>t
def ko:List (D×Tag)->Tag
 |[]=>.own
 |p::r=>OS p.2 (ko r)
def FA(X:Cx)(es:List Expr)(f:AF):Prop:=∃t,PA X es t/\(∀ρ ps,f ρ=some ps->ps.length=es.length)/\∀{H0:Hp}{S:List Addr}{z:Addr->Option Nat}{ak:List bZ}{ρ:aE}{σ:St}{H:Hp}{Q:List V->Hp->Prop}{ps:List (D×Tag)},
 Ok X.K H0 S z ak ρ σ H->f ρ=some ps->(∀H' vs fp,aF H H'->ay X.K H' (ps.map (·.1)) vs fp->cO z H (ko ps) fp->Q vs H')->t σ H Q
noncomputable def aA:AF:=λ_=>some []
noncomputable def aq(f:EF)(g:AF):AF:=λρ=>match f ρ,g ρ with
 |some p,some ps=>some (p::ps)
 |_,_=>none
theorem Jr{ps:List (D×Tag)}(e:aq f g ρ=some ps):∃d t r,f ρ=some (d,t)/\g ρ=some r/\ps=(d,t)::r:=by
 unfold aq at e;exists h1,f ρ,p,e,0;cases h2:g ρ with
 |none=>rw[h1,h2] at e;cases e
 |some r=>
  rw[h1,h2] at e;cases e;exact⟨p.1,p.2,r,rfl,rfl,rfl⟩
theorem cO.join{K:PySem.W.Frag}(ok:Ok K H0 S z ak ρ σ H)(s:aF H H1)
  (h1:cO z H t1 f1) (d1:∀a∈f1,∃o,H1 a=some o/\j4 o=true) (h2:cO z H1 t2 f2):cO z H (OS t1 t2) (f1++f2):=by
 have nz:∀{a:Addr}{j:Nat},H a=none->z a=some j->False:=λ{a j} e q=>by
  obtain⟨⟨o,w⟩,_⟩:=ok.zd a j q;rw[e] at w;cases w
 have both:∀{t1 t2:Tag},(f1.Nodup/\∀a∈f1,H a=none)->(f2.Nodup/\∀a∈f2,H1 a=none)->(f1++f2).Nodup/\∀a∈f1++f2,H a=none:=λp q=>by
  refine⟨abL.mpr ⟨p.1,q.1,λa m b m' e=>?_⟩,λa m=>?_⟩
  .subst e;obtain⟨o,w,_⟩:=d1 a m;rw[q.2 a m'] at w;cases w
  .rcases abb.mp m with m|m
   .exact p.2 a m
   .exact s.free (q.2 a m)
 cases t1 with
 |sh o=>
  have gm:=h1;cases t2 with
  |sh p=>
   intro a m j q;rcases abb.mp m with m|m
   .exact aaR _ (gm a m j q)
   .exact aaE _ (h2 a m j q)
  |own=>
   intro a m j q;rcases abb.mp m with m|m
   .exact gm a m j q
   .exact(nz (s.free (h2.2 a m)) q).elim
  |lk=>
   intro a m j q;rcases abb.mp m with m|m
   .exact gm a m j q
   .exact(nz (s.free (h2.2 a m)) q).elim
 |own=>
  cases t2 with
  |sh p=>
   intro a m j q;rcases abb.mp m with m|m
   .exact(nz (h1.2 a m) q).elim
   .exact h2 a m j q
  |own=>exact both (t1:=.own) (t2:=.own) h1 h2
  |lk=>exact both (t1:=.own) (t2:=.own) h1 h2
 |lk=>
  cases t2 with
  |sh p=>
   intro a m j q;rcases abb.mp m with m|m
   .exact(nz (h1.2 a m) q).elim
   .exact h2 a m j q
  |own=>exact both (t1:=.own) (t2:=.own) h1 h2
  |lk=>exact both (t1:=.own) (t2:=.own) h1 h2
section
variable{X:Cx}{pos:Pos}
theorem aI:FA X [] aA:=⟨_,dN,λ_ _ e=>by cases e;rfl,@λ_ _ _ _ _ _ H _ _ _ e q=>by cases e;exact q H _ _ (aF.refl H) .nil .nil⟩
theorem au{e:Expr}{es:List Expr}{f:EF}{g:AF}(ha:FP X e f)(hr:FA X es g)(hs:starEach (e::es) X.env=(false,eval e X.env)::starEach es X.env:=by rfl):FA X (e::es) (aq f g):=by
 obtain⟨t,p,q⟩:=ha;obtain⟨t',p',l',q'⟩:=hr;refine⟨_,bU p p' hs,λρ ps e=>by obtain⟨d,tg,r,e1,e2,rfl⟩:=Jr e;rw[abj,abj,l' ρ r e2],@λH0 S z ak ρ σ H Q ps ok e k=>?_⟩;obtain⟨d,tg,r,e1,e2,rfl⟩:=Jr e;refine q ok e1 λH1 v f1 s1 r1 g1=>?_
 refine q' (ok.same s1) e2 λH2 vs f2 s2 r2 g2=>?_
 exact k H2 (v::vs) (f1++f2) (s1.trans s2) (.cons (r1.same s2) r2) (cO.join ok s1 g1 r1.dH g2)
def jq(g:AF):EF:=λρ=>(g ρ).map λps=>(.tup (ps.map (·.1)),ko ps)
theorem jA{es:List Expr}{g:AF}{x1}(h:FA X es g)(hl:es.length<=1000:=by decide):FP X (.Tuple es x1 pos) (jq g):=by
 obtain⟨t,p,hg,q⟩:=h;exists 21,Jt p;unfold jq at e;exists h1,g ρ,ps,e;cases e;refine q ok h1 λH1 vs fp s1 r1 g1=>⟨?_,λa ha=>?_⟩
 .rw[<- r1.length,aaf,hg ρ ps h1];exact ad3 (uH hl)
 .have s2:aF H1 (upd H1 a (.tup vs)):=λb o e=>by rw[aO (cC e ha)];exact e
  exact k _ _ fp (s1.trans s2) (.tup (cg.of bT) (r1.same s2)) g1
def d_(g:AF):EF:=λρ=>(g ρ).map λps=>(.lst (ps.map (·.1)),ko ps)
theorem cO.cons{K:PySem.W.Frag}{H0:Hp}{S:List Addr}{z:Addr->Option Nat}{ak:List bZ}{ρ:aE}{σ:St}{H H1:Hp}{t:Tag}{fp:List Addr}{a:Addr}(ok:Ok K H0 S z ak ρ σ H)(s:aF H H1)(h:cO z H t fp)
  (d:∀b∈fp,∃o,H1 b=some o/\j4 o=true) (ha:H1 a=none):cO z H t (a::fp):=by
 have na:=s.free ha;have both:(fp.Nodup/\∀b∈fp,H b=none)->(a::fp).Nodup/\∀b∈a::fp,H b=none:=λp=>by
  refine⟨abu.mpr ⟨λm=>?_,p.1⟩,λb m=>?_⟩
  .obtain⟨o,w,_⟩:=d a m;rw[ha] at w;cases w
  .rcases aaM.mp m with e|m
   .rw[e];exact na
   .exact p.2 b m
 cases t with
 |sh o=>
  intro b m j q;rcases aaM.mp m with e|m
  .obtain⟨⟨o,w⟩,_⟩:=ok.zd b j q;rw[e,na] at w;cases w
  .exact h b m j q
 |own=>exact both h
 |lk=>exact both h
theorem fC{es:List Expr}{g:AF}(h:FA X es g)(hl:es.length<=1000:=by decide):FP X (.List es pos) (d_ g):=by
 obtain⟨t,p,hg,q⟩:=h;exists 21,LN p;unfold d_ at e;exists h1,g ρ,ps,e;cases e;refine q ok h1 λH1 vs fp s1 r1 g1=>⟨?_,λa ha=>?_⟩
 .rw[<- r1.length,aaf,hg ρ ps h1];exact ad3 (uH hl)
 .have s2:aF H1 (upd H1 a (.lst vs)):=λb o e=>by rw[aO (cC e ha)];exact e
  exact k _ _ (a::fp) (s1.trans s2) (.lst bT (r1.same s2)) (g1.cons ok s1 r1.dH ha)
end
def bx(K:PySem.W.Frag)(F:List D->Option D):Sp:=λvs H Q _=>∃ds fp d,ay K H ds vs fp/\F ds=some d/\∀H' v fG,aF H H'->Rep K H' d v fG->fG.Nodup->(∀a∈fG,H a=none)->Q v H'
noncomputable def cM(F:List D->Option D)(g:AF):EF:=λρ=>(g ρ).bind λps=>(F (ps.map (·.1))).map λd=>(d,.own)
theorem aac{F:List D->Option D}(e:cM F g ρ=some (d,tg)):∃ps,g ρ=some ps/\F (ps.map (·.1))=some d/\tg=.own:=by
 unfold cM at e;exists h1,g ρ,ps,e,0;rw[h1,ach] at e;exists h2,F (ps.map (·.1)),d',e;cases e;exact⟨ps,rfl,h2,rfl⟩
section
variable{X:Cx}{x:Str}{p pos:Pos}{e:Expr}{es:List Expr}{k:Nat}{f:Addr}{fd:FuncData}{ps:List Str}{F:List D->Option D}{g:AF}
theorem cQ{cm:Bool}(G:bN X.prog X.w X.K X.mg X.base cE k f fd ps (bx X.K F) cm)(hr:aZ k X.A cm)(hm:X.mg x=some (.ref f))(hk:PySem.W.keepIn X.K (.ref f)=true)(hb:Binds X.K fd ps [])(ha:FA X (e::es) g)
  (hg:GD X x:=by exact⟨rfl,by decide⟩)
  (he:SE X e es pos:=by exact⟨rfl,rfl⟩):FP X (.Call (.Name x p) (e::es) [] pos) (cM F g):=by
 obtain⟨t,pa,_,sa⟩:=ha;refine⟨_,xx G hr hg.1 hm hk hb .nil jt pa hg.2 he.1 he.2,@λH0 S z ak ρ σ H Q d tg ok e0 q=>?_⟩;obtain⟨qs,e1,e2,rfl⟩:=aac e0;refine sa ok e1 λH1 vs fp s1 r1 _=>?_
 rw[abM];exact⟨_,fp,d,r1,e2,λH2 v fG s2 r2 nd fr=>q H2 v fG (s1.trans s2) r2 ⟨nd,λa m=>s1.free (fr a m)⟩⟩
end
section
variable{X:Cx}{pos:Pos}
noncomputable def tV(f:EF):TF:=λρ=>match f ρ with
 |some (.bl b,_)=>some b
 |_=>none
theorem BQ(e:tV f ρ=some b):∃t,f ρ=some (.bl b,t):=by
 unfold tV at e;exists h,f ρ,p,e,0;obtain⟨d,t⟩:=p;rw[h] at e;cases d<;>first|(cases e;exact⟨t,rfl⟩)|cases e
theorem dX{e:Expr}{f:EF}(h:FP X e f)(he:∀whole,isTrue e X.env whole=(do let v <- whole;standAt e.pos;holding [v] (truthy v)):=by intro _;rfl):FT X e (tV f):=by
 obtain⟨t,p,q⟩:=h;refine⟨_,GP p he,@λH0 S z ak ρ σ H Q b ok e k=>?_⟩;obtain⟨tg,e1⟩:=BQ e;refine q ok e1 λH1 v fp s1 r1 _=>?_
 cases r1;exact⟨b,rfl,k H1 s1⟩
theorem i0{op:CmpOp}{r:R2}{o:D->D->Option D}{a b:Expr}(ho:cY X (compareOp op) r)(dd:fm X.K r o)(ha:FP X a fa)(hb:FP X b fb)(hm:behindInMarks op b=false):FT X (.Compare a [op] [b] pos) (tV (e2 o fa fb)):=by
 obtain⟨ta,pa,sa⟩:=ha;obtain⟨tb,pb,sb⟩:=hb;exists 22,X0 ho pa pb hm;obtain⟨tg,e0⟩:=BQ e;obtain⟨d1,t1,d2,t2,e1,fY,e3,rfl⟩:=mJ e0;refine sa ok e1 λH1 x f1 s1 r1 _=>?_
 refine sb (ok.same s1) fY λH2 y f2 s2 r2 _=>?_
 refine dd H2 x y d1 d2 f1 f2 _ _ (r1.same s2) r2 e3 λH3 v s3 r3=>?_
 cases r3;exact⟨c,rfl,k H3 ((s1.trans s2).trans s3)⟩
theorem mH{op:CmpOp}{r:R2}{o:D->D->Option D}(ho:cY X (compareOp op) r)(dd:fm X.K r o)(ha:FP X a fa)(hb:FP X b fb)(hm:behindInMarks op b=false):FP X (.Compare a [op] [b] pos) (e2 o fa fb):=
 fp_2 dd ha hb λ_ _ pa pb=>aau ho pa pb hm
theorem Cw{op:Operator}{r:R2}{o:D->D->Option D}(ho:cY X (binaryOp op) r)(dd:fm X.K r o)(ha:FP X a fa)(hb:FP X b fb):FP X (.BinOp a op b pos) (e2 o fa fb):=
 fp_2 dd ha hb λ_ _ pa pb=>wA ho pa pb
noncomputable def fN(f g:TF):TF:=λρ=>match f ρ with
 |some true=>g ρ
 |some false=>some false
 |none=>none
noncomputable def nJ(f g:TF):TF:=λρ=>match f ρ with
 |some true=>some true
 |some false=>g ρ
 |none=>none
noncomputable def iN(f:TF):TF:=λρ=>(f ρ).map λb=>!b
def FW(X:Cx)(e:Expr)(f:TF):Prop:=∃t,PW X e t/\∀{H0:Hp}{S:List Addr}{z:Addr->Option Nat}{ak:List bZ}{ρ:aE}{σ:St}{H:Hp}{Q:Bool->Hp->Prop}{b:Bool},
 Ok X.K H0 S z ak ρ σ H->f ρ=some b->(∀H',aF H H'->Q b H')->t σ H Q
theorem FW.ft{e:Expr}{f:TF}(h:FW X e f):FT X e f:=let⟨t,p,q⟩:=h;⟨t,p.pt,q⟩
theorem rQ{a:Expr}{f:TF}(h:FT X a f):FW X (.BoolOp .And [a] pos) f:=let⟨t,p,q⟩:=h;⟨t,NB p,q⟩
theorem qK{a:Expr}{f:TF}(h:FT X a f):FW X (.BoolOp .Or [a] pos) f:=let⟨t,p,q⟩:=h;⟨t,S7 p,q⟩
theorem ou{a b:Expr}{rest:List Expr}{f g:TF}(ha:FT X a f)(hb:FW X (.BoolOp .And (b::rest) pos) g):FW X (.BoolOp .And (a::b::rest) pos) (fN f g):=by
 obtain⟨t,p,q⟩:=ha;obtain⟨t',p',q'⟩:=hb;exists 22,Nu p p';unfold fN at e;exists h,f ρ,y,e;cases y with
 |false=>
  cases e;refine q ok h λH1 s1=>?_
  rw[abf aaN];exact k H1 s1
 |true=>
  refine q ok h λH1 s1=>?_
  rw[if_pos rfl];exact q' (ok.same s1) e λH2 s2=>k H2 (s1.trans s2)
theorem pO{a b:Expr}{rest:List Expr}{f g:TF}(ha:FT X a f)(hb:FW X (.BoolOp .Or (b::rest) pos) g):FW X (.BoolOp .Or (a::b::rest) pos) (nJ f g):=by
 obtain⟨t,p,q⟩:=ha;obtain⟨t',p',q'⟩:=hb;exists 22,Sh p p';unfold nJ at e;exists h,f ρ,y,e;cases y with
 |true=>
  cases e;refine q ok h λH1 s1=>?_
  rw[if_pos rfl];exact k H1 s1
 |false=>
  refine q ok h λH1 s1=>?_
  rw[abf aaN];exact q' (ok.same s1) e λH2 s2=>k H2 (s1.trans s2)
theorem iD{a:Expr}{f:TF}(ha:FT X a f):FT X (.UnaryOp .Not a pos) (iN f):=by
 obtain⟨t,p,q⟩:=ha;exists 22,Pp p;unfold iN at e;exists h,f ρ,y,e;cases e;exact q ok h λH1 s1=>k H1 s1
end
inductive Out where
 |nx (ρ:aE)|rt (d:D)|bk (ρ:aE)|ct (ρ:aE)
 |er (raw:Bool) (cn:XN) (ρ:aE)
abbrev SF:=aE->Option Out
noncomputable def jN(X:Cx)(x:Str):Bool:=x==("self":Str)||(X.fn ("self":Str)&&!X.fn x)
def Kp(X:Cx)(σ aB:St):Prop:=∀(i:Nat) (x:Str),X.N[i]? = some x->jN X x=true->aB[i]? = σ[i]?
theorem Kp.refl(X:Cx)(σ:St):Kp X σ σ:=λ_ _ _ _=>rfl
theorem Kp.trans{X:Cx}{σ mU gH:St}(a:Kp X σ mU)(b:Kp X mU gH):Kp X σ gH:=λi x h k=>(b i x h k).trans (a i x h k)
theorem Kp.set{v:Option V}(hi:X.N[i]? = some x)(hs:jN X x=false):Kp X σ (σ.set i v):=λj y h k=>by
 refine abY λe=>?_
 subst e;rw[hi] at h;have h:=abi h;subst h;rw[hs] at k;cases k
def sU(X:Cx)(H0:Hp)(S:List Addr)(ak:List bZ)(oJ:St)(raw:Bool)(cn:XN)(ρ:aE):Prop:=∃ES:XS,(if raw=true then Eb X ES else tW X ES)/\
 ∀z σ H C,Ok X.K H0 S z ak ρ σ H->Kp X oJ σ->PySem.W.nsIn X.K mainGlobals cn.1=some (some (.ref C))->ES (.ref C) cn.2 σ H
theorem sU.of{X:Cx}{H0:Hp}{S:List Addr}{ak:List bZ}{σ aB:St}{raw:Bool}{cn:XN}{ρ:aE}(k:sU X H0 S ak σ raw cn ρ)(a:Kp X σ aB):sU X H0 S ak aB raw cn ρ:=
 let⟨ES,th,q⟩:=k;⟨ES,th,λz s H C ok b hC=>q z s H C ok (a.trans b) hC⟩
def mW(X:Cx)(H0:Hp)(S:List Addr)(ak:List bZ)(oJ:St)(E:Ends):Out->Prop
 |.nx ρ=>∀z σ H,Ok X.K H0 S z ak ρ σ H->Kp X oJ σ->E.nx σ H
 |.bk ρ=>∀z σ H,Ok X.K H0 S z ak ρ σ H->Kp X oJ σ->E.bk σ H
 |.ct ρ=>∀z σ H,Ok X.K H0 S z ak ρ σ H->Kp X oJ σ->E.ct σ H
 |.er raw cn ρ=>sU X H0 S ak oJ raw cn ρ
 |.rt d=>∀H v fp,(∀a o,H0 a=some o->a∉S->H a=some o)->Rep X.K H d v fp->fp.Nodup->(∀a∈fp,H0 a=none\/a∈S)->E.rt v H
def FS(X:Cx)(st:List Stmt)(f:SF):Prop:=∃t,gC X st t/\∀{H0:Hp}{S:List Addr}{z:Addr->Option Nat}{ak:List bZ}{ρ:aE}{σ:St}{H:Hp}{E:Ends}{o:Out},
 Ok X.K H0 S z ak ρ σ H->f ρ=some o->mW X H0 S ak σ E o->t E σ H
def dU(X:Cx)(st:Stmt)(f:SF):Prop:=∃t,PS X st t/\∀{H0:Hp}{S:List Addr}{z:Addr->Option Nat}{ak:List bZ}{ρ:aE}{σ:St}{H:Hp}{E:Ends}{o:Out},
 Ok X.K H0 S z ak ρ σ H->f ρ=some o->mW X H0 S ak σ E o->t E σ H
theorem mW.of{X:Cx}{H0:Hp}{S:List Addr}{ak:List bZ}{σ aB:St}{E:Ends}{o:Out}(k:mW X H0 S ak σ E o)(a:Kp X σ aB):mW X H0 S ak aB E o:=by
 cases o with
 |nx ρ=>exact λz s H ok b=>k z s H ok (a.trans b)
 |bk ρ=>exact λz s H ok b=>k z s H ok (a.trans b)
 |ct ρ=>exact λz s H ok b=>k z s H ok (a.trans b)
 |rt d=>exact k
 |er raw cn ρ=>exact sU.of k a
noncomputable def cz:SF:=λρ=>some (.nx ρ)
noncomputable def aS(f g:SF):SF:=λρ=>match f ρ with
 |some (.nx ρ')=>g ρ'
 |o=>o
section
variable{X:Cx}{pos:Pos}
theorem d8:FS X [] cz:=⟨_,Cs,@λ_ _ z _ _ σ H _ _ ok e k=>by cases e;exact k z σ H ok (.refl _ _)⟩
theorem aQ{st:Stmt}{f:SF}(h:dU X st f):FS X [st] f:=let⟨t,p,q⟩:=h;⟨t,yH p,q⟩
theorem aV{st:Stmt}{rest:List Stmt}{f g:SF}(h1:dU X st f)(h2:FS X rest g):FS X (st::rest) (aS f g):=by
 obtain⟨t,p,q⟩:=h1;obtain⟨t',p',q'⟩:=h2;exists 23,uO p p';unfold aS at e;exists h,f ρ,w,e,0;refine q ok h ?_;rw[h] at e;cases w with
 |nx ρ'=>exact λz' aB H' aY a=>q' aY e (k.of a)
 |rt d=>cases e;exact k
 |bk ρ'=>cases e;exact k
 |ct ρ'=>cases e;exact k
 |er _ _ _=>cases e;exact k
noncomputable def kQ:SF:=λ_=>none
theorem mE{st:Stmt}:dU X st kQ:=⟨_,MY,@λ_ _ _ _ _ _ _ _ _ _ e _=>by cases e⟩
noncomputable def cH(c:TF)(f g:SF):SF:=λρ=>match c ρ with
 |some true=>f ρ
 |some false=>g ρ
 |none=>none
theorem eK{c:Expr}{a b:List Stmt}{tc:TF}{f g:SF}(hc:FT X c tc)(ha:FS X a f)(hb:FS X b g):dU X (.If c a b pos) (cH tc f g):=by
 obtain⟨t,p,q⟩:=hc;obtain⟨t1,p1,q1⟩:=ha;obtain⟨t2,p2,q2⟩:=hb;exists 23,yY p p1 p2;unfold cH at e;exists h,tc ρ,y,e;refine q ok h λH1 s1=>?_
 cases y with
 |true=>rw[if_pos rfl];exact q1 (ok.same s1) e k
 |false=>rw[abf aaN];exact q2 (ok.same s1) e k
noncomputable def lM:Tag->Bool
 |.sh _=>false
 |_=>true
def dw(f:EF):SF:=λρ=>match f ρ with
 |some (d,t)=>if lM t=true then some (.rt d) else if aG d=true then some (.rt d) else none
 |none=>none
theorem bC{e:Expr}{f:EF}(he:FP X e f):dU X (.Return (some e) pos) (dw f):=by
 obtain⟨t,p,q⟩:=he;exists 23,qH p;unfold dw at e;exists h,f ρ,w,e,0;obtain⟨d,tg⟩:=w;rw[h] at e;dsimp only at e;refine q ok h λH1 v fp s1 r1 g1=>?_
 have en:∀a o,H0 a=some o->a∉S->H1 a=some o:=λa o e n=>s1 _ _ (ok.en a o e n)
 by_cases ho:lM tg=true
 .rw[if_pos ho] at e;cases e;have g:fp.Nodup/\∀a∈fp,H a=none:=by cases tg<;>first|exact g1|cases ho
  refine k H1 v fp en r1 g.1 λa m=>?_
  cases h0:H0 a with
  |none=>exact .inl rfl
  |some o=>
   by_cases hs:a∈S
   .exact .inr hs
   .have w:=ok.en a o h0 hs;rw[g.2 a m] at w;cases w
 .rw[abf ho] at e;obtain⟨hi,e⟩:=ci e;cases e;have hn:=r1.aG hi;subst hn;exact k H1 v [] en r1 abF λa m=>nomatch m
def ux(i:Nat):SF:=λρ=>match ρ[i]? with
 |some (some (d,t))=>if lM t=true then some (.rt d) else if aG d=true then some (.rt d) else none
 |_=>none
theorem xm(i:Nat){x:Str}{pos':Pos}(va:VA X i x:=by walk_at "va"):dU X (.Return (some (.Name x pos')) pos) (ux i):=by
 exists 23,qH va.pe;unfold ux at e;exists h,ρ[i]?,w,e,0;cases w with
 |none=>rw[h] at e;cases e
 |some w=>
  obtain⟨d,tg⟩:=w;rw[h] at e;dsimp only at e;obtain⟨v,fp,hs,r,zz⟩:=ok.sl i d tg h;refine⟨v,hs,?_⟩
  by_cases ho:lM tg=true
  .rw[if_pos ho] at e;cases e;have g:fp.Nodup/\∀a∈fp,z a=some i:=by cases tg<;>first|exact zz|cases ho
   exact k H v fp ok.en r g.1 λa m=>(ok.zd a i (g.2 a m)).2
  .rw[abf ho] at e;obtain⟨hi,e⟩:=ci e;cases e;have hn:=r.aG hi;subst hn;exact k H v [] ok.en r abF λa m=>nomatch m
noncomputable def jf(ρ:aE)(i:Nat)(d:D):Tag->aE
 |.sh o=>ρ.set i (some (d,.sh o))
 |_=>ρ.set i (some (d,.own))
def cj(i:Nat)(f:EF):SF:=λρ=>match f ρ with
 |some (d,t)=>some (.nx (jf ρ i d t))
 |none=>none
theorem Ok.chg{K:PySem.W.Frag}{H0:Hp}{S:List Addr}{z z':Addr->Option Nat}{ak:List bZ}{ρ ρ':aE}{σ aB:St}{H H':Hp}{i:Nat}{d:D}{tg:Tag}{v:V}{fp aT fo:List Addr}(ok:Ok K H0 S z ak ρ σ H)(hi:ρ'[i]? = some (some (d,tg)))(hs:aB[i]? = some (some v))(h0:∀a∈aT,z a=some i)(im:aX H H')
  (keep:∀b o,b∉aT->H b=some o->H' b=some o) (r:Rep K H' d v fp) (hz:tS z' i tg fp) (zn:∀a,a∉fo->z a=some i/\z' a=none\/z' a=z a/\a∉aT/\(z a=some i->¬uT ρ i)) (Bv:∀a∈fo,(a∈aT\/H a=none)/\∃o,H' a=some o)
  (ot:∀{j d t},j≠i->ρ'[j]? = some (some (d,t))->ρ[j]? = some (some (d,t))/\(aT=[]\/∀o,t=.sh o->i∉o)) (os:∀j,j≠i->aB[j]? = σ[j]?) (hh:aT=[]\/¬uT ρ i) (ln:ρ'.length=aB.length):Ok K H0 S z' ak ρ' aB H':=by
 have old:∀{a:Addr}{o:HO},a∉aT->H a=some o->a∉fo:=λn e m=>(Bv _ m).1.elim n λq=>by rw[e] at q;cases q
 have at_:∀{a:Addr}{k:Nat},a∉fo->z' a=some k->z a=some k/\a∉aT/\(k=i->¬uT ρ i):=λ{a k} n e=>by
  rcases zn a n with⟨_,w⟩|⟨w,q,u⟩
  .rw[e] at w;cases w
  .rw[e] at w;exact⟨w.symm,q,λx=>u (x ▸ w.symm)⟩
 have S0:∀a∈aT,H0 a=none\/a∈S:=λa m=>(ok.zd a i (h0 a m)).2
 refine⟨λj d' t e=>?_,λp hp=>?_,λa j e=>?_,λa o e n=>keep a o (λm=>?_) (ok.en a o e n),ln⟩
 .by_cases hj:j=i
  .subst hj;rw[hi] at e;cases e;exact⟨v,fp,hs,r,hz⟩
  .obtain⟨e0,nd⟩:=ot hj e;obtain⟨v',fG,ck,r',zz⟩:=ok.sl j d' t e0;have n0:∀a∈fG,a∉aT:=λa m q=>by
    have zi:=h0 a q;rcases nd with rfl|nd
    .cases q
    cases t with
    |sh o=>exact nd o rfl (zz a m i zi)
    |own=>rw[zz.2 a m] at zi;exact hj (abi zi)
    |lk=>rw[zz.2 a m] at zi;exact hj (abi zi)
   have n1:∀a∈fG,a∉fo:=λa m=>let⟨o,w,_⟩:=r'.dH a m;old (n0 a m) w
   have o1:∀a∈fG,z a=some j->z' a=some j:=λa m e=>by
    rcases zn a (n1 a m) with⟨w,_⟩|⟨w,_⟩
    .rw[e] at w;exact(hj (abi w)).elim
    .rw[w,e]
   refine⟨v',fG,(os j hj).trans ck,r'.frame (λa m=>?_) im,?_⟩
   .obtain⟨o,w,_⟩:=r'.dH a m;rw[keep a o (n0 a m) w,w]
   .cases t with
    |sh o=>exact λa m k q=>zz a m k (at_ (n1 a m) q).1
    |own=>exact⟨zz.1,λa m=>o1 a m (zz.2 a m)⟩
    |lk=>exact⟨zz.1,λa m=>o1 a m (zz.2 a m)⟩
 .obtain⟨r',KA⟩:=ok.hl p hp;have n0:∀a∈p.fp,a∉aT:=λa m q=>by
   rcases hh with rfl|hh
   .cases q
   .exact hh (KA a m i (h0 a q)).2
  refine⟨r'.frame (λa m=>?_) im,λa m j q=>?_⟩
  .obtain⟨o,w,_⟩:=r'.dH a m;rw[keep a o (n0 a m) w,w]
  .obtain⟨o,w,_⟩:=r'.dH a m;obtain⟨q,_,hj⟩:=at_ (old (n0 a m) w) q;obtain⟨x,y⟩:=KA a m j q;exact⟨x,λd e=>y d (ot (λx=>hj x (x ▸ y)) e).1⟩
 .by_cases w:a∈fo
  .refine⟨(Bv a w).2,(Bv a w).1.elim (S0 a) λq=>?_⟩;cases h0:H0 a with
   |none=>exact .inl rfl
   |some o=>
    by_cases hs:a∈S
    .exact .inr hs
    .rw[ok.en a o h0 hs] at q;cases q
  .obtain⟨e,n,_⟩:=at_ w e;obtain⟨⟨o,x⟩,y⟩:=ok.zd a j e;exact⟨⟨o,keep a o n x⟩,y⟩
 .rcases S0 a m with q|q
  .rw[e] at q;cases q
  .exact n q
open Classical in
noncomputable def zN(fo:List Addr)(i:Nat)(z:Addr->Option Nat):Addr->Option Nat:=λa=>if a∈fo then some i else if z a=some i then none else z a
theorem Ec{fo aT:List Addr}{i:Nat}(h:∀a∈aT,z a=some i)(a:Addr)(n:a∉fo):z a=some i/\zN fo i z a=none\/zN fo i z a=z a/\a∉aT/\(z a=some i->P):=by
 unfold zN
 by_cases w:z a=some i
 .exact .inl ⟨w,by rw[abf n,if_pos w]⟩
 .exact .inr ⟨by rw[abf n,abf w],λm=>w (h a m),λq=>(w q).elim⟩
theorem Ok.set{K:PySem.W.Frag}{H0:Hp}{S:List Addr}{z:Addr->Option Nat}{ak:List bZ}{ρ:aE}{σ:St}{H H1:Hp}{i:Nat}{d:D}{t:Tag}{v:V}{fp:List Addr}(ok:Ok K H0 S z ak ρ σ H)(hi:i<σ.length)(s:aF H H1)
  (r:Rep K H1 d v fp) (g:cO z H t fp):∃z',Ok K H0 S z' ak (jf ρ i d t) (σ.set i (some v)) H1:=by
 have n0:∀a∈([]:List Addr),z a=some i:=λa m=>nomatch m
 have main:∀(fo:List Addr) (tg:Tag),(∀a∈fo,H a=none/\a∈fp)->tS (zN fo i z) i tg fp->∃z',Ok K H0 S z' ak (ρ.set i (some (d,tg))) (σ.set i (some v)) H1:=λfo tg h hz=>
  ⟨_,ok.chg (ac1 (by rw[ok.ln];exact hi)) (ac1 hi) n0 (.of s) (λb o _ e=>s b o e) r hz (Ec n0) (λa m=>⟨.inr (h a m).1,let⟨o,w,_⟩:=r.dH a (h a m).2;⟨o,w⟩⟩)
   (λhj e=>⟨(abY (aez hj)).symm.trans e,.inl rfl⟩) (λj hj=>abY (aez hj)) (.inl rfl) (by rw[aet,aet];exact ok.ln)⟩
 cases t with
 |own=>exact main fp .own (λa m=>⟨g.2 a m,m⟩) ⟨g.1,λa m=>if_pos m⟩
 |lk=>exact main fp .own (λa m=>⟨g.2 a m,m⟩) ⟨g.1,λa m=>if_pos m⟩
 |sh o=>
  refine main [] (.sh o) (λa m=>nomatch m) λa m j q=>?_
  rcases Ec (fo:=[]) (P:=True) n0 a (λw=>nomatch w) with⟨_,w⟩|⟨w,_⟩
  .rw[q] at w;cases w
  .exact g a m j (w ▸ q)
theorem Ok.stored{K:PySem.W.Frag}{H0:Hp}{S:List Addr}{z:Addr->Option Nat}{ak:List bZ}{ρ:aE}{σ:St}{H H1:Hp}{i:Nat}{d:D}{t:Tag}{v:V}{fp:List Addr}{G:Prop}(ok:Ok K H0 S z ak ρ σ H)(s:aF H H1)
  (r:Rep K H1 d v fp) (g:cO z H t fp) (k:∀z',Ok K H0 S z' ak (jf ρ i d t) (σ.set i (some v)) H1->G):G:=by
 by_cases hi:i<σ.length
 .obtain⟨z',aY⟩:=ok.set hi s r g;exact k z' aY
 .have e1:σ.set i (some v)=σ:=List.set_eq_of_length_le (Nat.le_of_not_lt hi);have e2:∀w,ρ.set i w=ρ:=λw=>List.set_eq_of_length_le (by rw[ok.ln];exact Nat.le_of_not_lt hi)
  have e3:jf ρ i d t=ρ:=by cases t<;>exact e2 _
  refine k z ?_;rw[e1,e3];exact ok.same s
theorem dS(i:Nat){x:Str}{e:Expr}{f:EF}{pos':Pos}(he:FP X e f)(hN:X.N.Nodup)(hi:X.N[i]? = some x:=by rfl)(hx:Loc X.env.scope x:=by first|exact Or.inl rfl|exact Or.inr rfl)
  (hs:swapsWith e (some (.Name x pos')) pos.line X.env=pure false:=by rfl) (hf:X.fn x=true\/X.env.scope.names.lookup x=some .local:=by first|exact .inl rfl|exact .inr rfl) (kH:jN X x=false:=by rfl):dU X (.Assign [.Name x pos'] e pos) (cj i f):=by
 obtain⟨t,p,q⟩:=he;exists 23,wg hN hi hx p hs hf;unfold cj at e;exists h,f ρ,w,e,0;obtain⟨d,tg⟩:=w;rw[h] at e;cases e;refine q ok h λH1 v fp s1 r1 g1=>?_
 exact ok.stored s1 r1 g1 λz' aY=>k z' _ H1 aY (.set hi kH)
end
abbrev GF:=D->Tag->aE->Option aE
def FG(X:Cx)(tg:Expr)(g:GF)(is:List Nat):Prop:=(∀i∈is,∀x,X.N[i]? = some x->jN X x=false)/\∃t,PG X tg t/\∀{H0:Hp}{S:List Addr}{z:Addr->Option Nat}{ak:List bZ}{ρ:aE}{σ:St}{H H1:Hp}{v:V}{d:D}{tag:Tag}{fp:List Addr}{Q:St->Hp->Prop}{ρ':aE},
 Ok X.K H0 S z ak ρ σ H->aF H H1->Rep X.K H1 d v fp->cO z H tag fp->g d tag ρ=some ρ'->(∀z' aB,Ok X.K H0 S z' ak ρ' aB H1->(aB.length=σ.length/\∀j,j∉is->aB[j]? = σ[j]?)->Q aB H1)->t v σ H1 Q
def gN(i:Nat):GF:=λd t ρ=>some (jf ρ i d t)
abbrev oY:=List D->aE->Option aE
theorem Kp.off{is:List Nat}(hk:∀i∈is,∀x,X.N[i]? = some x->jN X x=false)(h:∀j,j∉is->aB[j]? = σ[j]?):Kp X σ aB:=λi x e k=>h i λm=>by rw[hk i m x e] at k;cases k
def Bg(X:Cx)(ts:List Expr)(g:oY)(is:List Nat):Prop:=(∀i∈is,∀x,X.N[i]? = some x->jN X x=false)/\∃t,vI X ts t/\(∀ds ρ ρ',g ds ρ=some ρ'->ds.length=ts.length)/\∀{H0:Hp}{S:List Addr}{z:Addr->Option Nat}{ak:List bZ}{ρ:aE}{σ:St}{H:Hp}{vs:List V}{ds:List D}{fp:List Addr}{Q:St->Hp->Prop}{ρ':aE},
 Ok X.K H0 S z ak ρ σ H->ay X.K H ds vs fp->g ds ρ=some ρ'->(∀z' aB,Ok X.K H0 S z' ak ρ' aB H->(aB.length=σ.length/\∀j,j∉is->aB[j]? = σ[j]?)->Q aB H)->t vs σ H Q
noncomputable def xV:oY:=λds ρ=>match ds with
 |[]=>some ρ
 |_=>none
def j8(g:GF)(gs:oY):oY:=λds ρ=>match ds with
 |d::r=>if aG d=true then(g d .own ρ).bind λρ'=>gs r ρ' else none
 |_=>none
theorem Jw{gs:oY}(e:j8 g gs ds ρ=some ρ'):∃d r aJ,ds=d::r/\aG d=true/\g d .own ρ=some aJ/\gs r aJ=some ρ':=by
 cases ds with
 |nil=>cases e
 |cons d r=>
  unfold j8 at e;dsimp only at e;obtain⟨hi,e⟩:=ci e;exists h,g d .own ρ,aJ,e,0;rw[h,ach] at e;exact⟨d,r,aJ,rfl,hi,h,e⟩
noncomputable def gT(gs:oY):GF:=λd _ ρ=>match d with
 |.tup ds=>gs ds ρ
 |_=>none
section
variable{X:Cx}{pos:Pos}
theorem cL(i:Nat){x:Str}(hN:X.N.Nodup)(hi:X.N[i]? = some x:=by rfl)(hx:Loc X.env.scope x:=by first|exact Or.inl rfl|exact Or.inr rfl)(hf:X.fn x=true\/X.env.scope.names.lookup x=some .local:=by first|exact .inl rfl|exact .inr rfl)(kH:jN X x=false:=by rfl):FG X (.Name x pos) (gN i) [i]:=by
 refine⟨λj m y e=>by rw[aaH.mp m,hi] at e;have e:=abi e;subst e;exact kH,_,Xz hN hi hx hf,@λH0 S z ak ρ σ H H1 v d tag fp Q ρ' ok s r g e k=>?_⟩;cases e;exact ok.stored s r g λz' aY=>k z' _ aY ⟨aet ..,λj hj=>abY λe=>hj (by rw[e];exact aax)⟩
theorem uD:Bg X [] xV []:=by
 refine⟨λj m=>(nomatch m),_,Ux,λds ρ ρ' e=>?_,@λH0 S z ak ρ σ H vs ds fp Q ρ' ok r e k=>?_⟩
 .cases ds with
  |nil=>rfl
  |cons _ _=>cases e
 .cases ds with
  |nil=>cases r;cases e;exact⟨rfl,k z σ ok ⟨rfl,λ_ _=>rfl⟩⟩
  |cons _ _=>cases e
theorem iS{e:Expr}{es:List Expr}{g:GF}{gs:oY}{is ks:List Nat}(h1:FG X e g is)(h2:Bg X es gs ks)(hs:(assignEach (e::es) X.env).map (·.2)=assign e X.env::(assignEach es X.env).map (·.2):=by rfl):Bg X (e::es) (j8 g gs) (is++ks):=by
 obtain⟨n1,t,p,q⟩:=h1;obtain⟨n2,t',p',l',q'⟩:=h2;refine⟨λj m=>(abb.mp m).elim (n1 j) (n2 j),_,ac3 p p' hs,λds ρ ρ' e=>?_,@λH0 S z ak ρ σ H vs ds fp Q ρ' ok r e k=>?_⟩
 .obtain⟨d,r,aJ,rfl,_,_,h⟩:=Jw e;rw[abj,abj,l' r aJ ρ' h]
 .obtain⟨d,dr,aJ,rfl,hi,h1,h2⟩:=Jw e;cases r with
  | @cons _ v _ vr f1 f2 r1 r2=>
   have hn:=r1.aG hi;subst hn;exact⟨v,vr,rfl,q ok (aF.refl H) r1 .nil h1 λz1 mU bq a1=>q' bq r2 h2 λz2 gH gx a2=>k z2 gH gx ⟨a2.1.trans a1.1,λj hj=>(a2.2 j λm=>hj (aaE _ m)).trans (a1.2 j λm=>hj (aaR _ m))⟩⟩
theorem tX{es:List Expr}{gs:oY}{is:List Nat}(hc:X.calm=true)(h:Bg X es gs is)(hn:(assignEach es X.env).length=es.length:=by rfl)(cN:(assignEach es X.env).findIdx? (·.1)=none:=by rfl):FG X (.Tuple es k pos) (gT gs) is:=by
 obtain⟨n1,t,p,l,q⟩:=h;refine⟨n1,_,Ww hc p hn cN,@λH0 S z ak ρ σ H H1 v d tag fp Q ρ' ok s r g e k=>?_⟩;cases r with
 | @tup a xs ds fp hq rs=>
  have e:=e;exact⟨a,xs,rfl,hq,by rw[<- rs.length];exact l ds ρ ρ' e,q (ok.same s) rs e k⟩
 |_=>cases e
end
structure Hv where
 d:D
 v:V
 fp:List Addr
def qD(K:PySem.W.Frag)(J:It)(ds:List D)(hv:List Hv):Prop:=∀(H:Hp) (i:Nat),(∀h∈hv,Rep K H h.d h.v h.fp)->
 (∀d,ds[i]? = some d->J.go i H/\∀x H1,J.xN i H x H1->aF H H1/\∃fp,Rep K H1 d x fp/\∀a∈fp,∃h∈hv,a∈h.fp)/\(ds.length<=i->J.stop i H)
abbrev IF:=aE->Option (List D×Tag)
def FI(X:Cx)(tg iter:Expr)(f:IF):Prop:=∃wi,PI X tg iter wi/\∀{H0:Hp}{S:List Addr}{z:Addr->Option Nat}{ak:List bZ}{ρ:aE}{σ:St}{H:Hp}{R:It->Hp->Prop}{ds:List D}{t:Tag},
 Ok X.K H0 S z ak ρ σ H->f ρ=some (ds,t)->(∀H1 J hv,aF H H1->(∀h∈hv,Rep X.K H1 h.d h.v h.fp/\∀a∈h.fp,∀j,z a=some j->∃o,t=.sh o/\j∈o)->qD X.K J ds hv->R J H1)->wi σ H R
noncomputable def jl(f:EF):IF:=λρ=>match f ρ with
 |some (.lst ds,t)=>some (ds,t)
 |some (.gW ds,t)=>some (ds,t)
 |some (.tup ds,t)=>some (ds,t)
 |_=>none
def Yj(K:PySem.W.Frag)(tl:TE):TI:=λσ H R=>tl σ H λx H1=>∃a,x=.ref a/\(((∃xs,bS K H1 a xs)/\R (A6 K a) H1)\/((∃xs,cg K H1 a xs)/\R (Ez K a) H1))
section
variable{X:Cx}{tg:Expr}
theorem Sx{tl:TE}(hl:PE X l tl):PI X tg l (Yj X.K tl):=by
 intro af s σ H R I h;refine aM (hl af s σ H _ I h) λv s1 ⟨x,H1,I1,r1,q1⟩=>?_
 obtain⟨a,e,q⟩:=q1;subst e;cases r1;rcases q with⟨⟨xs,hq⟩,q⟩|⟨⟨xs,hq⟩,q⟩
 .obtain⟨ao,rv,p,hz⟩:=I1.list hq;refine wpAny_pyIter_list p.isList ?_;refine⟨s1.heap.objs.size,[s1.heap.objs.size],_,_,H1,rfl,I1.kept (λb o e=>aab _ e),acS a _,⟨_,aa6 _ rfl,rfl,rfl⟩,λb hb=>?_,q⟩;obtain rfl:b=s1.heap.objs.size:=by simpa using hb
  exact I1.o_ (abd _) (I1.aD.fresh (abd _))
 .obtain⟨ao,rv,p,hz⟩:=I1.tuple hq;refine wpAny_pyIter_tuple (show s1.heap.IsTuple a ao.toArray from p) ?_;refine⟨s1.heap.objs.size,[s1.heap.objs.size],_,_,H1,rfl,I1.kept (λb o e=>aab _ e),Yv a _,⟨_,aa6 _ rfl,rfl,rfl⟩,λb hb=>?_,q⟩;obtain rfl:b=s1.heap.objs.size:=by simpa using hb
  exact I1.o_ (abd _) (I1.aD.fresh (abd _))
theorem Rep.dg{K:PySem.W.Frag}{H:Hp}(r:Rep K H (.lst ds) v fp):∃a xs f,v=.ref a/\bS K H a xs/\ay K H ds xs f/\∀b∈f,b∈fp:=by
 cases r with
 |lst h rs=>exact⟨_,_,_,rfl,bS.of h,rs,λb m=>aal _ m⟩
theorem Rep.qS{K:PySem.W.Frag}(r:Rep K H (.gW ds) v fp):∃a xs,v=.ref a/\bS K H a xs/\ay K H ds xs fp:=by
 cases r with
 |z9 h rs=>exact⟨_,_,rfl,h.sq,rs⟩
theorem Rep.jx{K:PySem.W.Frag}(r:Rep K H (.tup ds) v fp):∃a xs,v=.ref a/\cg K H a xs/\ay K H ds xs fp:=by
 cases r with
 |tup h rs=>exact⟨_,_,rfl,h,rs⟩
theorem SN{K:PySem.W.Frag}:qD K (A6 K a) ds [⟨.lst ds,.ref a,fp⟩]:=by
 intro H i hh;have r:=hh ⟨.lst ds,.ref a,fp⟩ aax;obtain⟨a',xs,f,e,hq,rs,sub⟩:=r.dg;cases e;refine⟨λd hd=>?_,λhl=>⟨xs,hq,by rw[<- rs.length];exact hl⟩⟩;obtain⟨v,f',hv,rv,s'⟩:=rs.get hd;refine⟨⟨xs,v,hq,hv⟩,λx H1 y=>?_⟩;obtain⟨e1,y⟩:=y;subst e1;have e2:=y xs hq;rw[hv] at e2;cases e2;exact⟨aF.refl _,f',rv,λb m=>⟨_,aax,sub b (s' b m)⟩⟩
theorem UG{K:PySem.W.Frag}:qD K (A6 K a) ds [⟨.gW ds,.ref a,fp⟩]:=by
 intro H i hh;have r:=hh ⟨.gW ds,.ref a,fp⟩ aax;obtain⟨a',xs,e,hq,rs⟩:=r.qS;cases e;refine⟨λd hd=>?_,λhl=>⟨xs,hq,by rw[<- rs.length];exact hl⟩⟩;obtain⟨v,f',hv,rv,s'⟩:=rs.get hd;refine⟨⟨xs,v,hq,hv⟩,λx H1 y=>?_⟩;obtain⟨e1,y⟩:=y;subst e1;have e2:=y xs hq;rw[hv] at e2;cases e2;exact⟨aF.refl _,f',rv,λb m=>⟨_,aax,s' b m⟩⟩
theorem ZG{K:PySem.W.Frag}:qD K (Ez K a) ds [⟨.tup ds,.ref a,fp⟩]:=by
 intro H i hh;have r:=hh ⟨.tup ds,.ref a,fp⟩ aax;obtain⟨a',xs,e,hq,rs⟩:=r.jx;cases e;refine⟨λd hd=>?_,λhl=>⟨xs,hq,by rw[<- rs.length];exact hl⟩⟩;obtain⟨v,f',hv,rv,s'⟩:=rs.get hd;refine⟨⟨xs,v,hq,hv⟩,λx H1 y=>?_⟩;obtain⟨e1,y⟩:=y;subst e1;have e2:=y xs hq;rw[hv] at e2;cases e2;exact⟨aF.refl _,f',rv,λb m=>⟨_,aax,s' b m⟩⟩
theorem IL{K:PySem.W.Frag}{lo:Int}:qD K (ya lo n) ((List.range n).map λi:Nat=>D.int (lo+(i:Int))) []:=by
 intro H i _;refine⟨λd hd=>?_,λhl=>?_⟩
 .rw[abW] at hd
  by_cases hi:i<n
  .rw[List.getElem?_range hi] at hd;cases hd;refine⟨hi,λx H1 y=>?_⟩;obtain⟨e1,e2⟩:=y;subst e1 e2;exact⟨aF.refl _,[],.int _,λb m=>nomatch m⟩
  .rw[aeW (by simpa using hi)] at hd;cases hd
 .rw[aaf,acP] at hl;exact hl
theorem cO.over{K:PySem.W.Frag}(ok:Ok K H0 S z ak ρ σ H)(g:cO z H t fp):∀a∈fp,∀j,z a=some j->∃o,t=.sh o/\j∈o:=by
 intro a m j q;cases t with
 |sh o=>exact⟨o,rfl,g a m j q⟩
 |own=>obtain⟨⟨o,w⟩,_⟩:=ok.zd a j q;rw[g.2 a m] at w;cases w
 |lk=>obtain⟨⟨o,w⟩,_⟩:=ok.zd a j q;rw[g.2 a m] at w;cases w
theorem gA{l:Expr}{f:EF}(hl:FP X l f):FI X tg l (jl f):=by
 obtain⟨t,p,q⟩:=hl;exists 24,Sx p;unfold jl at e;exists h,f ρ,w,e,0;obtain⟨d,LP⟩:=w;rw[h] at e;cases d with
 |lst es=>
  cases e;refine q ok h λH1 v fp s1 r1 g1=>?_
  obtain⟨a,xs,f,rfl,hq,rs,sub⟩:=r1.dg;exact⟨a,rfl,.inl ⟨⟨xs,hq⟩,k H1 _ [⟨.lst ds,.ref a,fp⟩] s1 (λh m=>by cases aaH.mp m;exact⟨r1,g1.over ok⟩) SN⟩⟩
 |gW es=>
  cases e;refine q ok h λH1 v fp s1 r1 g1=>?_
  obtain⟨a,xs,rfl,hq,rs⟩:=r1.qS;exact⟨a,rfl,.inl ⟨⟨xs,hq⟩,k H1 _ [⟨.gW ds,.ref a,fp⟩] s1 (λh m=>by cases aaH.mp m;exact⟨r1,g1.over ok⟩) UG⟩⟩
 |tup es=>
  cases e;refine q ok h λH1 v fp s1 r1 g1=>?_
  obtain⟨a,xs,rfl,hq,rs⟩:=r1.jx;exact⟨a,rfl,.inr ⟨⟨xs,hq⟩,k H1 _ [⟨.tup ds,.ref a,fp⟩] s1 (λh m=>by cases aaH.mp m;exact⟨r1,g1.over ok⟩) ZG⟩⟩
 |_=>cases e
noncomputable def small(i:Int):Bool:=decide (-(2 ^ 62)<=i)&&decide (i<2 ^ 62)
def lB(g:EF):IF:=λρ=>match g ρ with
 |some (.int j,_)=>if small j=true then some ((List.range j.toNat).map λi:Nat=>D.int (0+(i:Int)),.own) else none
 |_=>none
def qA(f g:EF):IF:=λρ=>match f ρ,g ρ with
 |some (.int i,_),some (.int j,_)=>if(small i&&small j)=true then some ((List.range (j-i).toNat).map λk:Nat=>D.int (i+(k:Int)),.own) else none
 |_,_=>none
theorem t_(h:small i=true):-(2 ^ 62)<=i/\i<2 ^ 62:=by
 obtain⟨a,b⟩:=(aaL _ _).mp h;exact⟨aa3 a,aa3 b⟩
theorem Ah{a:Expr}{g:EF}{p pos:Pos}(hm:X.mg "range"=none)(ha:FP X a g)(hg:Gl X "range":=by rfl)(hs:starEach [a] X.env=[(false,eval a X.env)]:=by rfl):FI X tg (.Call (.Name "range" p) [a] [] pos) (lB g):=by
 obtain⟨t,pa,q⟩:=ha;exists 24,SQ hg hm (bU pa dN hs) hs;unfold lB at e;exists h,g ρ,w,e,0;obtain⟨d,LP⟩:=w;rw[h] at e;cases d with
 |int j=>
  dsimp only at e;obtain⟨hj,e⟩:=ci e;cases e;refine q ok h λH1 v fp s1 r1 g1=>?_
  cases r1;exact⟨j,rfl,(t_ hj).1,(t_ hj).2,k H1 _ [] s1 (λh m=>nomatch m) IL⟩
 |_=>cases e
theorem DQ{a b:Expr}(hm:X.mg "range"=none)(ha:FP X a f)(hb:FP X b g)(hg:Gl X "range":=by rfl)(hs:starEach [a,b] X.env=[(false,eval a X.env),(false,eval b X.env)]:=by rfl)(bQ:starEach [b] X.env=[(false,eval b X.env)]:=by rfl):
  FI X tg (.Call (.Name "range" p) [a,b] [] pos) (qA f g):=by
 obtain⟨t,pa,q⟩:=ha;obtain⟨t',pb,q'⟩:=hb;exists 24,YL hg hm (bU pa (bU pb dN bQ) (by rw[hs,bQ])) hs bQ;unfold qA at e;exists h,f ρ,w,e,0;obtain⟨d,LP⟩:=w;cases h2:g ρ with
 |none=>rw[h,h2] at e;cases d<;>cases e
 |some w=>
  obtain⟨d2,tg2⟩:=w;rw[h,h2] at e;cases d with
  |int i=>
   cases d2 with
   |int j=>
    dsimp only at e;obtain⟨hj,e⟩:=ci e;cases e;obtain⟨si,sj⟩:=(aaL _ _).mp hj;refine q ok h λH1 v fp s1 r1 g1=>?_
    cases r1;refine q' (ok.same s1) h2 λH2 v fp s2 r2 g2=>?_
    cases r2;exact⟨i,j,rfl,⟨(t_ si).1,(t_ si).2,(t_ sj).1,(t_ sj).2⟩,k H2 _ [] (s1.trans s2) (λh m=>nomatch m) IL⟩
   |_=>cases e
  |_=>cases e
end
noncomputable def lR:Tag->List Nat
 |.sh o=>o
 |_=>[]
def kK(t:Tag):Tag:=.sh (lR t)
noncomputable def ownAt(ρ:aE)(j:Nat):Bool:=match ρ[j]? with
 |some (some (_,.own))=>true
 |_=>false
def m_(o:List Nat)(ρ:aE):List Nat:=o.filter (ownAt ρ)
noncomputable def NQ:Tag->Tag
 |.own=>.lk
 |t=>t
noncomputable def Ji:Tag->Tag
 |.lk=>.own
 |t=>t
noncomputable def Al(f:Tag->Tag):Slot->Slot
 |some (d,t)=>some (d,f t)
 |none=>none
def nB:List Nat->aE->aE
 |[],ρ=>ρ
 |j::r,ρ=>nB r (ρ.modify j (Al NQ))
def qQ:List Nat->aE->aE
 |[],ρ=>ρ
 |j::r,ρ=>qQ r (ρ.modify j (Al Ji))
noncomputable def fj(g:GF)(t:Tag)(f:SF):List D->SF
 |[],ρ=>some (.nx ρ)
 |d::ds,ρ=>match g d t ρ with
  |none=>none
  |some aJ=>match f aJ with
   |some (.nx bf)=>fj g t f ds bf
   |some (.ct bf)=>fj g t f ds bf
   |some (.bk bf)=>some (.nx bf)
   |some (.rt r)=>some (.rt r)
   |some (.er raw cn bf)=>some (.er raw cn bf)
   |none=>none
def jF(it:IF)(g:GF)(f:SF):SF:=λρ=>match it ρ with
 |none=>none
 |some (ds,t)=>match fj g (kK t) f ds (nB (m_ (lR t) ρ) ρ) with
  |some (.nx ρ')=>some (.nx (qQ (m_ (lR t) ρ) ρ'))
  |some (.rt d)=>some (.rt d)
  |some (.er raw cn ρ')=>some (.er raw cn (qQ (m_ (lR t) ρ) ρ'))
  |_=>none
theorem zB:∀{ks:List Nat}{ρ:aE}{i:Nat}{d:D}{t:Tag},(nB ks ρ)[i]? = some (some (d,t))->∃t',ρ[i]? = some (some (d,t'))/\(t=t'\/(t'=.own/\t=.lk))/\(i∈ks->t≠.own)
 |[],ρ,i,d,t,h=>⟨t,h,.inl rfl,λm=>nomatch m⟩
 |j::r,ρ,i,d,t,h=>by
  obtain⟨t1,h1,h2,h3⟩:=zB (ks:=r) h;rw[List.getElem?_modify] at h1;exists e,ρ[i]?,s,h1;have gm:(if j=i then Al NQ s else s)=some (d,t1):=abi h1
  by_cases hj:j=i
  .rw[if_pos hj] at gm;cases s with
   |none=>cases gm
   |some p=>
    obtain⟨d0,t0⟩:=p;cases gm;refine⟨t0,rfl,?_,λ_=>?_⟩
    .rcases h2 with h2|⟨h2,mq⟩
     .cases t0<;>first|exact .inl h2|exact .inr ⟨rfl,h2⟩
     .cases t0<;>cases h2
    .rcases h2 with h2|⟨h2,mq⟩
     .rw[h2];cases t0<;>(intro z;cases z)
     .rw[mq];intro z;cases z
  .rw[abf hj] at gm;subst gm;refine⟨t1,rfl,h2,λm=>?_⟩;rcases aaM.mp m with z|z
   .exact absurd z.symm hj
   .exact h3 z
theorem NW:∀{ks:List Nat}{ρ:aE},(nB ks ρ).length=ρ.length
 |[],_=>rfl
 |_::r,ρ=>(NW (ks:=r)).trans (List.length_modify ..)
theorem Ku:∀{ks:List Nat}{ρ:aE},(qQ ks ρ).length=ρ.length
 |[],_=>rfl
 |_::r,ρ=>(Ku (ks:=r)).trans (List.length_modify ..)
theorem Er:∀{ks:List Nat}{ρ:aE}{i:Nat}{d:D}{t:Tag},(qQ ks ρ)[i]? = some (some (d,t))->∃t',ρ[i]? = some (some (d,t'))/\(t=t'\/(t'=.lk/\t=.own/\i∈ks))
 |[],ρ,i,d,t,h=>⟨t,h,.inl rfl⟩
 |j::r,ρ,i,d,t,h=>by
  obtain⟨t1,h1,h2⟩:=Er (ks:=r) h;rw[List.getElem?_modify] at h1;exists e,ρ[i]?,s,h1;have gm:(if j=i then Al Ji s else s)=some (d,t1):=abi h1
  by_cases hj:j=i
  .rw[if_pos hj] at gm;cases s with
   |none=>cases gm
   |some p=>
    obtain⟨d0,t0⟩:=p;cases gm;refine⟨t0,rfl,?_⟩;rcases h2 with h2|⟨h2,mq,h3⟩
    .cases t0<;>first|exact .inl h2|exact .inr ⟨rfl,h2,by rw[hj];exact aax⟩
    .cases t0<;>cases h2
  .rw[abf hj] at gm;subst gm;refine⟨t1,rfl,?_⟩;rcases h2 with h2|⟨h2,mq,h3⟩
   .exact .inl h2
   .exact .inr ⟨h2,mq,aal _ h3⟩
noncomputable def u0(z:Addr->Option Nat)(hv:List Hv):List bZ:=hv.map λh=>⟨h.d,h.v,h.fp,z⟩
noncomputable def vn(z:Addr->Option Nat)(ak:List bZ):List bZ:=ak.map λh=>{ h with z0:=z }
section
variable{K:PySem.W.Frag}{H0:Hp}{S:List Addr}{z:Addr->Option Nat}{ak:List bZ}{ρ:aE}{σ:St}{H:Hp}
theorem Ok.begin{hv:List Hv}(ok:Ok K H0 S z ak ρ σ H)(hh:∀h∈hv,Rep K H h.d h.v h.fp/\∀a∈h.fp,∀j,z a=some j->∃o,t=.sh o/\j∈o):
  Ok K H0 S z (u0 z hv++vn z ak) (nB (m_ (lR t) ρ) ρ) σ H:=by
 refine⟨λi d tg e=>?_,λp m=>?_,ok.zd,ok.en,by rw[NW];exact ok.ln⟩
 .obtain⟨t',e',h,_⟩:=zB e;obtain⟨v,fp,a,b,c⟩:=ok.sl i d t' e';refine⟨v,fp,a,b,?_⟩;rcases h with h|⟨h,h'⟩
  .subst h;exact c
  .subst h h';exact c
 .have Sq:∀j,uT ρ j->uT (nB (m_ (lR t) ρ) ρ) j:=λj n d e=>by
   obtain⟨t',e',h,_⟩:=zB e;rcases h with h|⟨h,h'⟩
   .subst h;exact n d e'
   .cases h'
  rcases abb.mp m with m|m
  .obtain⟨h,hm,rfl⟩:=acs.mp m;refine⟨(hh h hm).1,λa ha j q=>⟨q,λd e=>?_⟩⟩;obtain⟨o,rfl,hj⟩:=(hh h hm).2 a ha j q;obtain⟨t',e',h',n⟩:=zB e;rcases h' with h'|⟨h',vD⟩
   .subst h';exact n (adY.mpr ⟨hj,by unfold ownAt;rw[e']⟩) rfl
   .cases vD
  .obtain⟨h,hm,rfl⟩:=acs.mp m;obtain⟨r,hz⟩:=ok.hl h hm;exact⟨r,λa ha j q=>⟨q,Sq j (hz a ha j q).2⟩⟩
theorem Ok.fin{hv:List Hv}{t:Tag}{z':Addr->Option Nat}{ρ':aE}{aB:St}{H':Hp}(ok:Ok K H0 S z ak ρ σ H)(aY:Ok K H0 S z' (u0 z hv++vn z ak) ρ' aB H'):Ok K H0 S z' ak (qQ (m_ (lR t) ρ) ρ') aB H':=by
 refine⟨λi d tg e=>?_,λp m=>?_,aY.zd,aY.en,by rw[Ku];exact aY.ln⟩
 .obtain⟨t',e',h⟩:=Er e;obtain⟨v,fp,a,b,c⟩:=aY.sl i d t' e';refine⟨v,fp,a,b,?_⟩;rcases h with h|⟨h,h',_⟩
  .subst h;exact c
  .subst h h';exact c
 .obtain⟨r,hz⟩:=aY.hl { p with z0:=z } (aaE _ (acs.mpr ⟨p,m,rfl⟩));refine⟨r,λa ha j q=>?_⟩;obtain⟨h1,h2⟩:=hz a ha j q;have h1:=h1;obtain⟨h3,h4⟩:=(ok.hl p m).2 a ha j h1;refine⟨h3,λd e=>?_⟩;obtain⟨t',e',h⟩:=Er e;rcases h with h|⟨h,_,hk⟩
  .subst h;exact h2 d e'
  .have ho:=(adY.mp hk).2;unfold ownAt at ho;exists e0,ρ[j]?,s,ho;cases s with
   |none=>cases ho
   |some p=>
    obtain⟨d0,t0⟩:=p;cases t0<;>first|exact h4 d0 e0|cases ho
end
section
variable{X:Cx}{pos:Pos}
theorem kU{tg iter:Expr}{body:List Stmt}{is:List Nat}(hc:X.calm=true)(hi:FI X tg iter it)(hg:FG X tg g is)(hb:FS X body f)(hp:PassesOwn (model X.prog X.w) X.A X.env X.xe:=by exact PassesOwn.never)
  (hs:∀x,foldedSetIterable iter X.env x=pure x:=by intro _;rfl):dU X (.For tg iter body [] pos) (jF it g f):=by
 obtain⟨wi,pi,si⟩:=hi;obtain⟨n1,tgt,pg,sg⟩:=hg;obtain⟨tb,pb,sb⟩:=hb;exists 23,aay hp hc pi pg pb hs;unfold jF at e;exists h,it ρ,w,e,0;obtain⟨ds,t⟩:=w;rw[h] at e;dsimp only at e;refine si ok h λH1 J hv s1 hh Cj=>?_
 exists ho,fj g (kK t) f ds (nB (m_ (lR t) ρ) ρ),out,e;have bq:=ok.same s1;have gx:=bq.begin hh;have fin:∀{z':Addr->Option Nat}{ρ':aE}{aB:St}{H':Hp},Ok X.K H0 S z' (u0 z hv++vn z ak) ρ' aB H'->out=.nx ρ'->Kp X σ aB->E.nx aB H':=λ{z' ρ' aB H'} aY eo kp=>by
  subst eo;cases e;exact k z' aB H' (bq.fin aY) kp
 refine⟨λi m aB H'=>m=ds.length-i/\∃z' ρ',Ok X.K H0 S z' (u0 z hv++vn z ak) ρ' aB H'/\fj g (kK t) f (ds.drop i) ρ'=some out/\Kp X σ aB,⟨ds.length,rfl,z,_,gx,ho,.refl _ _⟩,?_⟩
 rintro i m aB H' ⟨rfl,z',ρ',aY,e',kp⟩
 have hH:∀h∈hv,Rep X.K H' h.d h.v h.fp:=λh m=>(aY.hl _ (aaR _ (acs.mpr ⟨h,m,rfl⟩))).1
 obtain⟨go,stop⟩:=Cj H' i hH
 by_cases hl:ds.length<=i
 .refine .inl ⟨stop hl,?_⟩;rw[List.drop_eq_nil_of_le hl] at e';cases e';exact fin aY rfl kp
 .have dP:i<ds.length:=Nat.lt_of_not_le hl;rw[ae4 dP] at e';obtain⟨g1,g2⟩:=go ds[i] (aa0 dP);refine .inr ⟨g1,λgH H2=>∃z' ρ',Ok X.K H0 S z' (u0 z hv++vn z ak) ρ' gH H2/\fj g (kK t) f (ds.drop (i+1)) ρ'=some out/\Kp X σ gH,λgH H2 hn=>⟨ds.length-(i+1),by omega,rfl,hn⟩,λx H2 y=>?_⟩;obtain⟨s2,fp,r2,sub⟩:=g2 x H2 y;unfold fj at e';cases rq:g ds[i] (kK t) ρ' with
  |none=>rw[rq] at e';cases e'
  |some aJ=>
   rw[rq] at e';dsimp only at e';refine sg (tag:=kK t) aY s2 r2 (λa ha j q=>?_) rq λz2 gH gP a3=>?_
   .obtain⟨h,hm,Pk⟩:=sub a ha;obtain⟨_,hz⟩:=aY.hl _ (aaR _ (acs.mpr ⟨h,hm,rfl⟩));obtain⟨q0,_⟩:=hz a Pk j q;obtain⟨o',rfl,hj⟩:=(hh h hm).2 a Pk j q0;exact hj
   .cases hf:f aJ with
    |none=>rw[hf] at e';cases e'
    |some o1=>
     rw[hf] at e';refine sb gP hf ?_;cases o1 with
     |nx bf=>exact λz3 cR H3 ir b=>⟨z3,bf,ir,e',(kp.trans (.off n1 a3.2)).trans b⟩
     |ct bf=>exact λz3 cR H3 ir b=>⟨z3,bf,ir,e',(kp.trans (.off n1 a3.2)).trans b⟩
     |bk bf=>
      cases e';exact λz3 cR H3 ir b=>fin ir rfl ((kp.trans (.off n1 a3.2)).trans b)
     |rt d=>
      cases e';cases e;exact k
     |er raw cn bf=>
      cases e';cases e;obtain⟨ES,th,q⟩:=k;exact⟨ES,th,λz3 cR H3 C ir b hC=>q z3 cR H3 C (bq.fin ir) ((kp.trans (.off n1 a3.2)).trans b) hC⟩
noncomputable def gU(c:TF)(f:SF):Nat->SF
 |0,_=>none
 |n+1,ρ=>match c ρ with
  |some false=>some (.nx ρ)
  |some true=>match f ρ with
   |some (.nx ρ')=>gU c f n ρ'
   |some (.ct ρ')=>gU c f n ρ'
   |some (.bk ρ')=>some (.nx ρ')
   |some (.rt d)=>some (.rt d)
   |some (.er raw cn ρ')=>some (.er raw cn ρ')
   |none=>none
  |none=>none
theorem ON(n:Nat){c:Expr}{body:List Stmt}{tc:TF}{f:SF}(hc:FT X c tc)(hb:FS X body f)(hp:PassesOwn (model X.prog X.w) X.A X.env X.xe:=by exact PassesOwn.never):dU X (.While c body [] pos) (gU tc f n):=by
 obtain⟨t,p,q⟩:=hc;obtain⟨tb,pb,qb⟩:=hb;exists 23,Qd hp p pb;refine⟨λm aB H'=>∃z' ρ',Ok X.K H0 S z' ak ρ' aB H'/\gU tc f m ρ'=some o/\Kp X σ aB,⟨n,z,ρ,ok,e,.refl _ _⟩,?_⟩
 rintro m aB H' ⟨z',ρ',aY,e',kp⟩
 cases m with
 |zero=>cases e'
 |succ m=>
  unfold gU at e';exists hc,tc ρ',b,e';refine q aY hc λH1 s1=>?_
  cases b with
  |false=>
   cases e';rw[abf aaN];exact k z' aB H1 (aY.same s1) kp
  |true=>
   rw[if_pos rfl];dsimp only at e';exists hf,f ρ',o1,e';refine⟨λgH H2=>∃z2 bf,Ok X.K H0 S z2 ak bf gH H2/\gU tc f m bf=some o/\Kp X σ gH,λgH H2 hn=>⟨m,ae8 m,hn⟩,?_⟩;refine qb (aY.same s1) hf ?_;cases o1 with
   |nx bf=>exact λz3 cR H3 ir b=>⟨z3,bf,ir,e',kp.trans b⟩
   |ct bf=>exact λz3 cR H3 ir b=>⟨z3,bf,ir,e',kp.trans b⟩
   |bk bf=>
    cases e';exact λz3 cR H3 ir b=>k z3 cR H3 ir (kp.trans b)
   |rt d=>
    cases e';exact k
   |er raw cn bf=>
    cases e';obtain⟨ES,th,q⟩:=k;exact⟨ES,th,λz3 cR H3 C ir b hC=>q z3 cR H3 C ir (kp.trans b) hC⟩
end
def zY(K:PySem.W.Frag)(f:EF):TE:=λσ H Q=>∃H0 S z ak ρ d tg,Ok K H0 S z ak ρ σ H/\f ρ=some (d,tg)/\∀H' v fp,aF H H'->Rep K H' d v fp->cO z H tg fp->Q v H'
def vQ(K:PySem.W.Frag)(f:TF):TT:=λσ H Q=>∃H0 S z ak ρ b,Ok K H0 S z ak ρ σ H/\f ρ=some b/\∀H',aF H H'->Q b H'
def GW(K:PySem.W.Frag)(g:GF)(is:List Nat):TG:=λv σ H1 Q=>∃H0 S z ak ρ H d tag fp ρ',Ok K H0 S z ak ρ σ H/\aF H H1/\Rep K H1 d v fp/\cO z H tag fp/\g d tag ρ=some ρ'/\
 ∀z' aB,Ok K H0 S z' ak ρ' aB H1->(aB.length=σ.length/\∀j,j∉is->aB[j]? = σ[j]?)->Q aB H1
section
variable{X:Cx}
theorem FP.pe{e:Expr}{f:EF}(h:FP X e f):PE X e (zY X.K f):=by
 obtain⟨t,p,q⟩:=h
 rintro af s σ H Q I ⟨H0,S,z,ak,ρ,d,tg,ok,e,k⟩
 exact p af s σ H Q I (q ok e k)
theorem FT.pt(h:FT X e f):PT X e (vQ X.K f):=by
 obtain⟨t,p,q⟩:=h
 rintro af s σ H Q I ⟨H0,S,z,ak,ρ,b,ok,e,k⟩
 exact p af s σ H Q I (q ok e k)
theorem FG.pg{is:List Nat}(h:FG X e g is):PG X e (GW X.K g is):=by
 obtain⟨_,t,p,q⟩:=h
 rintro af s σ H1 v u Q I r ⟨H0,S,z,ak,ρ,H,d,tag,fp,ρ',ok,sm,rp,tk,e,k⟩
 exact p af s σ H1 v u Q I r (q ok sm rp tk e k)
end
def AY(X:Cx)(ifs:List Expr)(f:TF):Prop:=x8 X ifs (vQ X.K f)
noncomputable def mw:TF:=λ_=>some true
theorem mS{X:Cx}:AY X [] mw:=by
 rintro af s σ H Q I ⟨H0,S,z,ak,ρ,b,ok,e,k⟩
 cases e;exact wpAny_tests_nil ⟨H,I,k H (aF.refl H)⟩
theorem rY{X:Cx}{c:Expr}{f:TF}(h:FT X c f):AY X [c] f:=acO h.pt
noncomputable def jC(js:List (Option Nat))(ρ:aE):aE:=js.map λj=>match j with
 |none=>none
 |some j=>match ρ[j]? with
  |some (some (d,_))=>some (d,.sh [])
  |_=>none
def iY(g:GF)(tt:TF)(te:EF)(ρ:aE)(d:D):Option (Option D):=match g d (.sh []) ρ with
 |none=>none
 |some aJ=>match tt aJ with
  |none=>none
  |some false=>some none
  |some true=>match te aJ with
   |none=>none
   |some (e,t)=>if lM t=true then some (some e) else if aG e=true then some (some e) else none
noncomputable def oK(h:D->Option (Option D)):List D->Option (List D)
 |[]=>some []
 |d::ds=>match h d with
  |none=>none
  |some none=>oK h ds
  |some (some e)=>match oK h ds with
   |none=>none
   |some es=>some (e::es)
def gI(js:List (Option Nat))(it:IF)(g:GF)(tt:TF)(te:EF):EF:=λρ=>match it ρ with
 |none=>none
 |some (ds,_)=>if ds.length<sizeLine then(oK (iY g tt te (jC js ρ)) ds).map λes=>(.lst es,.own) else none
theorem LG{h:D->Option (Option D)}{k:D->Option D}:∀{ds:List D},(∀d∈ds,h d=some (k d))->oK h ds=some (ds.filterMap k)
 |[],_=>rfl
 |d::ds,e=>by
  unfold oK;rw[e d aax,LG λx m=>e x (aal _ m),ad4];cases k d<;>rfl
section
variable{X:Cx}{pos:Pos}
theorem Om{is:List Nat}(vU:∀i∈is,js[i]? = some none)
  (si:∀{H0:Hp}{S:List Addr}{z:Addr->Option Nat}{R:It->Hp->Prop}{ds:List D}{t:Tag},
   Ok X.K H0 S z ak ρ σ H->it ρ=some (ds,t)->(∀H1 J hv,aF H H1->(∀h∈hv,Rep X.K H1 h.d h.v h.fp/\∀a∈h.fp,∀j,z a=some j->∃o,t=.sh o/\j∈o)->qD X.K J ds hv->R J H1)->wi σ H R)
  (ok:Ok X.K H0 S z ak ρ σ H) (e:gI js it g tt te ρ=some (d,tg))
  (k:∀H' v fp,aF H H'->Rep X.K H' d v fp->cO z H tg fp->Q v H'):GK wi js (GW X.K g is) (vQ X.K tt) (zY X.K te) σ H Q:=by
 unfold gI at e;exists h,it ρ,w,e,0;obtain⟨ds,t⟩:=w;rw[h] at e;dsimp only at e;obtain⟨hz,e⟩:=ci e;cases CT:oK (iY g tt te (jC js ρ)) ds with
 |none=>rw[CT] at e;cases e
 |some es=>
  rw[CT] at e;cases e;refine si ok h λH1 J hv s1 hh Cj Dd uU=>?_
  have bq:=ok.same s1;have inner:∀(aB:St) (H2:Hp),aF H1 H2->(∃o,H2 Dd=some o)->aB.length=js.length->(∀j,j∉is->aB[j]? = (lD js σ)[j]?)->Ok X.K H1 [] (λa=>if a=Dd then some js.length else none) (u0 (λ_=>none) hv) (jC js ρ) aB H2:=by
   intro aB H2 s2 DH hlen Bh;have nD:∀{a:Addr}{o:HO},H1 a=some o->a≠Dd:=λe=>cC e uU
   refine⟨λi d t e=>?_,λp m=>?_,λa j e=>?_,λa o e _=>s2 _ _ e,by unfold jC;rw[aaf,hlen]⟩
   .unfold jC at e;rw[abW] at e;cases hj:js[i]? with
    |none=>rw[hj] at e;cases e
    |some o=>
     rw[hj] at e;cases o with
     |none=>cases e
     |some j=>
      have e:(match ρ[j]? with|some (some (d,_))=>some (d,Tag.sh [])|_=>none)=some (d,t):=abi e;cases hr:ρ[j]? with
      |none=>rw[hr] at e;cases e
      |some s=>
       rw[hr] at e;cases s with
       |none=>cases e
       |some p=>
        obtain⟨d0,t0⟩:=p;have e1:d0=d/\Tag.sh []=t:=Prod.mk.inj (abi e);obtain⟨rfl,rfl⟩:=e1;obtain⟨v,fp,hs,r,_⟩:=bq.sl j d0 t0 hr;have hi:i∉is:=λm=>by rw[vU i m] at hj;cases hj
        refine⟨v,fp,?_,r.same s2,λa m q e=>?_⟩
        .rw[Bh i hi];unfold lD;rw[abW,hj];show some ((σ[j]?).join)=some (some v);rw[hs];rfl
        .obtain⟨o,w,_⟩:=r.dH a m;dsimp only at e;rw[abf (nD w)] at e;cases e
   .obtain⟨h,hm,rfl⟩:=acs.mp m;refine⟨(hh h hm).1.same s2,λa ha q e=>?_⟩;obtain⟨o,w,_⟩:=(hh h hm).1.dH a ha;rw[abf (nD w)] at e;cases e
   .by_cases w:a=Dd
    .rw[w];exact⟨DH,.inl uU⟩
    .rw[abf w] at e;cases e
  refine⟨λi m aB H'=>m=ds.length - i/\aF H1 H'/\aB.length=js.length/\(∀j,j∉is->aB[j]? = (lD js σ)[j]?)/\∃done rest vs fp,H' Dd=some (.lst vs)/\ay X.K H' done vs fp/\fp.Nodup/\(∀a∈fp,H1 a=none/\a≠Dd)/\
   oK (iY g tt te (jC js ρ)) (ds.drop i)=some rest/\done++rest=es/\done.length<=i,?_,?_⟩
  .refine⟨ds.length,rfl,λb o e=>by rw[aO (cC e uU)];exact e,by unfold lD;rw[aaf],λ_ _=>rfl,[],es,[],[],bT,.nil,abF,(λa m=>nomatch m),CT,rfl,abd _⟩
  .rintro i m aB H' ⟨rfl,sH,hlen,Bh,done,rest,vs,fp,hD,rs,nd,fr,hr,rfl,hle⟩
   obtain⟨go,stop⟩:=Cj H' i λh m=>(hh h m).1.same sH
   by_cases hl:ds.length<=i
   .refine .inl ⟨stop hl,?_⟩;rw[List.drop_eq_nil_of_le hl] at hr;cases hr;rw[abM] at k;refine k H' (.ref Dd) (Dd::fp) (s1.trans sH) (.lst hD rs) ⟨abu.mpr ⟨λm=>(fr Dd m).2 rfl,nd⟩,λa m=>?_⟩;rcases aaM.mp m with e|m
    .rw[e];exact s1.free uU
    .exact s1.free (fr a m).1
   .have dP:=Nat.lt_of_not_le hl;rw[ae4 dP] at hr;obtain⟨g1,g2⟩:=go ds[i] (aa0 dP);refine .inr ⟨g1,λx H2 y=>?_⟩;obtain⟨s2,jk,r2,sub⟩:=g2 x H2 y;have gx:=inner aB H' sH ⟨_,hD⟩ hlen Bh;unfold oK at hr;cases hE:iY g tt te (jC js ρ) ds[i] with
    |none=>rw[hE] at hr;cases hr
    |some oe=>
     rw[hE] at hr;unfold iY at hE;cases rq:g ds[i] (.sh []) (jC js ρ) with
     |none=>rw[rq] at hE;cases hE
     |some aJ=>
      rw[rq] at hE;dsimp only at hE;have tko:cO (λa=>if a=Dd then some js.length else none) H' (.sh []) jk:=λa m j e=>by
       obtain⟨h,hm,ha⟩:=sub a m;obtain⟨o,w,_⟩:=(hh h hm).1.dH a ha;dsimp only at e;rw[abf (cC w uU)] at e;cases e
      refine⟨H1,[],_,_,jC js ρ,H',ds[i],.sh [],jk,aJ,gx,s2,r2,tko,rq,λz3 cR gP Mc=>?_⟩;have Nt:=Mc.1.trans hlen;have Nk:∀j,j∉is->cR[j]? = (lD js σ)[j]? :=λj hj=>(Mc.2 j hj).trans (Bh j hj)
      cases ht:tt aJ with
      |none=>rw[ht] at hE;cases hE
      |some b=>
       rw[ht] at hE;refine⟨H1,[],z3,_,aJ,b,gP,ht,λH4 s4=>?_⟩;have Eu:=(sH.trans s2).trans s4;have vK:=s2.trans s4;cases b with
       |false=>
        cases hE;refine aaI ?_;exact⟨ds.length-(i+1),by omega,rfl,Eu,Nt,Nk,done,rest,vs,fp,vK _ _ hD,rs.same vK,nd,fr,hr,rfl,Nat.le_succ_of_le hle⟩
       |true=>
        refine aak ?_;dsimp only at hE;cases Gz:te aJ with
        |none=>rw[Gz] at hE;cases hE
        |some w=>
         obtain⟨y,ty⟩:=w;rw[Gz] at hE;dsimp only at hE;refine⟨H1,[],z3,_,aJ,y,ty,gP.same s4,Gz,λH5 yv fy s5 ry gy=>?_⟩;have vW:oe=some y/\fy.Nodup/\∀a∈fy,H4 a=none:=by
          by_cases ho:lM ty=true
          .rw[if_pos ho] at hE;cases hE;exact⟨rfl,by cases ty<;>first|exact gy|cases ho⟩
          .rw[abf ho] at hE
           by_cases hi:aG y=true
           .rw[if_pos hi] at hE;cases hE;have hn:=ry.aG hi;subst hn;exact⟨rfl,abF,λa m=>nomatch m⟩
           .rw[abf hi] at hE;cases hE
         obtain⟨rfl,ndy,DU⟩:=vW;dsimp only at hr;cases v8:oK (iY g tt te (jC js ρ)) (ds.drop (i+1)) with
         |none=>rw[v8] at hr;cases hr
         |some r'=>
          rw[v8] at hr;cases hr;have OP:aF H' H5:=vK.trans s5;have La:H5 Dd=some (.lst vs):=OP _ _ hD;have lv:vs.length<sizeLine:=by rw[<- rs.length];omega
          have im:aX H5 (upd H5 Dd (.lst (vs++[yv]))):=aX.upd La rfl;have n1:∀a∈fp++fy,a≠Dd:=λa m=>by
           rcases abb.mp m with m|m
           .exact(fr a m).2
           .intro e;have:=DU a m;rw[e,vK _ _ hD] at this;cases this
          have ZC:ay X.K H5 (done++[y]) (vs++[yv]) (fp++fy):=by
           have q:=ay.append (rs.same OP) (ay.cons ry .nil);rw[abM] at q;exact q
          refine⟨vs,La,lv,ds.length-(i+1),by omega,rfl,λb o e=>?_,Nt,Nk,done++[y],r',vs++[yv],fp++fy,bT,ZC.frame (λa m=>aO (n1 a m)) im,?_,λa m=>?_,v8,?_,?_⟩
          .rw[aO (cC e uU)];exact s5 _ _ (Eu _ _ e)
          .refine abL.mpr ⟨nd,ndy,λa m b m' e=>?_⟩;subst e;obtain⟨o,w,_⟩:=(rs.same vK).dH a m;rw[DU a m'] at w;cases w
          .refine⟨?_,n1 a m⟩;rcases abb.mp m with m|m
           .exact(fr a m).1
           .exact Eu.free (DU a m)
          .rw[List.append_assoc];rfl
          .rw[abe,aee];omega
theorem jw{M:List Str}{js:List (Option Nat)}{it:IF}{g:GF}{tt:TF}{te:EF}{is:List Nat}(S:nG X M js sc)(hc:X.calm=true)(hi:FI X tg iter it)(vU:∀i∈is,js[i]? = some none)
  (hb:∀s3 H3 fp,FG (eU X M sc s3 H3 fp) tg g is/\AY (eU X M sc s3 H3 fp) ifs tt/\FP (eU X M sc s3 H3 fp) elt te) (hs:∀x,foldedSetIterable iter X.env x=pure x:=by intro _;rfl) :
  FP X (.ListComp elt [⟨tg,iter,ifs,0⟩] sc pos) (gI js it g tt te):=by
 obtain⟨wi,pi,si⟩:=hi;exact⟨_,Q0 (tt:=vQ X.K tt) (te:=zY X.K te) S hc pi (λs3 H3 fp=>⟨(hb s3 H3 fp).1.pg,(hb s3 H3 fp).2.1,(hb s3 H3 fp).2.2.pe⟩) hs,@λH0 S z ak ρ σ H Q d tg ok e k=>Om vU si ok e k⟩
theorem DB(i:Nat){y:Str}{sc:Scope}{js:List (Option Nat)}{it:IF}{is:List Nat}(hN:X.N.Nodup)(S:nG X M js sc)(hc:X.calm=true)(hi:FI X tg iter it)
  (vU:∀i∈is,js[i]? = some none) (hb:∀s3 H3 fp,FG (eU X M sc s3 H3 fp) tg g is/\AY (eU X M sc s3 H3 fp) ifs tt/\FP (eU X M sc s3 H3 fp) elt te) (hy:X.N[i]? = some y:=by rfl) (hl:X.env.scope.names.lookup y=some .local:=by rfl)
  (jX:swapsWith (.ListComp elt [⟨tg,iter,ifs,0⟩] sc pos) (some (.Name y py)) Fz.line X.env=pure true:=by rfl) (hs:∀x,foldedSetIterable iter X.env x=pure x:=by intro _;rfl) (kH:jN X y=false:=by rfl) :
  dU X (.Assign [.Name y py] (.ListComp elt [⟨tg,iter,ifs,0⟩] sc pos) Fz) (cj i (gI js it g tt te)):=by
 obtain⟨wi,pi,si⟩:=hi;exists 23,YT (g:=GW X.K g is) (tt:=vQ X.K tt) (te:=zY X.K te) hN hy hl S hc pi (λs3 H3 fp=>⟨(hb s3 H3 fp).1.pg,(hb s3 H3 fp).2.1,(hb s3 H3 fp).2.2.pe⟩) jX hs;unfold cj at e;exists h,gI js it g tt te ρ,w,e,0;obtain⟨d,tg⟩:=w;rw[h] at e;cases e;refine Om vU si ok h λH1 v fp s1 r1 g1=>?_
 exact ok.stored s1 r1 g1 λz' aY=>k z' _ H1 aY (.set hy kH)
end
noncomputable def pQ(n:Nat)(ds:List D):aE:=ds.map (λd=>some (d,.sh []))++List.replicate (n-ds.length) none
def bV(n N:Nat)(b:SF):List D->Option D:=λds=>if ds.length=n then(match b (pQ N ds) with
 |some (.rt d)=>some d
 |some (.nx _)=>some .aC
 |_=>none) else none
noncomputable abbrev CF:=List D->List D->Option D
noncomputable def zj(N:Nat)(es ds:List D):aE:=es.map (λd=>some (d,.own))++(ds.map (λd=>some (d,.sh []))++List.replicate (N-(ds.length+es.length)) none)
def runC(n N:Nat)(b:SF):CF:=λes ds=>if ds.length + es.length=n then(match b (zj N es ds) with
 |some (.rt d)=>some d
 |some (.nx _)=>some .aC
 |_=>none) else none
def qo(K:PySem.W.Frag)(G:CF):Sp:=λvs H Q _=>∃us ws es ds aT dJ d,vs=us++ws/\ay K H es us aT/\aT.Nodup/\ay K H ds ws dJ/\(∀b∈dJ,b∉aT)/\G es ds=some d/\
 ∀H' v fp,(∀a o,H a=some o->a∉aT->H' a=some o)->Rep K H' d v fp->fp.Nodup->(∀a∈fp,H a=none\/a∈aT)->Q v H'
theorem ay.own{K:PySem.W.Frag}{H:Hp}:∀{es:List D}{us:List V}{fp:List Addr} (k:Nat),ay K H es us fp->fp.Nodup->∃z:Addr->Option Nat,(∀i d,es[i]? = some d->∃v f,us[i]? = some v/\Rep K H d v f/\f.Nodup/\∀a∈f,z a=some (k+i))/\∀a j,z a=some j->a∈fp
 |_,_,_,_,.nil,_=>⟨λ_=>none,λi d e=>by simp at e,λ_ _ e=>nomatch e⟩
 |_,_,_,k,.cons (f1:=f1) (f2:=f2) r t,n=>by
  classical
  obtain⟨n1,n2,n3⟩:=abL.mp n;obtain⟨z,h1,h2⟩:=t.own (k+1) n2;refine⟨λa=>if a∈f1 then some k else z a,λi d e=>?_,λa j e=>?_⟩
  .cases i with
   |zero=>cases e;exact⟨_,f1,rfl,r,n1,λa m=>if_pos m⟩
   |succ i=>
    obtain⟨v,f,a1,a2,a3,a4⟩:=h1 i d e;exact⟨v,f,a1,a2,a3,λa m=>(abf λq=>n3 a q a (h2 a _ (a4 a m)) rfl).trans ((a4 a m).trans (by rw[Nat.add_assoc,Nat.add_comm 1]))⟩
  .dsimp only at e
   split at e
   .exact aaR _ (by assumption)
   .exact aaE _ (h2 a j e)
section
variable{P:Program}{w:World}{K:PySem.W.Frag}{mg:Str->Option Value}{base:Heap}
theorem Ok.jZ{H:Hp}{N:List Str}{us ws:List V}{es ds:List D}{aT dJ:List Addr}(r0:ay K H es us aT)(nd:aT.Nodup)(rs:ay K H ds ws dJ)(dj:∀b∈dJ,b∉aT):∃z,Ok K H aT z [] (zj N.length es ds) (start N (us++ws)) H:=by
 obtain⟨z,h1,h2⟩:=r0.own 0 nd;have l0:=r0.length;have l1:=rs.length;unfold zj start;rw[ad5,List.append_assoc];refine⟨z,λi d' t' e'=>?_,(λp m=>by cases m),(λa j e=>⟨let⟨o,w,_⟩:=r0.dH a (h2 a j e);⟨o,w⟩,.inr (h2 a j e)⟩),(λa o e _=>e),?_⟩
 .by_cases hi:i<es.length
  .rw[aeo (by rw[aaf];exact hi),abW,aa0 hi] at e';cases e';obtain⟨v,g,hv,rv,n',hz⟩:=h1 i _ (aa0 hi);rw[Nat.zero_add] at hz;exact⟨v,g,(aeo (by rw[aaf];omega)).trans (by rw[abW,hv];rfl),rv,n',hz⟩
  .rw[aeD (by rw[aaf];omega),aaf] at e';rw[aeD (by rw[aaf];omega),aaf,<- l0];generalize i-es.length=i at e' ⊢
   by_cases hi:i<ds.length
   .rw[aeo (by rw[aaf];exact hi),abW,aa0 hi] at e';cases e';obtain⟨v,g,hv,rv,sub⟩:=rs.get (aa0 hi);exact⟨v,g,(aeo (by rw[aaf];omega)).trans (by rw[abW,hv];rfl),rv,λa m j e=>(dj a (sub a m) (h2 a j e)).elim⟩
   .rw[aeD (by rw[aaf];omega),List.getElem?_replicate] at e'
    split at e'<;>cases e'
 .simp only[abe,aaf,aeH];omega
theorem Je{cm:Bool}{x qual:Str}{st:Stmt}{f:Addr}(F:gJ K x qual st f fd)(S:mF N ps (b_ st))
  (hb:∀(aR:{c:Value // c=fd.code}) (A:Around) (outer:List Env) (s:Shared) (H:Hp) (E:XK),aZ k (A.deeper (envOfC qual (b_ st) s.heap.objs.size f aR)) cm->FS (e_ cE P w K mg base N qual (b_ st) f aR A outer s H E cm).gz (fZ st) b) :
  bN P w K mg base cE (k+1) f fd ps (qo K (runC ps.length N.length b)) cm:=by
 refine F.ok S (λvs H Q E ⟨us,ws,es,ds,aT,dJ,d,e0,r0,_,rs,_,e,_⟩=>?_) (λaR A outer s H vs Q E hr ⟨us,ws,es,ds,aT,dJ,d,e0,r0,nd,rs,dj,e,q⟩=>?_)
 .unfold runC at e
  split at e
  .rename_i h;rw[e0,abe,<- r0.length,<- rs.length,Nat.add_comm,h]
  .cases e
 .obtain⟨t,p,sd⟩:=hb aR A outer s H E hr;refine⟨t,p,?_⟩;obtain⟨z,ok⟩:=Ok.jZ r0 nd rs dj;rw[e0];unfold runC at e
  split at e
  .exists ho,b (zj N.length es ds),o,e;refine sd ok ho ?_;cases o with
   |rt d'=>cases e;exact q
   |nx ρ'=>cases e;exact λz' aB H' aY _=>q H' .aC [] aY.en .aC abF λa m=>nomatch m
   |bk _=>cases e
   |ct _=>cases e
   |er _ _ _=>cases e
  .cases e
theorem Fd{cm:Bool}{x qual:Str}{st:Stmt}{f:Addr}(F:gJ K x qual st f fd)(S:mF N ps (b_ st))
  (hb:∀(aR:{c:Value // c=fd.code}) (A:Around) (outer:List Env) (s:Shared) (H:Hp) (E:XK),aZ k (A.deeper (envOfC qual (b_ st) s.heap.objs.size f aR)) cm->FS (e_ cE P w K mg base N qual (b_ st) f aR A outer s H E cm).gz (fZ st) b) :
  bN P w K mg base cE (k+1) f fd ps (bx K (bV ps.length N.length b)) cm:=
 (Je F S hb).imp λvs H Q E ⟨ds,fp,d,rs,e,q⟩=>⟨[],vs,[],ds,[],fp,d,rfl,.nil,.nil,rs,(λ_ _ m=>nomatch m),e,λH' v fp en r n fr=>q H' v fp (λa o e=>en a o e λm=>nomatch m) r n λa m=>(fr a m).resolve_right λm=>nomatch m⟩
end
noncomputable def qE(f:Int->Int->Int):D->D->Option D
 |.int i,.int j=>some (.int (f i j))
 |_,_=>none
noncomputable def Dw(C:Int->Int->Bool)(f:Int->Int->Int):D->D->Option D
 |.int i,.int j=>if C i j=true then some (.int (f i j)) else none
 |_,_=>none
noncomputable def uo(f:Int->Int->Bool):D->D->Option D
 |.int i,.int j=>some (.bl (f i j))
 |_,_=>none
def jc:=qE λi j=>i+j
def lV:=qE λi j=>i-j
def oLt:=uo λi j=>decide (i<j)
def oLe:=uo λi j=>decide (i<=j)
def wz:=uo λi j=>decide (j<i)
def rS:=uo λi j=>decide (j<=i)
noncomputable def oEq:D->D->Option D
 |.int i,.int j=>some (.bl (i==j))
 |.bl i,.bl j=>some (.bl (i==j))
 |.str i,.str j=>some (.bl (i==j))
 |.aC,.aC=>some (.bl true)
 |_,_=>none
noncomputable def jH:D->D->Option D
 |.int i,.int j=>some (.bl (!(i==j)))
 |.bl i,.bl j=>some (.bl (!(i==j)))
 |.str i,.str j=>some (.bl (!(i==j)))
 |.aC,.aC=>some (.bl false)
 |_,_=>none
noncomputable def oq:D->Bool
 |.aC=>true
 |_=>false
def iu:D->D->Option D
 |d,.aC=>some (.bl (oq d))
 |_,_=>none
def y_:D->D->Option D
 |d,.aC=>some (.bl (!oq d))
 |_,_=>none
section
variable{K:PySem.W.Frag}
theorem Ey{g:Int->Int->Int}:fm K (mC λi j=>.int (g i j)) (qE g):=by
 intro H x y d1 d2 f1 f2 d Q r1 r2 e k;unfold qE at e
 split at e
 .cases e;exact⟨_,_,r1.gO.1,r2.gO.1,k H _ (aF.refl H) (.int _)⟩
 .cases e
theorem pY{g:Int->Int->Bool}:fm K (mC λi j=>.bl (g i j)) (uo g):=by
 intro H x y d1 d2 f1 f2 d Q r1 r2 e k;unfold uo at e
 split at e
 .cases e;exact⟨_,_,r1.gO.1,r2.gO.1,k H _ (aF.refl H) (.bl _)⟩
 .cases e
theorem aa5{C:Int->Int->Prop}{c:Int->Int->Bool}{g:Int->Int->Int}(h:∀i j,c i j=true->C i j):fm K (rI C λi j=>.int (g i j)) (Dw c g):=by
 intro H x y d1 d2 f1 f2 d Q r1 r2 e k;unfold Dw at e
 split at e
 .rename_i i j;obtain⟨hc,e⟩:=ci e;cases e;exact⟨i,j,r1.gO.1,r2.gO.1,h i j hc,k H _ (aF.refl H) (.int _)⟩
 .cases e
theorem MJ:fm K Pc oEq:=by
 intro H x y d1 d2 f1 f2 d Q r1 r2 e k;unfold oEq at e
 split at e
 .cases e;rw[r1.gO.1,r2.gO.1];refine⟨rfl,?_⟩;rw[A9];exact k H _ (aF.refl H) (.bl _)
 .cases e;rw[r1.zu.1,r2.zu.1];refine⟨rfl,?_⟩;rw[zh];exact k H _ (aF.refl H) (.bl _)
 .cases e;rw[r1.uZ.1,r2.uZ.1];refine⟨rfl,?_⟩;rw[A1];exact k H _ (aF.refl H) (.bl _)
 .cases e;rw[r1.zM.1,r2.zM.1];exact⟨rfl,by have:=k H (.bl true) (aF.refl H) (.bl _);simpa using this⟩
 .cases e
theorem ME:fm K KR jH:=by
 intro H x y d1 d2 f1 f2 d Q r1 r2 e k;unfold jH at e
 split at e
 .cases e;rw[r1.gO.1,r2.gO.1];refine⟨rfl,?_⟩;rw[A9];exact k H _ (aF.refl H) (.bl _)
 .cases e;rw[r1.zu.1,r2.zu.1];refine⟨rfl,?_⟩;rw[zh];exact k H _ (aF.refl H) (.bl _)
 .cases e;rw[r1.uZ.1,r2.uZ.1];refine⟨rfl,?_⟩;rw[A1];exact k H _ (aF.refl H) (.bl _)
 .cases e;rw[r1.zM.1,r2.zM.1];exact⟨rfl,by have:=k H (.bl false) (aF.refl H) (.bl _);simpa using this⟩
 .cases e
theorem Rep.oq(r:Rep K H d v fp):decide (v=.aC)=oq d:=by
 cases r<;>first|rfl|exact abo (λe=>nomatch e)
theorem Lc:fm K (λx y H Q=>y=.aC/\Q (.bl (decide (x=.aC))) H) iu:=by
 intro H x y d1 d2 f1 f2 d Q r1 r2 e k;unfold iu at e
 split at e
 .cases e;cases r2;refine⟨rfl,?_⟩;rw[r1.oq];exact k H _ (aF.refl H) (.bl _)
 .cases e
theorem XO:fm K (λx y H Q=>y=.aC/\Q (.bl (!decide (x=.aC))) H) y_:=by
 intro H x y d1 d2 f1 f2 d Q r1 r2 e k;unfold y_ at e
 split at e
 .cases e;cases r2;refine⟨rfl,?_⟩;rw[r1.oq];exact k H _ (aF.refl H) (.bl _)
 .cases e
end
section
variable{X:Cx}{a b:Expr}{fa fb:EF}{pos:Pos}
theorem qG(ha:FP X a fa)(hb:FP X b fb):FP X (.BinOp a .Add b pos) (e2 jc fa fb):=Cw K0 Ey ha hb
theorem vG(ha:FP X a fa)(hb:FP X b fb):FP X (.BinOp a .Sub b pos) (e2 lV fa fb):=Cw aao Ey ha hb
theorem zK(ha:FP X a fa)(hb:FP X b fb):FT X (.Compare a [.Lt] [b] pos) (tV (e2 oLt fa fb)):=i0 Jx pY ha hb (iV _)
theorem Mg(ha:FP X a fa)(hb:FP X b fb):FT X (.Compare a [.Gt] [b] pos) (tV (e2 wz fa fb)):=i0 acN pY ha hb (iV _)
theorem Bk(ha:FP X a fa)(hb:FP X b fb):FT X (.Compare a [.GtE] [b] pos) (tV (e2 rS fa fb)):=i0 WQ pY ha hb (iV _)
theorem jU(ha:FP X a fa)(hb:FP X b fb):FT X (.Compare a [.Eq] [b] pos) (tV (e2 oEq fa fb)):=i0 Oh MJ ha hb (iV _)
theorem ud(ha:FP X a fa)(hb:FP X b fb):FT X (.Compare a [.NotEq] [b] pos) (tV (e2 jH fa fb)):=i0 Kl ME ha hb (iV _)
theorem vL(ha:FP X a fa)(hb:FP X b fb):FT X (.Compare a [.Is] [b] pos) (tV (e2 iu fa fb)):=i0 Lf Lc ha hb (iV _)
theorem U6(ha:FP X a fa)(hb:FP X b fb):FT X (.Compare a [.IsNot] [b] pos) (tV (e2 y_ fa fb)):=i0 aas XO ha hb (iV _)
theorem uR(ha:FP X a fa)(hb:FP X b fb):FP X (.Compare a [.Eq] [b] pos) (e2 oEq fa fb):=mH Oh MJ ha hb (iV _)
theorem UZ(ha:FP X a fa)(hb:FP X b fb):FP X (.Compare a [.NotEq] [b] pos) (e2 jH fa fb):=mH Kl ME ha hb (iV _)
noncomputable def e1(op:D->Option D)(fa:EF):EF:=λρ=>match fa ρ with
 |some (d1,_)=>(op d1).map λd=>(d,.own)
 |none=>none
theorem ng{op:D->Option D}(e:e1 op fa ρ=some (d,tg)):∃d1 t1,fa ρ=some (d1,t1)/\op d1=some d/\tg=.own:=by
 unfold e1 at e;exists h1,fa ρ,p,e,0;obtain⟨d1,t1⟩:=p;rw[h1] at e;dsimp only at e;exists h3,op d1,d3,e;cases e;exact⟨d1,t1,rfl,h3,rfl⟩
def pG(K:PySem.W.Frag)(r:List V->Hp->VK->Prop)(op:D->Option D):Prop:=∀(H:Hp) (x:V) (d1:D) (f1:List Addr) (d:D) (Q:VK),Rep K H d1 x f1->op d1=some d->
 (∀H' v fp,aF H H'->Rep K H' d v fp->fp.Nodup->(∀a∈fp,H a=none)->Q v H')->r [x] H Q
theorem fp_1{e:Expr}{r:List V->Hp->VK->Prop}{op:D->Option D}(dd:pG X.K r op)(ha:FP X a fa)(he:∀ta,PE X a ta->PE X e (CD r (Lp ta sG))):FP X e (e1 op fa):=by
 obtain⟨t,p,q⟩:=ha;exists 21,he t p;obtain⟨d1,t1,h1,h2,rfl⟩:=ng e;refine q ok h1 λH1 x f1 s1 r1 _=>?_
 exact dd H1 x d1 f1 d Q r1 h2 λH2 v fp s2 r2 nd fr=>k H2 v fp (s1.trans s2) r2 ⟨nd,λa m=>s1.free (fr a m)⟩
noncomputable def cX:D->Option D
 |.lst ds=>some (.int ds.length)
 |.gW ds=>some (.int ds.length)
 |.tup ds=>some (.int ds.length)
 |.bK es=>some (.int es.length)
 |_=>none
theorem eX.or'{r r':List V->Hp->VK->Prop}(h:eX X f r)(h':eX X f r'):eX X f (λxs H Q=>r xs H Q\/r' xs H Q):=by
 intro af s σ H xs us Q I rv q;rcases q with q|q
 .exact h af s σ H xs us Q I rv q
 .exact h' af s σ H xs us Q I rv q
theorem Up:pG X.K (λxs H Q=>(∃p ys,xs=[V.ref p]/\(bS X.K H p ys\/cg X.K H p ys)/\Q (.int ys.length) H)\/(∃a aj,xs=[V.ref a]/\H a=some (.dK aj)/\Q (.int aj.length) H)) cX:=by
 intro H x d1 f1 d Q r e k;have fin:∀n:Nat,d=.int n->Q (.int n) H:=λn e=>by subst e;exact k H _ [] (aF.refl H) (.int _) abF λa m=>nomatch m
 cases d1 with
 |lst ds=>
  obtain⟨a,xs,f,rfl,hq,rs,_⟩:=r.dg;cases e;exact .inl ⟨a,xs,rfl,.inl hq,by rw[<- rs.length];exact fin _ rfl⟩
 |gW ds=>
  obtain⟨a,xs,rfl,hq,rs⟩:=r.qS;cases e;exact .inl ⟨a,xs,rfl,.inl hq,by rw[<- rs.length];exact fin _ rfl⟩
 |tup ds=>
  obtain⟨a,xs,rfl,hq,rs⟩:=r.jx;cases e;exact .inl ⟨a,xs,rfl,.inr hq,by rw[<- rs.length];exact fin _ rfl⟩
 |bK es=>
  cases r with
  |bK h hk rs=>
   cases e;refine .inr ⟨_,_,rfl,h,?_⟩;have hl:=congrArg List.length hk;rw[aaf,aaf] at hl;rw[<- hl];exact fin _ rfl
 |_=>cases e
theorem fX{p:Pos}(hm:X.mg "len"=none)(ha:FP X a fa)(hg:Gl X "len":=by rfl)(hs:starEach [a] X.env=[(false,eval a X.env)]:=by rfl):FP X (.Call (.Name "len" p) [a] [] pos) (e1 cX fa):=
 fp_1 Up ha λta pa=>mY (eX.or' ZA Sf) hg hm PySem.boot_len (bU pa dN hs) (he:=hs) (hpl:=rfl)
def sM:D->Option D
 |.lst ds=>if aP ds=true then some (.lst ds) else none
 |.tup ds=>if aP ds=true then some (.lst ds) else none
 |_=>none
theorem ZH:pG X.K (λxs H Q=>∃p ys,xs=[V.ref p]/\(bS X.K H p ys\/cg X.K H p ys)/\∀l,H l=none->Q (.ref l) (upd H l (.lst ys))) sM:=by
 intro H x d1 f1 d Q r e k;have fin:∀{ds:List D}{xs:List V}{f:List Addr},ay X.K H ds xs f->(if aP ds=true then some (D.lst ds) else none)=some d->∀l,H l=none->Q (.ref l) (upd H l (.lst xs)):=λ{ds xs f} rs e l hl=>by
  obtain⟨hi,e⟩:=ci e;cases e;have hn:=rs.aG hi;subst hn;have s2:aF H (upd H l (.lst xs)):=λb o e=>by rw[aO (cC e hl)];exact e
  exact k _ _ [l] s2 (.lst bT (rs.same s2)) (abu.mpr ⟨(λm=>by cases m),abF⟩) λa m=>by cases aaH.mp m;exact hl
 cases d1 with
 |lst ds=>
  obtain⟨a,xs,f,rfl,hq,rs,_⟩:=r.dg;exact⟨a,xs,rfl,.inl hq,fin rs e⟩
 |tup ds=>
  obtain⟨a,xs,rfl,hq,rs⟩:=r.jx;exact⟨a,xs,rfl,.inr hq,fin rs e⟩
 |_=>cases e
theorem kq{p:Pos}(hm:X.mg "list"=none)(ha:FP X a fa)(hg:Gl X "list":=by rfl)(hs:starEach [a] X.env=[(false,eval a X.env)]:=by rfl):FP X (.Call (.Name "list" p) [a] [] pos) (e1 sM fa):=
 fp_1 ZH ha λta pa=>ym VU hg hm (by rfl) (bU pa dN hs) (he:=hs) (hpl:=rfl)
end
def cZ:D->D->Option D
 |.gW ds,.int i=>(cP ds i).bind λd=>if aG d=true then some d else none
 |.lst ds,.int i=>(cP ds i).bind λd=>if aG d=true then some d else none
 |.tup ds,.int i=>(cP ds i).bind λd=>if aG d=true then some d else none
 |_,_=>none
theorem YS{K:PySem.W.Frag}:fm K (λx y H Q=>CH K x y H Q\/Cr K x y H Q\/Cu x y H Q) cZ:=by
 intro H x y d1 d2 f1 f2 d Q r1 r2 e k;have key:∀{ds:List D}{xs:List V}{f:List Addr}{i:Int},ay K H ds xs f->((cP ds i).bind λd=>if aG d=true then some d else none)=some d->∃v,cP xs i=some v/\Rep K H d v []:=λ{ds xs f i} rs e=>by
  unfold cP at e ⊢;rw[<- rs.length];exists h,iw ds.length i,j,e,0;rw[h,ach] at e;rw[ach];exists h2,ds[j]?,d',e,0;rw[h2,ach] at e
  by_cases hi:aG d'=true
  .rw[if_pos hi] at e;cases e;obtain⟨v,f',hv,rv,_⟩:=rs.get h2;have hn:=rv.aG hi;subst hn;exact⟨v,hv,rv⟩
  .rw[abf hi] at e;cases e
 unfold cZ at e
 split at e
 .obtain⟨a,xs,rfl,hq,rs⟩:=r1.qS;obtain⟨v,hv,rv⟩:=key rs e;exact .inl ⟨a,xs,_,v,rfl,r2.gO.1,hq,hv,k H v (aF.refl H) rv⟩
 .obtain⟨a,xs,f,rfl,hq,rs,_⟩:=r1.dg;obtain⟨v,hv,rv⟩:=key rs e;exact .inl ⟨a,xs,_,v,rfl,r2.gO.1,hq,hv,k H v (aF.refl H) rv⟩
 .obtain⟨a,xs,rfl,hq,rs⟩:=r1.jx;obtain⟨v,hv,rv⟩:=key rs e;exact .inr (.inl ⟨a,xs,_,v,rfl,r2.gO.1,hq,hv,k H v (aF.refl H) rv⟩)
 .cases e
theorem gc{X:Cx}{a b:Expr}{fa fb:EF}{pos:Pos}(ha:FP X a fa)(hb:FP X b fb)(hs:zH b:=by exact λ_ _=>rfl):FP X (.Subscript a b pos) (e2 cZ fa fb):=fp_2 YS ha hb λ_ _ pa pb=>G_ BO pa pb hs
section
variable{ρ ρ':aE}{i j:Nat}{d d1 d2:D}{t t1 t2:Tag}{Bs:D->D->Option D}{A_:D->Option D}{f g fa fb:EF}{tf tg:TF}{sf sg:SF}{o:Out}
theorem zG:eC d ρ=some (d,.own):=rfl
noncomputable def k1(op:D->Option D):Option (D×Tag)->Option (D×Tag)
 |some (d,_)=>(op d).map λd=>(d,.own)
 |none=>none
theorem rK:e1 A_ fa ρ=k1 A_ (fa ρ):=by unfold e1 k1;cases fa ρ<;>rfl
theorem Aj:k1 A_ (some (d,t))=(A_ d).map λd=>(d,.own):=rfl
noncomputable def k2(op:D->D->Option D):Option (D×Tag)->Option (D×Tag)->Option (D×Tag)
 |some (d1,_),some (d2,_)=>(op d1 d2).map λd=>(d,.own)
 |_,_=>none
theorem jO:e2 Bs fa fb ρ=k2 Bs (fa ρ) (fb ρ):=by unfold e2 k2;cases fa ρ<;>cases fb ρ<;>rfl
theorem q_:k2 Bs (some (d1,t1)) (some (d2,t2))=(Bs d1 d2).map λd=>(d,.own):=rfl
theorem LD{α β:Type}{f:α->β}{a:α}:(some a).map f=some (f a):=rfl
noncomputable def kV:Option (D×Tag)->Option Bool
 |some (.bl b,_)=>some b
 |_=>none
theorem qv:tV fa ρ=Ev.kV (fa ρ):=by
 unfold tV Ev.kV;cases fa ρ with
 |none=>rfl
 |some p=>obtain⟨d,t⟩:=p;cases d<;>rfl
theorem oE(h:tf ρ=some true):fN tf tg ρ=tg ρ:=by unfold fN;rw[h]
theorem Au(h:tf ρ=some false):fN tf tg ρ=some false:=by unfold fN;rw[h]
theorem wu(h:tf ρ=some false):nJ tf tg ρ=tg ρ:=by unfold nJ;rw[h]
theorem J9(h:tf ρ=some a)(h2:tg ρ=some b):fN tf tg ρ=some (a&&b):=by unfold fN;rw[h];cases a<;>first|exact h2|rfl
theorem NS:iN tf ρ=(tf ρ).map λb=>!b:=rfl
theorem CV:cz ρ=some (.nx ρ):=rfl
noncomputable def Dy(g:SF):Option Out->Option Out
 |some (.nx ρ)=>g ρ
 |o=>o
theorem h_:aS sf sg ρ=Dy sg (sf ρ):=by
 unfold aS Dy;cases sf ρ with
 |none=>rfl
 |some o=>cases o<;>rfl
theorem k7:Dy sg (some (.nx ρ))=sg ρ:=rfl
noncomputable def Bo(sf sg:SF)(ρ:aE):Option Bool->Option Out
 |some true=>sf ρ
 |some false=>sg ρ
 |none=>none
theorem gQ:cH tf sf sg ρ=Bo sf sg ρ (tf ρ):=by unfold cH Bo;cases tf ρ<;>rfl
theorem MD:Bo sf sg ρ (some true)=sf ρ:=rfl
theorem wo:Bo sf sg ρ (some false)=sg ρ:=rfl
def PZ:Option (D×Tag)->Option Out
 |some (d,t)=>if lM t=true then some (.rt d) else if aG d=true then some (.rt d) else none
 |none=>none
theorem A3:dw fa ρ=PZ (fa ρ):=by unfold dw PZ;cases fa ρ<;>rfl
def v9(i:Nat)(ρ:aE):Option (D×Tag)->Option Out
 |some (d,t)=>some (.nx (jf ρ i d t))
 |none=>none
theorem xh:cj i fa ρ=v9 i ρ (fa ρ):=by unfold cj v9;cases fa ρ<;>rfl
theorem CI:aA ρ=some []:=rfl
noncomputable def Gj:Option (D×Tag)->Option (List (D×Tag))->Option (List (D×Tag))
 |some p,some ps=>some (p::ps)
 |_,_=>none
theorem cJ:aq fa a ρ=Gj (fa ρ) (a ρ):=by unfold aq Gj;cases fa ρ<;>cases a ρ<;>rfl
theorem CM{p:D×Tag}{ps:List (D×Tag)}:Gj (some p) (some ps)=some (p::ps):=rfl
theorem s_call{F:List D->Option D}:cM F a ρ=(a ρ).bind λps=>(F (ps.map (·.1))).map λd=>(d,.own):=rfl
theorem J7{α β:Type}{f:α->Option β}{a:α}:(some a).bind f=f a:=rfl
theorem Ju:jq a ρ=(a ρ).map λps=>(.tup (ps.map (·.1)),ko ps):=rfl
variable{m n:Int}
theorem N_:jc (.int m) (.int n)=some (.int (m+n)):=rfl
theorem Qh:oLe (.int m) (.int n)=some (.bl (decide (m<=n))):=rfl
theorem Vz:rS (.int m) (.int n)=some (.bl (decide (n<=m))):=rfl
theorem aaK:jH (.int m) (.int n)=some (.bl (!(m==n))):=rfl
theorem Pq:cX (.lst ds)=some (.int ds.length):=rfl
theorem xB(h:cP ds m=some d)(hi:aG d=true):cZ (.lst ds) (.int m)=some d:=by show((cP ds m).bind λd=>if aG d=true then some d else none)=_;rw[h,ach,if_pos hi]
theorem R3(h:cP ds m=some d)(hi:aG d=true):cZ (.tup ds) (.int m)=some d:=by show((cP ds m).bind λd=>if aG d=true then some d else none)=_;rw[h,ach,if_pos hi]
theorem dh{n N:Nat}{b:SF}{ds:List D}(hl:ds.length=n)(h:b (pQ N ds)=some (.rt d)):bV n N b ds=some d:=by unfold bV;rw[if_pos hl,h]
end
noncomputable def dI(ns:List Int):D:=.gW (ns.map D.int)
theorem U9{ns:List Int}{i:Int}(h0:0<=i)(h1:i<ns.length):cP (ns.map D.int) i=some (.int (ns.getD i.toNat 0)):=by
 unfold cP iw;have h2:i.toNat<ns.length:=by omega
 rw[aaf,if_pos h0,if_pos h1,ach,abW,aa0 h2,acv,aa0 h2];rfl
section
variable{κ:Type}[DecidableEq κ]
def bI(es:List (κ×D))(k:κ):Option D:=(es.find? λkv=>decide (kv.1=k)).map (·.2)
def putD(es:List (κ×D))(k:κ)(d:D):List (κ×D):=
 if(es.any λkv=>decide (kv.1=k))=true then es.map (λkv=>if kv.1=k then(kv.1,d) else kv) else es++[(k,d)]
theorem rO{K:PySem.W.Frag}{k:κ}:∀{es:List (κ×D)}{aj:List (κ×V)}{fp:List Addr},es.map (·.1)=aj.map (·.1)->ay K H (es.map (·.2)) (aj.map (·.2)) fp->
  (∀d,bI es k=some d->∃v f,eg aj k=some v/\Rep K H d v f/\∀a∈f,a∈fp)/\(bI es k=none->eg aj k=none)
 |[],[],_,_,_=>⟨λd e=>(nomatch e),λ_=>rfl⟩
 |[],_::_,_,e,_=>by simp at e
 |_::_,[],_,e,_=>by simp at e
 |(q,d0)::es,(q',v0)::aj,fp,e,r=>by
  simp only[aaF,ael] at e;obtain⟨rfl,e⟩:=e;simp only[aaF] at r;cases r with
  | @cons _ _ _ _ f1 f2 r1 r2=>
   obtain⟨i1,i2⟩:=rO e r2
   by_cases h:q=k
   .have e1:bI ((q,d0)::es) k=some d0:=by unfold bI;rw[aej,aa1 h];rfl
    refine⟨λd ed=>?_,λen=>?_⟩
    .rw[e1] at ed;cases ed;exact⟨v0,f1,wL h,r1,λa m=>aaR _ m⟩
    .rw[e1] at en;cases en
   .have e1:bI ((q,d0)::es) k=bI es k:=by unfold bI;rw[aej,abo h]
    rw[e1,vz h];exact⟨λd ed=>let⟨v,f,a,b,c⟩:=i1 d ed;⟨v,f,a,b,λx m=>aaE _ (c x m)⟩,i2⟩
theorem Bb{es:List (κ×D)}{aj:List (κ×V)}{k:κ}(e:es.map (·.1)=aj.map (·.1)):(putD es k d).map (·.1)=(putK aj k v).map (·.1):=by
 have any:(es.any λkv=>decide (kv.1=k))=aj.any λkv=>decide (kv.1=k):=by
  have h1:(es.any λkv=>decide (kv.1=k))=(es.map (·.1)).any λx=>decide (x=k):=by rw[ae9];rfl
  have h2:(aj.any λkv=>decide (kv.1=k))=(aj.map (·.1)).any λx=>decide (x=k):=by rw[ae9];rfl
  rw[h1,h2,e]
 have m1:∀l:List (κ×D),(l.map λkv=>if kv.1=k then(kv.1,d) else kv).map (·.1)=l.map (·.1):=λl=>by
  rw[aea];congr 1;funext kv;show(if kv.1=k then(kv.1,d) else kv).1=kv.1;split<;>rfl
 have m2:∀l:List (κ×V),(l.map λkv=>if kv.1=k then(kv.1,v) else kv).map (·.1)=l.map (·.1):=λl=>by
  rw[aea];congr 1;funext kv;show(if kv.1=k then(kv.1,v) else kv).1=kv.1;split<;>rfl
 unfold putD putK;rw[any]
 by_cases h:(aj.any λkv=>decide (kv.1=k))=true
 .rw[if_pos h,if_pos h,m1,m2,e]
 .rw[abf h,abf h,ad5,ad5,e];rfl
theorem EM{K:PySem.W.Frag}{H:Hp}{k:κ}{es:List (κ×D)}{aj:List (κ×V)}(e:es.map (·.1)=aj.map (·.1))(r:ay K H (es.map (·.2)) (aj.map (·.2)) [])(rv:Rep K H d v []):
  ay K H ((putD es k d).map (·.2)) ((putK aj k v).map (·.2)) []:=by
 have any:(es.any λkv=>decide (kv.1=k))=aj.any λkv=>decide (kv.1=k):=by
  have h1:(es.any λkv=>decide (kv.1=k))=(es.map (·.1)).any λx=>decide (x=k):=by rw[ae9];rfl
  have h2:(aj.any λkv=>decide (kv.1=k))=(aj.map (·.1)).any λx=>decide (x=k):=by rw[ae9];rfl
  rw[h1,h2,e]
 have go:∀(es:List (κ×D)) (aj:List (κ×V)),es.map (·.1)=aj.map (·.1)->ay K H (es.map (·.2)) (aj.map (·.2)) []->ay K H ((es.map λkv=>if kv.1=k then(kv.1,d) else kv).map (·.2)) ((aj.map λkv=>if kv.1=k then(kv.1,v) else kv).map (·.2)) []:=by
  intro es
  induction es with
  |nil=>
   intro aj e r;cases aj with
   |nil=>exact .nil
   |cons _ _=>simp at e
  |cons p es ih=>
   intro aj e r;cases aj with
   |nil=>simp at e
   |cons p' aj=>
    obtain⟨q,d0⟩:=p;obtain⟨q',v0⟩:=p';simp only[aaF,ael] at e;obtain⟨rfl,e⟩:=e;simp only[aaF] at r ⊢;generalize hf:([]:List Addr)=fp at r;cases r with
    | @cons _ _ _ _ f1 f2 r1 r2=>
     obtain⟨h1,h2⟩:=adQ.mp hf.symm;subst h1 h2;have t:=ih aj e r2
     by_cases h:q=k
     .rw[if_pos h,if_pos h];exact ay.cons (f1:=[]) (f2:=[]) rv t
     .rw[abf h,abf h];exact ay.cons (f1:=[]) (f2:=[]) r1 t
 unfold putD putK;rw[any]
 by_cases h:(aj.any λkv=>decide (kv.1=k))=true
 .rw[if_pos h,if_pos h];exact go es aj e r
 .rw[abf h,abf h,ad5,ad5];exact ay.append r (ay.cons (f1:=[]) (f2:=[]) rv .nil)
end
noncomputable def g_:D->Option Key
 |.int i=>some (.inl i)
 |.str x=>some (.inr x)
 |_=>none
theorem Rep.key{K:PySem.W.Frag}{H:Hp}{d:D}(r:Rep K H d y fp)(e:g_ d=some k):y=L2.kV k:=by
 cases r<;>cases e<;>rfl
def HQ:D->D->Option D
 |.bK es,kd=>match g_ kd with
  |some k=>(bI es k).bind λd=>if aG d=true then some d else none
  |none=>none
 |_,_=>none
def Tj:R2:=λx y H Q=>∃a v,x=.ref a/\iQ H a y (some v)/\Q v H
theorem YI{K:PySem.W.Frag}:fm K Tj HQ:=by
 intro H x y d1 d2 f1 f2 d Q r1 r2 e k;cases r1 with
 | @bK a aj es fp h hk rs=>
  have e:(match g_ d2 with|some k=>(bI es k).bind λd=>if aG d=true then some d else none|none=>none)=some d:=e;exists vd,g_ d2,key,e;dsimp only at e;exists hv,bI es key,d',e,0;rw[hv,ach] at e
  by_cases hi:aG d'=true
  .rw[if_pos hi] at e;cases e;obtain⟨v,f,h1,r,_⟩:=(rO (k:=key) hk rs).1 d hv;have hn:=r.aG hi;subst hn;have ek:=r2.key vd;subst ek;have g:=iQ.k (k:=key) h;rw[h1] at g;exact⟨a,v,rfl,g,k H v (aF.refl H) r⟩
  .rw[abf hi] at e;cases e
 |_=>cases e
section
variable{X:Cx}{a b c:Expr}{fa fb fc:EF}{pos:Pos}
theorem Ib(hu:X.A.units+1<cLine)(ha:FP X a fa)(hb:FP X b fb)(hs:xR b:=by exact λ_ _=>rfl):FP X (.Subscript a b pos) (e2 HQ fa fb):=
 fp_2 YI ha hb λ_ _ pa pb=>Rl hu pa pb hs
def Ip(d1 d2 d3:D):Option D:=match d1,g_ d2 with
 |.bK es,some k=>match bI es k with
  |some d=>if aG d=true then some d else none
  |none=>if aG d3=true then some d3 else none
 |_,_=>none
noncomputable def e3(op:D->D->D->Option D)(fa fb fc:EF):EF:=λρ=>match fa ρ,fb ρ,fc ρ with
 |some (d1,_),some (d2,_),some (d3,_)=>(op d1 d2 d3).map λd=>(d,.own)
 |_,_,_=>none
theorem T7{op:D->D->D->Option D}(e:e3 op fa fb fc ρ=some (d,tg)):∃d1 t1 d2 t2 d3 t3,fa ρ=some (d1,t1)/\fb ρ=some (d2,t2)/\fc ρ=some (d3,t3)/\op d1 d2 d3=some d/\tg=.own:=by
 unfold e3 at e;exists h1,fa ρ,p,e,0;cases h2:fb ρ with
 |none=>rw[h1,h2] at e;cases e
 |some q=>
  cases h3:fc ρ with
  |none=>rw[h1,h2,h3] at e;cases e
  |some r=>
   obtain⟨d1,t1⟩:=p;obtain⟨d2,t2⟩:=q;obtain⟨d3,t3⟩:=r;rw[h1,h2,h3] at e;dsimp only at e;exists h4,op d1 d2 d3,d4,e;cases e;exact⟨d1,t1,d2,t2,d3,t3,rfl,rfl,rfl,h4,rfl⟩
theorem UI{apos dR:Pos}(hu:X.A.units+1<cLine)(ha:FP X a fa)(hb:FP X b fb)(hc:FP X c fc)(m:M2 X a "get" apos b c dR:=by exact⟨rfl,rfl,rfl,rfl⟩):FP X (.Call (.Attribute a "get" apos) [b,c] [] dR) (e3 Ip fa fb fc):=by
 obtain⟨ta,pa,sa⟩:=ha;obtain⟨tb,pb,sb⟩:=hb;obtain⟨tc,pc,sc⟩:=hc;exists 21,ML hu pa pb pc m;obtain⟨d1,t1,d2,t2,d3,t3,h1,h2,h3,h4,rfl⟩:=T7 e;refine sa ok h1 λH1 x f1 s1 r1 _=>?_
 cases d1 with
 |bK es=>
  cases r1 with
  | @bK p aj _ fp h hk rs=>
   refine⟨p,rfl,.inl ⟨aj,.inl h⟩,?_⟩;refine sb (ok.same s1) h2 λH2 y f2 s2 r2 _=>?_
   refine sc ((ok.same s1).same s2) h3 λH3 w f3 s3 r3 _=>?_
   unfold Ip at h4;exists vd,g_ d2,key,h4;dsimp only at h4;have ek:=r2.key vd;subst ek;have Aw:=s3 _ _ (s2 _ _ h);have g:=iQ.k (k:=key) Aw;refine⟨_,g,?_⟩;have MH:=(s1.trans s2).trans s3;obtain⟨i1,i2⟩:=rO hk ((rs.same s2).same s3);cases hv:bI es key with
   |some d'=>
    rw[hv] at h4;dsimp only at h4;obtain⟨hi,h4⟩:=ci h4;cases h4;obtain⟨v,f,e1,r,_⟩:=i1 d hv;have hn:=r.aG hi;subst hn;rw[e1];exact k H3 v [] MH r .nil
   |none=>
    rw[hv] at h4;dsimp only at h4;obtain⟨hi,h4⟩:=ci h4;cases h4;rw[i2 hv];have hn:=r3.aG hi;subst hn;exact k H3 w [] MH r3 .nil
 |_=>cases h4
theorem Xq:FP X (.Dict [] [] pos) (eC (.bK [])):=by
 refine⟨_,Sg,@λH0 S z ak ρ σ H Q d tg ok e k p hp=>?_⟩;cases e;have s2:aF H (upd H p (.dK [])):=λb o e=>by rw[aO (cC e hp)];exact e
 exact k _ _ [p] s2 (.bK bT rfl .nil) ⟨abu.mpr ⟨(λm=>by cases m),abF⟩,λa m=>by cases aaH.mp m;exact hp⟩
end
noncomputable def fV(i:Nat):Slot->Slot
 |some (d,.sh o)=>if o.contains i=true then none else some (d,.sh o)
 |s=>s
def bJ(ρ:aE)(i:Nat)(d:D):aE:=(ρ.map (fV i)).set i (some (d,.own))
theorem acq(e:fV i s=some (d,t)):s=some (d,t)/\∀o,t=.sh o->i∉o:=by
 cases s with
 |none=>cases e
 |some w=>
  obtain⟨d',t'⟩:=w;cases t' with
  |sh o=>
   have e:(if o.contains i=true then none else some (d',Tag.sh o))=some (d,t):=e
   split at e
   .cases e
   .rename_i hc;cases e;exact⟨rfl,λo' eo m=>by cases eo;exact hc (acZ.mpr m)⟩
  |own=>cases e;exact⟨rfl,λo eo=>by cases eo⟩
  |lk=>cases e;exact⟨rfl,λo eo=>by cases eo⟩
theorem ND(hj:j≠i)(e:(bJ ρ i d1)[j]? = some (some (d,t))):ρ[j]? = some (some (d,t))/\(P\/∀o,t=.sh o->i∉o):=by
 unfold bJ at e;rw[abY (aez hj),abW] at e;obtain⟨s,e0,e⟩:=acI.mp e;obtain⟨rfl,n⟩:=acq e;exact⟨e0,.inr n⟩
theorem Mj(h:ρ[i]? = some d0):(bJ ρ i d1)[i]? = some (some (d1,.own)):=ac1 (by rw[aaf];exact(abU.mp h).1)
theorem Ot:(bJ ρ i d1).length=ρ.length:=by unfold bJ;rw[aet,aaf]
theorem Ok.put{K:PySem.W.Frag}{H0:Hp}{S:List Addr}{z:Addr->Option Nat}{ak:List bZ}{ρ:aE}{σ:St}{H H':Hp}{i:Nat}{d0 d1:D}{v:V}{aT bg:List Addr}(ok:Ok K H0 S z ak ρ σ H)(h:ρ[i]? = some (some (d0,.own)))
  (hs:σ[i]? = some (some v)) (zz:tS z i .own aT) (im:aX H H') (keep:∀b o,b∉aT->H b=some o->H' b=some o) (r1:Rep K H' d1 v bg) (nd:bg.Nodup) (fr:∀b∈bg,b∈aT\/H b=none):∃z',Ok K H0 S z' ak (bJ ρ i d1) σ H':=
 ⟨_,ok.chg (Mj h) hs zz.2 im keep r1 ⟨nd,λa m=>if_pos m⟩ (Ec zz.2) (λa m=>⟨fr a m,let⟨o,w,_⟩:=r1.dH a m;⟨o,w⟩⟩) ND (λ_ _=>rfl) (.inr λn=>n _ h) (Ot.trans ok.ln)⟩
theorem Ok.w6{K:PySem.W.Frag}{H0:Hp}{S:List Addr}{z:Addr->Option Nat}{ak:List bZ}{ρ:aE}{σ:St}{H:Hp}{i:Nat}{d0 d1:D}{v:V}{fp:List Addr}{p:Addr}{o o':HO}(ok:Ok K H0 S z ak ρ σ H)(h:ρ[i]? = some (some (d0,.own)))
  (hs:σ[i]? = some (some v)) (zz:tS z i .own fp) (hp:p∈fp) (ho:H p=some o) (mo:j4 o=true) (r1:Rep K (upd H p o') d1 v fp):Ok K H0 S z ak (bJ ρ i d1) σ (upd H p o'):=
 ok.chg (Mj h) hs zz.2 (aX.upd ho mo) (λb o n e=>by rw[aO λq:b=p=>n (q ▸ hp)];exact e) r1 zz (λa n=>.inr ⟨rfl,n,λ_ n=>n _ h⟩) (λa m=>⟨.inl m,let⟨o,w,_⟩:=r1.dH a m;⟨o,w⟩⟩) ND (λ_ _=>rfl) (.inr λn=>n _ h) (Ot.trans ok.ln)
section
variable{X:Cx}{pos:Pos}
def Ax(i:Nat)(fk fv:EF):SF:=λρ=>match fv ρ,ρ[i]?,fk ρ with
 |some (d,_),some (some (.bK es,.own)),some (kd,_)=>match g_ kd with
  |some k=>if(aG d&&aP (es.map (·.2))&&decide (es.length<sizeLine))=true then some (.nx (bJ ρ i (.bK (putD es k d)))) else none
  |none=>none
 |_,_,_=>none
theorem IM(i:Nat){x:Str}(hu:X.A.units+1<cLine)(hk:FP X k fk)(hv:FP X v fv)(va:VA X i x:=by walk_at "va")(hs:swapsWith v (some (.Subscript (.Name x p1) k pos')) pos.line X.env=pure false:=by rfl):
  dU X (.Assign [.Subscript (.Name x p1) k pos'] v pos) (Ax i fk fv):=by
 obtain⟨tk,pk,sk⟩:=hk;obtain⟨tv,lu,sv⟩:=hv;exists 25,GN hu va.pe pk lu hs;unfold Ax at e
 split at e
 .rename_i d td es kd Ud h1 h2 h3;exists h4,g_ kd,key,e;dsimp only at e;obtain⟨hc,e⟩:=ci e;cases e;obtain⟨FH,hc3⟩:=(aaL _ _).mp hc;obtain⟨FH,Hz⟩:=(aaL _ _).mp FH;have hz:=aa3 hc3;refine sv ok h1 λH1 v PM s1 rv _=>?_
  obtain⟨xv,fp,ck,r,zz⟩:=(ok.same s1).sl i _ _ h2;refine⟨xv,ck,?_⟩;refine sk (ok.same s1) h3 λH2 y O2 s2 rk _=>?_
  have ek:=rk.key h4;subst ek;have r':=r.same s2;cases r' with
  | @bK a aj _ f h iF rs=>
   have hn:=rs.aG Hz;subst hn;have wZ:=rv.aG FH;subst wZ;have hl:aj.length=es.length:=by have:=congrArg List.length iF;simpa using this.symm
   refine⟨a,_,rfl,ua.k h (by rw[hl];exact hz),?_⟩;have im:aX H2 (upd H2 a (.dK (putK aj key v))):=aX.upd h rfl;refine q z σ _ (Ok.w6 ((ok.same s1).same s2) h2 ck zz aax h rfl (.bK bT (Bb iF) ?_)) (.refl _ _);exact EM iF (rs.frame (λa m=>nomatch m) im) ((rv.same s2).frame (λa m=>nomatch m) im)
 .cases e
end
noncomputable def tQ(x:Int):List Int->List Int
 |[]=>[x]
 |y::r=>if x<=y then x::y::r else y::tQ x r
def jd:List Int->List Int
 |[]=>[]
 |x::r=>tQ x (jd r)
theorem Ex(x:Int):∀l:List Int,(tQ x l).Perm (x::l)
 |[]=>.refl _
 |y::r=>by
  unfold tQ
  split
  .exact .refl _
  .exact((Ex x r).cons y).trans (.swap x y r)
theorem AD:∀l:List Int,(jd l).Perm l
 |[]=>.refl _
 |x::r=>(Ex x (jd r)).trans ((AD r).cons x)
theorem HM(x:Int):∀{l:List Int},l.Pairwise (·<=·)->(tQ x l).Pairwise (·<=·)
 |[],_=>List.pairwise_singleton _ _
 |y::r,h=>by
  obtain⟨h1,h2⟩:=adV.mp h;unfold tQ
  split
  .rename_i hx;exact adV.mpr ⟨λz m=>(aaM.mp m).elim (λe=>e ▸ hx) λm=>Int.le_trans hx (h1 z m),h⟩
  .rename_i hx;refine adV.mpr ⟨λz m=>?_,HM x h2⟩;rcases aaM.mp ((Ex x r).mem_iff.mp m) with e|m
   .rw[e];omega
   .exact h1 z m
theorem Dq:∀l:List Int,(jd l).Pairwise (·<=·)
 |[]=>.nil
 |x::r=>HM x (Dq r)
theorem Yc(p:a.Perm b)(s:a.Pairwise (·<=·)):a=jd b:=by
 have q:=p.trans (AD b).symm;exact q.eq_of_pairwise (λx y _ _ h1 h2=>Int.le_antisymm h1 h2) s (Dq b)
theorem T5(l:List Int):(jd l).length=l.length:=(AD l).length_eq
noncomputable def dB:List D->Option (List Int)
 |[]=>some []
 |.int i::r=>(dB r).map (i::·)
 |_=>none
noncomputable def kF{α:Type}:List (Key×α)->Option (List Int)
 |[]=>some []
 |(.inl i,_)::r=>(kF r).map (i::·)
 |_=>none
theorem pP{K:PySem.W.Frag}:∀{ds:List D}{xs:List V}{fp:List Addr}{ns:List Int},ay K H ds xs fp->dB ds=some ns->xs=ns.map V.int
 |_,_,_,ns,.nil,e=>by cases e;rfl
 |_,_,_,ns,.cons (d:=d) h t,e=>by
  cases d with
  |int i=>
   unfold dB at e;exists q,dB _,r,e;cases e;cases h;rw[pP t q];rfl
  |_=>cases e
theorem uc(ns:List Int):dB (ns.map D.int)=some ns:=by
 induction ns with
 |nil=>rfl
 |cons n r ih=>rw[aaF];unfold dB;rw[ih];rfl
theorem HW{α:Type}:∀{es:List (Key×α)}{ks:List Int},kF es=some ks->es.map (·.1)=ks.map Sum.inl
 |[],ks,e=>by cases e;rfl
 |(.inl i,_)::r,ks,e=>by
  unfold kF at e;exists q,kF r,l,e;cases e;rw[aaF,HW q];rfl
 |(.inr _,_)::_,_,e=>by cases e
def uB:D->Option D
 |.lst ds=>match dB ds with
  |some ns=>if ns.length<64 then some (.lst ((jd ns).map D.int)) else none
  |none=>none
 |.bK es=>match kF es with
  |some ns=>if ns.length<64 then some (.lst ((jd ns).map D.int)) else none
  |none=>none
 |_=>none
theorem qP{K:PySem.W.Frag}:∀ns:List Int,ay K H (ns.map D.int) (ns.map V.int) []
 |[]=>.nil
 |n::r=>ay.cons (f1:=[]) (f2:=[]) (.int n) (qP r)
theorem Wn{K:PySem.W.Frag}:pG K (LY K) uB:=by
 intro H x d1 f1 d Q r e k;have fin:∀(ns:List Int),(if ns.length<64 then some (D.lst ((jd ns).map D.int)) else none)=some d->ns.length<64/\∀l (n6:List Int),H l=none->n6.Perm ns->n6.Pairwise (·<=·)->Q (.ref l) (upd H l (.lst (n6.map V.int))):=λns e=>by
  obtain⟨h,e⟩:=ci e;cases e;refine⟨h,λl n6 hl p s=>?_⟩;have eq:=Yc p s;subst eq;have s2:aF H (upd H l (.lst ((jd ns).map V.int))):=λb o e=>by rw[aO (cC e hl)];exact e
  exact k _ _ [l] s2 (.lst bT (qP _)) (abu.mpr ⟨(λm=>by cases m),abF⟩) λa m=>by cases aaH.mp m;exact hl
 cases d1 with
 |lst ds=>
  obtain⟨a,xs,f,rfl,hq,rs,_⟩:=r.dg;have e:(match dB ds with|some ns=>if ns.length<64 then some (D.lst ((jd ns).map D.int)) else none|none=>none)=some d:=e;exists h,dB ds,ns,e;obtain⟨h1,h2⟩:=fin ns e;have ex:=pP rs h;subst ex;exact⟨a,ns,rfl,h1,.inr hq,h2⟩
 |bK es=>
  cases r with
  | @bK a aj _ fp h hk rs=>
   have e:(match kF es with|some ns=>if ns.length<64 then some (D.lst ((jd ns).map D.int)) else none|none=>none)=some d:=e;exists h',kF es,ns,e;obtain⟨h1,h2⟩:=fin ns e;exact⟨a,ns,rfl,h1,.inl ⟨aj,h,by rw[<- hk];exact HW h'⟩,h2⟩
 |_=>cases e
def lI:List D->Option (List (Key×D))
 |[]=>some []
 |.tup [kd,d]::r=>match g_ kd,lI r with
  |some k,some ps=>if aG d=true then some ((k,d)::ps) else none
  |_,_=>none
 |_=>none
def E1:D->Option D
 |.lst ds=>(lI ds).map λps=>.bK (ps.foldl (λm p=>putD m p.1 p.2) [])
 |.tup ds=>(lI ds).map λps=>.bK (ps.foldl (λm p=>putD m p.1 p.2) [])
 |.bK es=>if aP (es.map (·.2))=true then some (.bK es) else none
 |_=>none
theorem OO:bootBuiltins "min"=some (.builtin "min"):=by decide +kernel
theorem acz:bootBuiltins "sorted"=some (.builtin "sorted"):=by decide +kernel
section
variable{X:Cx}{a b:Expr}{fa fb:EF}{pos:Pos}
theorem Js{p:Pos}(hc:X.calm=true)(hm:X.mg "sorted"=none)(ha:FP X a fa)(hg:Gl X "sorted":=by rfl)(hs:starEach [a] X.env=[(false,eval a X.env)]:=by rfl):FP X (.Call (.Name "sorted" p) [a] [] pos) (e1 uB fa):=
 fp_1 Wn ha λta pa=>mY (T6 hc) hg hm acz (bU pa dN hs) (he:=hs) (hpl:=rfl)
def rj:D->D->Option D:=qE λi j=>if j<i then j else i
def Ni:D->D->Option D
 |.lst [],z=>if aG z=true then some z else none
 |_,_=>none
theorem acR{p:Pos}(hc:X.calm=true)(hm:X.mg "min"=none)(ha:FP X a fa)(hb:FP X b fb)(hg:Gl X "min":=by rfl)(hs:starEach [a,b] X.env=[(false,eval a X.env),(false,eval b X.env)]:=by rfl)(bQ:starEach [b] X.env=[(false,eval b X.env)]:=by rfl)(hpl:(backTo pos (starEach [b] X.env)).any (·.1)=false:=by rfl):
  FP X (.Call (.Name "min" p) [a,b] [] pos) (e2 rj fa fb):=by
 obtain⟨ta,pa,sa⟩:=ha;obtain⟨tb,pb,sb⟩:=hb;exists 21,mY (Nf hc) hg hm OO (bU pa (bU pb dN bQ) (by rw[hs,bQ])) (he:=by rw[hs,bQ]) (hpl:=hpl);obtain⟨d1,t1,d2,t2,h1,h2,h3,rfl⟩:=mJ e;refine sa ok h1 λH1 x f1 s1 r1 _=>?_
 refine sb (ok.same s1) h2 λH2 y f2 s2 r2 _=>?_
 unfold rj qE at h3
 split at h3
 .cases h3;exact⟨_,_,by rw[r1.gO.1,r2.gO.1],k H2 _ [] (s1.trans s2) (.int _) .nil⟩
 .cases h3
theorem Wi{p kp:Pos}(hc:X.calm=true)(hm:X.mg "min"=none)(ha:FP X a fa)(hb:FP X b fb)(hg:Gl X "min":=by rfl)(hs:starEach [a] X.env=[(false,eval a X.env)]:=by rfl)
  (h1:backTo pos (starEach [a] X.env)=(false,eval a X.env)::backTo pos (starEach [] X.env):=by rfl) (h2:(backTo pos (starEach [a] X.env)).any (·.1)=false:=by rfl)
  (h3:(backToKw pos (keywordEach [⟨some "default",b,kp⟩] X.env)).all (·.1.isSome)=true:=by rfl) (h4:(backToKw pos (keywordEach [⟨some "default",b,kp⟩] X.env)).any (·.1.isNone)=false:=by rfl)
  (h5:(backToKw pos (keywordEach [⟨some "default",b,kp⟩] X.env)).filterMap (·.1)=[("default":Str)]:=by rfl) :
  FP X (.Call (.Name "min" p) [a] [⟨some "default",b,kp⟩] pos) (e2 Ni fa fb):=by
 obtain⟨ta,pa,sa⟩:=ha;obtain⟨tb,pb,sb⟩:=hb;exists 21,acD hc hm pa pb hg hs h1 h2 h3 h4 h5;obtain⟨d1,t1,d2,t2,g1,g2,g3,rfl⟩:=mJ e;refine sa ok g1 λH1 x f1 s1 r1 _=>?_
 refine sb (ok.same s1) g2 λH2 y f2 s2 r2 _=>?_
 unfold Ni at g3
 split at g3
 .obtain⟨hi,g3⟩:=ci g3;cases g3;obtain⟨l,xs,f,rfl,hq,rs,_⟩:=(r1.same s2).dg;cases rs;have hn:=r2.aG hi;subst hn;exact⟨l,rfl,hq,k H2 y [] (s1.trans s2) r2 .nil⟩
 .cases g3
end
theorem O8{K:PySem.W.Frag}:∀{ds:List D}{xs:List V}{fp:List Addr}{ps:List (Key×D)},ay K H ds xs fp->lI ds=some ps->
  ∃qs:List (Key×V),Paired (λy (q:Key×V)=>∃a,y=.ref a/\cg K H a [L2.kV q.1,q.2]) xs qs/\ps.map (·.1)=qs.map (·.1)/\ay K H (ps.map (·.2)) (qs.map (·.2)) []
 |_,_,_,ps,.nil,e=>by cases e;exact⟨[],.nil,rfl,.nil⟩
 |_,_,_,ps,.cons (d:=d) (ds:=dr) h t,e=>by
  unfold lI at e
  split at e
  .rename_i heq;cases heq
  .rename_i kd d' r heq;cases heq;exists h1,g_ kd,k,e,0;cases h2:lI dr with
   |none=>rw[h1,h2] at e;cases e
   |some pr=>
    rw[h1,h2] at e;dsimp only at e;obtain⟨hi,e⟩:=ci e;cases e;obtain⟨qs,a1,a2,a3⟩:=O8 t h2;obtain⟨a,ys,rfl,hq,rs⟩:=h.jx;cases rs with
    |cons rk rs=>
     cases rs with
     |cons rv rs=>
      cases rs with
      |nil=>
       have ek:=rk.key h1;subst ek;have hn:=rv.aG hi;subst hn;exact⟨(k,_)::qs,.cons ⟨a,rfl,hq⟩ a1,by rw[aaF,aaF,a2],ay.cons (f1:=[]) (f2:=[]) rv a3⟩
  .cases e
theorem Le{K:PySem.W.Frag}:∀{ps:List (Key×D)}{qs:List (Key×V)}{es:List (Key×D)}{aj:List (Key×V)},ps.map (·.1)=qs.map (·.1)->ay K H (ps.map (·.2)) (qs.map (·.2)) []->es.map (·.1)=aj.map (·.1)->ay K H (es.map (·.2)) (aj.map (·.2)) []->
  (ps.foldl (λm p=>putD m p.1 p.2) es).map (·.1)=(qs.foldl (λm q=>putK m q.1 q.2) aj).map (·.1)/\ay K H ((ps.foldl (λm p=>putD m p.1 p.2) es).map (·.2)) ((qs.foldl (λm q=>putK m q.1 q.2) aj).map (·.2)) []
 |[],[],_,_,_,_,h1,h2=>⟨h1,h2⟩
 |[],_::_,_,_,e,_,_,_=>by simp at e
 |_::_,[],_,_,e,_,_,_=>by simp at e
 |(k,d)::ps,(k',v)::qs,es,aj,e,r,h1,h2=>by
  simp only[aaF,ael] at e;obtain⟨rfl,e⟩:=e;simp only[aaF] at r;generalize hf:([]:List Addr)=fp at r;cases r with
  | @cons _ _ _ _ f1 f2 r1 r2=>
   obtain⟨z1,z2⟩:=adQ.mp hf.symm;subst z1 z2;rw[aeN,aeN];exact Le e r2 (Bb h1) (EM h1 h2 r1)
theorem Q7{K:PySem.W.Frag}:pG K (λxs H Q=>EG K xs H Q\/∃a aj,xs=[V.ref a]/\H a=some (.dK aj)/\∀l,H l=none->Q (.ref l) (upd H l (.dK aj))) E1:=by
 intro H x d1 f1 d Q r e k;have fresh:∀{o:HO}{l:Addr},H l=none->aF H (upd H l o):=λhl b o e=>by rw[aO (cC e hl)];exact e
 have OQ:∀l:Addr,([l]:List Addr).Nodup:=λl=>abu.mpr ⟨(λm=>by cases m),abF⟩
 have seq:∀{ds:List D}{xs:List V}{f:List Addr}{p:Addr},ay K H ds xs f->(bS K H p xs\/cg K H p xs)->((lI ds).map λps=>D.bK (ps.foldl (λm p=>putD m p.1 p.2) []))=some d->EG K [.ref p] H Q:=λ{ds xs f p} rs hq e=>by
  exists h,lI ds,ps,e;cases e;obtain⟨qs,a1,a2,a3⟩:=O8 rs h;refine⟨p,xs,qs,rfl,hq,a1,λl hl=>?_⟩;obtain⟨b1,b2⟩:=Le (es:=[]) (aj:=[]) a2 a3 rfl .nil;exact k _ _ [l] (fresh hl) (.bK bT b1 (b2.same (fresh hl))) (OQ l) λa m=>by cases aaH.mp m;exact hl
 cases d1 with
 |lst ds=>
  obtain⟨a,xs,f,rfl,hq,rs,_⟩:=r.dg;exact .inl (seq rs (.inl hq) e)
 |tup ds=>
  obtain⟨a,xs,rfl,hq,rs⟩:=r.jx;exact .inl (seq rs (.inr hq) e)
 |bK es=>
  cases r with
  | @bK a aj _ fp h hk rs=>
   have e:(if aP (es.map (·.2))=true then some (D.bK es) else none)=some d:=e;obtain⟨hi,e⟩:=ci e;cases e;have hn:=rs.aG hi;subst hn;exact .inr ⟨a,aj,rfl,h,λl hl=>k _ _ [l] (fresh hl) (.bK bT hk (rs.same (fresh hl))) (OQ l) λa m=>by cases aaH.mp m;exact hl⟩
 |_=>cases e
section
variable{X:Cx}{a b:Expr}{fa fb:EF}{pos:Pos}
theorem TU:eX X (.type "dict") (λxs H Q=>∃a aj,xs=[V.ref a]/\H a=some (.dK aj)/\∀l,H l=none->Q (.ref l) (upd H l (.dK aj))):=by
 intro af s σ H xs us Q I r h;obtain⟨a,aj,rfl,ha,q⟩:=h;obtain⟨u,rfl,ru⟩:=vals1 r;cases ru;exact adB I (.inl ha) λp s' hp I'=>⟨.ref p,_,I',rfl,q p hp⟩
theorem Be{p:Pos}(hc:X.calm=true)(hm:X.mg "dict"=none)(ha:FP X a fa)(hg:Gl X "dict":=by rfl)(hs:starEach [a] X.env=[(false,eval a X.env)]:=by rfl):FP X (.Call (.Name "dict" p) [a] [] pos) (e1 E1 fa):=
 fp_1 Q7 ha λta pa=>ym (eX.or' (abD hc) TU) hg hm (show bootBuiltins "dict"=some (.type "dict") by decide +kernel) (bU pa dN hs) (he:=hs) (hpl:=rfl)
def yG:D->Option D
 |.lst ds=>if aP ds=true then some (.tup ds) else none
 |.tup ds=>if aP ds=true then some (.tup ds) else none
 |_=>none
theorem WB:pG X.K (λxs H Q=>∃p ys,xs=[V.ref p]/\((bS X.K H p ys/\∀l,H l=none->Q (.ref l) (upd H l (.tup ys)))\/(cg X.K H p ys/\Q (.ref p) H))) yG:=by
 intro H x d1 f1 d Q r e k;cases d1 with
 |lst ds=>
  obtain⟨a,xs,f,rfl,hq,rs,_⟩:=r.dg;have e:(if aP ds=true then some (D.tup ds) else none)=some d:=e;obtain⟨hi,e⟩:=ci e;cases e;have hn:=rs.aG hi;subst hn;refine⟨a,xs,rfl,.inl ⟨hq,λl hl=>?_⟩⟩;have s2:aF H (upd H l (.tup xs)):=λb o e=>by rw[aO (cC e hl)];exact e
  exact k _ _ [] s2 (.tup (cg.of bT) (rs.same s2)) abF λa m=>nomatch m
 |tup ds=>
  obtain⟨a,xs,rfl,hq,rs⟩:=r.jx;have e:(if aP ds=true then some (D.tup ds) else none)=some d:=e;obtain⟨hi,e⟩:=ci e;cases e;have hn:=rs.aG hi;subst hn;exact⟨a,xs,rfl,.inr ⟨hq,k H _ [] (aF.refl H) (.tup hq rs) abF λa m=>nomatch m⟩⟩
 |_=>cases e
theorem yl{p:Pos}(hm:X.mg "tuple"=none)(ha:FP X a fa)(hg:Gl X "tuple":=by rfl)(hs:starEach [a] X.env=[(false,eval a X.env)]:=by rfl):FP X (.Call (.Name "tuple" p) [a] [] pos) (e1 yG fa):=
 fp_1 WB ha λta pa=>ym Zr hg hm (show bootBuiltins "tuple"=some (.type "tuple") by decide +kernel) (bU pa dN hs) (he:=hs) (hpl:=rfl)
end
section
variable{X:Cx}{af:List (Addr×Obj)}{σ:St}{H:Hp}{s:Shared}
def xC(N:List Str)(tO sc:Scope)(M:List Str)(js:List (Option Nat)):Bool:=
 (sc.kind == .function)&&sc.names.all (λy=>y.2 != .cell)&&sc.names.all (λy=>if y.2 == .local then sc.names.lookup y.1==some .local else true)&&nH N sc M js&&(frees sc).all (λx=>tO.names.lookup x==some .cell||tO.names.lookup x==some .free)&&decide M.Nodup
theorem Zy(h1:X.N=N)(h2:X.env.scope=tO)(h3:X.env.kindOf=λx=>tO.names.lookup x)(h:xC N tO sc M js=true):nG X M js sc:=by
 unfold xC at h;obtain⟨h,a6⟩:=(aaL _ _).mp h;obtain⟨h,a5⟩:=(aaL _ _).mp h;obtain⟨h,a4⟩:=(aaL _ _).mp h;obtain⟨h,a3⟩:=(aaL _ _).mp h;obtain⟨a1,a2⟩:=(aaL _ _).mp h;refine⟨?_,λy hy=>?_,λy hy hl=>?_,?_,λx hx=>?_,aa3 a6⟩
 .cases hk:sc.kind<;>rw[hk] at a1<;>first|rfl|exact absurd a1 (by decide)
 .have:=acA.mp a2 y hy;intro z;rw[z] at this;exact absurd this (by decide)
 .have:=acA.mp a3 y hy;rw[hl] at this;have this:=this;cases q:sc.names.lookup y.1 with
  |none=>rw[q] at this;exact absurd this (by decide)
  |some k=>rw[q] at this;cases k<;>first|rfl|exact absurd this (by decide)
 .rw[h1];exact a4
 .have:=acA.mp a5 x hx;rw[h3];dsimp only;cases q:tO.names.lookup x with
  |none=>rw[q] at this;exact absurd this (by decide)
  |some k=>rw[q] at this;cases k<;>first|exact .inl rfl|exact .inr rfl|exact absurd this (by decide)
end
section
variable{X:Cx}{pos:Pos}
def Mz(i:Nat)(fk fv:EF):SF:=λρ=>match fv ρ,ρ[i]?,fk ρ with
 |some (d,_),some (some (.lst ds,.own)),some (.int k,_)=>match iw ds.length k with
  |some j=>if(aG d&&aP ds)=true then some (.nx (bJ ρ i (.lst (ds.set j d)))) else none
  |none=>none
 |_,_,_=>none
theorem ay.HY{K:PySem.W.Frag}(rv:Rep K H d v []):∀{ds:List D}{xs:List V}{j:Nat},ay K H ds xs []->ay K H (ds.set j d) (xs.set j v) []
 |[],_,_,r=>by cases r;exact .nil
 |x::ds,xs,j,r=>by
  generalize hf:([]:List Addr)=fp at r;cases r with
  | @cons _ _ _ _ f1 f2 r1 r2=>
   obtain⟨z1,z2⟩:=adQ.mp hf.symm;subst z1 z2;cases j with
   |zero=>exact ay.cons (f1:=[]) (f2:=[]) rv r2
   |succ j=>exact ay.cons (f1:=[]) (f2:=[]) r1 (ay.HY rv r2)
theorem aap(i:Nat){x:Str}(hk:FP X k fk)(hv:FP X v fv)(va:VA X i x:=by walk_at "va")
  (ha:∀w,assign (.Subscript (.Name x p1) k pos') X.env w=(do
   let ov <- holding [w] (eval (.Name x p1) X.env)
   let iv <- holding [w,ov] (eval k X.env)
   standAt pos'
   holding [w,ov,iv] (setItem ov iv w)
   release [w,ov,iv] []):=by intro _;rfl)
  (hs:swapsWithSole [.Subscript (.Name x p1) k pos'] v pos.line X.env=pure false:=by rfl) (hw:swappedStores [.Subscript (.Name x p1) k pos'] v X.env=pure none:=by rfl) (h1:(assignEach [.Subscript (.Name x p1) k pos'] X.env).map (·.2)=[assign (.Subscript (.Name x p1) k pos') X.env]:=by rfl) :
  dU X (.Assign [.Subscript (.Name x p1) k pos'] v pos) (Mz i fk fv):=by
 obtain⟨tk,pk,sk⟩:=hk;obtain⟨tv,lu,sv⟩:=hv;exists 25,Vi lu (WC va.pe pk set_list ha) hs hw h1;unfold Mz at e
 split at e
 .rename_i d td ds kk tkk g1 g2 g3;exists hj,iw ds.length kk,j,e;dsimp only at e;obtain⟨hc,e⟩:=ci e;cases e;obtain⟨c1,c2⟩:=(aaL _ _).mp hc;refine sv ok g1 λH1 v PM s1 rv _=>?_
  obtain⟨xv,fp,ck,r,zz⟩:=(ok.same s1).sl i _ _ g2;refine⟨xv,ck,?_⟩;refine sk (ok.same s1) g3 λH2 y O2 s2 rk _=>?_
  cases rk;have r':=r.same s2;have gx:=(ok.same s1).same s2;cases r' with
  | @lst a xs _ f h rs=>
   have hn:=rs.aG c2;subst hn;have wZ:=rv.aG c1;subst wZ;refine⟨a,xs,kk,j,rfl,rfl,h,by rw[<- rs.length];exact hj,?_⟩;have im:aX H2 (upd H2 a (.lst (xs.set j v))):=aX.upd h rfl;refine q z σ _ (Ok.w6 gx g2 ck zz aax h rfl (.lst bT ?_)) (.refl _ _);exact ay.HY ((rv.same s2).frame (λa m=>nomatch m) im) (rs.frame (λa m=>nomatch m) im)
 .cases e
end
theorem cO.back(g:cO z H1 t fp)(s:aF H H1):cO z H t fp:=by
 cases t with
 |sh o=>exact g
 |own=>exact⟨g.1,λa m=>s.free (g.2 a m)⟩
 |lk=>exact⟨g.1,λa m=>s.free (g.2 a m)⟩
section
variable{X:Cx}{a b:Expr}{fa fb:EF}{pos:Pos}
noncomputable def jM(fa fb:EF):EF:=λρ=>match fa ρ with
 |some (.bl true,_)=>fb ρ
 |some (.bl false,_)=>some (.bl false,.own)
 |_=>none
noncomputable def oX(fa fb:EF):EF:=λρ=>match fa ρ with
 |some (.bl true,_)=>some (.bl true,.own)
 |some (.bl false,_)=>fb ρ
 |_=>none
noncomputable def A0:D->Option D
 |.bl b=>some (.bl (!b))
 |_=>none
theorem m7{op}(h:FP X a fa):FP X (.BoolOp op [a] pos) fa:=let⟨t,p,q⟩:=h;⟨t,O6 p,q⟩
theorem l9{rest:List Expr}(ha:FP X a fa)(hb:FP X (.BoolOp .And (b::rest) pos) fb):FP X (.BoolOp .And (a::b::rest) pos) (jM fa fb):=by
 obtain⟨t,p,q⟩:=ha;obtain⟨t',p',q'⟩:=hb;exists 21,aaw p p';unfold jM at e
 split at e
 .rename_i tt h;refine q ok h λH1 v fp s1 r1 _=>?_
  cases r1;refine⟨true,rfl,?_⟩;rw[if_pos rfl];exact q' (ok.same s1) e λH2 v fp s2 r2 g2=>k H2 v fp (s1.trans s2) r2 (g2.back s1)
 .rename_i tt h;cases e;refine q ok h λH1 v fp s1 r1 _=>?_
  cases r1;refine⟨false,rfl,?_⟩;rw[abf aaN];exact k H1 _ [] s1 (.bl _) .nil
 .cases e
theorem Dv{rest:List Expr}(ha:FP X a fa)(hb:FP X (.BoolOp .Or (b::rest) pos) fb):FP X (.BoolOp .Or (a::b::rest) pos) (oX fa fb):=by
 obtain⟨t,p,q⟩:=ha;obtain⟨t',p',q'⟩:=hb;exists 21,Jp p p';unfold oX at e
 split at e
 .rename_i tt h;cases e;refine q ok h λH1 v fp s1 r1 _=>?_
  cases r1;refine⟨true,rfl,?_⟩;rw[if_pos rfl];exact k H1 _ [] s1 (.bl _) .nil
 .rename_i tt h;refine q ok h λH1 v fp s1 r1 _=>?_
  cases r1;refine⟨false,rfl,?_⟩;rw[abf aaN];exact q' (ok.same s1) e λH2 v fp s2 r2 g2=>k H2 v fp (s1.trans s2) r2 (g2.back s1)
 .cases e
theorem Jj(ha:FP X a fa):FP X (.UnaryOp .Not a pos) (e1 A0 fa):=by
 obtain⟨t,p,q⟩:=ha;exists 21,V_ p;obtain⟨d1,t1,h1,h2,rfl⟩:=ng e;refine q ok h1 λH1 v fp s1 r1 _=>?_
 cases r1<;>cases h2
 exact⟨_,rfl,k H1 _ [] s1 (.bl _) .nil⟩
def gp:D->D->Option D
 |.lst ds,.lst es=>if(aP ds&&aP es&&decide (ds.length+es.length<=sizeLine))=true then some (.lst (ds++es)) else none
 |_,_=>none
theorem xA(ha:FP X a fa)(hb:FP X b fb):FP X (.BinOp a .Add b pos) (e2 gp fa fb):=by
 obtain⟨ta,pa,sa⟩:=ha;obtain⟨tb,pb,sb⟩:=hb;exists 20,wA aaV pa pb;obtain⟨d1,t1,d2,t2,e1,fY,e3,rfl⟩:=mJ e;refine sa ok e1 λH1 x f1 s1 r1 _=>?_
 refine sb (ok.same s1) fY λH2 y f2 s2 r2 _=>?_
 unfold gp at e3
 split at e3
 .rename_i ds es;obtain⟨hc,e3⟩:=ci e3;cases e3;obtain⟨c1,c3⟩:=(aaL _ _).mp hc;obtain⟨c1,c2⟩:=(aaL _ _).mp c1;have r1:=r1.same s2;cases r1 with
  | @lst p xs _ f h rs=>
   cases r2 with
   | @lst p' ys _ f' h' BB=>
    have n1:=rs.aG c1;have n2:=BB.aG c2;subst n1 n2;refine⟨p,p',xs,ys,rfl,rfl,h,h',by rw[<- rs.length,<- BB.length];exact aa3 c3,λl hl=>?_⟩;have s3:aF H2 (upd H2 l (.lst (xs++ys))):=λb o e=>by rw[aO (cC e hl)];exact e
    have rr:ay X.K H2 (ds++es) (xs++ys) []:=ay.append rs BB;refine q _ _ [l] ((s1.trans s2).trans s3) (.lst bT (rr.same s3)) ⟨abu.mpr ⟨(λm=>by cases m),abF⟩,λa m=>?_⟩;cases aaH.mp m;exact(s1.trans s2).free hl
 .cases e3
noncomputable def yZ:D->Option String
 |.int _=>some "int"
 |.bl _=>some "bool"
 |.str _=>some "str"
 |.aC=>some "NoneType"
 |.lst _=>some "list"
 |.bK _=>some "dict"
 |_=>none
def jK(T:String)(d:D):Option D:=match yZ d with
 |some t=>some (.bl (t==T||(t == "bool"&&T == "int")))
 |none=>none
def qV(T:String):Prop:=∀(K:PySem.W.Frag) (t:String),t∈["int","bool","str","NoneType","list","dict"]->PySem.W.kitOne K (.type t) (.type T)=some (t==T||(t == "bool"&&T == "int"))
theorem Jo:qV "int":=by
 intro K t m;simp only[aaM,acy,aeC] at m;rcases m with rfl|rfl|rfl|rfl|rfl|rfl<;>rfl
theorem Iu:qV "bool":=by
 intro K t m;simp only[aaM,acy,aeC] at m;rcases m with rfl|rfl|rfl|rfl|rfl|rfl<;>rfl
theorem II:qV "list":=by
 intro K t m;simp only[aaM,acy,aeC] at m;rcases m with rfl|rfl|rfl|rfl|rfl|rfl<;>rfl
theorem NF(T:String):eX X (.builtin "isinstance") (λxs H Q=>∃x t b,xs=[x,V.ty T]/\iX X.K H x t/\PySem.W.kitOne X.K t (.type T)=some b/\Q (.bl b) H):=by
 intro af s σ H xs us Q I r h;obtain⟨x,t,bb,rfl,ty,e,q⟩:=h;obtain⟨u,w',rfl,ru,dM⟩:=vals2 r;cases dM;exact acg I ru ty e λtk=>⟨.bl bb,H,I.tok tk,rfl,q⟩
theorem Rep.ty{K:PySem.W.Frag}{H:Hp}{d:D}{v:V}{fp:List Addr}{t:String}(r:Rep K H d v fp)(e:yZ d=some t):iX K H v (.type t)/\t∈["int","bool","str","NoneType","list","dict"]:=by
 cases r with
 |aC=>cases e;exact⟨.aC,by decide⟩
 |bl b=>cases e;exact⟨.bl b,by decide⟩
 |int i=>cases e;exact⟨.int i,by decide⟩
 |str x=>cases e;exact⟨.str x,by decide⟩
 |lst h _=>cases e;exact⟨.lst h,by decide⟩
 |bK h _ _=>cases e;exact⟨.dK h,by decide⟩
 |tup _ _=>cases e
 |z9 _ _=>cases e
 |eS _ _ _=>cases e
 |ins _ _ _ _=>cases e
 |exc _ _ _=>cases e
theorem pI{T:String}{x:Str}(hT:qV T)(hm:X.mg "isinstance"=none)(Hg:X.mg x=none)(ha:FP X a fa)(vY:bootBuiltins x=some (.type T):=by decide +kernel)(hg:Gl X "isinstance":=by rfl)(BI:Gl X x:=by rfl)(hn:x≠"__name__":=by decide)(eT:(x==("__debug__":Str))=false:=by decide)
  (hs:starEach [a,.Name x p2] X.env=[(false,eval a X.env),(false,eval (.Name x p2) X.env)]:=by rfl) (hpl:(backTo pos (starEach [.Name x p2] X.env)).any (·.1)=false:=by rfl):FP X (.Call (.Name "isinstance" p) [a,.Name x p2] [] pos) (e1 (jK T) fa):=by
 obtain⟨ta,pa,sa⟩:=ha;have bQ:starEach [.Name x p2] X.env=[(false,eval (.Name x p2) X.env)]:=rfl;exists 21,mY (NF T) hg hm (show bootBuiltins "isinstance"=some (.builtin "isinstance") by decide +kernel) (bU pa (bU (D7 (v:=.ty T) BI Hg vY rfl hn eT) dN) (by rw[hs,bQ])) (he:=by rw[hs,bQ]) (hpl:=hpl);obtain⟨d1,t1,h1,h2,rfl⟩:=ng e;refine sa ok h1 λH1 v fp s1 r1 _=>?_
 unfold jK at h2;exists ht,yZ d1,t,h2;cases h2;obtain⟨ty,mem⟩:=r1.ty ht;exact⟨v,_,_,rfl,ty,hT X.K t mem,k H1 _ [] s1 (.bl _) .nil⟩
end
end L2.Ev
namespace L2.Ev
open PySem
section
variable{ρ:aE}{fa fb fc:EF}{d d1 d2 d3:D}{t t1 t2 t3:Tag}{op3:D->D->D->Option D}{tf tg:TF}
noncomputable def Ct(fb:EF)(ρ:aE):Option (D×Tag)->Option (D×Tag)
 |some (.bl true,_)=>fb ρ
 |some (.bl false,_)=>some (.bl false,.own)
 |_=>none
theorem AO:jM fa fb ρ=Ct fb ρ (fa ρ):=by
 unfold jM Ct;cases fa ρ with
 |none=>rfl
 |some w=>obtain⟨d,t⟩:=w;cases d<;>first|rfl|(rename_i b;cases b<;>rfl)
theorem AL:Ct fb ρ (some (.bl true,t))=fb ρ:=rfl
theorem ada:iu d .aC=some (.bl (oq d)):=rfl
end
section
variable{g:GF}{t:Tag}{f:SF}
theorem D0(hi:it ρ=some (ds,t))(h:fj g (kK t) f ds (nB (m_ (lR t) ρ) ρ)=some (.nx ρ')):jF it g f ρ=some (.nx (qQ (m_ (lR t) ρ) ρ')):=by unfold jF;rw[hi];dsimp only;rw[h]
theorem ZM(hi:it ρ=some (ds,t))(h:fj g (kK t) f ds (nB (m_ (lR t) ρ) ρ)=some (.rt r)):jF it g f ρ=some (.rt r):=by unfold jF;rw[hi];dsimp only;rw[h]
theorem tu(hi:it ρ=some (ds,.own))(h:fj g (.sh []) f ds ρ=some (.nx ρ')):jF it g f ρ=some (.nx ρ'):=D0 hi h
theorem Jg(hi:it ρ=some (ds,.own))(h:fj g (.sh []) f ds ρ=some (.rt r)):jF it g f ρ=some (.rt r):=ZM hi h
theorem WO(h:e ρ=some (.int n,t))(hs:small n=true):lB e ρ=some ((List.range n.toNat).map λi:Nat=>D.int (0+(i:Int)),.own):=by unfold lB;rw[h];dsimp only;rw[if_pos hs]
theorem ow(h:e ρ=some (.lst ds,t)):jl e ρ=some (ds,t):=by unfold jl;rw[h]
theorem t9{k:D->Option D}(hi:it ρ=some (ds,t))(hl:ds.length<sizeLine)(h:∀d∈ds,iY g tt te (jC js ρ) d=some (k d)):
  gI js it g tt te ρ=some (.lst (ds.filterMap k),.own):=by unfold gI;rw[hi];dsimp only;rw[if_pos hl,LG h];rfl
theorem CW(h1:g d (.sh []) ρ=some aJ)(h2:tt aJ=some false):iY g tt te ρ d=some none:=by unfold iY;rw[h1];dsimp only;rw[h2]
theorem C6(h1:g d (.sh []) ρ=some aJ)(h2:tt aJ=some true)(h3:te aJ=some (e,.own)):iY g tt te ρ d=some (some e):=by unfold iY;rw[h1];dsimp only;rw[h2];dsimp only;rw[h3];rfl
theorem vq(h1:g d (.sh []) ρ=some aJ)(h2:tt aJ=some true)(h3:te aJ=some (e,tg))(hi:aG e=true):iY g tt te ρ d=some (some e):=by
 unfold iY;rw[h1];dsimp only;rw[h2];dsimp only;rw[h3];dsimp only
 by_cases ho:lM tg=true
 .rw[if_pos ho]
 .rw[abf ho,if_pos hi]
end
open PySem PySem.Spec PyProof.Rows
mutual
noncomputable def py:D->PyData
 |.bl b=>.bool b
 |.int i=>.int i
 |.str x=>.str x
 |.tup ds=>.tuple (eZ ds)
 |.lst ds=>.list (eZ ds)
 |.gW ds=>.list (eZ ds)
 |_=>.none
noncomputable def eZ:List D->List PyData
 |[]=>[]
 |d::ds=>py d::eZ ds
end
mutual
noncomputable def gY:D->Bool
 |.aC|.bl _|.int _|.str _=>true
 |.tup ds|.lst ds|.gW ds=>nE ds
 |_=>false
noncomputable def nE:List D->Bool
 |[]=>true
 |d::ds=>gY d&&nE ds
end
section
variable{X:Cx}{af:List (Addr×Obj)}{σ:St}{H:Hp}{s:Shared}
mutual
theorem nZ(I:Inv X af σ H s):∀{d:D}{v:V}{f:List Addr}{u:Value},Rep X.K H d v f->RelV v u->gY d=true->∃as,Reads s.heap u (py d) as
 |.aC,_,_,_,r,q,_=>by cases r;cases q;exact⟨_,by unfold py;exact .none⟩
 |.bl b,_,_,_,r,q,_=>by cases r;cases q;exact⟨_,by unfold py;exact .bool b⟩
 |.int i,_,_,_,r,q,_=>by cases r;obtain⟨t,rfl⟩:=q;exact⟨_,by unfold py;exact .int i t⟩
 |.str x,_,_,_,r,q,_=>by cases r;obtain⟨t,rfl⟩:=q;exact⟨_,by unfold py;exact .str x t⟩
 |.tup ds,_,_,_,r,q,e=>by
  obtain⟨a,xs,rfl,hq,rs⟩:=r.jx;cases q;obtain⟨us,v1,⟨o,h1,h2,n,h3⟩,_⟩:=I.tuple hq;obtain⟨as,ra⟩:=zI I rs v1 (by unfold gY at e;exact e);exact⟨_,by unfold py;exact .tuple h1 h2 h3 (by simpa using ra)⟩
 |.lst ds,_,_,_,r,q,e=>by
  obtain⟨a,xs,f,rfl,hq,rs,_⟩:=r.dg;cases q;obtain⟨us,v1,⟨o,n,h1,h2,_,h3⟩,_⟩:=I.list hq;obtain⟨as,ra⟩:=zI I rs v1 (by unfold gY at e;exact e);exact⟨_,by unfold py;exact .list h1 h2 h3 (by simpa using ra)⟩
 |.gW ds,_,_,_,r,q,e=>by
  obtain⟨a,xs,rfl,hq,rs⟩:=r.qS;cases q;obtain⟨us,v1,⟨o,n,h1,h2,_,h3⟩,_⟩:=I.list hq;obtain⟨as,ra⟩:=zI I rs v1 (by unfold gY at e;exact e);exact⟨_,by unfold py;exact .list h1 h2 h3 (by simpa using ra)⟩
 |.bK _,_,_,_,_,_,e=>by unfold gY at e;cases e
 |.eS _,_,_,_,_,_,e=>by unfold gY at e;cases e
 |.ins _ _,_,_,_,_,_,e=>by unfold gY at e;cases e
 |.exc _,_,_,_,_,_,e=>by unfold gY at e;cases e
theorem zI(I:Inv X af σ H s):∀{ds:List D}{xs:List V}{f:List Addr}{us:List Value},ay X.K H ds xs f->aK xs us->nE ds=true->∃as,ReadsAll s.heap us (eZ ds) as
 |[],_,_,_,r,q,_=>by cases r;cases q;exact⟨_,by unfold eZ;exact .nil⟩
 |d::ds,_,_,_,r,q,e=>by
  cases r with
  |cons r1 r2=>
   cases q with
   |cons q1 q2=>
    unfold nE at e;obtain⟨e1,e2⟩:=(aaL _ _).mp e;obtain⟨as,h1⟩:=nZ I r1 q1 e1;obtain⟨bs,h2⟩:=zI I r2 q2 e2;exact⟨_,by unfold eZ;exact .cons h1 h2⟩
end
end
noncomputable def sI(r:List Int):D:=.tup (r.map D.int)
def c8(rs:List (List Int)):List D:=rs.map sI
theorem CS:∀r:List Int,eZ (r.map D.int)=r.map PyData.int
 |[]=>rfl
 |i::r=>by rw[aaF,aaF];unfold eZ;rw[CS r];unfold py;rfl
theorem GQ:∀r:List Int,nE (r.map D.int)=true
 |[]=>rfl
 |i::r=>by rw[aaF];unfold nE;rw[GQ r];rfl
theorem depthAll_ints:∀r:List Int,PyData.depthAll (r.map PyData.int)=0
 |[]=>rfl
 |i::r=>by rw[aaF];simp only[PyData.depthAll,PyData.depth,depthAll_ints r];rfl
noncomputable def jJ(r:List Int):PyData:=.tuple (r.map PyData.int)
theorem Wb(r:List Int):py (sI r)=jJ r:=by unfold sI jJ;unfold py;rw[CS]
theorem BV:∀rs:List (List Int),eZ (c8 rs)=rs.map jJ
 |[]=>rfl
 |r::rs=>by
  show eZ (sI r::c8 rs)=jJ r::rs.map jJ;unfold eZ;rw[Wb,BV rs]
theorem Nb:∀rs:List (List Int),nE (c8 rs)=true
 |[]=>rfl
 |r::rs=>by
  show nE (sI r::c8 rs)=true;unfold nE;rw[Nb rs,Bool.and_true];unfold sI gY;exact GQ r
def eE(d:D):Bool:=gY d&&(py d).canLay0&&decide ((py d).depth<=40)
def Fe(d1 d2:D):Option D:=if(eE d1&&eE d2)=true then some (.bl (PyData.eqv (py d1) (py d2))) else none
def mL(d1 d2:D):Option D:=if(eE d1&&eE d2)=true then some (.bl (!PyData.eqv (py d1) (py d2))) else none
def z8(K:PySem.W.Frag)(neg:Bool):R2:=λx y H Q=>∃d1 d2 f1 f2,Rep K H d1 x f1/\Rep K H d2 y f2/\eE d1=true/\eE d2=true/\Q (.bl (if neg=true then !PyData.eqv (py d1) (py d2) else PyData.eqv (py d1) (py d2))) H
section
variable{X:Cx}{a b:Expr}{fa fb:EF}{pos:Pos}
theorem lay_of(h:eE d=true):gY d=true/\(py d).canLay0=true/\(py d).depth<=40:=by
 unfold eE at h;obtain⟨h,h3⟩:=(aaL _ _).mp h;obtain⟨h1,h2⟩:=(aaL _ _).mp h;exact⟨h1,h2,aa3 h3⟩
theorem Jf(hu:X.A.units+64<cLine):cY X (compareOp .NotEq) (z8 X.K true):=by
 intro af s σ H x y v u Q I rx ry h;obtain⟨d1,d2,f1,f2,r1,r2,l1,l2,q⟩:=h;obtain⟨a1,a2,a3⟩:=lay_of l1;obtain⟨b1,b2,b3⟩:=lay_of l2;obtain⟨as,ra⟩:=nZ I r1 rx a1;obtain⟨bs,rb⟩:=nZ I r2 ry b1;exact SeqAt.compareNe_reads ra rb a2 b2 (by omega) ⟨.bl _,H,I,rfl,q⟩
theorem adO(hu:X.A.units+64<cLine):cY X (compareOp .Eq) (z8 X.K false):=by
 intro af s σ H x y v u Q I rx ry h;obtain⟨d1,d2,f1,f2,r1,r2,l1,l2,q⟩:=h;obtain⟨a1,a2,a3⟩:=lay_of l1;obtain⟨b1,b2,b3⟩:=lay_of l2;obtain⟨as,ra⟩:=nZ I r1 rx a1;obtain⟨bs,rb⟩:=nZ I r2 ry b1;exact SeqAt.compareEq_reads ra rb a2 b2 (by omega) ⟨.bl _,H,I,rfl,q⟩
theorem IW{K:PySem.W.Frag}:fm K (z8 K true) mL:=by
 intro H x y d1 d2 f1 f2 d Q r1 r2 e k;unfold mL at e;obtain⟨hc,e⟩:=ci e;cases e;obtain⟨c1,c2⟩:=(aaL _ _).mp hc;exact⟨d1,d2,f1,f2,r1,r2,c1,c2,k H _ (aF.refl H) (.bl _)⟩
theorem adD{K:PySem.W.Frag}:fm K (z8 K false) Fe:=by
 intro H x y d1 d2 f1 f2 d Q r1 r2 e k;unfold Fe at e;obtain⟨hc,e⟩:=ci e;cases e;obtain⟨c1,c2⟩:=(aaL _ _).mp hc;exact⟨d1,d2,f1,f2,r1,r2,c1,c2,k H _ (aF.refl H) (.bl _)⟩
theorem CZ(hu:X.A.units+64<cLine)(ha:FP X a fa)(hb:FP X b fb):FT X (.Compare a [.NotEq] [b] pos) (tV (e2 mL fa fb)):=i0 (Jf hu) IW ha hb (iV _)
theorem aa9(hu:X.A.units+64<cLine)(ha:FP X a fa)(hb:FP X b fb):FP X (.Compare a [.NotEq] [b] pos) (e2 mL fa fb):=mH (Jf hu) IW ha hb (iV _)
theorem abT(hu:X.A.units+64<cLine)(ha:FP X a fa)(hb:FP X b fb):FP X (.Compare a [.Eq] [b] pos) (e2 Fe fa fb):=mH (adO hu) adD ha hb (iV _)
end
theorem CB:∀r:List Int,PyData.canLayAll0 (r.map PyData.int)=true
 |[]=>rfl
 |i::r=>by rw[aaF];simp only[PyData.canLayAll0,PyData.canLay0,CB r,aeq]
theorem J4:∀rs:List (List Int),PyData.canLayAll0 (rs.map jJ)=true/\PyData.depthAll (rs.map jJ)<=1
 |[]=>⟨rfl,by simp[PyData.depthAll]⟩
 |r::rs=>by
  obtain⟨h1,h2⟩:=J4 rs;rw[aaF];refine⟨by simp only[PyData.canLayAll0,jJ,PyData.canLay0,h1,Bool.and_true];exact CB r,?_⟩;simp only[PyData.depthAll,jJ,PyData.depth,depthAll_ints r];omega
theorem Sl(rs:List (List Int)):eE (.lst (c8 rs))=true:=by
 obtain⟨h1,h2⟩:=J4 rs;have e:py (.lst (c8 rs))=.list (rs.map jJ):=by unfold py;rw[BV]
 unfold eE;rw[e];have a1:gY (.lst (c8 rs))=true:=by unfold gY;exact Nb rs
 have a2:(PyData.list (rs.map jJ)).canLay0=true:=by simp only[PyData.canLay0];exact h1
 have a3:(PyData.list (rs.map jJ)).depth<=40:=by simp only[PyData.depth];omega
 rw[a1,a2,aa1 a3];rfl
end L2.Ev
namespace L2.Ev
open PySem PySem.Spec PyProof.Rows
theorem Lv:qV "tuple":=by
 intro K t m;simp only[aaM,acy,aeC] at m;rcases m with rfl|rfl|rfl|rfl|rfl|rfl<;>rfl
theorem OD:qV "str":=by
 intro K t m;simp only[aaM,acy,aeC] at m;rcases m with rfl|rfl|rfl|rfl|rfl|rfl<;>rfl
section
variable{X:Cx}{a b c:Expr}{fa fb:EF}{tc:TF}{pos:Pos}
noncomputable def mX(t:TF)(fa fb:EF):EF:=λρ=>match t ρ with
 |some true=>fa ρ
 |some false=>fb ρ
 |none=>none
theorem Pb(hc:FT X c tc)(ha:FP X a fa)(hb:FP X b fb):FP X (.IfExp c a b pos) (mX tc fa fb):=by
 obtain⟨t,p,q⟩:=hc;obtain⟨t1,p1,q1⟩:=ha;obtain⟨t2,p2,q2⟩:=hb;exists 21,Y_ p p1 p2;unfold mX at e;exists h,tc ρ,y,e;refine q ok h λH1 s1=>?_
 cases y with
 |true=>rw[if_pos rfl];exact q1 (ok.same s1) e λH2 v fp s2 r2 g2=>k H2 v fp (s1.trans s2) r2 (g2.back s1)
 |false=>rw[abf aaN];exact q2 (ok.same s1) e λH2 v fp s2 r2 g2=>k H2 v fp (s1.trans s2) r2 (g2.back s1)
theorem HH(h:tc ρ=some true):mX tc fa fb ρ=fa ρ:=by unfold mX;rw[h]
theorem Ih(h:tc ρ=some false):mX tc fa fb ρ=fb ρ:=by unfold mX;rw[h]
noncomputable def Fv(_ j:Int):Bool:=decide (0<j)&&decide (j<1073741824)
def oDiv:=Dw Fv λi j=>i / j
theorem ZY(ha:FP X a fa)(hb:FP X b fb):FP X (.BinOp a .FloorDiv b pos) (e2 oDiv fa fb):=Cw ac9 (aa5 λi j h=>by
 obtain⟨h1,h2⟩:=(aaL _ _).mp h;exact⟨aa3 h1,aa3 h2⟩) ha hb
theorem WU(h:0<n)(h2:n<1073741824):oDiv (.int m) (.int n)=some (.int (m / n)):=by
 show(if Fv m n=true then some (D.int (m / n)) else none)=_;rw[if_pos (by unfold Fv;rw[aa1 h,aa1 h2];rfl)]
def iP(neg:Bool):D->D->Option D
 |.int i,.lst ds=>(dB ds).map λns=>.bl (if neg=true then !(ns.any (· == i)) else ns.any (· == i))
 |_,_=>none
theorem adu(i:Int)(ns:List Int):sL (.int i) (ns.map V.int)=ns.any (· == i):=by
 unfold sL;rw[ae9];rfl
theorem aam(ns:List Int):(ns.map V.int).all mj=true:=by
 rw[afa];exact acA.mpr λ_ _=>rfl
theorem BF{K:PySem.W.Frag}:fm K (AQ K neg) (iP neg):=by
 intro H x y d1 d2 f1 f2 d Q r1 r2 e k;cases d1 with
 |int i=>
  cases d2 with
  |lst ds=>
   have e:((dB ds).map λns=>D.bl (if neg=true then !(ns.any (· == i)) else ns.any (· == i)))=some d:=e;exists h,dB ds,ns,e;cases e;obtain⟨p,xs,f,rfl,hq,rs,_⟩:=r2.dg;cases r1;have ex:=pP rs h;subst ex;refine⟨p,_,rfl,.inl hq,rfl,aam ns,?_⟩;rw[adu];exact k H _ (aF.refl H) (.bl _)
  |_=>cases e
 |_=>cases e
theorem O3(ha:FP X a fa)(hb:FP X b fb)(hm:behindInMarks .In b=false:=by rfl):FT X (.Compare a [.In] [b] pos) (tV (e2 (iP false) fa fb)):=i0 JP BF ha hb hm
theorem Vy(ha:FP X a fa)(hb:FP X b fb)(hm:behindInMarks .NotIn b=false:=by rfl):FT X (.Compare a [.NotIn] [b] pos) (tV (e2 (iP true) fa fb)):=i0 BJ BF ha hb hm
theorem Of(ha:FP X a fa)(hb:FP X b fb)(hm:behindInMarks .NotIn b=false:=by rfl):FP X (.Compare a [.NotIn] [b] pos) (e2 (iP true) fa fb):=mH BJ BF ha hb hm
theorem FO{neg:Bool}{i:Int}{ns:List Int}:iP neg (.int i) (.lst (ns.map D.int))=some (.bl (if neg=true then !(ns.any (· == i)) else ns.any (· == i))):=by
 show((dB (ns.map D.int)).map _)=_;rw[uc];rfl
def lT(i:Nat)(fv:EF):SF:=λρ=>match fv ρ,ρ[i]? with
 |some (d,_),some (some (.lst ds,.own))=>if(aG d&&aP ds&&decide (ds.length<sizeLine))=true then some (.nx (bJ ρ i (.lst (ds++[d])))) else none
 |_,_=>none
theorem Eo(i:Nat){x:Str}(hv:FP X a fv)(va:VA X i x:=by walk_at "va")(hs:starEach [a] X.env=[(false,eval a X.env)]:=by rfl)
  (i_:attributeBase (.Name x p1) "append" X.env (eval (.Name x p1) X.env)=eval (.Name x p1) X.env:=by rfl)
  (jT:((backTo p3 (starEach [a] X.env)).all (λx=>!x.1)&&(backToKw p3 (keywordEach [] X.env)).all (λx=>x.1.isSome)&&decide ([a].length+([]:List Keyword).length+(if([]:List Keyword).isEmpty then 0 else 1)<30))=true:=by rfl)
  (jb:(p2.endLine==p3.line)=true:=by rfl) (jX:swapsWith (.Call (.Attribute (.Name x p1) "append" p2) [a] [] p3) none pos.line X.env=pure false:=by rfl) :
  dU X (.Expr (.Call (.Attribute (.Name x p1) "append" p2) [a] [] p3) pos) (lT i fv):=by
 obtain⟨tv,lu,sv⟩:=hv;exists 25,zU (sX PySem.F.plainAttrs_list PySem.F.slot_list_append PySem.F.type_list_append Fi va.pe (bU lu dN hs) i_ jT jb hs rfl) jX;unfold lT at e
 split at e
 .rename_i d td ds g1 g2;obtain⟨hc,e⟩:=ci e;cases e;obtain⟨c1,c3⟩:=(aaL _ _).mp hc;obtain⟨c1,c2⟩:=(aaL _ _).mp c1;obtain⟨xv,fp,ck,r,zz⟩:=ok.sl i _ _ g2;refine⟨xv,ck,?_⟩;obtain⟨l,xs,f,rfl,hq,_,_⟩:=r.dg;refine⟨.inl ⟨rfl,_,hq⟩,?_⟩;refine sv ok g1 λH1 v PM s1 rv _=>?_
  have r':=r.same s1;have bq:=ok.same s1;generalize hw:(V.ref l)=w at r' ck;cases r' with
  | @lst a' ys _ f' h rs=>
   cases hw;have hn:=rs.aG c2;subst hn;have wZ:=rv.aG c1;subst wZ;refine⟨_,ys,v,rfl,rfl,h,by rw[<- rs.length];exact aa3 c3,?_⟩;have im:aX H1 (upd H1 l (.lst (ys++[v]))):=aX.upd h rfl;refine q z σ _ (Ok.w6 bq g2 ck zz aax h rfl (.lst bT ?_)) (.refl _ _);exact ay.append (rs.frame (λa m=>nomatch m) im) (ay.cons (f1:=[]) (f2:=[]) (rv.frame (λa m=>nomatch m) im) .nil)
 .cases e
theorem Cq(h1:fv ρ=some (.int n,t1))(h2:ρ[i]? = some (some (.lst (ns.map D.int),.own)))(hl:ns.length<sizeLine):
  lT i fv ρ=some (.nx (bJ ρ i (.lst ((ns++[n]).map D.int)))):=by
 unfold lT;rw[h1,h2];dsimp only;have Cy:∀ns:List Int,aP (ns.map D.int)=true:=λns=>by
  induction ns with
  |nil=>rfl
  |cons n r ih=>rw[aaF];unfold aP;rw[ih];rfl
 rw[if_pos (by rw[Cy,aaf,aa1 hl];rfl),ad5];rfl
def cutD(ds:List D)(lo hi:Option Int):List D:=(ds.drop (HT.fT ds.length 0 lo)).take (HT.fT ds.length ds.length hi-HT.fT ds.length 0 lo)
def oG(lo hi:Option Int):D->Option D
 |.lst ds=>if aP ds=true then some (.lst (cutD ds lo hi)) else none
 |.gW ds=>if aP ds=true then some (.lst (cutD ds lo hi)) else none
 |_=>none
theorem ay.zJ{K:PySem.W.Frag}:∀{ds:List D}{xs:List V} (n:Nat),ay K H ds xs []->ay K H (ds.drop n) (xs.drop n) []
 |ds,xs,0,r=>r
 |[],_,n+1,r=>by cases r;exact .nil
 |d::ds,xs,n+1,r=>by
  generalize hf:([]:List Addr)=fp at r;cases r with
  | @cons _ _ _ _ f1 f2 r1 r2=>
   obtain⟨z1,z2⟩:=adQ.mp hf.symm;subst z1 z2;exact ay.zJ n r2
theorem ay.zZ{K:PySem.W.Frag}:∀{ds:List D}{xs:List V} (n:Nat),ay K H ds xs []->ay K H (ds.take n) (xs.take n) []
 |ds,xs,0,r=>.nil
 |[],_,n+1,r=>by cases r;exact .nil
 |d::ds,xs,n+1,r=>by
  generalize hf:([]:List Addr)=fp at r;cases r with
  | @cons _ _ _ _ f1 f2 r1 r2=>
   obtain⟨z1,z2⟩:=adQ.mp hf.symm;subst z1 z2;exact ay.cons (f1:=[]) (f2:=[]) r1 (ay.zZ n r2)
def yV(X:Cx)(e:Option Expr)(v:Option Int):Prop:=∃t,PO X e t/\∀σ H Q,Q v H->t σ H Q
theorem FL:yV X none none:=⟨_,BX,λ_ _ _ q=>q⟩
theorem CN{i:Int}{j p}:yV X (some (.Constant (.int i) j p)) (some i):=⟨_,FF Hx,λ_ _ _ q=>⟨i,rfl,q⟩⟩
theorem Dg{lo hi:Option Expr}{l h:Option Int}{p2:Pos}(hl:yV X lo l)(hh:yV X hi h)(ha:FP X a fa):FP X (.Subscript a (.Slice lo hi none p2) pos) (e1 (oG l h) fa):=by
 obtain⟨t,p,q⟩:=ha;obtain⟨tl,pl,ql⟩:=hl;obtain⟨th,ph,qh⟩:=hh;exists 21,E8 EZ p pl ph;obtain⟨d1,t1,g1,g2,rfl⟩:=ng e;refine q ok g1 λH1 x f1 s1 r1 _=>?_
 refine ql σ H1 _ (qh σ H1 _ ?_);have fin:∀{ds:List D}{xs:List V}{f:List Addr}{w:Addr},ay X.K H1 ds xs f->bS X.K H1 w xs->(if aP ds=true then some (D.lst (cutD ds l h)) else none)=some d->PF X.K (.ref w) l h H1 Q:=λ{ds xs f w} rs hq e=>by
  obtain⟨hi,e⟩:=ci e;cases e;have hn:=rs.aG hi;subst hn;refine⟨w,xs,rfl,hq,λp hp=>?_⟩;have s2:aF H1 (upd H1 p (.lst (kg xs l h))):=λb o e=>by rw[aO (cC e hp)];exact e
  have rr:ay X.K H1 (cutD ds l h) (kg xs l h) []:=by
   unfold cutD kg;rw[rs.length];exact ay.zZ _ (ay.zJ _ rs)
  refine k _ _ [p] (s1.trans s2) (.lst bT (rr.same s2)) ⟨abu.mpr ⟨(λm=>by cases m),abF⟩,λa m=>?_⟩;cases aaH.mp m;exact s1.free hp
 cases d1 with
 |lst ds=>
  obtain⟨w,xs,f,rfl,hq,rs,_⟩:=r1.dg;exact fin rs hq g2
 |gW ds=>
  obtain⟨w,xs,rfl,hq,rs⟩:=r1.qS;exact fin rs hq g2
 |_=>cases g2
end
end L2.Ev
namespace L2
open PySem PySem.Spec PyProof.Rows
namespace Rv
theorem slot_next:Slot "list_reverseiterator" "__next__" "list_reverseiterator.__next__":=.of (owner:="list_reverseiterator") (n:="__next__") (by rw[aev,ads];kernel_rfl) (by decide +kernel) (by decide +kernel) (by decide +kernel) (by first|exact .inl (by decide +kernel)|exact .inr (by decide +kernel)) (by rw[ae3];kernel_rfl)
theorem P5:Slot "list_reverseiterator" "__iter__" "list_reverseiterator.__iter__":=.of (owner:="list_reverseiterator") (n:="__iter__") (by rw[aev,ads];kernel_rfl) (by decide +kernel) (by decide +kernel) (by decide +kernel) (by first|exact .inl (by decide +kernel)|exact .inr (by decide +kernel)) (by rw[ae3];kernel_rfl)
theorem entry_next:entryFor table "list_reverseiterator.__next__"=some Builtin.«list_reverseiterator.__next__»:=entryFor_of_tree (by kernel_rfl)
theorem SV:entryFor table "list_reverseiterator.__iter__"=some Builtin.«dict_keyiterator.__iter__»:=entryFor_alias (id':="dict_keyiterator.__iter__") (by kernel_rfl) rfl (by decide +kernel) (by kernel_rfl)
theorem args_next(a:Value):argsOk "list_reverseiterator.__next__" ⟨[a],[]⟩:=by unfold argsOk;kernel_rfl
theorem S6(a:Value):argsOk "list_reverseiterator.__iter__" ⟨[a],[]⟩:=by unfold argsOk;kernel_rfl
theorem Xf:typeLookup (.type "list_reverseiterator") "__len__"=pure none:=by rw[aev,ads];kernel_rfl
theorem acF:typeLookup (.type "list_reverseiterator") "__length_hint__"=pure (some (.builtin "list_reverseiterator.__length_hint__")):=by rw[aev,ads];kernel_rfl
noncomputable abbrev m9(h:Heap)(it l:Addr)(i:Int):Prop:=h.get? it=some { cls:=.type "list_reverseiterator",data:=.fields #[.ref l,rawInt i] }
section
variable{prog:Program}{w:World}{A:Around}{E:Value->Shared->Prop}{s:Shared}{it l:Addr}{items:Array Value}
theorem next_item{i:Nat}(h1:m9 s.heap it l i)(hl:s.heap.IsList l items)(hx:items[i]? = some x)
  (hQ:∀h',m9 h' it l ((i:Int)-1)->Heap.SameBut it s.heap h'->Q (some x) { s with heap:=h' }):wpAny (model prog w) A (pyNext (.ref it)) Q E s:=by
 obtain⟨ol,Vm,_,nl,UP⟩:=hl;have ty:s.TypeIs (.ref it) "list_reverseiterator":=⟨_,h1,rfl⟩
 unfold pyNext;refine aan (afb (wpAny_callSpecial?_slot (name:=Str.ofString "__next__") ty slot_next (ae6 slot_next ty entry_next ?_ (args_next _))));show wpAny _ _ (field (.ref it) 1 >>= λv=>_) _ _ s;refine aan (afg h1 rfl rfl ?_);show wpAny _ _ (if((i:Int)<0) then _ else _) _ _ s;rw[abf (by omega)];refine aan (afg h1 rfl rfl ?_);refine aan (wpAny_seqItems Vm UP ?_);simp only[afj,hx];refine aan (wpAny_setField_rec h1 (by simp) λh' e1 sb=>abg ⟨x,rfl,abg (hQ h' ?_ sb)⟩);exact e1
theorem next_end(hh:A.handled=none)(h1:m9 s.heap it l (-1))(hQ:∀h',Heap.ExtBut it s.heap h'->Q none { s with heap:=h' }):wpAny (model prog w) A (pyNext (.ref it)) Q E s:=by
 have ty:s.TypeIs (.ref it) "list_reverseiterator":=⟨_,h1,rfl⟩
 unfold pyNext;refine aan (afb (wpAny_callSpecial?_slot (name:=Str.ofString "__next__") ty slot_next (ae6 slot_next ty entry_next ?_ (args_next _))));show wpAny _ _ (field (.ref it) 1 >>= λv=>_) _ _ s;refine aan (afg h1 rfl rfl ?_);show wpAny _ _ (if((-1:Int)<0) then _ else _) _ _ s;rw[if_pos (by omega)];refine aan (afh ?_);refine aan ?_;unfold Builtin.SmallTypes.stopIteration;refine aan ?_;unfold newExc newTuple;refine aan (aeb ?_ (by size_fits));refine aan (wpAny_of_eq (by first|(simp only[firstArgMember];rfl)|rfl) ?_);refine aeb ?_ (by size_fits);unfold raiseNew;refine aan (wpAny_handled ?_);have yu:=hh;rw[yu];refine aan (abg (wpAny_throw ?_));refine aan (ae7 (T:="StopIteration") ⟨_,aa6 _ rfl,rfl⟩ isSubtype_stop (abg (hQ _ ?_)));exact λb o _ e=>aab _ (aab _ e)
theorem walks(hh:A.handled=none)(rV:l≠it):Walks prog w A it [it,l] [it] items.size (λi v=>items[items.size-1-i]? = some v) (λi h=>m9 h it l ((items.size:Int)-1-(i:Nat))/\h.IsList l items) where
 sub:=λb hb=>by simp at hb;simp[hb]
 frame:=λ_ _ _ st hk=>⟨hk it (by simp) _ st.1,st.2.at λo e=>hk l (by simp) o e⟩
 item:=λi s Q E hi st hQ=>by
  have e1:m9 s.heap it l ((items.size-1-i:Nat):Int):=by
   have:=st.1;rw[show((items.size-1-i:Nat):Int)=(items.size:Int)-1-(i:Nat) by omega];exact this
  have hx:items[items.size-1-i]? = some items[items.size-1-i]:=by simp
  refine next_item e1 st.2 hx λh' r' sb=>hQ _ h' s.toks hx ⟨?_,st.2.extBut sb.extBut rV⟩ λb o hb e=>sb.extBut b o (λz=>hb (by simp[z])) e
  have:=r';rw[show((items.size-1-i:Nat):Int)-1=(items.size:Int)-1-((i+1:Nat):Int) by omega] at this;exact this
 done:=λs Q E st hQ=>by
  have e1:m9 s.heap it l (-1):=by
   have:=st.1;rw[show(items.size:Int)-1-((items.size:Nat):Int)=-1 by omega] at this;exact this
  exact next_end hh e1 λh' eb=>hQ h' s.toks λb o hb e=>eb b o (λz=>hb (by simp[z])) e
 self:=λi s Q E st hQ=>by
  have ty:s.TypeIs (.ref it) "list_reverseiterator":=⟨_,st.1,rfl⟩
  refine wpAny_pyIter_slot ty P5 (ae6 P5 ty SV ?_ (S6 _));exact abg ⟨_,rfl,"list_reverseiterator",_,ty,slot_next.lookup,hQ⟩
theorem hint{Q:Bool->Shared->Prop}(h1:m9 s.heap it l i)(h:Q false s):wpAny (model prog w) A (Builtin.List.listLengthHint (.ref it)) Q E s:=by
 have ty:s.TypeIs (.ref it) "list_reverseiterator":=⟨_,h1,rfl⟩
 unfold Builtin.List.listLengthHint;refine aan (afe ty Xf ?_);refine aan (afe ty acF ?_);generalize qY:("list_reverseiterator.__length_hint__":String)=wV
 (fail_if_success (clear qY wV))
 wp_delta
 rw[show splitId wV=some ("list_reverseiterator","__length_hint__") from by subst qY;decide +kernel];subst qY;refine aan (ae7 (b:=true) ty (by rw[ae3];kernel_rfl) ?_);refine aeX (λz=>absurd z (by decide)) λ_=>?_
 refine aeX (λ_=>?_) λz=>absurd (by decide +kernel) z
 exact aeX (λz=>absurd z (by decide +kernel)) λ_=>abg h
theorem extend{R:Result->Shared->Prop}(hh:A.handled=none)(h1:m9 s.heap it l ((items.size:Int)-1))(hl:s.heap.IsList l items)(rV:l≠it)(hz:items.size<=sizeLine)(S:Addr)(R8:S≠l)(Ie:S≠it)(res:Value)(c₀:Nat)(hS:s.heap.get? S=some { cls:=.type "list",data:=.seq #[] c₀ })
  (hR:∀h' tk j9 c',(∀b o,b≠S->b≠it->s.heap.get? b=some o->h'.get? b=some o)->h'.get? S=some { cls:=.type "list",dict:=none,data:=.seq j9 c',slots:=#[] }->ItemsOf (λi v=>items[items.size-1-i]? = some v) j9 items.size->R (.ok (.ret res)) { s with heap:=h',toks:=tk }) :
  wpAny (model prog w) A.in1 (Builtin.List.listExtendWith (.ref S) (.ref it) res) (λfin s'=>match fin with|.done f=>R (.ok f) s'|.again c'=>c'.quiet=true/\codeAny (model prog w) A c' R s') (λe s'=>R (.error e) s') s:=by
 have ty:s.TypeIs (.ref it) "list_reverseiterator":=⟨_,h1,rfl⟩
 have W:=walks (prog:=prog) (w:=w) (A:=A.in1) (items:=items) hh rV;have st:m9 s.heap it l ((items.size:Int)-1-((0:Nat):Int))/\s.heap.IsList l items:=⟨by simpa using h1,hl⟩
 unfold Builtin.List.listExtendWith;refine aan (wpAny_typeOf ty ?_);have q1:Builtin.List.listSameRef (.ref S) (.ref it)=false:=by simp[Builtin.List.listSameRef,Ie]
 have q2:(Value.type "list_reverseiterator" == Value.type "list")=false:=by decide
 have q3:(Value.type "list_reverseiterator" == Value.type "tuple")=false:=by decide
 simp only[q1,q2,q3,Bool.or_self,aeU,if_false];refine aan (W.self 0 s _ _ st ?_);refine aan (ad7 (hint h1 ?_));refine aeX (λz=>absurd z (by decide +kernel)) λ_=>abg ⟨aeZ F.plain_extend_loop _,?_⟩
 refine codeAny_extend_loopS W.toS hz S (λm=>?_) res items.size 0 s #[] c₀ rfl (aeh _) st hS (ItemsOf.nil _) λs' j9 c' hm kB iy=>?_
 .rcases aaM.mp m with z|z
  .exact Ie z
  .exact R8 (aaH.mp z)
 .rw[Moved.eq_with hm];refine hR s'.heap s'.toks j9 c' (λb o hb hi e=>hm.heap b o (λz=>?_) e) kB iy;rcases aaM.mp z with z|z
  .exact hb z
  .exact hi (aaH.mp z)
theorem Rj(hh:A.handled=none)(h1:m9 s.heap it l ((items.size:Int)-1))(hl:s.heap.IsList l items)(rV:l≠it)(hz:items.size<=sizeLine)
  (hQ:∀h' tk j9 c',(∀b o,b≠it->s.heap.get? b=some o->h'.get? b=some o)->h'.get? s.heap.objs.size=some { cls:=.type "list",dict:=none,data:=.seq j9 c',slots:=#[] }->ItemsOf (λi v=>items[items.size-1-i]? = some v) j9 items.size->Q (.ref s.heap.objs.size) { s with heap:=h',toks:=tk }) :
  wpAny (model prog w) A (call (.type "list") [.ref it]) Q E s:=by
 have li:=aaZ h1;have ll:=let⟨o,e,_⟩:=hl;aaZ e
 refine callType_codes (Q₁:=λobj bE=>obj=.ref s.heap.objs.size/\bE={ s with heap:=s.heap.push { cls:=.type "list",data:=.seq #[] } }) F.called_list (F.typeCall_list_1 _) F.entry_list_init (code_list_new _ ⟨rfl,rfl⟩) λobj bE g=>?_
 obtain⟨rfl,rfl⟩:=g;have hS:(s.heap.push { cls:=.type "list",data:=.seq #[] }).get? s.heap.objs.size=some { cls:=.type "list",data:=.seq #[] }:=aa6 _ rfl;refine⟨⟨_,hS,rfl⟩,F.args_list_init_2 _ _,?_⟩;refine aan ?_;unfold Builtin.List.listItems;refine aan (wpAny_seqItems hS rfl (abg ?_));refine aan ?_;refine wpAny_updateSeq hS rfl ?_;have Uy:=aeF (Obj.mapSeq (λ_=>(#[]:Array Value))) hS rfl;have old:∀b o,s.heap.get? b=some o->((s.heap.push { cls:=.type "list",data:=.seq #[] }).update s.heap.objs.size (Obj.mapSeq (λ_=>(#[]:Array Value)))).get? b=some o:=λb o e=>
  (ad8 _ _ (aes (aaZ e))).trans (aab _ e)
 refine aan (wpAny_letGo ?_);refine extend (A:=A.in1) hh (old _ _ h1) (hl.at λo e=>old _ _ e) rV hz _ (aes ll) (aes li) .none _ Uy λh' tk j9 c' hk kB iy=>?_
 exact⟨rfl,hQ h' tk j9 c' (λb o hb e=>hk b o (abn (aaZ e)) hb (old b o e)) kB iy⟩
end
end Rv
namespace Rv
theorem OT:isSubtype (.type "reversed") (.type "reversed")=pure true:=by rw[ae3];kernel_rfl
theorem S_:typeLookup (.type "list") "__reversed__"=pure (some (.builtin "list.__reversed__")):=by rw[aev,ads];kernel_rfl
theorem Rr(l:Addr)(items:Array Value)(n:Nat):Meets (Builtin.«reversed.__new__» ⟨[.type "reversed",.ref l],[]⟩) (λ_ R s=>s.heap.get? l=some { cls:=.type "list",data:=.seq items n }/\
  R (.ok (.ret (.ref s.heap.objs.size))) { s with heap:=s.heap.push { cls:=.type "list_reverseiterator",data:=.fields #[.ref l,rawInt ((items.size:Int)-1)] } }):=.of_wp λprog w A R s h=>by
 obtain⟨hp,g,d,tk,os⟩:=s;obtain⟨hl,h⟩:=h;have yq:=OT;have ty:Shared.TypeIs ⟨hp,g,d,tk,os⟩ (.ref l) "list":=⟨_,hl,rfl⟩
 wp_walk using afe ty S_
 refine wpAny_of_eq (F.slot_list_reversed.bind (.ref l)) ?_;refine aeX (λz=>absurd z (by decide)) λ_=>?_
 refine aan (afh ?_);refine aan (aeY F.slot_list_reversed ty F.entry_list_reversed (F.args_list_reversed_1 _) (AutoListH.list___reversed___list_0 l items n) ⟨hl,?_⟩);exact abg ⟨_,rfl,h⟩
theorem IQ:mroOf (.type "reversed")=pure [.type "reversed",.type "object"]:=by rw[mroOf_type];kernel_rfl
theorem adz:typeLookup (.type "reversed") "__new__"=pure (some (.builtin "reversed.__new__")):=by rw[aev,ads];kernel_rfl
theorem WJ:Bind.madeBy (.type "reversed")=pure (some "reversed.__new__"):=madeBy_type IQ adz (by decide +kernel)
theorem acY:entryFor table "reversed.__new__"=some Builtin.«reversed.__new__»:=entryFor_of_tree (by kernel_rfl)
theorem Y7(a:Value):checkTypeCall "reversed" ⟨[a],[]⟩=pure ():=by kernel_rfl
theorem WG(a:Value):checkBuiltinCall "reversed.__new__" ⟨[.type "reversed",a],[]⟩=pure ():=by kernel_rfl
theorem PU:isSubtype (.type "list_reverseiterator") (.type "reversed")=pure false:=by rw[ae3];kernel_rfl
section
variable{prog:Program}{w:World}{A:Around}{E:Value->Shared->Prop}{s:Shared}{l:Addr}{items:Array Value}{n:Nat}
theorem RC(hl:s.heap.get? l=some { cls:=.type "list",data:=.seq items n })
  (hQ:Q (.ref s.heap.objs.size) { s with heap:=s.heap.push { cls:=.type "list_reverseiterator",data:=.fields #[.ref l,rawInt ((items.size:Int)-1)] } }):wpAny (model prog w) A (call (.type "reversed") [.ref l]) Q E s:=by
 have ad2:=IQ;have ad1:=WJ;have yq:=OT;have oA:=PU;have hct:=Y7 (.ref l);refine afi (codeAny_of_tree ?_);refine abg ⟨Code.quiet_builtin _ (by decide +kernel),aef F.entry_type_call ?_⟩;rw[Around.under_plain (weight_type_call_type "reversed" [.ref l] []) rfl];have g1:(Value.type "reversed" == Value.type "type")=false:=by decide +kernel
 have g2:((Manifest.find? "reversed").bind (·.mro.findSome? λt=>(Manifest.find? t).bind λb=>if b.noNew then some true else if b.attrs.any (·.1 == "__new__") then some false else none)).getD false=false:=by decide +kernel
 repeat (any_goals (first|assumption|wp_step))
 have hn:codeAny (model prog w) A.in1 (.call (.builtin "reversed.__new__") ⟨[.type "reversed",.ref l],[]⟩) (λr s'=>r=.ok (.ret (.ref s.heap.objs.size))/\s'={ s with heap:=s.heap.push { cls:=.type "list_reverseiterator",data:=.fields #[.ref l,rawInt ((items.size:Int)-1)] } }) s:=
  ae1 (by decide +kernel) acY (wpAny_of_eq (WG (.ref l)) (Rr l items n prog w A.in1 (λr s'=>r=.ok (.ret (.ref s.heap.objs.size))/\s'={ s with heap:=s.heap.push { cls:=.type "list_reverseiterator",data:=.fields #[.ref l,rawInt ((items.size:Int)-1)] } }) s ⟨hl,rfl,rfl⟩))
 refine aeV hn λr bE hr=>?_
 obtain⟨rfl,rfl⟩:=hr;have ty:Shared.TypeIs { s with heap:=s.heap.push { cls:=.type "list_reverseiterator",data:=.fields #[.ref l,rawInt ((items.size:Int)-1)] } } (.ref s.heap.objs.size) "list_reverseiterator":=⟨_,aa6 _ rfl,rfl⟩
 refine aan (ae7 ty PU ?_);refine aeX (λ_=>?_) λz=>absurd rfl z
 refine aan (afh ?_);exact abg hQ
end
end Rv
section
variable{X:Cx}{a:Expr}{ta:TE}{p1 p2 p3 pos:Pos}
def adg(ta:TE):TE:=λσ H Q=>ta σ H λx H1=>∃p xs,x=.ref p/\H1 p=some (.lst xs)/\∀l,H1 l=none->Q (.ref l) (upd H1 l (.lst xs.reverse))
theorem Qk(hv:aK xs ao)(h:ItemsOf (λi v=>ao.toArray[ao.toArray.size-1-i]? = some v) acc ao.toArray.size):aK xs.reverse acc.toList:=by
 have e:acc.toList=ao.reverse:=by
  have h1:acc.size=ao.length:=by have:=h.1;simpa using this
  have h2:=h.2;refine List.ext_getElem? λi=>?_
  by_cases hi:i<ao.length
  .have hs:acc[i]? = some (acc[i]'(by omega)):=by simp
   have:=h2 i _ hs;dsimp only at this;rw[aba,List.getElem?_toArray] at this;rw[List.getElem?_reverse hi,this,Array.getElem?_toList,hs]
  .rw[aeW (by rw[ady];omega),aeW (by rw[List.length_reverse];omega)]
 rw[e];exact hv.reverse
theorem Inv.Nz{ch:List Addr}{o:HO}(I:Inv X af σ H s)(hf:∀b∈ch,ie X af H b)(k:∀b o,b∉ch->s.heap.get? b=some o->h'.get? b=some o)
  (hT:s.heap.objs.size<=T) (new:cU X.prog X.w (upd H T o) h' T o):Inv X af σ (upd H T o) { s with heap:=h',toks:=t' }:=by
 have nT:=I.aD.fresh hT;have kR:∀b u,H b=some u->b∉ch:=λb u e m=>by rw[(hf b m).1] at e;cases e
 refine I.step (g':=s.gens) (d':=s.drawn) (ch:=ch) (λb m=>⟨(hf b m).2.2.2.1,(hf b m).2.1,(hf b m).2.2.2.2.1,(hf b m).2.2.2.2.2⟩) (λb o _ _ m e _=>k b o m e) (λb o _ _ m e _=>⟨o.slots,k b o m e⟩)
  (λb o _ e n=>by rw[aO (abn (abP (aaZ e) hT))];exact n) (λb o m e=>⟨o,k b o m e⟩) (λb xs e=>by rw[aO (cC e nT)];exact e) (λb o u e=>by rw[aO (cC e nT)];exact e)
  (λb ps e=>⟨#[],by rw[aO (cC e nT),e];simp⟩) (λm hm=>?_) (λb u e=>?_) I.bare
 .obtain⟨o,es,ep,ho,r⟩:=hm;exact⟨o,es,ep,k _ o (λm=>(hf _ m).2.1 rfl) ho,r⟩
 .by_cases hb:b=T
  .subst hb;rw[bT] at e;cases e;exact new
  .rw[aO hb] at e;refine(I.aD b u e).dZ (λc v hc q=>k c v ?_ q) (λc q=>by rw[aO (cC q nT)];exact q) λc xs q=>by rw[aO (cC q nT)];exact q
   rcases hc with z|z
   .rw[z];exact kR b u e
   .exact kR c _ z
theorem Inv.Pn{ch:List Addr}(I:Inv X af σ H s)(hf:∀b∈ch,ie X af H b)(k:∀b o,b∉ch->s.heap.get? b=some o->h'.get? b=some o):Inv X af σ H { s with heap:=h',toks:=t' }:=by
 have kR:∀b u,H b=some u->b∉ch:=λb u e m=>by rw[(hf b m).1] at e;cases e
 refine I.step (g':=s.gens) (d':=s.drawn) (ch:=ch) (λb m=>⟨(hf b m).2.2.2.1,(hf b m).2.1,(hf b m).2.2.2.2.1,(hf b m).2.2.2.2.2⟩) (λb o _ _ m e _=>k b o m e) (λb o _ _ m e _=>⟨o.slots,k b o m e⟩)
  (λb o _ e n=>n) (λb o m e=>⟨o,k b o m e⟩) (λb xs e=>e) (λb o u e=>e) (λb ps e=>⟨#[],by rw[e];simp⟩) (λm hm=>?_) (λb u e=>?_) I.bare
 .obtain⟨o,es,ep,ho,r⟩:=hm;exact⟨o,es,ep,k _ o (λm=>(hf _ m).2.1 rfl) ho,r⟩
 .refine(I.aD b u e).dZ (λc v hc q=>k c v ?_ q) (λc q=>q) λc xs q=>q
  rcases hc with z|z
  .rw[z];exact kR b u e
  .exact kR c _ z
theorem SW(hc:X.calm=true)(hm:X.mg "list"=none)(kc:X.mg "reversed"=none)(ha:PE X a ta)(hg:Gl X "list":=by rfl)(lU:Gl X "reversed":=by rfl)(hs:starEach [a] X.env=[(false,eval a X.env)]:=by rfl)
  (bQ:starEach [.Call (.Name "reversed" p2) [a] [] p3] X.env=[(false,eval (.Call (.Name "reversed" p2) [a] [] p3) X.env)]:=by rfl):PE X (.Call (.Name "list" p1) [.Call (.Name "reversed" p2) [a] [] p3] [] pos) (adg ta):=by
 intro af s σ H Q I h;refine adR (lJ I hg hm (show bootBuiltins "list"=some (.type "list") by decide +kernel) ?_);refine adm ?_ bQ rfl;rw[bQ];refine aeS ?_;refine adR (lJ I lU kc boot_reversed ?_);refine adm ?_ hs rfl;rw[hs];refine aeS (aM (ha af s σ H _ I h) λu s1 ⟨x,H1,I1,r1,q1⟩=>?_);refine Calls.spliced_nil ?_;obtain⟨p,xs,rfl,hp,q⟩:=q1;cases r1;obtain⟨z,ao,n,hv,hl,e⟩:=I1.rT hp;refine Rv.RC e ?_;refine Calls.spliced_nil ?_;have lp:=aaZ e;have I2:Inv X af σ H1 { s1 with heap:=s1.heap.push { cls:=.type "list_reverseiterator",data:=.fields #[.ref p,rawInt ((ao.toArray.size:Int)-1)] } }:=I1.kept λb o e=>aab _ e
 refine Rv.Rj (items:=ao.toArray) (I2.ok.hd hc) (aa6 _ rfl) ⟨_,aab _ e,rfl,_,rfl⟩ (abn lp) (by rw[aba];omega) λh' tk j9 c' hk kB iy=>?_
 have f:=I1.o_ (H':=H1) (abd _) (I1.aD.fresh (abd _));refine⟨.ref _,_,I2.Nz (ch:=[s1.heap.objs.size]) (λb m=>by rw[aaH.mp m];exact f) (λb o m e=>hk b o (λz=>m (by rw[z];exact aaH.mpr rfl)) e) (abd _) (show cU X.prog X.w _ h' _ (.lst xs.reverse) from⟨by rw[List.length_reverse];exact z,j9.toList,c',Qk hv iy,by simpa using kB⟩),rfl,q _ (I2.aD.fresh (abd _))⟩
end
def F3(K:PySem.W.Frag)(l1 l2:Addr):It:=
  ⟨λi H=>∃xs ys x y,bS K H l1 xs/\bS K H l2 ys/\xs[i]? = some x/\ys[i]? = some y,
   λi H v H'=>∃T a b,H T=none/\v=.ref T/\H'=upd H T (.tup [a,b])/\(∀xs,bS K H l1 xs->xs[i]? = some a)/\∀ys,bS K H l2 ys->ys[i]? = some b,
   λi H=>∃xs ys,bS K H l1 xs/\bS K H l2 ys/\(xs.length<=i\/ys.length<=i),false⟩
def Tg(z TI TO i1 i2 l1 l2:Addr)(i:Nat)(h:Heap):Prop:=IsZip h z TI TO .none/\IsPair h TI (.ref i1) (.ref i2)/\(∃a b,IsPair h TO a b)/\h.IsListIter i1 l1 i/\h.IsListIter i2 l2 i
theorem XQ{K:PySem.W.Frag}{x1}{z TI TO i1 i2 l1 l2:Addr}(D:ZipApart z TI TO i1 i2 l1 l2):
  Turn P w K (.Tuple elts x1 pos) (F3 K l1 l2) [z,TI,TO,i1,i2] z (Tg z TI TO i1 i2 l1 l2) where
 mem:=by simp
 obj:=λi h st b hb=>by
  obtain⟨s1,s2,⟨a,b',s3⟩,⟨o4,e4,c4,d4⟩,⟨o5,e5,c5,d5⟩⟩:=st;simp only[aaM,acy,aeC] at hb;rcases hb with rfl|rfl|rfl|rfl|rfl
  .exact⟨_,s1,λv q=>by cases q⟩
  .exact⟨_,s2,λv q=>by cases q⟩
  .exact⟨_,s3,λv q=>by cases q⟩
  .exact⟨o4,e4,λv q=>by rw[d4] at q;cases q⟩
  .exact⟨o5,e5,λv q=>by rw[d5] at q;cases q⟩
 keep:=λi h h' st k=>by
  obtain⟨s1,s2,⟨a,b',s3⟩,s4,s5⟩:=st;exact⟨k _ (by simp) _ s1,k _ (by simp) _ s2,⟨a,b',k _ (by simp) _ s3⟩,s4.at λo e=>k _ (by simp) o e,s5.at λo e=>k _ (by simp) o e⟩
 item:=by
  intro X hP hw hK hc i af s σ H E I hf st hg;subst hP hw hK;obtain⟨s1,s2,⟨a,b',s3⟩,s4,s5⟩:=st;obtain⟨xs,ys,x,y,q1,q2,e1,e2⟩:=hg;obtain⟨us,v1,p1,z1⟩:=I.list q1;obtain⟨ws,v2,p2,z2⟩:=I.list q2;obtain⟨u,hu,ru⟩:=v1.get e1;obtain⟨t,ht,rt⟩:=v2.get e2;refine wpAny_pyNext_zip_item D s1 s2 s3 s4 s5 p1.isList p2.isList (by simpa using hu) (by simpa using ht) λh' a1 a2 a3 a4 a5 a6 a7=>⟨_,rfl,?_⟩
  refine wpAny_letOwnedTupleGo_zip a1 λvD b1 b2=>?_
  have lz:=aaZ s1;have nz:=aes lz;have T2:=b2.extBut _ _ nz a5;have nT:H s.heap.objs.size=none:=I.aD.fresh (abd _);have I1:Inv X af σ (upd H s.heap.objs.size (.tup [x,y])) { s with heap:=vD }:=I.Nz (ch:=[z,TO,i1,i2]) (λb m=>hf b (by
    simp only[aaM,acy,aeC] at m ⊢;rcases m with rfl|rfl|rfl|rfl<;>simp)) (λb o m e=>by
    simp only[aaM,acy,aeC,not_or] at m;exact b2.extBut _ _ m.1 (a7 b o m.1 m.2.1 m.2.2.1 m.2.2.2 e)) (abd _) (show cU X.prog X.w _ vD _ (.tup [x,y]) from⟨show 2<=sizeLine by unfold sizeLine;omega,[u,t],.cons ru (.cons rt .nil),⟨_,T2,rfl,rfl,_,rfl⟩⟩)
  refine⟨.ref s.heap.objs.size,_,I1,rfl,⟨_,x,y,nT,rfl,rfl,λxs' h=>by rw[I.Dr h q1];exact e1,λys' h=>by rw[I.Dr h q2];exact e2⟩,?_,λb m=>?_⟩
  .have up:∀c o,c≠z->h'.get? c=some o->vD.get? c=some o:=λc o n e=>b2.extBut _ _ n e
   exact⟨b1,up _ _ D.TIz (a7 TI _ D.TIz D.TITO D.TIi1 D.TIi2 s2),⟨u,t,up _ _ D.TOz a2⟩,a3.at λo e=>up _ o D.i1z e,a4.at λo e=>up _ o D.i2z e⟩
  .rw[aO]
   .exact(hf b m).1
   .rintro rfl
    obtain⟨o4,e4,_⟩:=id s4;obtain⟨o5,e5,_⟩:=id s5;simp only[aaM,acy,aeC] at m;rcases m with m|m|m|m|m
    .exact nz m
    .exact absurd (aaZ s2) (by rw[<- m];exact adw _)
    .exact absurd (aaZ s3) (by rw[<- m];exact adw _)
    .exact absurd (aaZ e4) (by rw[<- m];exact adw _)
    .exact absurd (aaZ e5) (by rw[<- m];exact adw _)
 done:=by
  intro X hP hw hK hc i af s σ H E I hf st hg;subst hP hw hK;obtain⟨s1,s2,⟨a,b',s3⟩,s4,s5⟩:=st;obtain⟨xs,ys,q1,q2,e⟩:=hg;obtain⟨us,v1,p1,z1⟩:=I.list q1;obtain⟨ws,v2,p2,z2⟩:=I.list q2;have l1:=v1.length;have l2:=v2.length;refine wpAny_pyNext_zip_end (I.ok.hd (hc.resolve_right λz=>aaN z)) D s1 s2 s3 s4 s5 p1.isList p2.isList (e.imp (λe=>by simp;omega) λe=>by simp;omega) λh' k=>⟨rfl,I.Pn (ch:=[z,TO,i1,i2]) (λb m=>hf b (by
    simp only[aaM,acy,aeC] at m ⊢;rcases m with rfl|rfl|rfl|rfl<;>simp)) λb o m e=>?_⟩
  simp only[aaM,acy,aeC,not_or] at m;exact k b o m.1 m.2.1 m.2.2.1 m.2.2.2 e
 self:=λ_ _ _ _ _ st h=>wpAny_pyIter_zip st.1 h
section
variable{X:Cx}{elts:List Expr}{tp:Pos}{a b:Expr}{ta:TA}{p pos:Pos}
def Zv(K:PySem.W.Frag)(ta:TA):TI:=λσ H R=>ta σ H λvs H1=>∃l1 l2 xs ys,vs=[.ref l1,.ref l2]/\bS K H1 l1 xs/\bS K H1 l2 ys/\R (F3 K l1 l2) H1
theorem RY{x1}(hg:Gl X "zip")(hm:X.mg "zip"=none)(ha:PA X [a,b] ta)(hs:starEach [a,b] X.env=[(false,eval a X.env),(false,eval b X.env)]:=by rfl)(bQ:starEach [b] X.env=[(false,eval b X.env)]:=by rfl):
  PI X (.Tuple elts x1 tp) (.Call (.Name "zip" p) [a,b] [] pos) (Zv X.K ta):=by
 intro af s σ H R I h;refine adR (lJ I hg hm boot_zip (adm (aM (ha pos af s σ H _ I h) λus s1 ⟨vs,H1,I1,r1,q1⟩=>?_) (by rw[hs,bQ]) (by rw[bQ];rfl)));obtain⟨l1,l2,xs,ys,rfl,h1,h2,q⟩:=q1;obtain⟨u,v,rfl,ru,rv⟩:=vals2 r1;cases ru;cases rv;obtain⟨us,v1,p1,z1⟩:=I1.list h1;obtain⟨ws,v2,p2,z2⟩:=I1.list h2;have b1:=let⟨o,n,e,_⟩:=p1;aaZ e
 have b2:l2<s1.heap.objs.size:=let⟨o,n,e,_⟩:=p2;aaZ e
 refine call_zip_2 p1.isList p2.isList λh' g1 g2 g3 g4 g5 g6 k=>?_
 refine wpAny_pyIter_zip g1 ?_;refine⟨_,_,_,_,H1,rfl,I1.kept k,XQ (zipApart_new b1 b2),⟨g1,g2,⟨_,_,g3⟩,g4,g5⟩,λc hc=>?_,q⟩;have up:∀j,ie X af H1 (s1.heap.objs.size+j):=λj=>I1.o_ (Nat.le_add_right _ _) (I1.aD.fresh (Nat.le_add_right _ _))
 simp only[aaM,acy,aeC] at hc;rcases hc with rfl|rfl|rfl|rfl|rfl
 .exact up 4
 .exact up 2
 .exact up 3
 .exact up 0
 .exact up 1
end
end L2
namespace L2.Ev
open PySem PySem.Spec PyProof.Rows
section
variable{X:Cx}{elts:List Expr}{tp:Pos}{a b:Expr}{fa fb:EF}{p pos:Pos}
def um(fa fb:EF):IF:=λρ=>match fa ρ,fb ρ with
 |some (.lst ds,t1),some (.lst es,t2)=>if(aP ds&&aP es)=true then some ((ds.zip es).map λp=>.tup [p.1,p.2],ko [(.lst ds,t1),(.lst es,t2)]) else none
 |_,_=>none
theorem ay.F2{K:PySem.W.Frag}{vs:List V}{i:Nat}(r:ay K H ds vs [])(e:ds[i]? = some d):∃v,vs[i]? = some v/\Rep K H d v []:=by
 obtain⟨v,f,e1,r1,s⟩:=r.get e;have:f=[]:=List.eq_nil_iff_forall_not_mem.mpr λa m=>by have:=s a m;cases this
 subst this;exact⟨v,e1,r1⟩
theorem Q4{K:PySem.W.Frag}{l1 l2:Addr}{ds es:List D}(c1:aP ds=true)(c2:aP es=true):
  qD K (F3 K l1 l2) ((ds.zip es).map λp=>.tup [p.1,p.2]) [⟨.lst ds,.ref l1,f1⟩,⟨.lst es,.ref l2,f2⟩]:=by
 intro H i hh;obtain⟨p1,xs,g1,e1,q1,r1,_⟩:=(hh _ aax).dg;obtain⟨p2,ys,g2,e2,q2,r2,_⟩:=(hh _ (aal _ aax)).dg;cases e1;cases e2;have n1:=r1.aG c1;have n2:=r2.aG c2;subst n1 n2;refine⟨λd hd=>?_,λhl=>?_⟩
 .rw[abW] at hd;exists hz,(ds.zip es)[i]?,pr,hd;cases hd;obtain⟨k1,k2⟩:=List.getElem?_zip_eq_some.mp hz;obtain⟨x,hx,rx⟩:=r1.F2 k1;obtain⟨y,hy,ry⟩:=r2.F2 k2;refine⟨⟨xs,ys,x,y,q1,q2,hx,hy⟩,λv H1 hv=>?_⟩;obtain⟨T,a,b,hT,rfl,rfl,ha,hb⟩:=hv;have ea:=ha xs q1;have eb:=hb ys q2;rw[hx] at ea;rw[hy] at eb;cases ea;cases eb;have s2:aF H (upd H T (.tup [x,y])):=λb o e=>by rw[aO (cC e hT)];exact e
  exact⟨s2,[],.tup (cg.of bT) (ay.cons (f1:=[]) (f2:=[]) (rx.same s2) (ay.cons (f1:=[]) (f2:=[]) (ry.same s2) .nil)),λa m=>nomatch m⟩
 .rw[aaf,List.length_zip,r1.length,r2.length] at hl;exact⟨xs,ys,q1,q2,by omega⟩
theorem KU{x1}(hm:X.mg "zip"=none)(ha:FP X a fa)(hb:FP X b fb)(hg:Gl X "zip":=by rfl)(hs:starEach [a,b] X.env=[(false,eval a X.env),(false,eval b X.env)]:=by rfl)(bQ:starEach [b] X.env=[(false,eval b X.env)]:=by rfl):
  FI X (.Tuple elts x1 tp) (.Call (.Name "zip" p) [a,b] [] pos) (um fa fb):=by
 obtain⟨t,pa,hlen,q⟩:=au ha (au hb aI bQ) (by rw[hs,bQ]);exists 24,RY hg hm pa hs bQ;unfold um at e
 split at e
 .rename_i d1 t1 d2 t2 h1 h2;obtain⟨hc,e⟩:=ci e;cases e;obtain⟨c1,c2⟩:=(aaL _ _).mp hc;refine q ok (by unfold aq aA;rw[h1,h2]) λH1 vs fp s1 r g=>?_
  cases r with
  | @cons _ v1 _ _ f1 _ r1 r=>
   cases r with
   | @cons _ v2 _ _ f2 _ r2 r=>
    cases r;obtain⟨l1,xs,g1,rfl,q1,_,_⟩:=r1.dg;obtain⟨l2,ys,g2,rfl,q2,_,_⟩:=r2.dg;refine⟨l1,l2,xs,ys,rfl,q1,q2,k H1 _ [⟨.lst d1,.ref l1,f1⟩,⟨.lst d2,.ref l2,f2⟩] s1 (λh m=>?_) (Q4 c1 c2)⟩;have go:=g.over ok;rcases aaM.mp m with rfl|m
    .exact⟨r1,λa ma=>go a (aaR _ ma)⟩
    .cases aaH.mp m;exact⟨r2,λa ma=>go a (aaE _ (aaR _ ma))⟩
 .cases e
def JQ:D->Option D
 |.lst ds=>if aP ds=true then some (.lst ds.reverse) else none
 |_=>none
theorem ay.KY{K:PySem.W.Frag}:∀{ds:List D}{xs:List V},ay K H ds xs []->ay K H ds.reverse xs.reverse []
 |[],_,r=>by cases r;exact .nil
 |d::ds,xs,r=>by
  generalize hf:([]:List Addr)=fp at r;cases r with
  | @cons _ _ _ _ f1 f2 r1 r2=>
   obtain⟨z1,z2⟩:=adQ.mp hf.symm;subst z1 z2;rw[afk,afk];exact ay.append (ay.KY r2) (ay.cons (f1:=[]) (f2:=[]) r1 .nil)
theorem Q3{p2 p3:Pos}(hc:X.calm=true)(hm:X.mg "list"=none)(kc:X.mg "reversed"=none)(ha:FP X a fa)(hg:Gl X "list":=by rfl)(lU:Gl X "reversed":=by rfl)(hs:starEach [a] X.env=[(false,eval a X.env)]:=by rfl)
  (bQ:starEach [.Call (.Name "reversed" p2) [a] [] p3] X.env=[(false,eval (.Call (.Name "reversed" p2) [a] [] p3) X.env)]:=by rfl):FP X (.Call (.Name "list" p) [.Call (.Name "reversed" p2) [a] [] p3] [] pos) (e1 JQ fa):=by
 obtain⟨t,pa,q⟩:=ha;exists 21,SW hc hm kc pa hg lU hs bQ;obtain⟨d1,t1,g1,g2,rfl⟩:=ng e;refine q ok g1 λH1 x f1 s1 r1 _=>?_
 cases r1 with
 | @lst l xs ds f h rs=>
  have g2:(if aP ds=true then some (D.lst ds.reverse) else none)=some d:=g2;obtain⟨hi,g2⟩:=ci g2;cases g2;have hn:=rs.aG hi;subst hn;refine⟨l,xs,rfl,h,λl' hl=>?_⟩;have s2:aF H1 (upd H1 l' (.lst xs.reverse)):=λb o e=>by rw[aO (cC e hl)];exact e
  refine k _ _ [l'] (s1.trans s2) (.lst bT ((ay.KY rs).same s2)) ⟨abu.mpr ⟨(λm=>by cases m),abF⟩,λa m=>?_⟩;cases aaH.mp m;exact s1.free hl
 |_=>cases g2
end
end L2.Ev
namespace L2
open PySem PySem.Spec PyProof.Rows
section
variable{X:Cx}
theorem O0:∀{bs:List Bool}{us:List Value},aK (bs.map V.bl) us->us=bs.map Value.bool
 |[],_,r=>by rw[afm] at r;cases r;rfl
 |b::bs,_,r=>by
  rw[aaF] at r;cases r with
  |cons r1 r2=>cases r1;rw[O0 r2];rfl
theorem range_all(bs:List Bool):(List.range bs.length).all (λj=>bs.getD j true)=bs.all id:=by
 induction bs with
 |nil=>rfl
 |cons b r ih=>
  rw[abj,List.range_succ_eq_map,List.all_cons,afa,List.all_cons,<- ih];rfl
theorem acV(hc:X.calm=true):eX X (.builtin "all") (λxs H Q=>∃(p:Addr) (bs:List Bool),xs=[V.ref p]/\bS X.K H p (bs.map V.bl)/\Q (.bl (bs.all id)) H):=by
 intro af s σ H xs us Q I r h;obtain⟨p,bs,rfl,hq,q⟩:=h;obtain⟨u,rfl,ru⟩:=vals1 r;cases ru;obtain⟨ao,v1,pl,hz⟩:=I.list hq;have ei:=O0 v1;subst ei;have lp:=let⟨o,n,e,_⟩:=pl;aaZ e
 have hh:X.A.in1.handled=none:=I.ok.hd hc;refine call_all_walk (wpAny_pyIter_list pl.isList ?_);refine⟨s.heap.objs.size,_,_,_,_,_,λj=>bs.getD j true,rfl,Walks.list hh s.heap.objs.size p (abn lp) (bs.map Value.bool).toArray,⟨⟨_,aa6 _ rfl,rfl,rfl⟩,pl.isList.at λo e=>aab _ e⟩,?_,λh' tk hk=>?_⟩
 .intro i v s' Q' E' hv hQ;rw[List.getElem?_toArray,abW] at hv;exists e,bs[i]?,b,hv;cases hv;dsimp only at hQ;rw[acv,e] at hQ;exact aec hQ
 .have f:=I.o_ (H':=H) (abd s.heap.objs.size) (I.aD.fresh (abd _));have I1:Inv X af σ H { s with heap:=s.heap.push { cls:=.type "list_iterator",data:=.fields #[.ref p,.int 0 0] } }:=I.kept λb o e=>aab _ e
  rw[aba,aaf,range_all];exact⟨.bl _,H,I1.Pn (ch:=[s.heap.objs.size]) (λb m=>by rw[aaH.mp m];exact f) λb o m e=>hk b o m e,rfl,q⟩
end
end L2
namespace L2.Ev
open PySem PySem.Spec PyProof.Rows
section
variable{X:Cx}{a b c:Expr}{fa fb:EF}{p pos:Pos}
noncomputable def mR:List D->Option (List Bool)
 |[]=>some []
 |.bl b::r=>(mR r).map (b::·)
 |_=>none
theorem LO{K:PySem.W.Frag}:∀{ds:List D}{xs:List V}{fp:List Addr}{bs:List Bool},ay K H ds xs fp->mR ds=some bs->xs=bs.map V.bl
 |[],_,_,bs,r,e=>by cases r;cases e;rfl
 |d::ds,_,_,bs,r,e=>by
  cases r with
  |cons h t=>
   cases d<;>try (cases e;done)
   cases h;unfold mR at e;exists q,mR ds,r,e;cases e;rw[LO t q];rfl
def oS:D->Option D
 |.lst ds=>(mR ds).map λbs=>.bl (bs.all id)
 |_=>none
theorem QM{K:PySem.W.Frag}:pG K (λxs H Q=>∃(p:Addr) (bs:List Bool),xs=[V.ref p]/\bS K H p (bs.map V.bl)/\Q (.bl (bs.all id)) H) oS:=by
 intro H x d1 f1 d Q r e k;cases d1 with
 |lst ds=>
  obtain⟨p,xs,f,rfl,hq,rs,_⟩:=r.dg;have e:(mR ds).map (λbs=>D.bl (bs.all id))=some d:=e;exists h,mR ds,bs,e;cases e;have ex:=LO rs h;subst ex;exact⟨p,bs,rfl,hq,k H _ [] (aF.refl H) (.bl _) abF λa m=>nomatch m⟩
 |_=>cases e
theorem xU(hc:X.calm=true)(hm:X.mg "all"=none)(ha:FP X a fa)(hg:Gl X "all":=by rfl)(hs:starEach [a] X.env=[(false,eval a X.env)]:=by rfl):FP X (.Call (.Name "all" p) [a] [] pos) (e1 oS fa):=
 fp_1 QM ha λta pa=>mY (acV hc) hg hm boot_all (bU pa dN hs) (he:=hs) (hpl:=rfl)
end
abbrev XF:=aE->Option (D×aE)
abbrev gq:=aE->Option (List D×aE)
def m8(z:Addr->Option Nat)(H H':Hp):Prop:=aX H H'/\∀a o,z a=none->H a=some o->H' a=some o
theorem m8.of{z:Addr->Option Nat}{H H':Hp}(s:aF H H'):m8 z H H':=⟨.of s,λa o _ e=>s _ _ e⟩
theorem m8.trans{z:Addr->Option Nat}{H H1 H2:Hp}(a:m8 z H H1)(b:m8 z H1 H2):m8 z H H2:=⟨a.1.trans b.1,λc o e q=>b.2 c o e (a.2 c o e q)⟩
theorem Rep.dZ{K:PySem.W.Frag}(r:Rep K H d v [])(s:m8 z H H'):Rep K H' d v []:=r.frame (λa m=>nomatch m) s.1
theorem ay.dZ{K:PySem.W.Frag}(r:ay K H d v [])(s:m8 z H H'):ay K H' d v []:=r.frame (λa m=>nomatch m) s.1
def FX(X:Cx)(e:Expr)(f:XF):Prop:=∃t,PE X e t/\∀{H0:Hp}{S:List Addr}{z:Addr->Option Nat}{ak:List bZ}{ρ:aE}{σ:St}{H:Hp}{Q:VK}{d:D}{ρ':aE},
 Ok X.K H0 S z ak ρ σ H->f ρ=some (d,ρ')->(∀H' v,Ok X.K H0 S z ak ρ' σ H'->m8 z H H'->Rep X.K H' d v []->Q v H')->t σ H Q
def xZ(X:Cx)(es:List Expr)(f:gq):Prop:=∃t,PA X es t/\(∀ρ ds ρ',f ρ=some (ds,ρ')->ds.length=es.length)/\∀{H0:Hp}{S:List Addr}{z:Addr->Option Nat}{ak:List bZ}{ρ:aE}{σ:St}{H:Hp}{Q:List V->Hp->Prop}{ds:List D}{ρ':aE},
 Ok X.K H0 S z ak ρ σ H->f ρ=some (ds,ρ')->(∀H' vs,Ok X.K H0 S z ak ρ' σ H'->m8 z H H'->ay X.K H' ds vs []->Q vs H')->t σ H Q
section
variable{X:Cx}{a b c e:Expr}{es:List Expr}{f g:XF}{pos:Pos}
def xP(f:EF):XF:=λρ=>match f ρ with
 |some (d,_)=>if aG d=true then some (d,ρ) else none
 |none=>none
theorem gb{f:EF}(h:FP X e f):FX X e (xP f):=by
 obtain⟨t,p,q⟩:=h;refine⟨t,p,@λH0 S z ak ρ σ H Q d ρ' ok e k=>?_⟩;unfold xP at e;exists h,f ρ,w,e,0;obtain⟨d0,t0⟩:=w;rw[h] at e;dsimp only at e;obtain⟨hi,e⟩:=ci e;cases e;refine q ok h λH1 v fp s1 r1 _=>?_
 have hn:=r1.aG hi;subst hn;exact k H1 v (ok.same s1) (.of s1) r1
noncomputable def x2(op:D->D->Option D)(f g:XF):XF:=λρ=>match f ρ with
 |some (d1,aJ)=>match g aJ with
  |some (d2,bf)=>(op d1 d2).map λd=>(d,bf)
  |none=>none
 |none=>none
theorem Jl{op:D->D->Option D}(e:x2 op f g ρ=some (d,ρ')):∃d1 aJ d2,f ρ=some (d1,aJ)/\g aJ=some (d2,ρ')/\op d1 d2=some d:=by
 unfold x2 at e;exists h1,f ρ,w,e,0;obtain⟨d1,aJ⟩:=w;rw[h1] at e;dsimp only at e;exists h2,g aJ,w,e,0;obtain⟨d2,bf⟩:=w;rw[h2] at e;dsimp only at e;cases h3:op d1 d2 with
 |none=>rw[h3] at e;cases e
 |some d3=>rw[h3] at e;cases e;exact⟨d1,aJ,d2,rfl,h2,h3⟩
theorem abA{op:Operator}{r:R2}{o:D->D->Option D}(ho:cY X (binaryOp op) r)(dd:fm X.K r o)(ha:FX X a f)(hb:FX X b g):FX X (.BinOp a op b pos) (x2 o f g):=by
 obtain⟨ta,pa,sa⟩:=ha;obtain⟨tb,pb,sb⟩:=hb;exists 26,wA ho pa pb;obtain⟨d1,aJ,d2,e1,e2,e3⟩:=Jl e;refine sa ok e1 λH1 x bq s1 r1=>?_
 refine sb bq e2 λH2 y gx s2 r2=>?_
 exact dd H2 x y d1 d2 [] [] d Q (r1.dZ s2) r2 e3 λH3 v s3 r3=>k H3 v (gx.same s3) ((s1.trans s2).trans (.of s3)) r3
theorem vV(ha:FX X a f)(hb:FX X b g):FX X (.BinOp a .Add b pos) (x2 jc f g):=abA K0 Ey ha hb
noncomputable def dG:gq:=λρ=>some ([],ρ)
noncomputable def bO(f:XF)(g:gq):gq:=λρ=>match f ρ with
 |some (d,aJ)=>match g aJ with
  |some (ds,bf)=>some (d::ds,bf)
  |none=>none
 |none=>none
theorem GR{g:gq}(e:bO f g ρ=some (ds,ρ')):∃d aJ r,f ρ=some (d,aJ)/\g aJ=some (r,ρ')/\ds=d::r:=by
 unfold bO at e;exists h1,f ρ,w,e,0;obtain⟨d,aJ⟩:=w;rw[h1] at e;dsimp only at e;exists h2,g aJ,w,e,0;obtain⟨r,bf⟩:=w;rw[h2] at e;cases e;exact⟨d,aJ,r,rfl,h2,rfl⟩
theorem lK:xZ X [] dG:=⟨_,dN,λ_ _ _ e=>by cases e;rfl,@λ_ _ _ _ _ _ H _ _ _ ok e q=>by cases e;exact q H _ ok (.of (aF.refl H)) .nil⟩
theorem jm{g:gq}(ha:FX X e f)(hr:xZ X es g)(hs:starEach (e::es) X.env=(false,eval e X.env)::starEach es X.env:=by rfl):xZ X (e::es) (bO f g):=by
 obtain⟨t,p,q⟩:=ha;obtain⟨t',p',l',q'⟩:=hr;refine⟨_,bU p p' hs,λρ ds ρ' e=>by obtain⟨d,aJ,r,e1,e2,rfl⟩:=GR e;rw[abj,abj,l' _ _ _ e2],@λH0 S z ak ρ σ H Q ds ρ' ok e k=>?_⟩;obtain⟨d,aJ,r,e1,e2,rfl⟩:=GR e;refine q ok e1 λH1 v bq s1 r1=>?_
 refine q' bq e2 λH2 vs gx s2 r2=>?_
 exact k H2 (v::vs) gx (s1.trans s2) (ay.cons (f1:=[]) (f2:=[]) (r1.dZ s2) r2)
def oH(g:gq)(f:XF):XF:=λρ=>match g ρ with
 |some (ds,aJ)=>match f aJ with
  |some (.int i,bf)=>(cP ds i).map λd=>(d,bf)
  |_=>none
 |none=>none
theorem Mw{g:gq}{p2:Pos}(ha:xZ X es g)(hc:FX X c f)(hl:es.length<=1000:=by decide)(hs:zH c:=by exact λ_ _=>rfl):FX X (.Subscript (.List es p2) c pos) (oH g f):=by
 obtain⟨t,p,hg,q⟩:=ha;obtain⟨tc,pc,qc⟩:=hc;exists 26,G_ BO (LN p) pc hs;unfold oH at e;exists h1,g ρ,w,e,0;obtain⟨ds,aJ⟩:=w;rw[h1] at e;dsimp only at e;exists h2,f aJ,w,e,0;obtain⟨di,bf⟩:=w;rw[h2] at e;cases di<;>try (cases e;done)
 rename_i i;dsimp only at e;cases h3:cP ds i with
 |none=>rw[h3] at e;cases e
 |some d3=>
  rw[h3] at e;cases e;refine q ok h1 λH1 vs bq s1 r1=>⟨?_,λl uQ=>?_⟩
  .rw[<- r1.length,hg ρ ds aJ h1];exact ad3 (uH hl)
  .have s2:aF H1 (upd H1 l (.lst vs)):=λb o e=>by rw[aO (cC e uQ)];exact e
   have zl:z l=none:=by
    cases hz:z l with
    |none=>rfl
    |some j=>obtain⟨⟨o,w⟩,_⟩:=bq.zd l j hz;rw[uQ] at w;cases w
   refine qc (bq.same s2) h2 λH3 y gP s3 r3=>?_
   have RQ:=s3.2 l _ zl bT;cases r3;unfold cP at h3;cases hj:iw ds.length i with
   |none=>rw[hj] at h3;cases h3
   |some j=>
    rw[hj,ach] at h3;have r3:=(r1.same s2).dZ s3;obtain⟨v,hv,rv⟩:=r3.F2 h3;refine .inl ⟨l,vs,i,v,rfl,rfl,bS.of RQ,?_,k H3 v gP ((s1.trans (.of s2)).trans s3) rv⟩;unfold cP;rw[<- r1.length,hj,ach];exact hv
def sF(F:List D->Option D)(g:gq):XF:=λρ=>match g ρ with
 |some (ds,aJ)=>match F ds with
  |some d=>if aG d=true then some (d,aJ) else none
  |none=>none
 |none=>none
def xG(K:PySem.W.Frag)(G:List Int->List D->Option (D×List Int)):Sp:=λvs H Q _=>∃a ns ws es d cB,vs=V.ref a::ws/\H a=some (.lst (ns.map V.int))/\ay K H es ws []/\G ns es=some (d,cB)/\
 ∀H' v,(∀b o,b≠a->H b=some o->H' b=some o)->H' a=some (.lst (cB.map V.int))->Rep K H' d v []->Q v H'
def xM(i:Nat)(G:List Int->List D->Option (D×List Int))(g:gq):XF:=λρ=>match ρ[i]?,g ρ with
 |some (some _),some (es,aJ)=>match aJ[i]? with
  |some (some (.lst ds,.own))=>match dB ds with
   |some ns=>(G ns es).map λw=>(w.1,bJ aJ i (.lst (w.2.map D.int)))
   |none=>none
  |_=>none
 |_,_=>none
theorem M6:∀{ds:List D}{ns:List Int},dB ds=some ns->aP ds=true
 |[],_,_=>rfl
 |d::r,ns,h=>by
  cases d<;>try (cases h;done)
  unfold dB at h;exists q,dB r,m,h,0;unfold aP;rw[M6 q];rfl
theorem nM(i:Nat){x xn:Str}{fa:Addr}{fd:FuncData}{ps:List Str}{G:List Int->List D->Option (D×List Int)}{g:gq}(GG:bN X.prog X.w X.K X.mg X.base cE k fa fd ps (xG X.K G))(hr:aZ k X.A)(hm:X.mg x=some (.ref fa))(hk:PySem.W.keepIn X.K (.ref fa)=true)(hb:Binds X.K fd ps [])(ha:xZ X es g)
  (va:VA X i xn:=by walk_at "va")
  (hg:GD X x:=by exact⟨rfl,by decide⟩) (he:starEach (.Name xn p1::es) X.env=(false,eval (.Name xn p1) X.env)::starEach es X.env:=by rfl) (hpl:(backTo pos (starEach es X.env)).any (·.1)=false:=by rfl) :
  FX X (.Call (.Name x p) (.Name xn p1::es) [] pos) (xM i G g):=by
 obtain⟨t,pa,_,sa⟩:=ha;refine⟨_,xx GG hr hg.1 hm hk hb .nil jt (bU va.pe pa he) hg.2 he hpl,@λH0 S z ak ρ σ H Q d ρ' ok e0 q=>?_⟩;unfold xM at e0
 split at e0
 .rename_i w0 KC aJ h0 h1
  split at e0
  .rename_i ds h2;exists h3,dB ds,ns,e0;dsimp only at e0;exists h4,G ns KC,w,e0,0;obtain⟨d',cB⟩:=w;rw[h4] at e0;cases e0;obtain⟨d0,t0⟩:=w0;obtain⟨v,fp,hs,_,_⟩:=ok.sl i d0 t0 h0;refine⟨v,hs,?_⟩;refine sa ok h1 λH1 vs bq s1 r1=>?_
   obtain⟨v',fG,ck,r',zz⟩:=bq.sl i _ _ h2;rw[hs] at ck;cases ck;rw[abM];cases r' with
   | @lst l xs _ f h rs=>
    have ex:=pP rs h3;subst ex;have Cy:f=[]:=by
     have hm:=M6 h3;exact rs.aG hm
    subst Cy;refine⟨l,ns,vs,KC,_,cB,rfl,h,r1,h4,λH' v kp hl rv=>?_⟩;have s2:aF (upd H1 l (.lst (cB.map V.int))) H':=λb o e=>by
     by_cases hb:b=l
     .subst hb;rw[bT] at e;cases e;exact hl
     .rw[aO hb] at e;exact kp b o hb e
    have gx:=Ok.w6 bq h2 hs zz aax h rfl (d1:=.lst (cB.map D.int)) (o':=.lst (cB.map V.int)) (.lst bT (qP cB));refine q H' v (gx.same s2) (s1.trans ⟨(aX.upd h rfl).trans (.of s2),λb o zb e=>?_⟩) rv;exact kp b o (λhb=>by subst hb;rw[zz.2 _ aax] at zb;cases zb) e
  .cases e0
 .cases e0
noncomputable def gj:List Int->List D->Option (D×List Int)
 |ns,[.int m]=>if ns=[] then some (.int 0,[]) else if 0<m then some (.int (ns.getLastD 0 % m),ns.dropLast) else none
 |_,_=>none
end
theorem NR{K:PySem.W.Frag}(h:xG K gj vs H Q E):vs.length=2:=by
 obtain⟨a,ns,ws,es,d,cB,rfl,h1,h2,h3,_⟩:=h;rw[abj,<- h2.length];cases es with
 |nil=>cases h3
 |cons e es=>
  cases es with
  |nil=>rfl
  |cons e' es=>cases e<;>cases h3
theorem Wf(hN:N.length=2)(hc:FT X c (tV (e2 oEq (e1 cX (ah 0)) (eC (.int 0)))))(hz:PE X z (tC (.int 0)))
  (hp:PE X e (sA (rI (λ_ j=>0<j) λi j=>.int (i % j)) (LK X.K "list" PJ (xy 0)) (xy 1))) (h:xG X.K gj vs H Q E) :
  ∃t,gC X [.If c [.Return (some z) p1] [] p2,.Return (some e) p3] t/\t { nx:=λ_ H'=>Q .aC H',rt:=Q } (start N vs) H:=by
 have hl:=NR h;obtain⟨a,ns,ws,es,d,cB,rfl,h1,h2,h3,q⟩:=h;obtain⟨tt,pt,qt⟩:=hc;refine⟨_,uO (yY pt (yH (qH hz)) Cs) (yH (qH hp)),?_⟩;generalize hf:([]:List Addr)=fp at h2;cases h2 with
 |nil=>cases h3
 | @cons d0 v0 ds0 vs0 f1 f2 r1 r2=>
  obtain⟨z1,z2⟩:=adQ.mp hf.symm;subst z1 z2;have hv:=aeP (by simpa using hl);subst hv;cases r2;cases r1<;>try (cases h3;done)
  rename_i m;have st:start N [V.ref a,V.int m]=[some (.ref a),some (.int m)]:=by unfold start;rw[hN];rfl
  rw[st];have ok:Ok X.K H [] (λ_=>none) [] [some (.lst (ns.map D.int),.sh []),some (.int m,.sh [])] [some (.ref a),some (.int m)] H:=by
   refine⟨λi d t e=>?_,(λp m=>nomatch m),(λa j e=>nomatch e),(λa o e _=>e),rfl⟩
   match i,e with
   |0,e=>cases e;exact⟨_,_,rfl,.lst h1 (qP ns),λb _ j e=>nomatch e⟩
   |1,e=>cases e;exact⟨_,_,rfl,.int m,λb m=>nomatch m⟩
  by_cases hn:ns=[]
  .subst hn;have h3:=h3;cases h3;refine qt (b:=true) ok rfl λH1 s1=>?_
   rw[if_pos rfl];exact q H1 _ (λb o _ e=>s1 _ _ e) (s1 _ _ h1) (.int 0)
  .have h3:(if ns=[] then some (D.int 0,([]:List Int)) else if 0<m then some (D.int (ns.getLastD 0 % m),ns.dropLast) else none)=some (d,cB):=h3;rw[abf hn] at h3;obtain⟨hm,h3⟩:=ci h3;cases h3;have hb:tV (e2 oEq (e1 cX (ah 0)) (eC (.int 0))) [some (.lst (ns.map D.int),.sh []),some (.int m,.sh [])]=some false:=by
    show some ((((ns.map D.int).length:Int))==0)=some false;have:((ns.map D.int).length:Int)≠0:=by
     rw[aaf];intro z;exact hn (aeP (by omega))
    rw[ab0.mpr this]
   refine qt ok hb λH1 s1=>?_
   rw[abf aaN];have g1:=s1 _ _ h1;have hlen:=List.length_pos_iff.mpr hn;have hy:(ns.map V.int)[(ns.map V.int).length-1]? = some (.int (ns.getLastD 0)):=by
    rw[aaf,abW,aa0 (by omega),List.getLastD_eq_getLast?,List.getLast?_eq_getElem?,aa0 (by omega)];rfl
   refine⟨.ref a,rfl,.inl ⟨rfl,_,bS.of g1⟩,a,_,_,rfl,rfl,g1,hy,.int m,rfl,ns.getLastD 0,m,rfl,rfl,hm,?_⟩;refine q _ _ (λb o hb e=>by rw[aO hb];exact s1 _ _ e) ?_ (.int _);rw[bT,List.map_dropLast]
theorem XX{K:PySem.W.Frag}{x qual:Str}{st:Stmt}{fd:FuncData}{N ps:List Str}{k:Nat}(F:gJ K x qual st f fd)(S:mF N ps (b_ st)):
  bN P w K mg base cE (k+1) f fd ps (bx K λ_=>none):=F.ok S (λvs H Q E ⟨_,_,_,_,e,_⟩=>nomatch e) λaR A outer s H vs Q E hr ⟨_,_,_,_,e,_⟩=>nomatch e
section
variable{X:Cx}{a b:Expr}{fa fb:EF}{pos:Pos}
theorem Mb(ha:FP X a fa)(hb:FP X b fb):FP X (.Compare a [.Lt] [b] pos) (e2 oLt fa fb):=mH Jx pY ha hb (iV _)
theorem Zg(ha:FP X a fa)(hb:FP X b fb):FP X (.Compare a [.LtE] [b] pos) (e2 oLe fa fb):=mH F1 pY ha hb (iV _)
theorem JI(ha:FP X a fa)(hb:FP X b fb):FP X (.Compare a [.Is] [b] pos) (e2 iu fa fb):=mH Lf Lc ha hb (iV _)
end
end L2.Ev
namespace L2.Ev
open PySem
theorem pA(h:f ρ=some (d,t))(hi:aG d=true):xP f ρ=some (d,ρ):=by unfold xP;rw[h];dsimp only;rw[if_pos hi]
theorem B3{op:D->D->Option D}(h1:f ρ=some (d1,aJ))(h2:g aJ=some (d2,bf))(h:op d1 d2=some d):x2 op f g ρ=some (d,bf):=by unfold x2;rw[h1];dsimp only;rw[h2];dsimp only;rw[h];rfl
theorem y9:dG ρ=some ([],ρ):=rfl
theorem pK{g:gq}(h1:f ρ=some (d,aJ))(h2:g aJ=some (ds,bf)):bO f g ρ=some (d::ds,bf):=by unfold bO;rw[h1];dsimp only;rw[h2]
theorem tM{g:gq}(h1:g ρ=some (ds,aJ))(h2:f aJ=some (.int i,bf))(h:cP ds i=some d):oH g f ρ=some (d,bf):=by unfold oH;rw[h1];dsimp only;rw[h2];dsimp only;rw[h];rfl
theorem fH:∀ns:List Int,aP (ns.map D.int)=true
 |[]=>rfl
 |n::r=>by rw[aaF];unfold aP;rw[fH r];rfl
theorem zw{as bs:List Int}(h:as.length+bs.length<=PySem.sizeLine):gp (.lst (as.map D.int)) (.lst (bs.map D.int))=some (.lst ((as++bs).map D.int)):=by
 show(if(aP (as.map D.int)&&aP (bs.map D.int)&&decide ((as.map D.int).length+(bs.map D.int).length<=PySem.sizeLine))=true then some (D.lst (as.map D.int++bs.map D.int)) else none)=_;rw[fH,fH,aaf,aaf,aa1 h,ad5];rfl
theorem Zx(h:ns.length<64):uB (.lst (ns.map D.int))=some (.lst ((jd ns).map D.int)):=by
 show(match dB (ns.map D.int) with|some ns=>if ns.length<64 then some (D.lst ((jd ns).map D.int)) else none|none=>none)=_;rw[uc];dsimp only;rw[if_pos h]
theorem xW{ns:List Int}:sM (.lst (ns.map D.int))=some (.lst (ns.map D.int)):=by show(if aP (ns.map D.int)=true then some (D.lst (ns.map D.int)) else none)=_;rw[if_pos (fH ns)]
theorem aaA{ns:List Int}:sM (.tup (ns.map D.int))=some (.lst (ns.map D.int)):=by show(if aP (ns.map D.int)=true then some (D.lst (ns.map D.int)) else none)=_;rw[if_pos (fH ns)]
theorem NZ{ns:List Int}:yG (.lst (ns.map D.int))=some (.tup (ns.map D.int)):=by show(if aP (ns.map D.int)=true then some (D.tup (ns.map D.int)) else none)=_;rw[if_pos (fH ns)]
theorem YG(h:ns.length<=63):oG none (some 200) (dI ns)=some (.lst (ns.map D.int)):=by
 show(if aP (ns.map D.int)=true then some (D.lst (cutD (ns.map D.int) none (some 200))) else none)=_;rw[if_pos (fH ns)];have:cutD (ns.map D.int) none (some 200)=ns.map D.int:=by
  unfold cutD;have e:HT.fT (ns.map D.int).length (ns.map D.int).length (some 200)=(ns.map D.int).length:=by
   have q:=HT.ze (ns.map D.int).length (ns.map D.int).length 200;rw[show((200:Nat):Int)=200 from rfl] at q;rw[q,aaf];omega
  rw[HT.An,e,List.drop_zero,Nat.sub_zero,List.take_length]
 rw[this]
open PySem PySem.Spec PyProof.Rows
theorem ay.look{K:PySem.W.Frag}{H:Hp}:∀{es:List (Str×D)}{fs:List (Str×V)}{fp:List Addr}{f:Str}{d:D},es.map (·.1)=fs.map (·.1)->ay K H (es.map (·.2)) (fs.map (·.2)) fp->es.lookup f=some d->∃v g,fs.lookup f=some v/\Rep K H d v g/\∀a∈g,a∈fp
 |[],[],_,_,_,_,_,e=>by cases e
 |[],_::_,_,_,_,k,_,_=>by simp at k
 |_::_,[],_,_,_,k,_,_=>by simp at k
 |(x,d0)::es,(y,v0)::fs,fp,f,d,k,r,e=>by
  simp only[aaF,ael] at k;obtain⟨rfl,k⟩:=k;cases r with
  |cons r1 r2=>
   by_cases hx:(f==x)=true
   .simp only[List.lookup,hx] at e ⊢;cases e;exact⟨v0,_,rfl,r1,λa m=>aaR _ m⟩
   .have hx:(f==x)=false:=by simpa using hx
    simp only[List.lookup,hx] at e ⊢;obtain⟨v,g,h1,h2,h3⟩:=ay.look (d:=d) k r2 e;exact⟨v,g,h1,h2,λa m=>aaE _ (h3 a m)⟩
theorem qd:∀{es:List (Str×D)}{fs:List (Str×V)}{f:Str},es.map (·.1)=fs.map (·.1)->es.lookup f=none->fs.lookup f=none
 |[],[],_,_,_=>rfl
 |[],_::_,_,k,_=>by simp at k
 |_::_,[],_,k,_=>by simp at k
 |(x,d0)::es,(y,v0)::fs,f,k,e=>by
  simp only[aaF,ael] at k;obtain⟨rfl,k⟩:=k
  by_cases hx:(f==x)=true
  .simp only[List.lookup,hx] at e;cases e
  .have hx:(f==x)=false:=by simpa using hx
   simp only[List.lookup,hx] at e ⊢;exact qd k e
structure ClsAt(K:PySem.W.Frag)(cn:Str)(C:Addr):Prop where
 ns:PySem.W.nsIn K mainGlobals cn=some (some (.ref C))
 cl:jY K C
theorem Rep.lX{K:PySem.W.Frag}{H:Hp}{cn:Str}(r:Rep K H (.ins cn es) v fp)(hn:PySem.W.nsIn K mainGlobals cn=some (some (.ref C))):
  ∃a dx fs g,v=.ref a/\fp=a::dx::g/\H a=some (.ins C dx fs)/\H dx=some (.own a)/\es.map (·.1)=fs.map (·.1)/\ay K H (es.map (·.2)) (fs.map (·.2)) g:=by
 cases r with
 | @ins _ a C' dx fs _ g h0 h1 h2 h3 h4=>
  rw[hn] at h0;cases h0;exact⟨a,dx,fs,g,rfl,rfl,h1,h2,h3,h4⟩
def bz(cn f:Str)(fa:EF):EF:=λρ=>match fa ρ with
 |some (.ins c es,t)=>if c=cn then(es.lookup f).map λd=>(d,kK t) else none
 |_=>none
section
variable{X:Cx}{a:Expr}{fa:EF}{pos:Pos}
theorem cO.sub(hz:∀a j,z a=some j->∃o,H a=some o)(h:cO z H t f)(s:∀a∈g,a∈f):cO z H (kK t) g:=by
 cases t with
 |sh o=>exact λa m j q=>h a (s a m) j q
 |own=>exact λa m j q=>by obtain⟨o,w⟩:=hz a j q;rw[h.2 a (s a m)] at w;cases w
 |lk=>exact λa m j q=>by obtain⟨o,w⟩:=hz a j q;rw[h.2 a (s a m)] at w;cases w
theorem bR{cn f:Str}{C:Addr}(hC:ClsAt X.K cn C)(na:ji X.K C f)(ha:FP X a fa)(hb:attributeBase a f X.env (eval a X.env)=eval a X.env:=by rfl):FP X (.Attribute a f pos) (bz cn f fa):=by
 obtain⟨t,p,q⟩:=ha;exists 21,uX p hb;unfold bz at e;exists h,fa ρ,w,e,0;obtain⟨d0,t0⟩:=w;rw[h] at e;cases d0<;>try (cases e;done)
 rename_i c es;dsimp only at e
 by_cases hc:c=cn
 .subst hc;rw[if_pos rfl] at e;exists hl,es.lookup f,d1,e;cases e;refine q ok h λH1 v fp s1 r1 g1=>?_
  obtain⟨b,dx,fs,g,rfl,rfl,h1,h2,h3,h4⟩:=r1.lX hC.ns;obtain⟨u,gf,h5,h6,h7⟩:=ay.look h3 h4 hl;exact⟨b,C,dx,fs,u,rfl,h1,hC.cl,na,h5,k H1 u gf s1 h6 (cO.sub (λa j e=>(ok.zd a j e).1) g1 λa m=>aal _ (aal _ (h7 a m)))⟩
 .rw[abf hc] at e;cases e
end
noncomputable def bu(cn m:Str)(F:List D->Option D)(fo:EF)(g:AF):EF:=λρ=>match fo ρ with
 |some (.ins c es,_)=>if c=cn/\es.lookup m=none then(g ρ).bind λps=>(F (.ins c es::ps.map (·.1))).map λd=>(d,.own) else none
 |_=>none
section
variable{X:Cx}{o e:Expr}{es:List Expr}{fo:EF}{g:AF}{m cn:Str}{apos pos:Pos}{k:Nat}{C f:Addr}{fd:FuncData}{ps:List Str}{F:List D->Option D}{pl:Sem Bool}
theorem Jm{ta:TA}(hC:ClsAt X.K cn C)(q:∀{H0:Hp}{S:List Addr}{z:Addr->Option Nat}{ak:List bZ}{Q:VK}{d:D}{tg:Tag},Ok X.K H0 S z ak ρ σ H->fo ρ=some (d,tg)->(∀H' v fp,aF H H'->Rep X.K H' d v fp->cO z H tg fp->Q v H')->t σ H Q)
  (qa:∀{H0:Hp}{S:List Addr}{z:Addr->Option Nat}{ak:List bZ}{ρ:aE}{σ:St}{H:Hp}{Q:List V->Hp->Prop}{ps:List (D×Tag)},Ok X.K H0 S z ak ρ σ H->g ρ=some ps->(∀H' vs fp,aF H H'->ay X.K H' (ps.map (·.1)) vs fp->cO z H (ko ps) fp->Q vs H')->ta σ H Q)
  {H0:Hp}{S:List Addr}{z:Addr->Option Nat} (ok:Ok X.K H0 S z ak ρ σ H) (e0:bu cn m F fo g ρ=some (d,tg)) (kk:∀H' v fp,aF H H'->Rep X.K H' d v fp->cO z H tg fp->Q v H') :
  Ae C m (bx X.K F) [] E0 t ta σ H Q:=by
 unfold bu at e0;exists h,fo ρ,w,e0,0;obtain⟨d0,t0⟩:=w;rw[h] at e0;cases d0<;>try (cases e0;done)
 rename_i c rH;dsimp only at e0
 by_cases hc:c=cn/\rH.lookup m=none
 .rw[if_pos hc] at e0;obtain⟨rfl,hm⟩:=hc;exists h2,g ρ,qs,e0,0;rw[h2,ach] at e0;cases h3:F (.ins c rH::qs.map (·.1)) with
  |none=>rw[h3] at e0;cases e0
  |some d1=>
   rw[h3] at e0;cases e0;refine q ok h λH1 v fp s1 r1 g1=>?_
   obtain⟨b,dx,fs,gf,rfl,rfl,h4,h5,h6,h7⟩:=r1.lX hC.ns;refine⟨b,dx,fs,rfl,h4,qd h6 hm,?_⟩;refine qa (ok.same s1) h2 λH2 vs jk s2 r2 _=>?_
   rw[abM];exact⟨_,_,d,.cons (r1.same s2) r2,h3,λH3 u fG s3 r3 nd fr=>kk H3 u fG ((s1.trans s2).trans s3) r3 ⟨nd,λa m=>s1.free (s2.free (fr a m))⟩⟩
 .rw[abf hc] at e0;cases e0
theorem fE(hC:ClsAt X.K cn C)(hm:j6 X.K C m f)(G:bN X.prog X.w X.K X.mg X.base cE k f fd ps (bx X.K F))(hr:aZ k X.A)(hb:Binds X.K fd ps [])(ho:FP X o fo)(ha:FA X (e::es) g)
  (cN:SE X e es pos:=by exact⟨rfl,rfl⟩)
  (ht:uC X o m apos (e::es) pos pl:=by exact rfl):FP X (.Call (.Attribute o m apos) (e::es) [] pos) (bu cn m F fo g):=by
 obtain⟨t,p,q⟩:=ho;obtain⟨ta,pa,_,qa⟩:=ha;exact⟨_,Af (pl:=pl) p hC.cl hm G hr hb .nil jt pa cN.1 cN.2 ht,@λH0 S z ak ρ σ H Q d tg ok e0 kk=>Jm hC q qa ok e0 kk⟩
theorem eO(hC:ClsAt X.K cn C)(hm:j6 X.K C m f)(G:bN X.prog X.w X.K X.mg X.base cE k f fd ps (bx X.K F))(hr:aZ k X.A)(hb:Binds X.K fd ps [])(ho:FP X o fo)
  (ht:uC X o m apos [] pos pl:=by exact rfl):FP X (.Call (.Attribute o m apos) [] [] pos) (bu cn m F fo aA):=by
 obtain⟨t,p,q⟩:=ho;obtain⟨ta,pa,_,qa⟩:=aI (X:=X);refine⟨_,MX (pl:=pl) p hC.cl hm G hr hb .nil jt ht,@λH0 S z ak ρ σ H Q d tg ok e0 kk=>Jm (ta:=sG) (g:=aA) hC q (@λ_ _ _ _ _ _ H _ _ _ e q=>by cases e;exact q H _ _ (aF.refl H) .nil .nil) ok e0 kk⟩
end
noncomputable abbrev MF:=D->List D->Option (D×D)
def c_(K:PySem.W.Frag)(G:MF):Sp:=λvs H Q _=>∃a ws d0 aT ds dJ r d1,vs=V.ref a::ws/\Rep K H d0 (.ref a) aT/\aT.Nodup/\ay K H ds ws dJ/\(∀b∈dJ,b∉aT)/\G d0 ds=some (r,d1)/\
 ∀H' v bg,aX H H'->(∀b o,b∉aT->H b=some o->H' b=some o)->Rep K H' d1 (.ref a) bg->bg.Nodup->(∀b∈bg,b∈aT\/H b=none)->Rep K H' r v []->Q v H'
def apart(i:Nat)(ps:List (D×Tag)):Bool:=match ko ps with
 |.sh o=>!o.contains i
 |_=>true
theorem u7{K:PySem.W.Frag}{H0:Hp}{S:List Addr}{z:Addr->Option Nat}{ak:List bZ}{ps:List (D×Tag)}(ok:Ok K H0 S z ak ρ σ H)(h:apart i ps=true)(g:cO z H (ko ps) fp)(zz:tS z i .own aT):∀b∈fp,b∉aT:=by
 intro b m n;unfold apart at h;have zb:=zz.2 b n;cases ht:ko ps with
 |sh o=>
  rw[ht] at h g;have:=g b m i zb;simp at h;exact h this
 |own=>
  rw[ht] at g;obtain⟨⟨o,w⟩,_⟩:=ok.zd b i zb;rw[g.2 b m] at w;cases w
 |lk=>
  rw[ht] at g;obtain⟨⟨o,w⟩,_⟩:=ok.zd b i zb;rw[g.2 b m] at w;cases w
def xO(i:Nat)(cn m:Str)(G:MF)(g:AF):XF:=λρ=>match ρ[i]?,g ρ with
 |some (some (.ins c es,.own)),some ps=>if c=cn/\es.lookup m=none/\apart i ps=true then(G (.ins c es) (ps.map (·.1))).map λw=>(w.1,bJ ρ i w.2) else none
 |_,_=>none
theorem PR{i:Nat}{cn m:Str}{G:MF}{g:AF}{ρ ρ':aE}{r:D}(e:xO i cn m G g ρ=some (r,ρ')):∃es ps d1,ρ[i]? = some (some (.ins cn es,.own))/\g ρ=some ps/\es.lookup m=none/\apart i ps=true/\G (.ins cn es) (ps.map (·.1))=some (r,d1)/\ρ'=bJ ρ i d1:=by
 unfold xO at e
 split at e
 .rename_i c es ps h1 h2
  by_cases hc:c=cn/\es.lookup m=none/\apart i ps=true
  .rw[if_pos hc] at e;obtain⟨rfl,hm,ha⟩:=hc;exists h3,G (.ins c es) (ps.map (·.1)),w,e;cases e;exact⟨es,ps,w.2,h1,h2,hm,ha,h3,rfl⟩
  .rw[abf hc] at e;cases e
 .cases e
def FZ(X:Cx)(e:Expr)(f:XF):Prop:=∃t,PE X e t/\∀{H0:Hp}{S:List Addr}{z:Addr->Option Nat}{ak:List bZ}{ρ:aE}{σ:St}{H:Hp}{Q:VK}{d:D}{ρ':aE},
 Ok X.K H0 S z ak ρ σ H->f ρ=some (d,ρ')->(∀z' H' v,Ok X.K H0 S z' ak ρ' σ H'->Rep X.K H' d v []->Q v H')->t σ H Q
section
variable{X:Cx}{e:Expr}{es:List Expr}{g:AF}{m cn x:Str}{p1 apos pos:Pos}{k:Nat}{C f:Addr}{fd:FuncData}{ps:List Str}{G:MF}{pl:Sem Bool}{fx:XF}
theorem acu{i:Nat}{ta:TA}(hC:ClsAt X.K cn C)(hN:X.N[i]? = some x)
  (qa:∀{H0:Hp}{S:List Addr}{z:Addr->Option Nat}{ak:List bZ}{ρ:aE}{σ:St}{H:Hp}{Q:List V->Hp->Prop}{ps:List (D×Tag)},Ok X.K H0 S z ak ρ σ H->g ρ=some ps->(∀H' vs fp,aF H H'->ay X.K H' (ps.map (·.1)) vs fp->cO z H (ko ps) fp->Q vs H')->ta σ H Q)
  {H0:Hp} (ok:Ok X.K H0 S z ak ρ σ H) (e0:xO i cn m G g ρ=some (d,ρ')) (kk:∀z' H' v,Ok X.K H0 S z' ak ρ' σ H'->Rep X.K H' d v []->Q v H') :
  Ae C m (c_ X.K G) [] E0 (xy i) ta σ H Q:=by
 obtain⟨rH,qs,d1,h1,h2,hm,n9,hG,rfl⟩:=PR e0;obtain⟨v,aT,hs,r0,zz⟩:=ok.sl i _ _ h1;refine⟨v,hs,?_⟩;obtain⟨b,dx,fs,gf,rfl,EX,h4,h5,h6,h7⟩:=r0.lX hC.ns;refine⟨b,dx,fs,rfl,h4,qd h6 hm,?_⟩;refine qa ok h2 λH2 vs jk s2 r2 g2=>?_
 rw[abM];have gx:=ok.same s2;refine⟨b,vs,_,aT,_,jk,d,d1,rfl,r0.same s2,zz.1,r2,u7 ok n9 g2 zz,hG,λH3 u bg im kp r1 nd fr rr=>?_⟩;obtain⟨z',gP⟩:=gx.put h1 hs zz im kp r1 nd fr;exact kk z' H3 u gP rr
theorem jI(i:Nat)(hC:ClsAt X.K cn C)(hm:j6 X.K C m f)(GG:bN X.prog X.w X.K X.mg X.base cE k f fd ps (c_ X.K G))(hr:aZ k X.A)(hb:Binds X.K fd ps [])(va:VA X i x:=by walk_at "va")
  (ht:uC X (.Name x p1) m apos [] pos pl:=by exact rfl):FZ X (.Call (.Attribute (.Name x p1) m apos) [] [] pos) (xO i cn m G aA):=
 ⟨_,MX (pl:=pl) va.pe hC.cl hm GG hr hb .nil jt ht,@λH0 S z ak ρ σ H Q d ρ' ok e0 kk=>acu (ta:=sG) hC va.N (@λ_ _ _ _ _ _ H _ _ _ e q=>by cases e;exact q H _ _ (aF.refl H) .nil .nil) ok e0 kk⟩
noncomputable def sZ(f:XF):SF:=λρ=>(f ρ).map λw=>.nx w.2
theorem i7(he:FZ X e fx)(jX:swapsWith e none pos.line X.env=pure false:=by rfl):dU X (.Expr e pos) (sZ fx):=by
 obtain⟨t,p,q⟩:=he;exists 23,zU p jX;unfold sZ at e;exists h,fx ρ,w,e,0;obtain⟨d,aJ⟩:=w;rw[h] at e;cases e;exact q ok h λz' H1 v bq r1=>k z' σ H1 bq (.refl _ _)
def jW(i:Nat)(f:XF):SF:=λρ=>match f ρ with
 |some (d,ρ')=>some (.nx (jf ρ' i d .own))
 |none=>none
theorem nq(i:Nat){pos':Pos}(he:FZ X e fx)(hN:X.N.Nodup)(hi:X.N[i]? = some x:=by rfl)(hx:Loc X.env.scope x:=by first|exact Or.inl rfl|exact Or.inr rfl)
  (hs:swapsWith e (some (.Name x pos')) pos.line X.env=pure false:=by rfl) (hf:X.fn x=true\/X.env.scope.names.lookup x=some .local:=by first|exact .inl rfl|exact .inr rfl) (kH:jN X x=false:=by rfl):dU X (.Assign [.Name x pos'] e pos) (jW i fx):=by
 obtain⟨t,p,q⟩:=he;exists 23,wg hN hi hx p hs hf;unfold jW at e;exists h,fx ρ,w,e,0;obtain⟨d,aJ⟩:=w;rw[h] at e;cases e;refine q ok h λz1 H1 v bq r1=>?_
 exact bq.stored (aF.refl H1) r1 .nil λz' aY=>k z' _ H1 aY (.set hi kH)
end
noncomputable def qN(cn:Str)(G:MF)(g:AF):EF:=λρ=>(g ρ).bind λps=>match G (.ins cn []) (ps.map (·.1)) with
 |some (.aC,d)=>some (d,.own)
 |_=>none
section
variable{X:Cx}{e:Expr}{es:List Expr}{g:AF}{cn x:Str}{p pos:Pos}{k:Nat}{C f:Addr}{fd:FuncData}{ps:List Str}{G:MF}
theorem make_core{H1:Hp}{vs:List V}{fp:List Addr}{Q:VK}(hn:PySem.W.nsIn X.K mainGlobals cn=some (some (.ref C)))(r1:ay X.K H1 ds vs fp)(h3:G (.ins cn []) ds=some (.aC,d))(kk:∀H' v fp,aF H1 H'->Rep X.K H' d v fp->fp.Nodup->(∀a∈fp,H1 a=none)->Q v H'):
  ∀x dx,H1 x=none->H1 dx=none->dx≠x->c_ X.K G (.ref x::(vs++[])) (upd (upd H1 dx (.own x)) x (.ins C dx [])) (λv H2=>v=.aC/\Q (.ref x) H2) E0:=by
 intro b dx nb zX ne;rw[abM];have s2:aF H1 (upd (upd H1 dx (.own b)) b (.ins C dx [])):=λc o e=>by rw[aO (cC e nb),aO (cC e zX)];exact e
 refine⟨b,vs,.ins cn [],[b,dx],_,fp,.aC,d,rfl,.ins hn bT (by rw[aO ne];exact bT) rfl .nil,?_,r1.same s2,λc m n=>?_,h3,λH3 u bg im kp r3 nd fr rr=>?_⟩
 .exact abu.mpr ⟨λm=>ne (aaH.mp m).symm,abu.mpr ⟨(λm=>nomatch m),abF⟩⟩
 .obtain⟨o,w,_⟩:=r1.dH c m;rcases aaM.mp n with e|n
  .rw[e,nb] at w;cases w
  .rw[aaH.mp n,zX] at w;cases w
 .cases rr;refine⟨rfl,kk H3 _ bg (λc o e=>?_) r3 nd λc m=>?_⟩
  .refine kp c o (λn=>?_) (s2 c o e);rcases aaM.mp n with q|n
   .rw[q,nb] at e;cases e
   .rw[aaH.mp n,zX] at e;cases e
  .rcases fr c m with q|q
   .rcases aaM.mp q with q|q
    .rw[q];exact nb
    .rw[aaH.mp q];exact zX
   .exact s2.free q
theorem Im{ta:TA}(hn:PySem.W.nsIn X.K mainGlobals cn=some (some (.ref C)))
  (qa:∀{H0:Hp}{S:List Addr}{z:Addr->Option Nat}{ak:List bZ}{ρ:aE}{σ:St}{H:Hp}{Q:List V->Hp->Prop}{ps:List (D×Tag)},Ok X.K H0 S z ak ρ σ H->g ρ=some ps->(∀H' vs fp,aF H H'->ay X.K H' (ps.map (·.1)) vs fp->cO z H (ko ps) fp->Q vs H')->ta σ H Q)
  {H0:Hp}{S:List Addr}{z:Addr->Option Nat}{ak:List bZ}{ρ:aE}{σ:St}{H:Hp}{Q:VK}{d:D}{tg:Tag} (ok:Ok X.K H0 S z ak ρ σ H) (e0:qN cn G g ρ=some (d,tg)) (kk:∀H' v fp,aF H H'->Rep X.K H' d v fp->cO z H tg fp->Q v H') :
  B6 C (c_ X.K G) [] E0 ta σ H Q:=by
 unfold qN at e0;exists h2,g ρ,qs,e0,0;rw[h2,ach] at e0;exists h3,G (.ins cn []) (qs.map (·.1)),w,e0,0;obtain⟨r,d1⟩:=w;rw[h3] at e0;cases r<;>try (cases e0;done)
 cases e0;refine qa ok h2 λH1 vs fp s1 r1 _=>?_
 exact make_core hn r1 h3 λH' v fp s2 r3 nd fr=>kk H' v fp (s1.trans s2) r3 ⟨nd,λa m=>s1.free (fr a m)⟩
theorem Zq(hn:PySem.W.nsIn X.K mainGlobals cn=some (some (.ref C)))(M:Mk X.K C f)(GG:bN X.prog X.w X.K X.mg X.base cE k f fd ps (c_ X.K G))(hr:aZ (k+1) X.A)(hm:X.mg x=some (.ref C))(hb:Binds X.K fd ps [])(hg:GD X x:=by exact⟨rfl,by decide⟩):
  FP X (.Call (.Name x p) [] [] pos) (qN cn G aA):=
 ⟨_,Ug M GG hr hg.1 hm hb .nil jt hg.2,@λH0 S z ak ρ σ H Q d tg ok e0 kk=>Im (ta:=sG) (g:=aA) hn (@λ_ _ _ _ _ _ H _ _ _ e q=>by cases e;exact q H _ _ (aF.refl H) .nil .nil) ok e0 kk⟩
theorem Wt(hn:PySem.W.nsIn X.K mainGlobals cn=some (some (.ref C)))(M:Mk X.K C f)(GG:bN X.prog X.w X.K X.mg X.base cE k f fd ps (c_ X.K G))(hr:aZ (k+1) X.A)(hm:X.mg x=some (.ref C))(hb:Binds X.K fd ps [])(ha:FA X (e::es) g)(hg:GD X x:=by exact⟨rfl,by decide⟩)
  (he:SE X e es pos:=by exact⟨rfl,rfl⟩):FP X (.Call (.Name x p) (e::es) [] pos) (qN cn G g):=by
 obtain⟨ta,pa,_,qa⟩:=ha;exact⟨_,My M GG hr hg.1 hm hb .nil jt pa hg.2 he.1 he.2,@λH0 S z ak ρ σ H Q d tg ok e0 kk=>Im hn qa ok e0 kk⟩
end
end L2.Ev
namespace L2
open PySem PySem.Spec PyProof.Rows
section
variable{X:Cx}
noncomputable abbrev Cx.mD(X:Cx)(xs:List Str):Cx:={ X with fn:=λy=>!(xs.contains y) }
theorem gC.mD{st:List Stmt}(hX:X.fn=λ_=>true)(h:gC (X.mD xs) st t):gC X st t:=λaf s σ H W I hw=>by
 have I':Inv (X.mD xs) af σ H s:=⟨⟨I.ok.mod,I.ok.kind,I.ok.glob,I.ok.blt,I.ok.above,I.ok.inj,I.ok.has,λx c _ e=>I.ok.nu x c (by rw[hX]) e,I.ok.hd,I.ok.frames,I.ok.pL,I.ok.qU,I.ok.bs,I.ok.iA,I.ok.nv,I.ok.n5,I.ok.iO,I.ok.lN⟩,I.os,I.bare,I.base,I.loc,I.cell,I.free,I.f_,I.pin,I.aD,I.len,I.hq⟩
 have back:∀{aB:St}{H':Hp}{s':Shared},Inv (X.mD xs) af aB H' s'->Inv X af aB H' s':=λJ=>⟨I.ok,J.os,J.bare,J.base,J.loc,J.cell,J.free,J.f_,J.pin,J.aD,J.len,J.hq⟩
 refine acH (h af s σ H W I' hw) (λf s' q=>?_) λ_ _ z=>z
 cases f with
 |next=>obtain⟨a,b,J,q⟩:=q;exact⟨a,b,back J,q⟩
 |brk=>obtain⟨a,b,J,q⟩:=q;exact⟨a,b,back J,q⟩
 |cont=>obtain⟨a,b,J,q⟩:=q;exact⟨a,b,back J,q⟩
 |ret u=>obtain⟨v,a,b,J,r,q⟩:=q;exact⟨v,a,b,back J,r,q⟩
end
end L2
namespace L2.Ev
open PySem PySem.Spec PyProof.Rows
def w_(im:Bool)(X:Cx)(H0:Hp)(S:List Addr)(ak:List bZ)(oJ:St)(E:Ends):Out->Prop
 |.rt p=>∃r d0,p=.tup [r,d0]/\∀z ρ σ H v d7,Ok X.K H0 S z ak ρ σ H->ρ[0]? = some (some (d0,.own))->Kp X oJ σ->Rep X.K H r v d7->d7.Nodup->(∀b∈d7,(H0 b=none\/b∈S)/\z b≠some 0)->(im=true->d7=[])->E.rt v H
 |o=>mW X H0 S ak oJ E o
def ly(im:Bool)(X:Cx)(st:List Stmt)(f:SF):Prop:=∃t,gC X st t/\∀{H0:Hp}{S:List Addr}{z:Addr->Option Nat}{ak:List bZ}{ρ:aE}{σ:St}{H:Hp}{E:Ends}{o:Out},
 Ok X.K H0 S z ak ρ σ H->f ρ=some o->w_ im X H0 S ak σ E o->t E σ H
def r_(im:Bool)(X:Cx)(st:Stmt)(f:SF):Prop:=∃t,PS X st t/\∀{H0:Hp}{S:List Addr}{z:Addr->Option Nat}{ak:List bZ}{ρ:aE}{σ:St}{H:Hp}{E:Ends}{o:Out},
 Ok X.K H0 S z ak ρ σ H->f ρ=some o->w_ im X H0 S ak σ E o->t E σ H
noncomputable abbrev FM:=ly true
theorem w_.of{im:Bool}{X:Cx}{H0:Hp}{S:List Addr}{ak:List bZ}{σ aB:St}{E:Ends}{o:Out}(k:w_ im X H0 S ak σ E o)(a:Kp X σ aB):w_ im X H0 S ak aB E o:=by
 cases o with
 |nx ρ=>exact mW.of (o:=.nx ρ) k a
 |bk ρ=>exact mW.of (o:=.bk ρ) k a
 |ct ρ=>exact mW.of (o:=.ct ρ) k a
 |er raw cn ρ=>exact sU.of k a
 |rt d=>obtain⟨r,d0,e,k⟩:=k;exact⟨r,d0,e,λz ρ s H v d7 ok h b=>k z ρ s H v d7 ok h (a.trans b)⟩
noncomputable def iR(f:SF):SF:=λρ=>match f ρ with
 |some (.nx ρ')=>some (.nx ρ')
 |some (.bk ρ')=>some (.bk ρ')
 |some (.ct ρ')=>some (.ct ρ')
 |some (.er raw cn ρ')=>some (.er raw cn ρ')
 |_=>none
section
variable{im:Bool}{X:Cx}{pos:Pos}{st:Stmt}{rest:List Stmt}{f g:SF}
theorem bH(h:dU X st f):r_ im X st (iR f):=by
 obtain⟨t,p,q⟩:=h;refine⟨t,p,@λH0 S z ak ρ σ H E o ok e k=>?_⟩;unfold iR at e;exists h,f ρ,w,e;refine q ok h ?_;cases w<;>first|(cases e;done)|(cases e;exact k)
theorem fS:ly im X [] cz:=⟨_,Cs,@λ_ _ z _ _ σ H _ _ ok e k=>by cases e;exact k z σ H ok (.refl _ _)⟩
theorem cu(h:r_ im X st f):ly im X [st] f:=let⟨t,p,q⟩:=h;⟨t,yH p,q⟩
theorem bh(h1:r_ im X st f)(h2:ly im X rest g):ly im X (st::rest) (aS f g):=by
 obtain⟨t,p,q⟩:=h1;obtain⟨t',p',q'⟩:=h2;exists 23,uO p p';unfold aS at e;exists h,f ρ,w,e,0;refine q ok h ?_;rw[h] at e;cases w with
 |nx ρ'=>exact λz' aB H' aY a=>q' aY e (k.of a)
 |rt d=>cases e;exact k
 |bk ρ'=>cases e;exact k
 |ct ρ'=>cases e;exact k
 |er _ _ _=>cases e;exact k
theorem eN{c:Expr}{a b:List Stmt}{tc:TF}(hc:FT X c tc)(ha:ly im X a f)(hb:ly im X b g):r_ im X (.If c a b pos) (cH tc f g):=by
 obtain⟨t,p,q⟩:=hc;obtain⟨t1,p1,q1⟩:=ha;obtain⟨t2,p2,q2⟩:=hb;exists 23,yY p p1 p2;unfold cH at e;exists h,tc ρ,y,e;refine q ok h λH1 s1=>?_
 cases y with
 |true=>rw[if_pos rfl];exact q1 (ok.same s1) e k
 |false=>rw[abf aaN];exact q2 (ok.same s1) e k
theorem nI:r_ im X st kQ:=⟨_,MY,@λ_ _ _ _ _ _ _ _ _ _ e _=>by cases e⟩
def k_(f:EF):SF:=λρ=>match f ρ,ρ[0]? with
 |some (r,_),some (some (d0,Tag.own))=>if aG r=true then some (.rt (.tup [r,d0])) else none
 |_,_=>none
theorem jy{f:EF}(he:FP X e f):r_ im X (.Return (some e) pos) (k_ f):=by
 obtain⟨t,p,q⟩:=he;exists 23,qH p;unfold k_ at e
 split at e
 .rename_i r tg d0 h1 h2;obtain⟨hi,e⟩:=ci e;cases e;obtain⟨r',d0',ee,k⟩:=k;cases ee;refine q ok h1 λH1 v fp s1 r1 _=>?_
  have hn:=r1.aG hi;subst hn;exact k z ρ σ H1 v [] (ok.same s1) h2 (.refl _ _) r1 abF (λb m=>nomatch m) λ_=>rfl
 .cases e
noncomputable def Am(f:XF):SF:=λρ=>match f ρ with
 |some (r,ρ')=>match ρ'[0]? with
  |some (some (d0,Tag.own))=>some (.rt (.tup [r,d0]))
  |_=>none
 |none=>none
theorem TY{e:Expr}{f:XF}(he:FZ X e f):r_ im X (.Return (some e) pos) (Am f):=by
 obtain⟨t,p,q⟩:=he;exists 23,qH p;unfold Am at e;exists h1,f ρ,w,e,0;obtain⟨r,aJ⟩:=w;rw[h1] at e;dsimp only at e
 split at e
 .rename_i d0 h2;cases e;obtain⟨r',d0',ee,k⟩:=k;cases ee;exact q ok h1 λz' H1 v bq r1=>k z' aJ σ H1 v [] bq h2 (.refl _ _) r1 abF (λb m=>nomatch m) λ_=>rfl
 .cases e
end
noncomputable def wY(n:Nat)(d0:D)(ds:List D):aE:=some (d0,.own)::(ds.map (λd=>some (d,.sh []))++List.replicate (n-(ds.length+1)) none)
def runM(n N:Nat)(b:SF):MF:=λd0 ds=>if ds.length + 1=n then(match b (wY N d0 ds) with
 |some (.rt (.tup [r,d1]))=>some (r,d1)
 |some (.nx ρ)=>match ρ[0]? with
  |some (some (d1,Tag.own))=>some (.aC,d1)
  |_=>none
 |_=>none) else none
def yM(im:Bool)(K:PySem.W.Frag)(G:MF):Sp:=λvs H Q _=>∃v0 ws d0 aT ds dJ r d1,vs=v0::ws/\Rep K H d0 v0 aT/\aT.Nodup/\ay K H ds ws dJ/\(∀b∈dJ,b∉aT)/\G d0 ds=some (r,d1)/\
 ∀H' v bg d7,aX H H'->(∀b o,b∉aT->H b=some o->H' b=some o)->Rep K H' d1 v0 bg->bg.Nodup->(∀b∈bg,b∈aT\/H b=none)->Rep K H' r v d7->d7.Nodup->(∀b∈d7,(b∈aT\/H b=none)/\b∉bg)->(im=true->d7=[])->Q v H'
def oz(K:PySem.W.Frag)(G:MF):Sp:=λvs H Q _=>∃v0 ws d0 aT ds dJ r d1,vs=v0::ws/\Rep K H d0 v0 aT/\aT.Nodup/\ay K H ds ws dJ/\(∀b∈dJ,b∉aT)/\G d0 ds=some (r,d1)/\
 ∀H' v bg d7,aX H H'->(∀b o,b∉aT->H b=some o->H' b=some o)->Rep K H' d1 v0 bg->bg.Nodup->(∀b∈bg,b∈aT\/H b=none)->Rep K H' r v d7->d7.Nodup->(∀b∈d7,(b∈aT\/H b=none)/\b∉bg)->Q v H'
section
variable{P:Program}{w:World}{K:PySem.W.Frag}{mg:Str->Option Value}{base:Heap}
theorem Xh:∀vs H Q E,c_ K G vs H Q E->yM true K G vs H Q E:=λ_ _ _ _ ⟨a,ws,d0,aT,ds,dJ,r,d1,h1,h2,h3,h4,h5,h6,q⟩=>⟨.ref a,ws,d0,aT,ds,dJ,r,d1,h1,h2,h3,h4,h5,h6,λH' v bg d7 a1 a2 a3 a4 a5 a6 _ _ e=>q H' v bg a1 a2 a3 a4 a5 (by rw[<- e rfl];exact a6)⟩
theorem QC:∀vs H Q E,oz K G vs H Q E->yM false K G vs H Q E:=λ_ _ _ _ ⟨v0,ws,d0,aT,ds,dJ,r,d1,h1,h2,h3,h4,h5,h6,q⟩=>⟨v0,ws,d0,aT,ds,dJ,r,d1,h1,h2,h3,h4,h5,h6,λH' v bg d7 a1 a2 a3 a4 a5 a6 a7 a8 _=>q H' v bg d7 a1 a2 a3 a4 a5 a6 a7 a8⟩
theorem Uw{im:Bool}{x qual x0:Str}{st:Stmt}{f:Addr}{fd:FuncData}{N ps:List Str}{k:Nat}{b:SF}(F:gJ K x qual st f fd)(S:mF N ps (b_ st))(h0:N[0]? = some x0)
  (hb:∀(aR:Value) (A:Around) (outer:List Env) (s:Shared) (H:Hp) (E:XK),aZ k (A.deeper (envOfC qual (b_ st) s.heap.objs.size f aR))->ly im ((e_ cE P w K mg base N qual (b_ st) f aR A outer s H E).gz.mD [x0]) (fZ st) b) :
  bN P w K mg base cE (k+1) f fd ps (yM im K (runM ps.length N.length b)):=by
 have qT:∀{d0:D}{ds:List D}{r:D×D},runM ps.length N.length b d0 ds=some r->ds.length+1=ps.length:=λ{d0 ds r} e=>by
  unfold runM at e
  split at e
  .assumption
  .cases e
 refine F.ok S (λvs H Q E ⟨v0,ws,d0,aT,ds,dJ,r,d1,e0,_,_,rs,_,e,_⟩=>?_) λaR A outer s H vs Q E hr ⟨v0,ws,d0,aT,ds,dJ,r,d1,e0,r0,Yk,rs,dj,e,q⟩=>?_
 .rw[e0,abj,<- rs.length,qT e]
 .obtain⟨t,pt,sd⟩:=hb aR A outer s H E hr;refine⟨t,pt.mD rfl,?_⟩;have Y9:ay K H [d0] [v0] aT:=by have:=ay.cons r0 .nil;rwa [abM] at this
  obtain⟨z,ok⟩:=Ok.jZ Y9 Yk rs dj;rw[e0];have fin:∀{z:Addr->Option Nat}{ρ:aE}{σ:St}{H':Hp}{v:V}{d7:List Addr},Ok K H aT z [] ρ σ H'->ρ[0]? = some (some (d1,.own))->Kp ((e_ cE P w K mg base N qual (b_ st) f aR A outer s H E).gz.mD [x0]) (start N (v0::ws)) σ->Rep K H' r v d7->d7.Nodup->(∀b∈d7,(H b=none\/b∈aT)/\z b≠some 0)->(im=true->d7=[])->Q v H':=by
   intro z ρ σ H' v d7 aY h1 kp rr OV Ek hi;obtain⟨u,bg,hs,r1,zz⟩:=aY.sl 0 d1 .own h1;have hk:=kp 0 _ h0 (by
    show(x0==("self":Str)||(!([x0].contains ("self":Str))&&!(!([x0].contains x0))))=true
    by_cases h:x0=("self":Str)
    .rw[h];rfl
    .simp[aez h])
   rw[hk] at hs;cases hs;have st:∀{c:Addr}{o:HO},H c=some o->j4 o=false->H' c=some o:=λ{c o} e' mo=>aY.en c _ e' λm=>by
    obtain⟨o',w,HL⟩:=r0.dH c m;rw[e'] at w;cases w;rw[mo] at HL;cases HL
   exact q H' v bg d7 ⟨λc xs e'=>st e' rfl,λc o u e'=>st e' rfl,λc φ e'=>st e' rfl⟩ (λc o n e'=>aY.en c o e' n) r1 zz.1 (λc m=>((aY.zd c 0 (zz.2 c m)).2).symm.imp id id) rr OV (λc m=>⟨(Ek c m).1.symm.imp id id,λm'=>(Ek c m).2 (zz.2 c m')⟩) hi
  have hl:=qT e;unfold runM at e;rw[if_pos hl] at e;exists ho,b (wY N.length d0 ds),o,e;refine sd ok ho ?_;cases o with
  |rt p=>
   have hp:p=.tup [r,d1]:=by
    split at e<;>rename_i hh
    .cases e;cases hh;rfl
    .cases hh
    .cases e
   exact⟨r,d1,hp,λz ρ σ H' v d7 aY h1 kp=>fin aY h1 kp⟩
  |nx ρ'=>
   dsimp only at e
   split at e
   .rename_i dd h1;cases e;exact λz σ H' aY kp=>fin aY h1 kp .aC abF (λb m=>nomatch m) λ_=>rfl
   .cases e
  |bk _=>cases e
  |ct _=>cases e
  |er _ _ _=>cases e
end
noncomputable def dO(f:Str)(d:D):List (Str×D)->List (Str×D)
 |[]=>[(f,d)]
 |(g,x)::r=>if g=f then(g,d)::r else(g,x)::dO f d r
theorem JJ:∀{es:List (Str×D)}{fs:List (Str×V)},es.map (·.1)=fs.map (·.1)->(dO f d es).map (·.1)=(eB f v fs).map (·.1)
 |[],[],_=>rfl
 |[],_::_,k=>by simp at k
 |_::_,[],k=>by simp at k
 |(x,d0)::es,(y,v0)::fs,k=>by
  simp only[aaF,ael] at k;obtain⟨rfl,k⟩:=k;unfold dO eB
  by_cases hx:x=f
  .rw[if_pos hx,if_pos hx,aaF,aaF,k]
  .rw[abf hx,abf hx,aaF,aaF,JJ k]
theorem Lu:∀{es:List (Str×D)},es.lookup f=some d0->(dO f d es).map (·.1)=es.map (·.1)
 |[],e=>by cases e
 |(x,d1)::es,e=>by
  unfold dO
  by_cases hx:x=f
  .rw[if_pos hx];rfl
  .have hb:=ab0.mpr λq=>hx q.symm
   simp only[List.lookup,hb] at e;rw[abf hx,aaF,Lu e];rfl
section
variable{K:PySem.W.Frag}{H H':Hp}
theorem ay.eB(rd:Rep K H d v fd):∀{es:List (Str×D)}{fs:List (Str×V)}{g:List Addr},es.map (·.1)=fs.map (·.1)->ay K H (es.map (·.2)) (fs.map (·.2)) g->
  ∃g',ay K H ((dO f d es).map (·.2)) ((L2.eB f v fs).map (·.2)) g'/\(∀a∈g',a∈g\/a∈fd)/\(g.Nodup->fd.Nodup->(∀a∈fd,a∉g)->g'.Nodup)
 |[],[],_,_,r=>by
  cases r;exact⟨fd++[],.cons rd .nil,λa m=>.inr (by simpa using m),λ_ n _=>by simpa using n⟩
 |[],_::_,_,k,_=>by simp at k
 |_::_,[],_,k,_=>by simp at k
 |(x,d0)::es,(y,v0)::fs,_,k,r=>by
  simp only[aaF,ael] at k;obtain⟨rfl,k⟩:=k;cases r with
  | @cons _ _ _ _ f1 f2 r1 r2=>
   unfold dO L2.eB
   by_cases hx:x=f
   .rw[if_pos hx,if_pos hx];refine⟨fd++f2,.cons rd r2,λa m=>(abb.mp m).elim .inr λm=>.inl (aaE _ m),λn1 n2 n3=>?_⟩;exact abL.mpr ⟨n2,(abL.mp n1).2.1,λa ma b mb e=>n3 a ma (aaE _ (e ▸ mb))⟩
   .rw[abf hx,abf hx];obtain⟨g',h1,h2,h3⟩:=ay.eB rd k r2;refine⟨f1++g',.cons r1 h1,λa m=>?_,λn1 n2 n3=>?_⟩
    .rcases abb.mp m with m|m
     .exact .inl (aaR _ m)
     .exact(h2 a m).imp (aaE _) id
    .obtain⟨a1,a2,a3⟩:=abL.mp n1;refine abL.mpr ⟨a1,h3 a2 n2 (λa m q=>n3 a m (aaE _ q)),λa ma b mb e=>?_⟩;rcases h2 b mb with q|q
     .exact a3 a ma b q e
     .exact n3 b q (aaR _ (e ▸ ma))
theorem ay.place{f:Str}{d0:D}:∀{es:List (Str×D)}{fs:List (Str×V)}{g:List Addr},es.map (·.1)=fs.map (·.1)->ay K H (es.map (·.2)) (fs.map (·.2)) g->g.Nodup->es.lookup f=some d0->
  ∃v gf,fs.lookup f=some v/\Rep K H d0 v gf/\gf.Nodup/\(∀a∈gf,a∈g)/\∀(H':Hp) (d1:D) (g1:List Addr),aX H H'->(∀b o,b∉gf->H b=some o->H' b=some o)->Rep K H' d1 v g1->g1.Nodup->(∀b∈g1,b∈gf\/H b=none)->
   ∃g',ay K H' ((dO f d1 es).map (·.2)) (fs.map (·.2)) g'/\g'.Nodup/\∀b∈g',b∈g\/H b=none
 |[],_,_,_,_,_,e=>by cases e
 |_::_,[],_,k,_,_,_=>by simp at k
 |(x,d)::es,(y,v0)::fs,_,k,r,nd,e=>by
  simp only[aaF,ael] at k;obtain⟨rfl,k⟩:=k;cases r with
  | @cons _ _ _ _ f1 f2 r1 r2=>
   obtain⟨a1,a2,a3⟩:=abL.mp nd
   by_cases hx:x=f
   .subst hx;have hb:=adH x;simp only[List.lookup,hb] at e ⊢;cases e;refine⟨v0,f1,rfl,r1,a1,λa m=>aaR _ m,λH' d1 g1 im kp rr n1 fr=>?_⟩;refine⟨g1++f2,?_,abL.mpr ⟨n1,a2,λa ma b mb e=>?_⟩,λb m=>?_⟩
    .unfold dO;rw[if_pos rfl];refine .cons rr (r2.frame (λa m=>?_) im);obtain⟨o,w,_⟩:=r2.dH a m;rw[kp a o (λq=>a3 a q a m rfl) w,w]
    .subst e;obtain⟨o,w,_⟩:=r2.dH a mb;rcases fr a ma with q|q
     .exact a3 a q a mb rfl
     .rw[q] at w;cases w
    .rcases abb.mp m with m|m
     .exact(fr b m).imp (aaR _) id
     .exact .inl (aaE _ m)
   .have hb:=ab0.mpr λq=>hx q.symm
    simp only[List.lookup,hb] at e ⊢;obtain⟨v,gf,h1,h2,h3,h4,h5⟩:=ay.place k r2 a2 e;refine⟨v,gf,h1,h2,h3,λa m=>aaE _ (h4 a m),λH' d1 g1 im kp rr n1 fr=>?_⟩;obtain⟨g',c1,c2,c3⟩:=h5 H' d1 g1 im kp rr n1 fr;refine⟨f1++g',?_,abL.mpr ⟨a1,c2,λa ma b mb e=>?_⟩,λb m=>?_⟩
    .unfold dO;rw[abf hx];refine .cons (r1.frame (λa m=>?_) im) c1;obtain⟨o,w,_⟩:=r1.dH a m;rw[kp a o (λq=>a3 a m a (h4 a q) rfl) w,w]
    .subst e;obtain⟨o,w,_⟩:=r1.dH a ma;rcases c3 a mb with q|q
     .exact a3 a ma a q rfl
     .rw[q] at w;cases w
    .rcases abb.mp m with m|m
     .exact .inl (aaR _ m)
     .exact(c3 b m).imp (aaE _) id
theorem Rep.L_{cn f:Str}(r:Rep K H (.ins cn es) v fp)(hn:PySem.W.nsIn K mainGlobals cn=some (some (.ref C)))(nd:fp.Nodup)(e:es.lookup f=some d0):
  ∃a dx fs u gf,(a∉gf/\dx∉gf)/\v=.ref a/\H a=some (.ins C dx fs)/\fs.lookup f=some u/\Rep K H d0 u gf/\gf.Nodup/\(∀b∈gf,b∈fp)/\∀(H':Hp) (d1:D) (g1:List Addr),aX H H'->(∀b o,b∉gf->H b=some o->H' b=some o)->Rep K H' d1 u g1->g1.Nodup->(∀b∈g1,b∈gf\/H b=none)->
   ∃bg,Rep K H' (.ins cn (dO f d1 es)) v bg/\bg.Nodup/\∀b∈bg,b∈fp\/H b=none:=by
 obtain⟨a,dx,fs,g,rfl,rfl,h1,h2,h3,h4⟩:=r.lX hn;obtain⟨n1,n2⟩:=abu.mp nd;obtain⟨n3,n4⟩:=abu.mp n2;obtain⟨u,gf,c1,c2,c3,c4,c5⟩:=ay.place h3 h4 n4 e;refine⟨a,dx,fs,u,gf,⟨λm=>n1 (aal _ (c4 _ m)),λm=>n3 (c4 _ m)⟩,rfl,h1,c1,c2,c3,λb m=>aal _ (aal _ (c4 b m)),λH' d1 g1 im kp rr m1 fr=>?_⟩;obtain⟨g',e1,e2,e3⟩:=c5 H' d1 g1 im kp rr m1 fr;have ka:=kp a _ (λq=>n1 (aal _ (c4 a q))) h1;have kd:=kp dx _ (λq=>n3 (c4 dx q)) h2;refine⟨a::dx::g',.ins hn ka kd (by rw[Lu e];exact h3) e1,?_,λb m=>?_⟩
 .refine abu.mpr ⟨λm=>?_,abu.mpr ⟨λm=>?_,e2⟩⟩
  .rcases aaM.mp m with q|m
   .exact n1 (by rw[q];exact aax)
   .rcases e3 a m with q|q
    .exact n1 (aal _ q)
    .rw[h1] at q;cases q
  .rcases e3 dx m with q|q
   .exact n3 q
   .rw[h2] at q;cases q
 .rcases aaM.mp m with q|m
  .exact .inl (by rw[q];exact aax)
  .rcases aaM.mp m with q|m
   .exact .inl (by rw[q];exact aal _ aax)
   .exact(e3 b m).imp (λq=>aal _ (aal _ q)) id
theorem Rep.place{cn f:Str}{es:List (Str×D)}{v:V}{fp:List Addr}{d0:D}{C:Addr}(r:Rep K H (.ins cn es) v fp)(hn:PySem.W.nsIn K mainGlobals cn=some (some (.ref C)))(nd:fp.Nodup)(e:es.lookup f=some d0):
  ∃a dx fs u gf,v=.ref a/\H a=some (.ins C dx fs)/\fs.lookup f=some u/\Rep K H d0 u gf/\gf.Nodup/\(∀b∈gf,b∈fp)/\∀(H':Hp) (d1:D) (g1:List Addr),aX H H'->(∀b o,b∉gf->H b=some o->H' b=some o)->Rep K H' d1 u g1->g1.Nodup->(∀b∈g1,b∈gf\/H b=none)->
   ∃bg,Rep K H' (.ins cn (dO f d1 es)) v bg/\bg.Nodup/\∀b∈bg,b∈fp\/H b=none:=
 let⟨a,dx,fs,u,gf,_,h⟩:=r.L_ hn nd e;⟨a,dx,fs,u,gf,h⟩
end
theorem Ok.fld{K:PySem.W.Frag}{H0:Hp}{S:List Addr}{z:Addr->Option Nat}{ak:List bZ}{ρ:aE}{σ:St}{fs:List (Str×V)}(hC:ClsAt K cn C)(ok:Ok K H0 S z ak ρ σ H)(h:ρ[i]? = some (some (.ins cn es,.own)))
  (hs:σ[i]? = some (some (.ref b))) (hb:H b=some (.ins C dx fs)) (s1:aF H H1) (r1:Rep K H1 d y fd) (nd:fd.Nodup) (fr:∀c∈fd,H c=none):∃z',Ok K H0 S z' ak (bJ ρ i (.ins cn (dO f d es))) σ (upd H1 b (.ins C dx (L2.eB f y fs))):=by
 obtain⟨v,aT,ck,r0,zz⟩:=ok.sl i _ _ h;rw[hs] at ck;cases ck;obtain⟨b',xq,pB,g,e,rfl,h3,h4,h5,h6⟩:=(r0.same s1).lX hC.ns;cases e;rw[s1 _ _ hb] at h3;cases h3;have h3:=s1 _ _ hb;have yy:∀c∈fd,c∉b::dx::g:=λc m n=>by
  obtain⟨⟨o,w⟩,_⟩:=ok.zd c i (zz.2 c n);rw[fr c m] at w;cases w
 have me:b∈b::dx::g:=aax;have md:dx∈b::dx::g:=aal _ aax;have mg:∀{c},c∈g->c∈b::dx::g:=λm=>aal _ (aal _ m)
 obtain⟨n1,n2⟩:=abu.mp zz.1;obtain⟨n3,n4⟩:=abu.mp n2;have ne:∀{c},c∈g->c≠b:=λm q=>n1 (q ▸ aal _ m)
 have im:aX H1 (upd H1 b (.ins C dx (L2.eB f y fs))):=aX.upd h3 rfl;obtain⟨g',c1,c2,c3⟩:=ay.eB (r1.frame (λc m=>aO λq:c=b=>yy c m (q ▸ me)) im) h5 (h6.frame (λc m=>aO (ne m)) im);have out:∀{c},c∈g'->c∈g\/c∈fd:=λ{c} m=>c2 c m
 refine ok.put (bg:=b::dx::g') h hs zz ((aX.of s1).trans im) (λc o n e=>by rw[aO λq:c=b=>n (q ▸ me)];exact s1 c o e) (.ins hC.ns bT (by rw[aO λq:dx=b=>n1 (q ▸ aax)];exact h4) (JJ h5) c1) ?_ λc m=>?_
 .refine abu.mpr ⟨λm=>?_,abu.mpr ⟨λm=>(out m).elim n3 λq=>yy dx q md,c3 n4 nd λc m n=>yy c m (mg n)⟩⟩;rcases aaM.mp m with q|m
  .exact n1 (q ▸ aax)
  .exact(out m).elim (λq=>n1 (aal _ q)) λq=>yy b q me
 .rcases aaM.mp m with q|m
  .exact .inl (q ▸ me)
  .rcases aaM.mp m with q|m
   .exact .inl (q ▸ md)
   .exact(out m).imp mg (fr c)
def o9(i:Nat)(cn f:Str)(fv:EF):SF:=λρ=>match fv ρ,ρ[i]? with
 |some (d,t),some (some (.ins c es,.own))=>if c=cn/\es.length<1000/\(lM t||aG d)=true then some (.nx (bJ ρ i (.ins c (dO f d es)))) else none
 |_,_=>none
section
variable{X:Cx}{a:Expr}{fv:EF}{pos pos' p1 p2 p3:Pos}{x cn f:Str}{C:Addr}
theorem eV(i:Nat)(hC:ClsAt X.K cn C)(na:ji X.K C f)(hv:FP X a fv)(va:VA X i x:=by walk_at "va")(hs:swapsWith a (some (.Attribute (.Name x p1) f pos')) pos.line X.env=pure false:=by rfl):dU X (.Assign [.Attribute (.Name x p1) f pos'] a pos) (o9 i cn f fv):=by
 obtain⟨t,p,q⟩:=hv;exists 23,R4 va.pe p hs;unfold o9 at e
 split at e
 .rename_i d tg c es h1 h2;obtain⟨hc,e⟩:=ci e;cases e;obtain⟨rfl,hl,ho⟩:=hc;obtain⟨v,aT,ck,r0,zz⟩:=ok.sl i _ _ h2;refine q ok h1 λH1 y fd s1 r1 g1=>⟨v,ck,?_⟩
  obtain⟨b,dx,fs,g,rfl,rfl,h3,h4,h5,h6⟩:=r0.lX hC.ns;have lf:fs.length<1000:=by have:=congrArg List.length h5;rw[aaf,aaf] at this;omega
  refine⟨b,C,dx,fs,rfl,s1 _ _ h3,hC.cl,na,lf,?_⟩;have g:fd.Nodup/\∀a∈fd,H a=none:=by
   rcases(Bool.or_eq_true _ _).mp ho with h|h
   .cases tg<;>first|exact g1|cases h
   .rw[r1.aG h];exact⟨abF,λc m=>nomatch m⟩
  obtain⟨z',aY⟩:=ok.fld (f:=f) hC h2 ck h3 s1 r1 g.1 g.2;exact k z' σ _ aY (.refl _ _)
 .cases e
end
section
variable{X:Cx}{a b:Expr}{fa fb:EF}{p pos:Pos}
noncomputable def xX:D->Option D
 |.int i=>some (.int (-i))
 |_=>none
theorem OC(ha:FP X a fa):FP X (.UnaryOp .USub a pos) (e1 xX fa):=by
 obtain⟨t,pa,q⟩:=ha;exists 21,Zb adt pa;obtain⟨d1,t1,g1,g2,rfl⟩:=ng e;refine q ok g1 λH1 x f1 s1 r1 _=>?_
 cases r1<;>cases g2
 exact⟨_,rfl,k H1 _ [] s1 (.int _) .nil⟩
end
section
variable{X:Cx}{a b c:Expr}{fa fb fc fv:EF}{p p1 p2 p3 pos:Pos}
theorem X7{tk:Tok}(hm:X.mg x=some (.int n tk))(hg:GD X x:=by exact⟨rfl,by decide⟩):FP X (.Name x pos) (eC (.int n)):=
 ⟨_,LX hg.1 hm (v:=.int n) ⟨_,rfl⟩ hg.2,@λ_ _ _ _ _ _ H _ _ _ _ e q=>by cases e;exact q H _ _ (aF.refl H) (.int n) .nil⟩
noncomputable def oU(o o':D->D->Option D)(fa fb fc:EF):EF:=λρ=>match fa ρ,fb ρ with
 |some (d1,_),some (d2,_)=>match o d1 d2 with
  |some (.bl true)=>match fc ρ with
   |some (d3,_)=>(o' d2 d3).map λd=>(d,.own)
   |none=>none
  |some (.bl false)=>some (.bl false,.own)
  |_=>none
 |_,_=>none
theorem Xp{op qp:CmpOp}{r r':R2}{o o':D->D->Option D}(ho:cY X (compareOp op) r)(kX:cY X (compareOp qp) r')(dd:fm X.K r o)(i9:fm X.K r' o')(ha:FP X a fa)(hb:FP X b fb)(hc:FP X c fc)(hm:lastMarks [op,qp] [b,c]=false:=by with_unfolding_all rfl):
  FP X (.Compare a [op,qp] [b,c] pos) (oU o o' fa fb fc):=by
 obtain⟨ta,pa,sa⟩:=ha;obtain⟨tb,pb,sb⟩:=hb;obtain⟨tc,pc,sc⟩:=hc;exists 21,QV ho kX pa pb pc hm;unfold oU at e
 split at e
 .rename_i d1 t1 d2 t2 e1 e2;refine sa ok e1 λH1 x f1 s1 r1 _=>?_
  refine sb (ok.same s1) e2 λH2 y f2 s2 r2 _=>?_
  exists h,o d1 d2,w,e,0;refine dd H2 x y d1 d2 f1 f2 w _ (r1.same s2) r2 h λH3 u s3 r3=>?_
  rw[h] at e;cases w<;>try (cases e;done)
  rename_i b';cases r3;refine⟨b',rfl,?_⟩;cases b' with
  |false=>
   cases e;rw[abf aaN];exact k H3 _ [] ((s1.trans s2).trans s3) (.bl false) .nil
  |true=>
   rw[if_pos rfl];dsimp only at e;exists h3,fc ρ,w3,e,0;obtain⟨d3,t3⟩:=w3;rw[h3] at e;dsimp only at e;cases h4:o' d2 d3 with
   |none=>rw[h4] at e;cases e
   |some d4=>
    rw[h4] at e;cases e;refine sc (((ok.same s1).same s2).same s3) h3 λH4 w' f4 s4 r4 _=>?_
    exact i9 H4 y w' d2 d3 f2 f4 d Q ((r2.same s3).same s4) r4 h4 λH5 v5 s5 r5=>k H5 v5 [] ((((s1.trans s2).trans s3).trans s4).trans s5) r5 .nil
 .cases e
theorem V1(ha:FP X a fa)(hb:FP X b fb)(hc:FP X c fc)(hm:lastMarks [.LtE,.LtE] [b,c]=false:=by with_unfolding_all rfl):FP X (.Compare a [.LtE,.LtE] [b,c] pos) (oU oLe oLe fa fb fc):=Xp F1 F1 pY pY ha hb hc hm
def rC(neg:Bool):D->D->Option D:=λkd dd=>match dd with
 |.bK es=>(g_ kd).map λk=>.bl (if neg=true then !(bI es k).isSome else(bI es k).isSome)
 |_=>none
def Kh(neg:Bool):R2:=λy x H Q=>∃a o,x=.ref a/\iQ H a y o/\Q (.bl (if neg=true then !o.isSome else o.isSome)) H
theorem DX{K:PySem.W.Frag}:fm K (Kh neg) (rC neg):=by
 intro H y x d1 d2 f1 f2 d Q r1 r2 e k;cases r2 with
 | @bK a aj es fp h hk rs=>
  have e:((g_ d1).map λk=>D.bl (if neg=true then !(bI es k).isSome else(bI es k).isSome))=some d:=e;exists vd,g_ d1,key,e;cases e;have ek:=r1.key vd;subst ek;have ev:(eg aj key).isSome=(bI es key).isSome:=by
   obtain⟨h1,h2⟩:=rO hk rs;cases hv:bI es key with
   |none=>rw[h2 hv];rfl
   |some dv=>obtain⟨v,f,nQ,_⟩:=h1 dv hv;rw[nQ];rfl
  refine⟨a,eg aj key,rfl,iQ.k h,?_⟩;rw[ev];exact k H _ (aF.refl H) (.bl _)
 |_=>cases e
theorem YY(hu:X.A.units+1<cLine)(ha:FP X a fa)(hb:FP X b fb)(hm:behindInMarks .In b=false:=by rfl):FP X (.Compare a [.In] [b] pos) (e2 (rC false) fa fb):=
 fp_2 DX ha hb λta tb pa pb=>OA (Mv hu pa pb) hm
theorem Ke(hu:X.A.units+1<cLine)(ha:FP X a fa)(hb:FP X b fb)(hm:behindInMarks .In b=false:=by rfl):FT X (.Compare a [.In] [b] pos) (tV (e2 (rC false) fa fb)):=by
 obtain⟨ta,pa,sa⟩:=ha;obtain⟨tb,pb,sb⟩:=hb;exists 22,adS (t:=sA (Kh false) ta tb) (Mv hu pa pb) hm;obtain⟨tg,e0⟩:=BQ e;obtain⟨d1,t1,d2,t2,e1,fY,e3,rfl⟩:=mJ e0;refine sa ok e1 λH1 x f1 s1 r1 _=>?_
 refine sb (ok.same s1) fY λH2 y f2 s2 r2 _=>?_
 refine DX H2 x y d1 d2 f1 f2 _ _ (r1.same s2) r2 e3 λH3 v s3 r3=>?_
 cases r3;exact⟨c,rfl,k H3 ((s1.trans s2).trans s3)⟩
end
section
variable{X:Cx}{a b o:Expr}{fa fb fv fo:EF}{p p1 p2 p3 pos:Pos}{x cn f:Str}{C:Addr}
def Bf(i:Nat)(cn f:Str)(fv:EF):SF:=λρ=>match fv ρ,ρ[i]? with
 | some (d,_),some (some (.ins c es,.own))=>if c=cn then(match es.lookup f with
  |some (.lst ds)=>if(aG d&&aP ds&&decide (ds.length<sizeLine))=true then some (.nx (bJ ρ i (.ins c (dO f (.lst (ds++[d])) es)))) else none
  |_=>none) else none
 |_,_=>none
theorem Aq(i:Nat)(hC:ClsAt X.K cn C)(na:ji X.K C f)(hv:FP X a fv)(va:VA X i x:=by walk_at "va")(hs:starEach [a] X.env=[(false,eval a X.env)]:=by rfl)
  (hb:attributeBase (.Name x p) f X.env (eval (.Name x p) X.env)=eval (.Name x p) X.env:=by rfl)
  (i_:attributeBase (.Attribute (.Name x p) f p1) "append" X.env (eval (.Attribute (.Name x p) f p1) X.env)=eval (.Attribute (.Name x p) f p1) X.env:=by rfl)
  (jT:((backTo p3 (starEach [a] X.env)).all (λx=>!x.1)&&(backToKw p3 (keywordEach [] X.env)).all (λx=>x.1.isSome)&&decide ([a].length+([]:List Keyword).length+(if([]:List Keyword).isEmpty then 0 else 1)<30))=true:=by rfl)
  (jb:(p2.endLine==p3.line)=true:=by rfl) (jX:swapsWith (.Call (.Attribute (.Attribute (.Name x p) f p1) "append" p2) [a] [] p3) none pos.line X.env=pure false:=by rfl) :
  dU X (.Expr (.Call (.Attribute (.Attribute (.Name x p) f p1) "append" p2) [a] [] p3) pos) (Bf i cn f fv):=by
 obtain⟨tv,lu,sv⟩:=hv;exists 25,zU (sX PySem.F.plainAttrs_list PySem.F.slot_list_append PySem.F.type_list_append Fi (uX va.pe hb) (bU lu dN hs) i_ jT jb hs rfl) jX;unfold Bf at e
 split at e
 .rename_i d td c es g1 g2
  by_cases hc:c=cn
  .subst hc;rw[if_pos rfl] at e
   split at e
   .rename_i ds hl;obtain⟨hc,e⟩:=ci e;cases e;obtain⟨c1,c3⟩:=(aaL _ _).mp hc;obtain⟨c1,c2⟩:=(aaL _ _).mp c1;obtain⟨xv,fp,ck,r,zz⟩:=ok.sl i _ _ g2;refine⟨xv,ck,?_⟩;obtain⟨b0,dx,fs,u,gf,rfl,h1,h2,h3,h4,h5,h6⟩:=r.place hC.ns zz.1 hl;refine⟨b0,C,dx,fs,u,rfl,h1,hC.cl,na,h2,?_⟩;obtain⟨l,xs,f0,rfl,hq,_,_⟩:=h3.dg;refine⟨.inl ⟨rfl,_,hq⟩,?_⟩;refine sv ok g1 λH1 v fd s1 rv gv=>?_
    have hn:=rv.aG c1;subst hn;generalize hw:(V.ref l)=w at h3 h6;cases h3 with
    | @lst a' ys _ f' h rs=>
     cases hw;have hn:=rs.aG c2;subst hn;have uQ:=s1 _ _ h;refine⟨_,ys,v,rfl,rfl,uQ,by rw[<- rs.length];exact aa3 c3,?_⟩;have im:aX H1 (upd H1 l (.lst (ys++[v]))):=aX.upd uQ rfl;obtain⟨bg,k1,k2,k3⟩:=h6 (upd H1 l (.lst (ys++[v]))) (.lst (ds++[d])) [l] ((aX.of s1).trans im) (λc o n e=>by rw[aO λq=>n (by rw[q];exact aax)];exact s1 c o e)
      (.lst bT (ay.append ((rs.same s1).frame (λa m=>nomatch m) im) (ay.cons (f1:=[]) (f2:=[]) (rv.frame (λa m=>nomatch m) im) .nil))) h4 (λc m=>.inl m)
     obtain⟨z',aY⟩:=ok.put g2 ck zz ((aX.of s1).trans im) (λc o n e=>by rw[aO λq=>n (by rw[q];exact h5 l aax)];exact s1 c o e) k1 k2 k3;exact q z' σ _ aY (.refl _ _)
   .cases e
  .rw[abf hc] at e;cases e
 .cases e
end
end L2.Ev
namespace L2
open PySem PySem.Spec PyProof.Rows
section
variable{X:Cx}{elts:List Expr}{tp:Pos}{a b:Expr}{ta:TA}{p pos:Pos}
def ZO:V->List V->Hp->VK->Prop:=λx vs H Q=>∃(l:Addr) (ns:List Int) (n:Int),x=.ref l/\vs=[.int n]/\H l=some (.lst (ns.map V.int))/\n∈ns/\Q .aC (upd H l (.lst ((ns.erase n).map V.int)))
noncomputable def isI(n:Int):Value->Bool
 |.int a _=>a==n
 |_=>false
theorem BH{ns:List Int}(r:aK (ns.map V.int) us)(h:m<us.length)(h2:m<ns.length):∃t,us[m]=.int ns[m] t:=by
 obtain⟨u,hu,ru⟩:=r.get (by rw[abW,aa0 h2];rfl);rw[aa0 h] at hu;obtain⟨t,rt⟩:=ru;exact⟨t,by rw[<- rt];exact abi hu⟩
theorem Na:∀{ns:List Int}{n:Int}{m:Nat} (h:m<ns.idxOf n) (h2:m<ns.length),ns[m]≠n
 |[],_,_,_,h2=>absurd h2 (Nat.not_lt_zero _)
 |a::ns,n,m,h,h2=>by
  rw[List.idxOf_cons] at h
  by_cases ha:(a==n)=true
  .rw[ha] at h;exact absurd h (Nat.not_lt_zero _)
  .have ha:(a==n)=false:=by simpa using ha
   rw[ha] at h;cases m with
   |zero=>exact ab0.mp ha
   |succ m=>exact Na (Nat.lt_of_succ_lt_succ h) (Nat.lt_of_succ_lt_succ h2)
theorem WZ{α β:Type}{f:α->β}{l:List α}:(l.map f).eraseIdx k=(l.eraseIdx k).map f:=by
 rw[List.eraseIdx_eq_take_drop_succ,List.eraseIdx_eq_take_drop_succ,ad5,List.map_take,List.map_drop]
theorem abC:Gs X "list.remove" ZO:=by
 intro af s σ H x vs v us Q I rx rv h;obtain⟨l,ns,n,rfl,rfl,hH,hn,q⟩:=h;cases rx;obtain⟨u,rfl,ru⟩:=rv.one;obtain⟨t,rfl⟩:=ru;obtain⟨z,ao,nn,r,hl,e⟩:=I.rT hH;have hi:=List.idxOf_lt_length_of_mem hn;rw[aaf] at hl z;have hj:ns.idxOf n<ao.toArray.size:=by rw[aba];omega
 refine aeY F.slot_list_remove ⟨_,e,rfl⟩ F.entry_list_remove (F.args_list_remove_2 _ _)
  (MeetsSeq.list_remove l ao.toArray nn (.int n t) (isI n) (λy my=>?_) (ns.idxOf n) hj ?_ (λm hm h2=>?_) (by rw[aba];omega)) ⟨e,?_⟩
 .obtain⟨m,hm,em⟩:=Array.mem_iff_getElem.mp my;rw[aba] at hm;rw[List.getElem_toArray] at em;obtain⟨t',et⟩:=BH r hm (by omega);rw[<- em,et];exact MeetsSeq.EqGives.int _ _ _ _
 .rw[List.getElem_toArray];obtain⟨t',et⟩:=BH r (by omega) hi;rw[et];rw[List.getElem_idxOf hi];exact adH n
 .rw[List.getElem_toArray];rw[aba] at hm;obtain⟨t',et⟩:=BH r hm (by omega);rw[et];exact ab0.mpr (Na h2 (by omega))
 .refine⟨.aC,_,I.EI (its':=ao.eraseIdx (ns.idxOf n)) hH e ?_ ?_ ?_,rfl,q⟩
  .show ao.toArray.eraseIdxIfInBounds _=(ao.eraseIdx _).toArray;rw[List.eraseIdxIfInBounds_toArray]
  .rw[List.erase_eq_eraseIdx_of_idxOf rfl,<- WZ];exact r.eraseIdx _
  .rw[aaf];have:=List.length_erase_le (a:=n) (l:=ns);omega
end
end L2
namespace L2.Ev
open PySem PySem.Spec PyProof.Rows
noncomputable def zL(env:Env):Str×NameKind->Str×NameKind:=λ(n,k)=>if(k==NameKind.free&&env.scope.kind == .function&&env.kindOf n==some .cell) then(n,NameKind.cell) else(n,k)
theorem LF{env:Env}:∀{names:List (Str×NameKind)}{x:Str},(names.lookup x=some .cell\/names.lookup x=some .free)->(names.map (zL env)).lookup x=some .cell\/(names.map (zL env)).lookup x=some .free
 |[],_,h=>by simp at h
 |(n,k)::r,x,h=>by
  rw[aaF];have e:zL env (n,k)=(n,.cell)\/zL env (n,k)=(n,k):=by
   show(if(k==NameKind.free&&env.scope.kind == .function&&env.kindOf n==some .cell)=true then(n,NameKind.cell) else(n,k))=_\/(if(k==NameKind.free&&env.scope.kind == .function&&env.kindOf n==some .cell)=true then(n,NameKind.cell) else(n,k))=_
   split
   .exact .inl rfl
   .exact .inr rfl
  cases hx:x==n with
  |true=>
   simp only[acL,hx] at h;rcases e with e|e<;>rw[e]<;>simp only[acL,hx]
   .exact .inl trivial
   .exact h
  |false=>
   simp only[acL,hx] at h;have ih:=LF (env:=env) (names:=r) h;rcases e with e|e<;>rw[e]<;>simp only[acL,hx]<;>exact ih
theorem QH{X:Cx}{M0 M:List Str}{A8 sc:Scope}{s3:Shared}{H3:Hp}{fp:List Addr}{js:List (Option Nat)}(h:xC M0 A8 sc M js=true):nG (eU X M0 A8 s3 H3 fp) M js sc:=by
 unfold xC at h;obtain⟨h,a6⟩:=(aaL _ _).mp h;obtain⟨h,a5⟩:=(aaL _ _).mp h;obtain⟨h,a4⟩:=(aaL _ _).mp h;obtain⟨h,a3⟩:=(aaL _ _).mp h;obtain⟨a1,a2⟩:=(aaL _ _).mp h;refine⟨?_,λy hy=>?_,λy hy hl=>?_,a4,λx hx=>?_,aa3 a6⟩
 .cases hk:sc.kind<;>rw[hk] at a1<;>first|rfl|exact absurd a1 (by decide)
 .have:=acA.mp a2 y hy;intro z;rw[z] at this;exact absurd this (by decide)
 .have:=acA.mp a3 y hy;rw[hl] at this;have this:=this;cases q:sc.names.lookup y.1 with
  |none=>rw[q] at this;exact absurd this (by decide)
  |some k=>rw[q] at this;cases k<;>first|rfl|exact absurd this (by decide)
 .have:=acA.mp a5 x hx;refine LF (env:=X.env) (names:=A8.names) ?_;cases q:A8.names.lookup x with
  |none=>rw[q] at this;exact absurd this (by decide)
  |some k=>rw[q] at this;cases k<;>first|exact .inl rfl|exact .inr rfl|exact absurd this (by decide)
section
variable{X:Cx}{elts:List Expr}{tp:Pos}{a b c:Expr}{fa fb fv:EF}{p p1 p2 p3 pos pos':Pos}{x:Str}
def xQ(i:Nat)(fv:EF):SF:=λρ=>match fv ρ,ρ[i]? with
 |some (.int n,_),some (some (.lst ds,.own))=>match dB ds with
  |some ns=>if n∈ns then some (.nx (bJ ρ i (.lst ((ns.erase n).map D.int)))) else none
  |none=>none
 |_,_=>none
theorem Ny:∀{ds:List D}{ns:List Int},dB ds=some ns->ds=ns.map D.int
 |[],_,e=>by cases e;rfl
 |d::ds,ns,e=>by
  cases d<;>try (cases e;done)
  rename_i i;unfold dB at e;exists h,dB ds,r,e;cases e;rw[Ny h];rfl
theorem aaW(i:Nat)(hv:FP X a fv)(va:VA X i x:=by walk_at "va")(hs:starEach [a] X.env=[(false,eval a X.env)]:=by rfl)
  (i_:attributeBase (.Name x p1) "remove" X.env (eval (.Name x p1) X.env)=eval (.Name x p1) X.env:=by rfl)
  (jT:((backTo p3 (starEach [a] X.env)).all (λx=>!x.1)&&(backToKw p3 (keywordEach [] X.env)).all (λx=>x.1.isSome)&&decide ([a].length+([]:List Keyword).length+(if([]:List Keyword).isEmpty then 0 else 1)<30))=true:=by rfl)
  (jb:(p2.endLine==p3.line)=true:=by rfl) (jX:swapsWith (.Call (.Attribute (.Name x p1) "remove" p2) [a] [] p3) none pos.line X.env=pure false:=by rfl) :
  dU X (.Expr (.Call (.Attribute (.Name x p1) "remove" p2) [a] [] p3) pos) (xQ i fv):=by
 obtain⟨tv,lu,sv⟩:=hv;exists 25,zU (sX PySem.F.plainAttrs_list PySem.F.slot_list_remove PySem.F.type_list_remove abC va.pe (bU lu dN hs) i_ jT jb hs rfl) jX;unfold xQ at e
 split at e
 .rename_i n td ds g1 g2;exists hI,dB ds,ns,e;dsimp only at e;obtain⟨hc,e⟩:=ci e;cases e;have:=Ny hI;subst this;obtain⟨xv,fp,ck,r,zz⟩:=ok.sl i _ _ g2;refine⟨xv,ck,?_⟩;obtain⟨l,xs,f,rfl,hq,_,_⟩:=r.dg;refine⟨.inl ⟨rfl,_,hq⟩,?_⟩;refine sv ok g1 λH1 v fd s1 rv gv=>?_
  cases rv;have r':=r.same s1;have bq:=ok.same s1;generalize hw:(V.ref l)=w at r' ck;cases r' with
  | @lst a' ys _ f' h rs=>
   cases hw;have ey:=pP rs hI;subst ey;have hn:=rs.aG (fH ns);subst hn;refine⟨_,ns,n,rfl,rfl,h,hc,?_⟩;have im:aX H1 (upd H1 l (.lst ((ns.erase n).map V.int))):=aX.upd h rfl;exact q z σ _ (Ok.w6 bq g2 ck zz aax h rfl (.lst bT (qP _))) (.refl _ _)
 .cases e
def uK(fa fh:EF):EF:=λρ=>match fa ρ,fh ρ with
 |some (.lst ds,_),some (.int i,_)=>if aP ds=true then some (.lst (cutD ds none (some i)),.own) else none
 |_,_=>none
theorem HU{fh:EF}(ha:FP X a fa)(hh:FP X b fh):FP X (.Subscript a (.Slice none (some b) none p2) pos) (uK fa fh):=by
 obtain⟨t,p,q⟩:=ha;obtain⟨th,ph,qh⟩:=hh;exists 21,E8 EZ p BX (FF ph);unfold uK at e
 split at e
 .rename_i ds t1 i t2 e1 e2;obtain⟨hi,e⟩:=ci e;cases e;refine q ok e1 λH1 x f1 s1 r1 _=>?_
  refine qh (ok.same s1) e2 λH2 y f2 s2 r2 _=>?_
  cases r2;refine⟨i,rfl,?_⟩;obtain⟨w,xs,f,rfl,hq,rs,_⟩:=(r1.same s2).dg;have hn:=rs.aG hi;subst hn;refine⟨w,xs,rfl,hq,λp hp=>?_⟩;have s3:aF H2 (upd H2 p (.lst (kg xs none (some i)))):=λb o e=>by rw[aO (cC e hp)];exact e
  have rr:ay X.K H2 (cutD ds none (some i)) (kg xs none (some i)) []:=by
   unfold cutD kg;rw[rs.length];exact ay.zZ _ (ay.zJ _ rs)
  refine k _ _ [p] ((s1.trans s2).trans s3) (.lst bT (rr.same s3)) ⟨abu.mpr ⟨(λm=>by cases m),abF⟩,λa m=>?_⟩;cases aaH.mp m;exact s1.free (s2.free hp)
 .cases e
end
theorem aF.new{H:Hp}{l:Addr}{o:HO}(h:H l=none):aF H (upd H l o):=λb o' e=>by rw[aO (cC e h)];exact e
section
variable{X:Cx}{pos:Pos}
def pJ:D->D->Option D
 |.lst ds,.int k=>if(aP ds&&decide (0<=k)&&decide (k<1000)&&decide (ds.length*k.toNat<=sizeLine))=true then some (.lst (List.replicate k.toNat ds).flatten) else none
 |_,_=>none
theorem UL(e:pJ d1 d2=some d):∃ds k,d1=.lst ds/\d2=.int k/\aP ds=true/\0<=k/\k<1000/\ds.length*k.toNat<=sizeLine/\d=.lst (List.replicate k.toNat ds).flatten:=by
 unfold pJ at e
 split at e
 .rename_i ds k;obtain⟨h,e⟩:=ci e;cases e;simp only[aaL,decide_eq_true_eq] at h;exact⟨ds,k,rfl,rfl,h.1.1.1,h.1.1.2,h.1.2,h.2,rfl⟩
 .cases e
theorem Oc{K:PySem.W.Frag}(r:ay K H ds xs []):∀k:Nat,ay K H (List.replicate k ds).flatten (List.replicate k xs).flatten []
 |0=>.nil
 |k+1=>by
  rw[aen,aen,aeM,aeM];exact ay.append r (Oc r k)
theorem RJ{a b:Expr}{fa fb:EF}(ha:FP X a fa)(hb:FP X b fb):FP X (.BinOp a .Mult b pos) (e2 pJ fa fb):=by
 obtain⟨ta,pa,sa⟩:=ha;obtain⟨tb,pb,sb⟩:=hb;exists 20,wA ac7 pa pb;obtain⟨d1,t1,d2,t2,e1,fY,e3,rfl⟩:=mJ e;obtain⟨ds,k,rfl,rfl,hi,k0,k1,hz,rfl⟩:=UL e3;refine sa ok e1 λH1 x f1 s1 r1 g1=>?_
 refine sb (ok.same s1) fY λH2 y f2 s2 r2 g2=>?_
 have qC:=r1.same s2;cases r2;cases qC with
 | @lst p xs _ f h rs=>
  have hn:=rs.aG hi;subst hn;refine⟨p,k,xs,rfl,rfl,h,by omega,by omega,by rw[<- rs.length];exact hz,λl hl=>?_⟩;have s3:aF H2 (upd H2 l (.lst (List.replicate k.toNat xs).flatten)):=λb o e=>by rw[aO (cC e hl)];exact e
  refine q _ _ [l] ((s1.trans s2).trans s3) (.lst bT ((Oc rs _).same s3)) ⟨abu.mpr ⟨(λm=>by cases m),abF⟩,λc m=>?_⟩;cases aaH.mp m;exact(s1.trans s2).free hl
end
end L2.Ev
namespace L2
open PySem PySem.Spec PyProof.Rows
section
variable{X:Cx}{af:List (Addr×Obj)}{σ:St}{H:Hp}{s:Shared}
theorem WT{Q:Unit->Shared->Prop}(I:Inv X af σ H s)(hN:X.N.Nodup)(hi:X.N[i]? = some n)(hk:X.env.scope.names.lookup n=some .local)
  (h:∀s',Inv X af (σ.set i none) H s'->Q () s'):wpAny M A (do bindName X.env n .none;unbindBehindTheSuite X.env n pos) Q E s:=by
 obtain⟨m,hn,hl⟩:=id I.loc;have vf:(X.env.scope.kind == .class||(X.env.scope.kind == .module&&X.env.locals != X.env.globals))=false:=by rw[I.ok.kind];rfl
 have jE:=I.jE;have lo:∀{b:Addr}{o:Obj},X.cI.heap.get? b=some o->b≠X.env.locals:=λ{b o} e=>abn (abP (aaZ e) I.ok.above)
 refine wpAny_nameGoes_keeps hk hn vf λh' v Cz hs=>?_
 refine h _ ⟨I.ok,I.os,I.bare,⟨λb o e n hb hx=>(hs.2 b (lo e)).trans (I.base.keep b o e n hb hx),λb o e n hb hx=>?_,I.base.free,λb o e hx=>?_,I.base.iZ,I.base.jh,I.base.jV⟩,⟨_,Cz,λj y v' e1 e2 e3=>?_⟩,λy c e=>?_,I.free,I.f_,λp hp=>?_,
  I.aD.tracked λb u o hb q=>(hs.2 b λz=>by rw[z,I.free] at hb;cases hb).trans q,by simpa using I.len,I.hq⟩
 .obtain⟨sl,e1⟩:=I.base.slot b o e n hb hx;exact⟨sl,(hs.2 b (lo e)).trans e1⟩
 .obtain⟨o',e1⟩:=I.base.there b o e hx;exact⟨o',(hs.2 b (lo e)).trans e1⟩
 .have hj:j≠i:=λz=>by
   subst z;have dP:j<σ.length:=by rw[I.len];exact(abU.mp hi).1
   rw[ac1 dP] at e2;cases e2
  rw[abY (aez hj)] at e2;obtain⟨u',r',q⟩:=hl j y v' e1 e2 e3;refine⟨u',r',?_⟩;rcases q with⟨k,e⟩|⟨k,c,e,z⟩
  .refine .inl ⟨k,?_⟩;have:y≠n:=λe=>hj (HB hN e1 (e ▸ hi))
   exact(abf this).trans e
  .exact .inr ⟨k,c,e,z.sameBut hs (jE y c e)⟩
 .obtain⟨w',z⟩:=I.cell y c e;exact⟨w',z.sameBut hs (jE y c e)⟩
 .obtain⟨e,n,ne,nf,d⟩:=I.pin p hp;exact⟨(hs.2 p.1 ne).trans e,n,ne,nf,d⟩
end
def vA(K:PySem.W.Frag)(C D:Addr):Prop:=∃nm q N bs bm hdct sn sub ab col dd k0 k1 k2 k3 k5 newId,K.lookup C=some (excClassObj nm q C N bs bm hdct sn sub ab col dd k0 k1 k2 k3 k5 newId)/\
 ∃tN q' N' sP nS sR uf uG uF uS i9 j0 j1 j2 j3 j5 tw,K.lookup D=some (excClassObj tN q' D N' sP nS sR uf uG uF uS i9 j0 j1 j2 j3 j5 tw)/\nS.contains (.type "BaseException")=true/\(Value.ref C::bm).contains (.ref D)=true
section
variable{X:Cx}{af:List (Addr×Obj)}{σ:St}{H:Hp}{s:Shared}{aN:Option Addr}{a C D:Addr}{x n:Str}{i:Nat}{px pos:Pos}{b0:Stmt}{vH:List Stmt}{W:Ends}
theorem aaS{R:Result->Shared->Prop}(L:fB X af σ H a (.ref C) aN s)(cat:vA X.K C D)(hg:Gl X x)(hm:X.mg x=some (.ref D))(k:R (.ok .brk) s)(eT:(x==("__debug__":Str))=false:=by decide):
  codeAny (model X.prog X.w) (X.A.mark (some (.ref a))) (.handlers (.ref a) [.ExceptHandler (some (.Name x px)) none [] pos] X.env) R s:=by
 obtain⟨nm,q,N,bs,bm,hdct,sn,sub,ab,col,dd,k0,k1,k2,k3,k5,newId,hC,tN,q',N',sP,nS,sR,uf,uG,uF,uS,i9,j0,j1,j2,j3,j5,tw,hD,hb,hc⟩:=cat;have I:=L.known.choose_spec.2.lQ a L.known.choose_spec.1.hq;have KI:=L.inv.cV;obtain⟨oe,vs,a0,T,oT,ts,h1,h2,_⟩:=L.ob;refine codeAny_handlers_test (qX (X:=X.lQ a) I hg hm ?_ eT);obtain⟨hh,g,d,t,os⟩:=s;refine aaj (KI _ _ hC) (KI _ _ hD) h1 h2 hb ?_;rw[hc];exact k
theorem Qz(L:fB X af σ H a (.ref C) aN s)(hc:X.calm=true)(hx:X.ex=[])(cN:X.stack=X.env::X.outer)(hf:X.env.frame=some X.env.locals)(cat:vA X.K C D)(hg:Gl X x)(hm:X.mg x=some (.ref D))
  (hN:X.N.Nodup) (hi:X.N[i]? = some n) (hk:X.env.scope.names.lookup n=some .local)
  (h:∀s5 H5,pZ H H5 a (.ref C) aN->Inv (X.lQ a) af (σ.set i (some (.ref a))) H5 s5->
   wpAny (model X.prog X.w) (X.A.mark (some (.ref a))) (execs (b0::vH) X.env) (SP (X.lQ a) af { nx:=λσ H=>W.nx (σ.set i none) H,rt:=W.rt,bk:=λσ H=>W.bk (σ.set i none) H,ct:=λσ H=>W.ct (σ.set i none) H }) (λ_ _=>False) s5)
  (eT:(x==("__debug__":Str))=false:=by decide) :
  wpAny (model X.prog X.w) X.A (noteFrame (.ref a) X.env) (λ_ s2=>wpAny (model X.prog X.w) X.A (setFlight (.ref a) none) (λ_ s3=>wpAny (model X.prog X.w) X.A (handleBy (.ref a) X.env [.ExceptHandler (some (.Name x px)) (some n) (b0::vH) pos]) (SP X af W) X.xe s3) X.xe s2) X.xe s:=by
 refine L.ado hx cN hf λs3 L3=>wpAny_handleBy_cons (aaS L3 cat hg hm ?_ eT) (λz=>nomatch z)
 refine codeAny_handlers_suite_as (L3.again hx λs4 L4=>?_);obtain⟨H5,kn,I4⟩:=L4.known;have I4:=I4.lQ a kn.hq;refine DG (X:=X.lQ a) I4 hN hi (.inl hk) (show RelV (V.ref a) (Value.ref a) from rfl) (λs5 I5=>?_) (.inr hk);refine acH (h s5 H5 kn I5) (λf s6 q=>?_) λ_ _ z=>False.elim z
 have fin:∀{iB:St}{H6:Hp}{Z:Shared->Prop},Inv (X.lQ a) af iB H6 s6->(∀s7,Inv X af (iB.set i none) H6 s7->Z s7)->wpAny (model X.prog X.w) X.A (do bindName X.env n .none;unbindBehindTheSuite X.env n pos) (λ_ s7=>Z s7) X.xe s6:=λ{iB H6 Z} I6 k=>
  WT (L4.inv.Q_ hc I6) hN hi hk k
 cases f with
 |next=>obtain⟨iB,H6,I6,q6⟩:=q;exact fin I6 λs7 I7=>⟨_,H6,I7,q6⟩
 |brk=>obtain⟨iB,H6,I6,q6⟩:=q;exact fin I6 λs7 I7=>⟨_,H6,I7,q6⟩
 |cont=>obtain⟨iB,H6,I6,q6⟩:=q;exact fin I6 λs7 I7=>⟨_,H6,I7,q6⟩
 |ret u=>obtain⟨v,iB,H6,I6,r6,q6⟩:=q;exact fin I6 λs7 I7=>⟨v,_,H6,I7,r6,q6⟩
end
open PySem PySem.Spec PySem.W PySem.Calls PyProof.Rows Builtin Builtin.ObjectAttr Builtin.Getset_descriptor
structure mZ(K:Frag)(C:Addr):Prop where
 ga:findIn K (.ref C) "__getattribute__"=some (some (.builtin "BaseException.__getattribute__"))
 gh:findIn K (.ref C) "__getattr__"=some none
 at_:findIn K (.ref C) "__class__"=some (some (.builtin "object.__class__"))
 get:specialIn K (.builtin "object.__class__") "__get__"=some (some (.builtin "getset_descriptor.__get__"))
 tk:takesIn K (.builtin "object.__class__")=some true
 mo:mroIn K C (.type "object")=some true
 mb:mroIn K C (.type "BaseException")=some true
 cl:(clsIn K C).isSome=true
section
variable{prog:Program}{w:World}{A:Around}{E:Value->Shared->Prop}{s:Shared}{K:Frag}{x C:Addr}{ox:Obj}
theorem Wr{R:Result->Shared->Prop}(X:K.In s.heap)(hx:s.heap.get? x=some ox)(hc:ox.cls=.ref C)(hm:mroIn K C (.type "object")=some true)
  (h:R (.ok (.ret (.ref C))) s):codeAny (model prog w) A (.call (.builtin "getset_descriptor.__get__") ⟨[.builtin "object.__class__",.ref x,tp],[]⟩) R s:=by
 obtain⟨hh,g,dr,t,os⟩:=s;have L0:Looks (model prog w) hh (typeOf (.ref x)) (.ref C):=hc ▸ (Looks.ld hx).andThen .now;have L1:=looks_mroIn (M:=model prog w) X hm;refine ae1 KF.slot_gs.plain KF.entry_gs (KF.slot_gs.check _ _ _ _ _ _ _ _ KF.type_class (KF.args_gs _ _ _) ?_);unfold Builtin.«getset_descriptor.__get__» descrGet;rw[dga_obj];refine aan (abg ?_);unfold descrGetter descrCheckInstance descrNameAndClass isInstance;simp only[KF.owner_class]
 repeat lk
 refine⟨Code.quiet_builtin _ (by decide +kernel),aef KF.entry_class ?_⟩;unfold Builtin.«object.__class__» shownTypeOf
 repeat lk
 exact h
theorem ab2(X:K.In s.heap)(k:mZ K C):Looks (model prog w) s.heap (find (.ref x) (.ref C) "__class__") (.bind (.builtin "getset_descriptor.__get__") (.builtin "object.__class__")):=by
 have L1:=looks_findIn (M:=model prog w) X k.at_;have L2:Looks (model prog w) s.heap (getOf (some (.builtin "object.__class__"))) (some (.builtin "getset_descriptor.__get__")):=looks_specialIn X k.get;have L3:=looks_takesIn (M:=model prog w) X k.tk;exact L1.andThen (L2.andThen ((show Looks (model prog w) s.heap (dataDescriptor? (some (.builtin "object.__class__")) (some (.builtin "getset_descriptor.__get__"))) (some (.builtin "getset_descriptor.__get__",.builtin "object.__class__")) from L3.andThen .now).andThen (Looks.tag .now)))
theorem abm{Q:Unit->Shared->Prop}(X:K.In s.heap)(k:mZ K C)(hx:s.heap.get? x=some ox)(hc:ox.cls=.ref C)(hq:Q () s):wpAny M A (checkBuiltinCall "BaseException.__getattribute__" ⟨[.ref x,X_],[]⟩) Q E s:=by
 obtain⟨hh,g,dr,t,os⟩:=s;have hk:builtinKind "BaseException.__getattribute__"=some .slot:=by decide +kernel
 have abr:splitId "BaseException.__getattribute__"=some ("BaseException","__getattribute__"):=by decide +kernel
 have L0:Looks M hh (typeOf (.ref x)) (.ref C):=hc ▸ (Looks.ld hx).andThen .now;have L1:=looks_mroIn (M:=M) X k.mb;have LI:Looks M hh (isInstance (.ref x) (.type "BaseException")) true:=L0.andThen L1;have ha:=F.args_bexc_ga (.ref x) X_;simp only[checkBuiltinCall,hk,abr];refine aan (LI.at ?_)
 repeat (first|assumption|wp_step)
theorem V2{tk:Tok}{Q:Fin->Shared->Prop}(X:K.In s.heap)(k:mZ K C)(hx:s.heap.get? x=some ox)(hc:ox.cls=.ref C)(hq:Q (.done (.ret (.ref C))) s):
  wpAny (model prog w) A (Builtin.«object.__getattribute__» ⟨[.ref x,.str "__class__" tk],[]⟩) Q E s:=by
 obtain⟨hh,g,dr,t,os⟩:=s;have L0:Looks (model prog w) hh (typeOf (.ref x)) (.ref C):=hc ▸ (Looks.ld hx).andThen .now;have L1:=ab2 (prog:=prog) (w:=w) (x:=x) X k;refine aan (abg (aan (abg (aan (L0.at (aan (L1.at ?_)))))));exact aan (ad7 (afi (Wr X hx hc k.mo (abg hq))))
theorem S1(X:K.In s.heap)(k:mZ K C)(hx:s.heap.get? x=some ox)(hc:ox.cls=.ref C)(h:Q (some (.ref C)) { s with toks:=s.toks+1 }):wpAny (model prog w) A (getAttr? (.ref x) "__class__") Q E s:=by
 obtain⟨hh,g,dr,t,os⟩:=s;have L0:Looks (model prog w) hh (typeOf (.ref x)) (.ref C):=hc ▸ (Looks.ld hx).andThen .now;have L1:=looks_findIn (M:=model prog w) X k.ga;have L2:=looks_findIn (M:=model prog w) X k.gh;have f3:=F.attr_ValueError.ga.bind (.ref x);have YN:(false&&onTheHeap (Value.builtin "BaseException.__getattribute__"))=false:=rfl;have wc:(Value.builtin "BaseException.__getattribute__" == Value.builtin "object.__getattribute__")=false:=by decide +kernel
 have Ti:(onTheHeap (Value.ref C)&&Value.builtin "BaseException.__getattribute__" == Value.builtin "object.__getattribute__")=false:=by rw[wc];rfl
 unfold getAttr? getAttrBy? getAttrBy;refine aan (wpAny_mkText (aan (afb (ad7 (aan (L0.at (aan (L1.at ?_))))))));dsimp only;rw[abf (by rw[Ti];decide)];unfold getAttrByItsOwn hookBefore;refine aan ?_;rw[if_pos (show onTheHeap (Value.ref C)=true from rfl)];refine L2.at ?_;refine aan (afb (ad7 ?_));unfold callGetattribute;rw[abf (by rw[YN];decide)];unfold boundAndCalled;rw[f3];refine aan (abg (afi ?_));refine ae1 F.attr_ValueError.ga.plain F.entry_bexc_ga (abm X k hx hc (V2 X k hx hc ?_));exact abg (abg h)
end
theorem NU{K:Frag}(k:mZ K C):KitX K (.ref x) (.ref C) (λh=>∃o,h.get? x=some o/\o.cls=.ref C) where
 ty:=λ_ _ _ ⟨o,h1,h2⟩=>h2 ▸ (Looks.ld h1).andThen .now
 it:=λ_ _ X _=>by
  obtain⟨cd,gG⟩:=aew.mp k.cl;unfold clsIn at gG
  split at gG
  .rename_i c' d' To pq ho;intro A' Q' E' s' k q;unfold isType loadHead;exact aan (wpAny_loadPart (k _ _ (X _ _ ho)) (abg q))
  .cases gG
 ne:=λh tp dd ao n sl X Ui=>by
  obtain⟨cd,gG⟩:=aew.mp k.cl;refine aeA.mpr λq=>?_
  have e:=Value.ref.inj (aed.mp q);subst e;unfold clsIn at gG
  split at gG
  .rename_i c' d' To pq ho;have z:=(X _ _ ho).symm.trans Ui;cases z
  .cases gG
 ca:=λX ⟨o,h1,h2⟩ q=>S1 X k h1 h2 q
theorem T8:eX X (.builtin "isinstance") (λxs H Q=>∃a C c cv b de ob,xs=[V.ref a,c]/\(∀u,RelV c u->u=cv)/\H a=some (tK ob a (.ref C) de)/\mZ X.K C/\kitOne X.K (.ref C) cv=some b/\Q (.bl b) H):=by
 intro af s σ H xs us Q I r h;obtain⟨a,C,c,cv,bb,de,ob,rfl,hc,ha,k,e,q⟩:=h;obtain⟨u,w',rfl,ru,dM⟩:=vals2 r;obtain rfl:=hc w' dM;cases(show u=Value.ref a from ru);exact kia_one (NU k) I.cV (Oj I.aD ha) e (λz=>nomatch z) λtk=>⟨.bl bb,H,I.tok tk,rfl,q⟩
theorem oB{X:Cx}{x:Str}{pos:Pos}{C:Addr}(hg:Gl X x)(hm:X.mg x=some (.ref C))(eT:(x==("__debug__":Str))=false:=by decide):PE X (.Name x pos) (λ_ H Q=>Q (.ref C) H):=λaf s σ H Q I h=>qX I hg hm ⟨V.ref C,H,I,(rfl:Value.ref C=Value.ref C),h⟩ eT
end L2
namespace L2.Ev
open PySem PySem.Spec PyProof.Rows
def wk(X:Cx)(st:Stmt):TS:=λW σ H=>∀(af:List (Addr×Obj)) (s:Shared),Inv X af σ H s->wpAny (model X.prog X.w) X.A (exec st X.env) (SP X af W) X.xe s
theorem EB{st:Stmt}:PS X st (wk X st):=λaf s _ _ _ I h=>h af s I
noncomputable def GY(cn:Str)(g:AF):SF:=λρ=>match g ρ with
 |some _=>some (.er true (cn,none) ρ)
 |none=>none
section
variable{X:Cx}{x cn:Str}{C:Addr}{np dR pos:Pos}{e:Expr}{es:List Expr}{g:AF}
theorem RH(hc:X.calm=true)(cl:yU X.K C)(hn:PySem.W.nsIn X.K mainGlobals cn=some (some (.ref C)))(hm:X.mg x=some (.ref C))(ha:FA X (e::es) g)(hl:(e::es).length<=1000:=by decide)(hx:X.ex=[]:=by rfl)(hg:GD X x:=by exact⟨rfl,by decide⟩)
  (he:SE X e es dR:=by exact⟨rfl,rfl⟩):dU X (.Raise (some (.Call (.Name x np) (e::es) [] dR)) none pos) (GY cn g):=by
 obtain⟨t,pa,hz,qa⟩:=ha;refine⟨_,EB,@λH0 S z ak ρ σ H E o ok e0 k=>?_⟩;unfold GY at e0;exists h1,g ρ,qs,e0;cases e0;obtain⟨ES,th,kk⟩:=k;intro af s I;refine XE hc hx th cl hg.1 hm pa hg.2 he.1 he.2 af s σ H E I ?_;refine qa ok h1 λH1 vs fp s1 r1 _=>⟨?_,kk z σ H1 C (ok.same s1) (.refl _ _) hn⟩
 rw[<- r1.length,aaf,hz ρ qs h1];exact ad3 (uH hl)
end
inductive ER where
 |ok (d:D) (ρ:aE)|er (cn:XN) (ρ:aE)
def Sz(X:Cx)(H0:Hp)(S:List Addr)(ak:List bZ)(σ:St)(Q:VK)(E:XK):ER->Prop
 |.ok d ρ=>∀z H1 H' v fp,Ok X.K H0 S z ak ρ σ H1->aF H1 H'->Rep X.K H' d v fp->cO z H1 .own fp->Q v H'
 |.er cn ρ=>∀z H' C,Ok X.K H0 S z ak ρ σ H'->PySem.W.nsIn X.K mainGlobals cn.1=some (some (.ref C))->E (.ref C) cn.2 H'
abbrev XR:=aE->Option ER
def FE(X:Cx)(e:Expr)(f:XR):Prop:=∃t,PX X e t/\∀{H0:Hp}{S:List Addr}{z:Addr->Option Nat}{ak:List bZ}{ρ:aE}{σ:St}{H:Hp}{Q:VK}{E:XK}{r:ER},
 Ok X.K H0 S z ak ρ σ H->f ρ=some r->Sz X H0 S ak σ Q E r->t σ H Q E
theorem So:tW X (λ_ _ _ _=>False):=λ_ _ _ _ _ _ _ _ z=>z.elim
noncomputable def AW(f:XR):SF:=λρ=>match f ρ with
 |some (.ok d ρ')=>some (.nx ρ')
 |some (.er cn ρ')=>some (.er false cn ρ')
 |none=>none
section
variable{X:Cx}{e:Expr}{f:XR}{pos:Pos}
theorem Qn(he:FE X e f)(hs:swapsWith e none pos.line X.env=pure false:=by rfl):dU X (.Expr e pos) (AW f):=by
 obtain⟨t,p,q⟩:=he;exists 23,EB;unfold AW at e;exists h,f ρ,r,e;intro af s I;cases r with
 |ok d aJ=>
  cases e;refine Qg So p hs af s σ H E I ?_;exact q ok h λz1 H1 H2 v fp bq s1 r1 g1=>k z1 σ H2 (bq.same s1) (.refl _ _)
 |er cn aJ=>
  cases e;obtain⟨ES,th,kk⟩:=k;refine Qg th p hs af s σ H E I ?_;exact q ok h λz1 H1 C bq hC=>kk z1 σ H1 C bq (.refl _ _) hC
end
noncomputable def F6(i:Nat)(sub:Str->Bool)(f g:SF):SF:=λρ=>match f ρ with
 | some (.er false cn ρ')=>if sub cn.1=true then(match g (ρ'.set i (some (.exc cn,.own))) with
  |some (.nx bf)=>some (.nx (bf.set i none))
  |some (.bk bf)=>some (.bk (bf.set i none))
  |some (.ct bf)=>some (.ct (bf.set i none))
  |some (.rt d)=>some (.rt d)
  |_=>none) else none
 |some (.er true _ _)=>none
 |o=>o
theorem QT{K:PySem.W.Frag}{cn:XN}(hC:PySem.W.nsIn K mainGlobals cn.1=some (some (.ref C)))(k:pZ H H' a (.ref C) cn.2):Rep K H' (.exc cn) (.ref a) []:=by
 obtain⟨c,aN⟩:=cn;obtain⟨ob,vs,_,_,k⟩:=k;cases aN with
 |none=>cases k;exact .exc hC bT λ_ e=>by cases e
 |some n=>obtain⟨dx,ne,_,rfl⟩:=k;exact .exc hC bT λm e=>by cases e;exact⟨dx,rfl,by rw[aO ne,bT]⟩
theorem Ok.unset{K:PySem.W.Frag}{H0:Hp}{S:List Addr}{z:Addr->Option Nat}(ok:Ok K H0 S z ak ρ σ H)(i:Nat):Ok K H0 S z ak (ρ.set i none) (σ.set i none) H:=by
 have at_:∀{j:Nat}{w:D×Tag},(ρ.set i none)[j]? = some (some w)->j≠i/\ρ[j]? = some (some w):=λ{j w} e=>by
  have hj:j≠i:=λq=>by
   subst q
   by_cases hl:j<ρ.length
   .rw[ac1 hl] at e;cases e
   .rw[aeW (by rw[aet];exact Nat.le_of_not_lt hl)] at e;cases e
  exact⟨hj,by rw[abY (aez hj)] at e;exact e⟩
 refine⟨λj d t e=>?_,λp m=>?_,ok.zd,ok.en,by rw[aet,aet];exact ok.ln⟩
 .obtain⟨hj,e⟩:=at_ e;obtain⟨v,fp,a,b,c⟩:=ok.sl j d t e;exact⟨v,fp,by rw[abY (aez hj)];exact a,b,c⟩
 .obtain⟨r,h⟩:=ok.hl p m;exact⟨r,λa ha j q=>let⟨h1,h2⟩:=h a ha j q;⟨h1,λd e=>h2 d (at_ e).2⟩⟩
section
variable{X:Cx}{x n:Str}{Dc:Addr}{px Zo pos:Pos}{body vH:List Stmt}{b0:Stmt}{f g:SF}{sub:Str->Bool}
theorem U0{R:XS}{E:Ends}{fl:Flow}(q:SP (X.jS af R) [] E fl s):SP X af E fl s:=by
 cases fl with
 |next=>obtain⟨aB,H',I,q⟩:=q;exact⟨aB,H',I.nk,q⟩
 |brk=>obtain⟨aB,H',I,q⟩:=q;exact⟨aB,H',I.nk,q⟩
 |cont=>obtain⟨aB,H',I,q⟩:=q;exact⟨aB,H',I.nk,q⟩
 |ret u=>obtain⟨v,aB,H',I,r,q⟩:=q;exact⟨v,aB,H',I.nk,r,q⟩
theorem QS{h0:ExceptHandler}{E:Ends}{o1:Out}(hb:∀af R,FS (X.jS af R) body f)(I:Inv X af σ H s)(ok:Ok X.K H0 S z ak ρ σ H)(hf:f ρ=some o1)
  (k:match o1 with
   |.er true _ _=>False
   |.er false cn ρ'=>∀z' aB H' C a s',Ok X.K H0 S z' ak ρ' aB H'->Kp X σ aB->PySem.W.nsIn X.K mainGlobals cn.1=some (some (.ref C))->fB X af aB H' a (.ref C) cn.2 s'->
    wpAny (model X.prog X.w) X.A (noteFrame (.ref a) X.env) (λ_ s2=>wpAny (model X.prog X.w) X.A (setFlight (.ref a) none) (λ_ s3=>wpAny (model X.prog X.w) X.A (handleBy (.ref a) X.env [h0]) (SP X af E) X.xe s3) X.xe s2) X.xe s'
   |o=>mW X H0 S ak σ E o) :
  wpAny (model X.prog X.w) X.A (exec (.Try body [h0] [] [] pos) X.env) (SP X af E) X.xe s:=by
 refine wpAny_Try_except ?_;obtain⟨tb,pb,sb⟩:=hb af (λcls aN aB H'=>∀a s',fB X af aB H' a cls aN s'->
    wpAny (model X.prog X.w) X.A (noteFrame (.ref a) X.env) (λ_ s2=>wpAny (model X.prog X.w) X.A (setFlight (.ref a) none) (λ_ s3=>wpAny (model X.prog X.w) X.A (handleBy (.ref a) X.env [h0]) (SP X af E) X.xe s3) X.xe s2) X.xe s')
 have yh:tb E σ H:=by
  refine sb ok hf ?_;cases o1 with
  |nx ρ'=>exact k
  |rt d=>exact k
  |bk ρ'=>exact k
  |ct ρ'=>exact k
  |er raw cn ρ'=>
   cases raw with
   |true=>exact False.elim k
   |false=>exact⟨_,ade,λz' aB H' C aY kp hC a s' L=>k z' aB H' C a s' aY kp hC L⟩
 refine acH (pb [] s σ H E I.jS yh) (λfl s1 q=>?_) (λev s1 q=>?_)
 .have q':=U0 q;cases fl with
  |next=>exact afc q'
  |brk=>exact q'
  |cont=>exact q'
  |ret u=>exact q'
 .obtain⟨aB,H',a,cls,aN,rfl,L,r⟩:=q;exact r a s1 L
theorem abp(i:Nat)(hb:∀af R,FS (X.jS af R) body f)(hs:∀a,FS (X.lQ a) (b0::vH) g)(X5:∀cn C,sub cn=true->PySem.W.nsIn X.K mainGlobals cn=some (some (.ref C))->vA X.K C Dc)(hm:X.mg x=some (.ref Dc))(hN:X.N.Nodup)
  (Sw:X.calm=true:=by rfl) (hx:X.ex=[]:=by rfl) (cN:X.stack=X.env::X.outer:=by rfl) (nF:X.env.frame=some X.env.locals:=by rfl) (hg:Gl X x:=by rfl) (hi:X.N[i]? = some n:=by rfl) (hk:X.env.scope.names.lookup n=some .local:=by rfl) (kH:jN X n=false:=by rfl) (eT:(x==("__debug__":Str))=false:=by decide) :
  dU X (.Try body [.ExceptHandler (some (.Name x px)) (some n) (b0::vH) Zo] [] [] pos) (F6 i sub f g):=by
 exists 23,EB;intro af s I;unfold F6 at e;exists hf,f ρ,o1,e;refine QS hb I ok hf ?_;cases o1 with
 |nx ρ'=>cases e;exact k
 |rt d=>cases e;exact k
 |bk ρ'=>cases e;exact k
 |ct ρ'=>cases e;exact k
 |er raw cn ρ'=>
  cases raw with
  |true=>cases e
  |false=>
   dsimp only at e ⊢;obtain⟨yq,e⟩:=ci e;intro z' aB H' C a s' aY kp hC L;refine Qz L Sw hx cN nF (X5 cn.1 C yq hC) hg hm hN hi hk (λs5 H5 kn I5=>?_) eT;obtain⟨ts,ps',ss⟩:=hs a;refine ps' af s5 _ _ _ I5 ?_;have sm:aF H' H5:=λb o q=>kn.same L.fr q
   refine aY.stored (i:=i) (t:=.own) sm (QT hC kn) .nil λz5 vZ=>?_
   have vZ:Ok X.K H0 S z5 ak (ρ'.set i (some (.exc cn,.own))) (aB.set i (some (.ref a))) H5:=vZ;have jB:∀{iB:St},Kp X (aB.set i (some (.ref a))) iB->Kp X σ (iB.set i none):=λ{iB} b=>((kp.trans (.set hi kH)).trans b).trans (.set hi kH)
   cases lU:g (ρ'.set i (some (.exc cn,.own))) with
   |none=>rw[lU] at e;cases e
   |some o2=>
    rw[lU] at e;refine ss vZ lU ?_;cases o2 with
    |nx bf=>cases e;exact λz6 iB H6 vB b=>k z6 _ H6 (vB.unset i) (jB b)
    |bk bf=>cases e;exact λz6 iB H6 vB b=>k z6 _ H6 (vB.unset i) (jB b)
    |ct bf=>cases e;exact λz6 iB H6 vB b=>k z6 _ H6 (vB.unset i) (jB b)
    |rt d=>cases e;exact k
    |er _ _ _=>cases e
end
inductive Rz where
 |ok (d:D)|er (cn:XN)
def rR(K:PySem.W.Frag)(F:List D->Option Rz):Sp:=λvs H Q E=>∃ds fp r,ay K H ds vs fp/\F ds=some r/\match r with
 |.ok d=>∀H' v fG,aF H H'->Rep K H' d v fG->fG.Nodup->(∀a∈fG,H a=none)->Q v H'
 |.er cn=>∀H' C,aF H H'->PySem.W.nsIn K mainGlobals cn.1=some (some (.ref C))->E (.ref C) cn.2 H'
def uL(n N:Nat)(b:SF):List D->Option Rz:=λds=>if ds.length=n then(match b (pQ N ds) with
 |some (.rt d)=>some (.ok d)
 |some (.nx _)=>some (.ok .aC)
 |some (.er _ cn _)=>some (.er cn)
 |_=>none) else none
section
variable{P:Program}{w:World}{K:PySem.W.Frag}{mg:Str->Option Value}{base:Heap}
theorem aa8{x qual:Str}{st:Stmt}{f:Addr}(F:gJ K x qual st f fd)(S:mF N ps (b_ st))(qu:ps.length<=N.length)
  (hb:∀(aR:Value) (A:Around) (outer:List Env) (s:Shared) (H:Hp) (E:XK),aZ k (A.deeper (envOfC qual (b_ st) s.heap.objs.size f aR))->FS (e_ (gS P w) P w K mg base N qual (b_ st) f aR A outer s H E) (fZ st) b) :
  bN P w K mg base (gS P w) (k+1) f fd ps (rR K (uL ps.length N.length b)):=by
 have qT:∀{ds:List D}{r:Rz},uL ps.length N.length b ds=some r->ds.length=ps.length:=λ{ds d} e=>by
  unfold uL at e
  by_cases h:ds.length=ps.length
  .exact h
  .rw[abf h] at e;cases e
 obtain⟨oc,od,kV,doc,pm,an,aR,ct,mG,rfl,lk,gG⟩:=F.ex;refine Ng lk gG S (λvs H Q E ⟨ds,fp,r,rs,e,_⟩=>by rw[<- rs.length];exact qT e) λA outer s H vs Q E hr ⟨ds,fp,r,rs,e,q⟩=>?_
 obtain⟨t,p,sd⟩:=hb aR A outer s H E hr;refine⟨t,p,?_⟩;have hl:=qT e;obtain⟨z,ok⟩:=Ok.jZ (N:=N) (es:=[]) .nil .nil rs λ_ _ m=>nomatch m
 unfold uL at e;rw[if_pos hl] at e;exists ho,b (pQ N.length ds),o,e;refine sd ok ho ?_;cases o with
 |rt d'=>
  cases e;exact λH' v fG en r nd fr=>q H' v fG (λa o e=>en a o e (λm=>nomatch m)) r nd λa m=>(fr a m).resolve_right λm=>nomatch m
 |nx ρ'=>
  cases e;exact λz' aB H' aY _=>q H' .aC [] (λa o e=>aY.en a o e (λm=>nomatch m)) .aC abF λa m=>nomatch m
 |bk _=>cases e
 |ct _=>cases e
 |er raw cn ρ'=>
  cases e;cases raw with
  |true=>exact⟨_,T4,λz' aB H' C aY _ hC=>q H' C (λa o e=>aY.en a o e (λm=>nomatch m)) hC⟩
  |false=>exact⟨_,VF,λz' aB H' C aY _ hC=>q H' C (λa o e=>aY.en a o e (λm=>nomatch m)) hC⟩
end
noncomputable def sJ(T:List (Str×Bool)):D->Option D
 |.exc cn=>(T.lookup cn.1).map .bl
 |_=>none
def yK(K:PySem.W.Frag)(T:List (Str×Bool))(c:Value):Prop:=∀cn b C,T.lookup cn=some b->PySem.W.nsIn K mainGlobals cn=some (some (.ref C))->mZ K C/\PySem.W.kitOne K (.ref C) c=some b
section
variable{X:Cx}{a:Expr}{fa:EF}{x:Str}{T:List (Str×Bool)}{p p2 pos:Pos}
theorem Pz{cv:Value}{c:V}{tc:TE}(hc:∀u,RelV c u->u=cv)(hT:yK X.K T cv)(hm:X.mg "isinstance"=none)(ha:FP X a fa)(pc:PE X (.Name x p2) (λ_ H Q=>Q c H))(hg:Gl X "isinstance":=by rfl)
  (hs:starEach [a,.Name x p2] X.env=[(false,eval a X.env),(false,eval (.Name x p2) X.env)]:=by rfl) (hpl:(backTo pos (starEach [.Name x p2] X.env)).any (·.1)=false:=by rfl):FP X (.Call (.Name "isinstance" p) [a,.Name x p2] [] pos) (e1 (sJ T) fa):=by
 obtain⟨ta,pa,sa⟩:=ha;have bQ:starEach [.Name x p2] X.env=[(false,eval (.Name x p2) X.env)]:=rfl;exists 21,mY T8 hg hm (show bootBuiltins "isinstance"=some (.builtin "isinstance") by decide +kernel) (bU pa (bU pc dN) (by rw[hs,bQ])) (he:=by rw[hs,bQ]) (hpl:=hpl);obtain⟨d1,t1,h1,h2,rfl⟩:=ng e;refine sa ok h1 λH1 v fp s1 r1 _=>?_
 unfold sJ at h2
 split at h2
 .rename_i cn;exists hl,T.lookup cn.1,b,h2;cases h2;cases r1 with
  | @exc _ a' C de ob hn ho _=>
   obtain⟨kk,ke⟩:=hT cn.1 b C hl hn;exact⟨a',C,c,cv,b,de,ob,rfl,hc,ho,kk,ke,k H1 _ [] s1 (.bl _) .nil⟩
 .cases h2
theorem Xw{C:Addr}(hT:yK X.K T (.ref C))(hm:X.mg "isinstance"=none)(Ed:X.mg x=some (.ref C))(ha:FP X a fa)(hg:Gl X "isinstance":=by rfl)(zy:GD X x:=by exact⟨rfl,by decide⟩)
  (hs:starEach [a,.Name x p2] X.env=[(false,eval a X.env),(false,eval (.Name x p2) X.env)]:=by rfl) (hpl:(backTo pos (starEach [.Name x p2] X.env)).any (·.1)=false:=by rfl):FP X (.Call (.Name "isinstance" p) [a,.Name x p2] [] pos) (e1 (sJ T) fa):=
 Pz (tc:=λ_ H Q=>Q (.ref C) H) (c:=.ref C) (λu r=>r) hT hm ha (oB zy.1 Ed zy.2) hg hs hpl
theorem acK{B:String}(hT:yK X.K T (.type B))(hm:X.mg "isinstance"=none)(Ed:X.mg x=none)(ha:FP X a fa)(vY:bootBuiltins x=some (.type B):=by decide +kernel)(hg:Gl X "isinstance":=by rfl)(zy:Gl X x:=by rfl)(hn:x≠"__name__":=by decide)(eT:(x==("__debug__":Str))=false:=by decide)
  (hs:starEach [a,.Name x p2] X.env=[(false,eval a X.env),(false,eval (.Name x p2) X.env)]:=by rfl) (hpl:(backTo pos (starEach [.Name x p2] X.env)).any (·.1)=false:=by rfl):FP X (.Call (.Name "isinstance" p) [a,.Name x p2] [] pos) (e1 (sJ T) fa):=
 Pz (tc:=λ_ H Q=>Q (.ty B) H) (c:=.ty B) (λu r=>r) hT hm ha (D7 (v:=.ty B) zy Ed vY rfl hn eT) hg hs hpl
end
noncomputable def iI:List D->Option (List Str)
 |[]=>some []
 |.str x::r=>(iI r).map λm=>x::m
 |_::_=>none
theorem tG{K:PySem.W.Frag}:∀{ds:List D}{xs:List V}{fp:List Addr}{ys:List Str},ay K H ds xs fp->iI ds=some ys->xs=ys.map V.str
 |_,_,_,_,.nil,e=>by cases e;rfl
 |_,_,_,ys,.cons (d:=d) h t,e=>by
  cases d with
  |str x=>
   unfold iI at e;exists q,iI _,m,e;cases e;cases h;rw[tG t q];rfl
  |_=>cases e
theorem IC:∀ys:List Str,iI (ys.map D.str)=some ys
 |[]=>rfl
 |y::ys=>by
  show(iI (ys.map D.str)).map (λm=>y::m)=_;rw[IC ys];rfl
theorem Ia:∀{ys:List Str}{us:List Value},aK (ys.map V.str) us->StrsAre us ys
 |[],_,r=>by cases r;exact .nil
 |y::ys,_,r=>by
  cases r with
  |cons h t=>
   obtain⟨tk,rfl⟩:=h;exact .cons y tk (Ia t)
noncomputable def bY(k:Str)(ys:List Str):Nat:=ys.countP (· == k)
theorem count_eq(k:Str):∀ys:List Str,countIn (.str k) (ys.map PyData.str)=(bY k ys:Int)
 |[]=>rfl
 |y::ys=>by
  rw[aaF,countIn,count_eq k ys];unfold bY;rw[List.countP_cons];have e:same (.str y) (.str k)=(y==k):=by simp[same]
  rw[e];cases h:(y==k)
  .simp
  .simp;omega
def Xb(K:PySem.W.Frag):V->List V->Hp->VK->Prop:=λx vs H Q=>∃(l:Addr) (ys:List Str) (k:Str),x=.ref l/\vs=[.str k]/\bS K H l (ys.map V.str)/\Q (.int (bY k ys)) H
theorem aaP{X:Cx}:xw X "list.count" (Xb X.K):=by
 intro af s σ H x vs v us Q I rx rv h;obtain⟨l,ys,k,rfl,rfl,hH,q⟩:=h;cases rx;obtain⟨u,rfl,ru⟩:=rv.one;obtain⟨t,rfl⟩:=ru;obtain⟨ao,r,pl,hz⟩:=I.list hH;refine count_list_strs pl.isList (Ia r) ?_;rw[count_eq];exact⟨.int (bY k ys),H,I.tok _,⟨_,rfl⟩,q⟩
def u6:D->D->Option D
 |.lst ds,.str k=>(iI ds).map λys=>.int (bY k ys)
 |_,_=>none
section
variable{X:Cx}{o a b c d:Expr}{fo fa fb fc fd:EF}{p p1 p2 p3 p4 pos:Pos}
theorem OB(ho:FP X o fo)(ha:FP X a fa)(hs:starEach [a] X.env=[(false,eval a X.env)]:=by rfl)(i_:attributeBase o "count" X.env (eval o X.env)=eval o X.env:=by rfl)
  (jT:((backTo p3 (starEach [a] X.env)).all (λx=>!x.1)&&(backToKw p3 (keywordEach [] X.env)).all (λx=>x.1.isSome)&&decide ([a].length+([]:List Keyword).length+(if([]:List Keyword).isEmpty then 0 else 1)<30))=true:=by rfl)
  (jb:(p2.endLine==p3.line)=true:=by rfl):FP X (.Call (.Attribute o "count" p2) [a] [] p3) (e2 u6 fo fa):=by
 obtain⟨to,po,so⟩:=ho;obtain⟨ta,pa,sa⟩:=ha;refine⟨_,sX PySem.F.plainAttrs_list PySem.F.slot_list_count PySem.F.type_list_count aaP po (bU pa dN hs) i_ jT jb hs rfl,@λH0 S z ak ρ σ H Q dd tg ok e k=>?_⟩;obtain⟨d1,t1,d2,t2,e1,fY,e3,rfl⟩:=mJ e;unfold u6 at e3
 split at e3
 .rename_i ds ky;exists hS,iI ds,ys,e3;cases e3;refine so ok e1 λH1 v fp s1 r1 _=>?_
  obtain⟨l,xs,f,rfl,hq,rs,_⟩:=r1.dg;have ex:=tG rs hS;subst ex;refine⟨.inl ⟨rfl,_,hq⟩,?_⟩;refine sa (ok.same s1) fY λH2 u jk s2 r2 _=>?_
  cases r2;obtain⟨l',xs',f',e',V9,xT,_⟩:=(r1.same s2).dg;cases e';have ex:=tG xT hS;subst ex;exact⟨l,ys,ky,rfl,rfl,V9,k H2 _ [] (s1.trans s2) (.int _) .nil⟩
 .cases e3
def Ab(K:PySem.W.Frag)(t:Addr)(ys:List Str):Prop:=∃(o:Obj) (ao:Array Value) (n:Nat),K.lookup t=some o/\o.cls=.type "tuple"/\o.dict=none/\o.data=.seq ao n/\ao.size<=sizeLine/\aK (ys.map V.str) ao.toList
theorem JY{K:PySem.W.Frag}:∀ys:List Str,ay K H (ys.map D.str) (ys.map V.str) []
 |[]=>.nil
 |y::ys=>.cons (.str y) (JY ys)
theorem VR(hm:X.mg x=some (.ref t))(ht:Ab X.K t ys)(hg:GD X x:=by exact⟨rfl,by decide⟩):FP X (.Name x pos) (eC (.tup (ys.map D.str))):=
 ⟨_,LX hg.1 hm (v:=.ref t) rfl hg.2,@λ_ _ _ _ _ _ H _ _ _ _ e q=>by cases e;exact q H _ _ (aF.refl H) (.tup (.inr ht) (JY ys)) .nil⟩
def tL(neg:Bool):D->D->Option D
 |.str i,.lst ds=>(iI ds).map λns=>.bl (if neg=true then !(ns.any (· == i)) else ns.any (· == i))
 |.str i,.tup ds=>(iI ds).map λns=>.bl (if neg=true then !(ns.any (· == i)) else ns.any (· == i))
 |_,_=>none
theorem OI(i:Str)(ns:List Str):sL (.str i) (ns.map V.str)=ns.any (· == i):=by
 unfold sL;rw[ae9];rfl
theorem M9(ns:List Str):(ns.map V.str).all mj=true:=by
 rw[afa];exact acA.mpr λ_ _=>rfl
theorem Oi{K:PySem.W.Frag}:fm K (AQ K neg) (tL neg):=by
 intro H x y d1 d2 f1 f2 d Q r1 r2 e k;unfold tL at e
 split at e
 .rename_i i ds;exists hS,iI ds,ys,e;cases e;cases r1;obtain⟨l,xs,f,rfl,hq,rs,_⟩:=r2.dg;have ex:=tG rs hS;subst ex;refine⟨l,_,rfl,.inl hq,rfl,M9 ys,?_⟩;rw[OI];exact k H _ (aF.refl H) (.bl _)
 .rename_i i ds;exists hS,iI ds,ys,e;cases e;cases r1;cases r2 with
  |tup hq rs=>
   have ex:=tG rs hS;subst ex;refine⟨_,_,rfl,.inr hq,rfl,M9 ys,?_⟩;rw[OI];exact k H _ (aF.refl H) (.bl _)
 .cases e
theorem Sn(ha:FP X a fa)(hb:FP X b fb)(hm:behindInMarks .In b=false:=by rfl):FT X (.Compare a [.In] [b] pos) (tV (e2 (tL false) fa fb)):=i0 JP Oi ha hb hm
theorem ZQ(ha:FP X a fa)(hb:FP X b fb)(hm:behindInMarks .NotIn b=false:=by rfl):FT X (.Compare a [.NotIn] [b] pos) (tV (e2 (tL true) fa fb)):=i0 BJ Oi ha hb hm
end
end L2.Ev
namespace L2.Ev
open PySem PySem.W
theorem KQ{K:Frag}{newId:String}(q:excIn K C sQ newId=true):∃nm qn N bs bm hdct sn sub ab col dd k0 k1 k2 k3 k5,K.lookup C=some (excClassObj nm qn C N bs bm hdct sn sub ab col dd k0 k1 k2 k3 k5 newId)/\
  tailIn K sQ bm=true/\nsOkIn K N=true/\nsIn K N "__init__"=some none:=by
 unfold excIn at q
 split at q
 .rename_i dd cd sl ho
  split at q
  .rename_i C' bm k0 k1 k2 k3 n k5 hm hs;simp only[aaL,aed,Bool.not_eq_true'] at q;obtain⟨⟨⟨⟨⟨rfl,rfl⟩,P9⟩,ht⟩,aD⟩,zA⟩:=q;obtain⟨nm,bs,mro,ns,qn,hd,sn,sub,ab,col,del⟩:=cd;dsimp only at hm P9 aD zA;subst hm P9;have AX:sl=#[k0,k1,k2,k3,some (.builtin n),k5]:=by
    obtain⟨l⟩:=sl;simp only at hs;rw[hs]
   subst AX;exact⟨nm,qn,ns,bs,bm,hd,sn,sub,ab,col,dd,k0,k1,k2,k3,k5,ho,ht,aD,zA⟩
  .cases q
 .cases q
theorem QZ{K:Frag}(q:excIn K C IK "ValueError.__new__"=true):yU K C:=by
 obtain⟨nm,qn,N,bs,bm,hdct,sn,sub,ab,col,dd,k0,k1,k2,k3,k5,h1,h2,h3,h4⟩:=KQ q;exact⟨⟨_,_,_,_,bm,N,nm,qn,bs,hdct,sn,sub,ab,col,dd,k0,k1,k2,k3,k5,PySem.F.excBase_ValueError,h1,h3,h4,h2⟩⟩
def Shape(K:Frag)(C:Addr):Prop:=∃nm qn N bs bm hdct sn sub ab col dd k0 k1 k2 k3 k5 newId,K.lookup C=some (excClassObj nm qn C N bs bm hdct sn sub ab col dd k0 k1 k2 k3 k5 newId)
theorem KJ{K:Frag}{newId:String}(q:excIn K C sQ newId=true):Shape K C:=by
 obtain⟨nm,qn,N,bs,bm,hdct,sn,sub,ab,col,dd,k0,k1,k2,k3,k5,h1,_⟩:=KQ q;exact⟨nm,qn,N,bs,bm,hdct,sn,sub,ab,col,dd,k0,k1,k2,k3,k5,newId,h1⟩
theorem HV{K:Frag}{sub:List Value}{col:Option Bool}{dd:Option Addr}{k0 k1 k2 k3 k5:Option Value}{newId:String}
  (h:K.lookup C=some (excClassObj nm qn C N bs bm hdct sn sub ab col dd k0 k1 k2 k3 k5 newId)) (m:mroIn K C v=some true):(Value.ref C::bm).contains v=true:=by
 unfold mroIn clsIn at m;rw[h] at m;dsimp only at m;rw[ach,abf (by simp)] at m;exact abi m
theorem VB{K:Frag}{C D:Addr}(hC:Shape K C)(hD:Shape K D)(m:mroIn K C (.ref D)=some true)(b:mroIn K D (.type "BaseException")=some true):vA K C D:=by
 obtain⟨nm,qn,N,bs,bm,hdct,sn,sub,ab,col,dd,k0,k1,k2,k3,k5,newId,h1⟩:=hC;obtain⟨tN,Se,N',sP,nS,sR,uf,uG,uF,uS,i9,j0,j1,j2,j3,j5,tw,h2⟩:=hD;refine⟨nm,qn,N,bs,bm,hdct,sn,sub,ab,col,dd,k0,k1,k2,k3,k5,newId,h1,tN,Se,N',sP,nS,sR,uf,uG,uF,uS,i9,j0,j1,j2,j3,j5,tw,h2,?_,HV h1 m⟩;have:=HV h2 b;rw[List.contains_cons] at this;rcases(Bool.or_eq_true _ _).mp this with q|q
 .cases aed.mp q
 .exact q
noncomputable def adC(names:List Str):Str->Bool:=λcn=>names.contains cn
def VH(K:Frag)(names:List Str)(Dc:Addr):Prop:=∀cn C,adC names cn=true->nsIn K mainGlobals cn=some (some (.ref C))->vA K C Dc
theorem R5{cn:XN}(h:f ρ=some (.er raw cn ρ')):aS f g ρ=some (.er raw cn ρ'):=by unfold aS;rw[h]
theorem Wx{K:Frag}(m:mroIn K C v=some b):(clsIn K C).isSome=true:=by
 unfold mroIn at m;cases h:clsIn K C with
 |none=>rw[h] at m;cases m
 |some _=>rfl
end L2.Ev
namespace L2.Ev
open PySem PySem.Spec PyProof.Rows
noncomputable def Ad(cn m:Str)(F:List D->Option Rz)(fo:EF)(g:AF):XR:=λρ=>match fo ρ,g ρ with
 | some (.ins c es,_),some ps=>if c=cn/\es.lookup m=none then(match F (.ins c es::ps.map (·.1)) with
  |some (.ok d)=>some (.ok d ρ)
  |some (.er en)=>some (.er en ρ)
  |none=>none) else none
 |_,_=>none
section
variable{X:Cx}{o e:Expr}{es:List Expr}{fo:EF}{g:AF}{m cn:Str}{apos pos:Pos}{k:Nat}{C f:Addr}{fd:FuncData}{ps:List Str}{F:List D->Option Rz}{pl:Sem Bool}
theorem ZT(hC:ClsAt X.K cn C)(hm:j6 X.K C m f)(GG:bN X.prog X.w X.K X.mg X.base (gS X.prog X.w) k f fd ps (rR X.K F))(hr:aZ k X.A)(hb:Binds X.K fd ps [])(ho:FP X.gz o fo)(ha:FA X.gz (e::es) g)(hx:X.ex=[]:=by rfl)
  (cN:SE X e es pos:=by exact⟨rfl,rfl⟩)
  (ht:uC X o m apos (e::es) pos pl:=by exact rfl):FE X (.Call (.Attribute o m apos) (e::es) [] pos) (Ad cn m F fo g):=by
 obtain⟨to,po,so⟩:=ho;obtain⟨ta,pa,_,qa⟩:=ha;refine⟨_,Z3 (pl:=pl) po hC.cl hm GG hr hx hb .nil pa cN.1 cN.2 ht,@λH0 S z ak ρ σ H Q E r ok e0 kk=>?_⟩;unfold Ad at e0
 split at e0
 .rename_i c rH t0 qs h1 h2
  by_cases hc:c=cn/\rH.lookup m=none
  .rw[if_pos hc] at e0;obtain⟨rfl,QD⟩:=hc;exists h3,F (.ins c rH::qs.map (·.1)),w,e0;refine so ok h1 λH1 v fp s1 r1 _=>?_
   obtain⟨b,dx,fs,gf,rfl,rfl,h4,h5,h6,h7⟩:=r1.lX hC.ns;refine⟨b,dx,fs,rfl,h4,qd h6 QD,?_⟩;refine qa (ok.same s1) h2 λH2 vs jk s2 r2 _=>?_
   rw[abM];cases w with
   |ok d=>
    cases e0;exact⟨_,_,_,.cons (r1.same s2) r2,h3,λH3 u fG s3 r3 nd fr=>kk z H2 H3 u fG ((ok.same s1).same s2) s3 r3 ⟨nd,fr⟩⟩
   |er en=>
    cases e0;exact⟨_,_,_,.cons (r1.same s2) r2,h3,λH3 C3 s3 hn=>kk z H3 C3 (((ok.same s1).same s2).same s3) hn⟩
  .rw[abf hc] at e0;cases e0
 .cases e0
end
def yX(fa fh:EF):EF:=λρ=>match fa ρ,fh ρ with
 |some (.lst ds,_),some (.int i,_)=>if aP ds=true then some (.lst (cutD ds (some i) none),.own) else none
 |_,_=>none
section
variable{X:Cx}{a b:Expr}{fa:EF}{p2 pos:Pos}
theorem Xj{fh:EF}(ha:FP X a fa)(hh:FP X b fh):FP X (.Subscript a (.Slice (some b) none none p2) pos) (yX fa fh):=by
 obtain⟨t,p,q⟩:=ha;obtain⟨th,ph,qh⟩:=hh;exists 21,E8 EZ p (FF ph) BX;unfold yX at e
 split at e
 .rename_i ds t1 i t2 e1 e2;obtain⟨hi,e⟩:=ci e;cases e;refine q ok e1 λH1 x f1 s1 r1 _=>?_
  refine qh (ok.same s1) e2 λH2 y f2 s2 r2 _=>?_
  cases r2;refine⟨i,rfl,?_⟩;obtain⟨w,xs,f,rfl,hq,rs,_⟩:=(r1.same s2).dg;have hn:=rs.aG hi;subst hn;refine⟨w,xs,rfl,hq,λp hp=>?_⟩;have s3:aF H2 (upd H2 p (.lst (kg xs (some i) none))):=λb o e=>by rw[aO (cC e hp)];exact e
  have rr:ay X.K H2 (cutD ds (some i) none) (kg xs (some i) none) []:=by
   unfold cutD kg;rw[rs.length];exact ay.zZ _ (ay.zJ _ rs)
  refine k _ _ [p] ((s1.trans s2).trans s3) (.lst bT (rr.same s3)) ⟨abu.mpr ⟨(λm=>by cases m),abF⟩,λa m=>?_⟩;cases aaH.mp m;exact s1.free (s2.free hp)
 .cases e
end
def uh(X:Cx)(e:Expr)(f:aE->Option (Bool×aE)):Prop:=∃t,PT X e t/\∀{H0:Hp}{S:List Addr}{z:Addr->Option Nat}{ak:List bZ}{ρ:aE}{σ:St}{H:Hp}{Q:Bool->Hp->Prop}{b:Bool}{ρ':aE},
 Ok X.K H0 S z ak ρ σ H->f ρ=some (b,ρ')->(∀z' H',Ok X.K H0 S z' ak ρ' σ H'->Q b H')->t σ H Q
noncomputable def m6(c:aE->Option (Bool×aE))(f g:SF):SF:=λρ=>match c ρ with
 |some (true,ρ')=>f ρ'
 |some (false,ρ')=>g ρ'
 |none=>none
section
variable{X:Cx}{a b:Expr}{fx:XF}{fb:EF}{pos:Pos}
theorem N2{c:Expr}{s1 s2:List Stmt}{tc:aE->Option (Bool×aE)}{f g:SF}(hc:uh X c tc)(ha:FS X s1 f)(hb:FS X s2 g):dU X (.If c s1 s2 pos) (m6 tc f g):=by
 obtain⟨t,p,q⟩:=hc;obtain⟨t1,p1,q1⟩:=ha;obtain⟨t2,p2,q2⟩:=hb;exists 23,yY p p1 p2;unfold m6 at e;exists h,tc ρ,w,e,0;obtain⟨y,aJ⟩:=w;rw[h] at e;refine q ok h λz1 H1 bq=>?_
 cases y with
 |true=>rw[if_pos rfl];exact q1 bq e k
 |false=>rw[abf aaN];exact q2 bq e k
end
section
variable(P:Program)(w:World)(K:PySem.W.Frag)(mg:Str->Option Value)(base:Heap)(CX:jj)(k:Nat)
def FN(x:Str)(ps:List Str)(sp:Sp)(cm:Bool:=true):Prop:=∃a fd,bN P w K mg base CX k a fd ps sp cm/\mg x=some (.ref a)/\PySem.W.keepIn K (.ref a)=true/\Binds K fd ps []
def MT(C:Addr)(x:Str)(ps:List Str)(sp:Sp)(cm:Bool:=true):Prop:=∃a fd,bN P w K mg base CX k a fd ps sp cm/\Binds K fd ps []/\j6 K C x a
def MI(C:Addr)(ps:List Str)(sp:Sp)(cm:Bool:=true):Prop:=∃a fd,bN P w K mg base CX k a fd ps sp cm/\Binds K fd ps []/\Mk K C a
end
def GL(K:PySem.W.Frag)(x q:Str)(st:Stmt)(f:Addr):Prop:=∃oc od kV dc pm an cd ct sl,K.lookup f=some ⟨oc,od,.func (PySem.W.fnOf x q (lW st) (fZ st) (b_ st) .none kV dc pm an cd ct),sl⟩/\PySem.W.codeIn K cd q=true/\PySem.W.keepIn K (.ref f)=true
def zR(K:PySem.W.Frag)(x:Str)(st:Stmt):Prop:=∃f,PySem.W.nsIn K mainGlobals x=some (some (.ref f))/\GL K x x st f
def GM(K:PySem.W.Frag)(C:Addr)(x q:Str)(st:Stmt):Prop:=∃f,PySem.W.findIn K (.ref C) x=some (some (.ref f))/\PySem.W.isFn K (.ref f)=true/\GL K x q st f
abbrev BA(x q:Str)(st:Stmt)(ps:List Str):Prop:=∀(kV doc pm:Value) (an:Option Addr) (aR ct:Value) (us:List Value),us.length=ps.length->bindArgs (PySem.W.fnOf x q (lW st) (fZ st) (b_ st) .none kV doc pm an aR ct) ⟨us,[]⟩=pure (ps.zip us)
theorem yS{K:PySem.W.Frag}{x q:Str}{st:Stmt}{f:Addr}(l:GL K x q st f):PySem.W.keepIn K (.ref f)=true/\∃fd,gJ K x q st f fd:=by
 obtain⟨oc,od,kV,dc,pm,an,cd,ct,sl,h1,h2,h3⟩:=l;exact⟨h3,_,JR h1 h2 h3⟩
section
variable{P:Program}{w:World}{K:PySem.W.Frag}{h:Heap}{mg:Str->Option Value}{base:Heap}{CX:jj}{k:Nat}{C:Addr}{x q:Str}{st:Stmt}{ps:List Str}{sp:Sp}{cm:Bool}
theorem fnW(X:K.In h)(G:h.Ns mainGlobals mg)(l:zR K x st)(ok:∀{f:Addr}{fd:FuncData},gJ K x x st f fd->bN P w K mg base CX k f fd ps sp cm)(b:BA x x st ps):FN P w K mg base CX k x ps sp cm:=by
 obtain⟨f,a,l⟩:=l;obtain⟨kp,fd,F⟩:=yS l;exact⟨f,fd,ok F,PySem.W.mg_of X G a,kp,F.binds b⟩
theorem N6(l:GM K C x q st)(ok:∀{f:Addr}{fd:FuncData},gJ K x q st f fd->bN P w K mg base CX k f fd ps sp cm)(b:BA x q st ps):MT P w K mg base CX k C x ps sp cm:=by
 obtain⟨f,a,i,l⟩:=l;obtain⟨kp,fd,F⟩:=yS l;exact⟨f,fd,ok F,F.binds b,⟨a,i,kp⟩⟩
theorem abQ{sp:Heap->Sp}(X:K.In h)(G:h.Ns mainGlobals mg)(DV:mg "law"=some (.ref fa))(l:zR K "law" st)
  (b:∀(kV doc pm:Value) (an:Option Addr) (aR ct:Value) (s:Shared) (v:Value),BindsTo s (PySem.W.fnOf "law" "law" (lW st) (fZ st) (b_ st) .none kV doc pm an aR ct) ⟨[v],[]⟩ [(p,v)])
  (ok:∀base:Heap,K.In base->base.Ns mainGlobals mg->∀{f:Addr}{fd:FuncData},gJ K "law" "law" st f fd->bN P w K mg base CX k f fd [p] (sp base) cm) :
  ∃fd:FuncData,(∀(s:Shared) (v:Value),BindsTo s fd ⟨[v],[]⟩ [(p,v)])/\∀base:Heap,K.In base->base.Ns mainGlobals mg->bN P w K mg base CX k fa fd [p] (sp base) cm:=by
 obtain⟨f,a,oc,od,kV,dc,pm,an,cd,ct,sl,h1,h2,h3⟩:=l;have e:=DV.symm.trans (PySem.W.mg_of X G a);cases e;exact⟨_,b kV dc pm an cd ct,λbase K1 G1=>ok base K1 G1 (JR h1 h2 h3)⟩
end
section
variable{g:GF}{t:Tag}{f:SF}{d:D}{ds:List D}{ρ aJ bf:aE}
theorem se(h1:g d t ρ=some aJ)(h2:f aJ=some (.nx bf)):fj g t f (d::ds) ρ=fj g t f ds bf:=by
 conv=>lhs;unfold fj
 rw[h1];dsimp only;rw[h2]
theorem Iq(h1:g d t ρ=some aJ)(h2:f aJ=some (.rt r)):fj g t f (d::ds) ρ=some (.rt r):=by
 unfold fj;rw[h1];dsimp only;rw[h2]
end
end L2.Ev
namespace L2
open PySem PySem.Spec PyProof.Rows
namespace Ev
section
variable{X:Cx}{e a b:Expr}{f:EF}{fx:XF}{pos:Pos}
noncomputable def mV(fx:XF):aE->Option (Bool×aE):=λρ=>match fx ρ with
 |some (.bl c,ρ')=>some (!c,ρ')
 |_=>none
theorem Mp(h:FZ X a fx)(he:∀whole,isTrue a X.env whole=(do let v <- whole;standAt a.pos;holding [v] (truthy v)):=by intro _;rfl):uh X (.UnaryOp .Not a pos) (mV fx):=by
 obtain⟨t,p,q⟩:=h;refine⟨_,Pp (GP p he),@λH0 S z ak ρ σ H Q c ρ' ok e k=>?_⟩;unfold mV at e
 split at e
 .rename_i c' aJ h1;cases e;refine q ok h1 λz' H' v aY r=>?_
  cases r;exact⟨_,rfl,k z' H' aY⟩
 .cases e
noncomputable def mK(ft:TF)(fz:aE->Option (Bool×aE)):aE->Option (Bool×aE):=λρ=>match ft ρ with
 |some true=>fz ρ
 |some false=>some (false,ρ)
 |none=>none
theorem Qe{ft:TF}{fz:aE->Option (Bool×aE)}(ha:FT X a ft)(hb:uh X b fz):uh X (.BoolOp .And [a,b] pos) (mK ft fz):=by
 obtain⟨t,p,q⟩:=ha;obtain⟨t',p',q'⟩:=hb;refine⟨_,(Nu p (NB p')).pt,@λH0 S z ak ρ σ H Q c ρ' ok e k=>?_⟩;unfold mK at e
 split at e
 .rename_i h1;refine q ok h1 λH1 s1=>?_
  rw[if_pos rfl];exact q' (ok.same s1) e k
 .rename_i h1;cases e;refine q ok h1 λH1 s1=>?_
  rw[abf aaN];exact k z H1 (ok.same s1)
 .cases e
end
end Ev
end L2
namespace L2.Ev
open PySem PySem.Spec PyProof.Rows
def HG(i j:Nat)(G:CF)(g:AF):SF:=λρ=>match ρ[i]?,ρ[j]?,g ρ with
 |some (some (d0,.own)),some (some (d1,.own)),some ps=>if i≠j/\apart i ps=true/\apart j ps=true then(G [d0,d1] (ps.map (·.1))).map .rt else none
 |_,_,_=>none
section
variable{X:Cx}{x xn yn:Str}{p p1 p2 p3 pos:Pos}{es:List Expr}{k:Nat}{f:Addr}{fd:FuncData}{ps:List Str}{G:CF}{g:AF}
theorem aag(i j:Nat)(GG:bN X.prog X.w X.K X.mg X.base cE k f fd ps (qo X.K G))(hr:aZ k X.A)(hm:X.mg x=some (.ref f))(hk:PySem.W.keepIn X.K (.ref f)=true)(hb:Binds X.K fd ps [])(ha:FA X es g)
  (va:VA X i xn:=by walk_at "va") (vb:VA X j yn:=by walk_at "va") (hg:GD X x:=by exact⟨rfl,by decide⟩) (he:SE X (.Name xn p1) (.Name yn p2::es) pos:=by exact⟨rfl,rfl⟩) (Yo:SE X (.Name yn p2) es pos:=by exact⟨rfl,rfl⟩) :
  dU X (.Return (some (.Call (.Name x p) (.Name xn p1::.Name yn p2::es) [] pos)) p3) (HG i j G g):=by
 obtain⟨t,pa,_,sa⟩:=ha;refine⟨_,qH (xx GG hr hg.1 hm hk hb .nil jt (bU va.pe (bU vb.pe pa Yo.1) he.1) hg.2 he.1 he.2),@λH0 S z ak ρ σ H E o ok e kk=>?_⟩;unfold HG at e
 split at e
 .rename_i d0 d1 qs h1 h2 h3;obtain⟨n9,e⟩:=ci e;obtain⟨VN,Xd,YH⟩:=n9;obtain⟨r,h4,rfl⟩:=acI.mp e;obtain⟨v,aT,hs,r0,zz⟩:=ok.sl i _ _ h1;obtain⟨u,bg,bQ,r1,Ai⟩:=ok.sl j _ _ h2;refine⟨v,hs,u,bQ,sa ok h3 λH2 vs jk s2 r2 g2=>?_⟩;have own:∀a,a∈aT++(bg++[])->H0 a=none\/a∈S:=λa m=>by
   rw[abM] at m;exact(abb.mp m).elim (λm=>(ok.zd a i (zz.2 a m)).2) λm=>(ok.zd a j (Ai.2 a m)).2
  refine⟨[v,u],_,[d0,d1],_,aT++(bg++[]),jk,r,rfl,.cons (r0.same s2) (.cons (r1.same s2) .nil),?_,(by show ay _ _ _ (vs++[]) _;rw[abM];exact r2),λb m q=>?_,h4,λH' v fp en rr nd fr=>kk H' v fp (λa o e n=>en a o (s2 _ _ (ok.en a o e n)) λm=>?_) rr nd λa m=>?_⟩
  .rw[abM];refine abL.mpr ⟨zz.1,Ai.1,λa m b m' e=>?_⟩;have:=zz.2 a m;rw[e,Ai.2 b m'] at this;exact VN (abi this).symm
  .rw[abM] at q;exact(abb.mp q).elim (u7 ok Xd g2 zz b m) (u7 ok YH g2 Ai b m)
  .rcases own a m with q|q
   .rw[e] at q;cases q
   .exact n q
  .refine(fr a m).elim (λq=>?_) (own a)
   by_cases hS:a∈S
   .exact .inr hS
   .cases h0:H0 a with
    |none=>exact .inl rfl
    |some o=>rw[s2 _ _ (ok.en a o h0 hS)] at q;cases q
 .cases e
end
section
variable{X:Cx}{elts:List Expr}{tp:Pos}{a b:Expr}{fa fb:EF}{p pos:Pos}
def Bq(T:String):D->Option D
 |.tup _=>some (.bl ("tuple" == T))
 |.gW _=>some (.bl ("list" == T))
 |d=>jK T d
def P4(T:String):Prop:=∀(K:PySem.W.Frag) (t:String),t∈["tuple","list"]->PySem.W.kitOne K (.type t) (.type T)=some (t==T)
theorem PN:P4 "tuple":=by
 intro K t m;simp only[aaM,acy,aeC] at m;rcases m with rfl|rfl<;>rfl
theorem acQ(T:String):eX X (.builtin "isinstance") (λxs H Q=>(∃x t b,xs=[x,V.ty T]/\iX X.K H x t/\PySem.W.kitOne X.K t (.type T)=some b/\Q (.bl b) H)\/
  (∃a ys b,xs=[.ref a,V.ty T]/\cg X.K H a ys/\PySem.W.kitOne X.K (.type "tuple") (.type T)=some b/\Q (.bl b) H)\/(∃a ys b,xs=[.ref a,V.ty T]/\bS X.K H a ys/\PySem.W.kitOne X.K (.type "list") (.type T)=some b/\Q (.bl b) H)):=by
 intro af s σ H xs us Q I r h;rcases h with h|⟨a,ys,bb,rfl,hq,e,q⟩|⟨a,ys,bb,rfl,hq,e,q⟩
 .exact NF T af s σ H xs us Q I r h
 .obtain⟨u,w',rfl,ru,dM⟩:=vals2 r;cases dM;cases(show u=Value.ref a from ru);obtain⟨ao,_,⟨o,h1,h2,_⟩,_⟩:=I.tuple hq;exact PySem.W.kia_one PySem.W.kitx_tuple I.cV ⟨o,h1,h2⟩ e (λz=>nomatch z) λtk=>⟨.bl bb,H,I.tok tk,rfl,q⟩
 .obtain⟨u,w',rfl,ru,dM⟩:=vals2 r;cases dM;cases(show u=Value.ref a from ru);obtain⟨ao,_,⟨o,n,h1,h2,_⟩,_⟩:=I.list hq;exact PySem.W.kia_one PySem.W.kitx_list I.cV ⟨o,h1,h2⟩ e (λz=>nomatch z) λtk=>⟨.bl bb,H,I.tok tk,rfl,q⟩
theorem NV{T:String}{x:Str}(hT:qV T)(LV:P4 T)(hm:X.mg "isinstance"=none)(Hg:X.mg x=none)(ha:FP X a fa)(vY:bootBuiltins x=some (.type T):=by decide +kernel)(hg:Gl X "isinstance":=by rfl)(BI:Gl X x:=by rfl)(hn:x≠"__name__":=by decide)(eT:(x==("__debug__":Str))=false:=by decide)
  (hs:starEach [a,.Name x p2] X.env=[(false,eval a X.env),(false,eval (.Name x p2) X.env)]:=by rfl) (hpl:(backTo pos (starEach [.Name x p2] X.env)).any (·.1)=false:=by rfl):FP X (.Call (.Name "isinstance" p) [a,.Name x p2] [] pos) (e1 (Bq T) fa):=by
 obtain⟨ta,pa,sa⟩:=ha;have bQ:starEach [.Name x p2] X.env=[(false,eval (.Name x p2) X.env)]:=rfl;exists 21,mY (acQ T) hg hm (show bootBuiltins "isinstance"=some (.builtin "isinstance") by decide +kernel) (bU pa (bU (D7 (v:=.ty T) BI Hg vY rfl hn eT) dN) (by rw[hs,bQ])) (he:=by rw[hs,bQ]) (hpl:=hpl);obtain⟨d1,t1,h1,h2,rfl⟩:=ng e;refine sa ok h1 λH1 v fp s1 r1 _=>?_
 unfold Bq at h2
 split at h2
 .cases h2;obtain⟨w,xs,rfl,hq,_⟩:=r1.jx;exact .inr (.inl ⟨w,xs,_,rfl,hq,LV X.K "tuple" (by decide),k H1 _ [] s1 (.bl _) .nil⟩)
 .cases h2;obtain⟨w,xs,rfl,hq,_⟩:=r1.qS;exact .inr (.inr ⟨w,xs,_,rfl,hq,LV X.K "list" (by decide),k H1 _ [] s1 (.bl _) .nil⟩)
 .unfold jK at h2;exists ht,yZ d1,t,h2;cases h2;obtain⟨ty,mem⟩:=r1.ty ht;exact .inl ⟨v,_,_,rfl,ty,hT X.K t mem,k H1 _ [] s1 (.bl _) .nil⟩
end
section
variable{X:Cx}{a b e:Expr}{fa fb fv:EF}{fx:XF}{pos:Pos}
def J5(K:PySem.W.Frag)(T:List (Str×Bool))(cs:List Addr):Prop:=∀cn b C,T.lookup cn=some b->PySem.W.nsIn K mainGlobals cn=some (some (.ref C))->mZ K C/\PySem.W.kitAny K (.ref C) (cs.map Value.ref)=some b
theorem IA:∀{cs:List Addr}{us:List Value},aK (cs.map V.ref) us->us=cs.map Value.ref
 |[],_,.nil=>rfl
 |c::cs,_,.cons r t=>by rw[IA t];cases r;rfl
theorem RS{cs:List Addr}:eX X (.builtin "isinstance") (λxs H Q=>∃a C l b de ob,xs=[V.ref a,V.ref l]/\H l=some (.tup (cs.map V.ref))/\H a=some (tK ob a (.ref C) de)/\mZ X.K C/\PySem.W.kitAny X.K (.ref C) (cs.map Value.ref)=some b/\Q (.bl b) H):=by
 intro af s σ H xs us Q I r h;obtain⟨a,C,l,bb,de,ob,rfl,hl,ha,k,e,q⟩:=h;obtain⟨u,w',rfl,ru,dM⟩:=vals2 r;cases(show u=Value.ref a from ru);cases(show w'=Value.ref l from dM);obtain⟨_,ao,rv,o,ho,hc,hd,n,n8⟩:=(show(cs.map V.ref).length<=sizeLine/\∃ao:List Value,aK (cs.map V.ref) ao/\lF s.heap l ao.toArray from I.aD l _ hl)
 have:=IA rv;subst this;obtain⟨cl,dd,dat,sl⟩:=o;cases hc;cases n8;exact PySem.W.kia_tup (NU k) I.cV (Oj I.aD ha) ho e (λz=>nomatch z) λtk=>⟨.bl bb,H,I.tok tk,rfl,q⟩
theorem Qp{T:List (Str×Bool)}{cs:List Addr}{ta:TA}{x1}(hT:J5 X.K T cs)(hm:X.mg "isinstance"=none)(ha:FP X a fa)(pc:PA X es ta)(hta:∀(σ:St) (H:Hp) (Q:List V->Hp->Prop),Q (cs.map V.ref) H->ta σ H Q)(hlen:cs.length<=1000)(hg:Gl X "isinstance":=by rfl)
  (hs:starEach [a,.Tuple es x1 p2] X.env=[(false,eval a X.env),(false,eval (.Tuple es x1 p2) X.env)]:=by rfl) (hpl:(backTo pos (starEach [.Tuple es x1 p2] X.env)).any (·.1)=false:=by rfl):FP X (.Call (.Name "isinstance" p) [a,.Tuple es x1 p2] [] pos) (e1 (sJ T) fa):=by
 obtain⟨t,pa,sa⟩:=ha;have bQ:starEach [.Tuple es x1 p2] X.env=[(false,eval (.Tuple es x1 p2) X.env)]:=rfl;exists 21,mY (RS (cs:=cs)) hg hm (show bootBuiltins "isinstance"=some (.builtin "isinstance") by decide +kernel) (bU pa (bU (Jt pc) dN) (by rw[hs,bQ])) (he:=by rw[hs,bQ]) (hpl:=hpl);obtain⟨d1,t1,h1,h2,rfl⟩:=ng e;refine sa ok h1 λH1 v fp s1 r1 _=>?_
 refine hta σ H1 _ ⟨by rw[aaf];exact ad3 (uH hlen),λl hl=>?_⟩;have s2:aF H1 (upd H1 l (.tup (cs.map V.ref))):=λb o e=>by rw[aO (cC e hl)];exact e
 unfold sJ at h2
 split at h2
 .rename_i cn;exists VL,T.lookup cn.1,b,h2;cases h2;cases r1 with
  | @exc _ a' C de ob hn ho _=>
   obtain⟨kk,ke⟩:=hT cn.1 b C VL hn;exact⟨a',C,l,b,de,ob,rfl,bT,s2 _ _ ho,kk,ke,k _ _ [] (s1.trans s2) (.bl _) .nil⟩
 .cases h2
end
end L2.Ev
namespace L2.Ev
open PySem PySem.W
section
variable{P:Program}{w:World}{K:Frag}{h base:Heap}{mg:Str->Option Value}{CX:jj}{k:Nat}{x:Str}{st:Stmt}{ps:List Str}{sp:Sp}{cm:Bool}
theorem UQ(X:K.In h)(G:h.Ns mainGlobals mg)(l:zR K x st)(ok:∀{f:Addr}{fd:FuncData},mg x=some (.ref f)->keepIn K (.ref f)=true->Binds K fd ps []->gJ K x x st f fd->bN P w K mg base CX k f fd ps sp cm)(b:BA x x st ps):FN P w K mg base CX k x ps sp cm:=by
 obtain⟨f,a,l⟩:=l;obtain⟨kp,fd,F⟩:=yS l;exact⟨f,fd,ok (mg_of X G a) kp (F.binds b) F,mg_of X G a,kp,F.binds b⟩
end
end L2.Ev
namespace L2
open PySem PySem.Spec PyProof.Rows
section
variable{X:Cx}
theorem SH:eX X (.type "int") (λxs H Q=>∃b,xs=[V.bl b]/\Q (.int (if b then 1 else 0)) H):=by
 intro af s σ H xs us Q I r h;obtain⟨b,rfl,q⟩:=h;obtain⟨u,rfl,ru⟩:=vals1 r;cases ru;exact call_int_bool ⟨.int _,H,I.tok _,⟨_,rfl⟩,q⟩
theorem JZ:∀{n:Nat}{l:List Value}{k:Nat},l.length=n->(∀(m:Nat) (v:Value),l[m]? = some v->∃t,v=.int (i+((k+m:Nat):Int)) t)->aK ((List.range' k n).map λn:Nat=>V.int (i+n)) l
 |0,[],_,_,_=>.nil
 |n+1,v::l,k,h,hv=>by
  rw[List.range'_succ,aaF];refine .cons ?_ (JZ (by simpa using h) λm w e=>?_)
  .obtain⟨t,e⟩:=hv 0 v rfl;exact⟨t,by rw[e];simp⟩
  .obtain⟨t,e⟩:=hv (m+1) w (by simpa using e);exact⟨t,by rw[e];congr 2;omega⟩
def abH(ta:TA):TE:=λσ H Q=>ta σ H λvs H1=>∃i j:Int,vs=[.int i,.int j]/\∀l,H1 l=none->Q (.ref l) (upd H1 l (.bG i j))
theorem Vx{ta:TA}(kc:X.mg "range"=none)(ha:PA X [a,b] ta)(lU:Gl X "range":=by rfl)
  (hs:starEach [a,b] X.env=[(false,eval a X.env),(false,eval b X.env)]:=by rfl) (bQ:starEach [b] X.env=[(false,eval b X.env)]:=by rfl):PE X (.Call (.Name "range" p2) [a,b] [] p3) (abH ta):=by
 intro af s σ H Q I h;refine Call_ (lJ I lU kc boot_range (adm (aM (ha p3 af s σ H _ I h) λus s1 ⟨vs,H1,I1,r1,q1⟩=>?_) (by rw[hs,bQ]) (by rw[bQ];rfl)));obtain⟨i,j,e,q⟩:=q1;subst e;cases r1 with
 |cons r rr=>
  cases rr with
  |cons r' rr=>
   cases rr;obtain⟨t,rfl⟩:=r;obtain⟨t',rfl⟩:=r';refine call_range_2 ?_;exact⟨.ref s1.heap.objs.size,upd H1 s1.heap.objs.size (.bG i j),I1.laid (λb u e=>aab _ e) (abd _) ⟨_,_,_,aa6 _ rfl⟩,rfl,q _ (I1.aD.fresh (abd _))⟩
end
end L2
namespace L2.Ev
open PySem PySem.Spec PyProof.Rows
section
variable{X:Cx}{a b e:Expr}{fa fb fv:EF}{p p1 p2 p3 pos:Pos}
theorem JS{K:PySem.W.Frag}:∀(l:List Nat),ay K H (l.map λn:Nat=>D.int (i+n)) (l.map λn:Nat=>V.int (i+n)) []
 |[]=>.nil
 |n::l=>by rw[aaF,aaF];exact ay.cons (f1:=[]) (f2:=[]) (.int _) (JS l)
noncomputable def sC:D->Option D
 |.bl b=>some (.int (if b then 1 else 0))
 |_=>none
theorem abl{K:PySem.W.Frag}:pG K (λxs H Q=>∃b,xs=[V.bl b]/\Q (.int (if b then 1 else 0)) H) sC:=by
 intro H x d1 f1 d Q r e k;cases d1<;>try (cases e;done)
 cases e;cases r;exact⟨_,rfl,k H _ [] (aF.refl H) (.int _) abF λa m=>nomatch m⟩
theorem ZS(hm:X.mg "int"=none)(ha:FP X a fa)(hg:Gl X "int":=by rfl)(hs:starEach [a] X.env=[(false,eval a X.env)]:=by rfl):FP X (.Call (.Name "int" p) [a] [] pos) (e1 sC fa):=
 fp_1 abl ha λta pa=>ym SH hg hm (show bootBuiltins "int"=some (.type "int") by decide +kernel) (bU pa dN hs) (he:=hs) (hpl:=rfl)
end
end L2.Ev
namespace L2
open PySem PySem.Spec PyProof.Rows Builtin Builtin.Str
section
variable{X:Cx}
def Rn(K:PySem.W.Frag):V->List V->Hp->VK->Prop:=λx vs H Q=>∃(l:Addr) (ts:List Str) (i:Str) (j:Nat),x=.ref l/\vs=[.str i]/\bS K H l (ts.map V.str)/\ts[j]? = some i/\(∀m,m<j->ts[m]?≠some i)/\Q (.int j) H
theorem NL(i y:Str)(t:Tok):gu (.str i) (.str y t)=(y==i):=rfl
theorem RE:xw X "list.index" (Rn X.K):=by
 intro af s σ H x vs v us Q I rx rv h;obtain⟨l,ts,i,j,rfl,rfl,hq,hj,rP,q⟩:=h;cases rx;obtain⟨u,rfl,ru⟩:=vals1 rv;obtain⟨t,rfl⟩:=ru;obtain⟨ao,r,pl,hz⟩:=I.list hq;have hlen:=r.length;rw[aaf] at hlen hz;obtain⟨o,ho,hc,n,hd⟩:=pl.isList;obtain⟨c,dd,da,sl⟩:=o;cases hc;cases hd;have Zm:=(abU.mp hj).1;have nO:∀(m:Nat) (hm:m<ao.toArray.size),∃y t',ts[m]? = some y/\ao.toArray[m]=.str y t':=λm hm=>by
  have j7:m<ts.length:=by simp at hm;omega
  obtain⟨w,hw,dM⟩:=r.get (by rw[abW,aa0 j7];rfl);obtain⟨t',rfl⟩:=dM;refine⟨ts[m],t',aa0 j7,?_⟩;have:=(abU.mp hw).2;simpa using this
 have hsz:j<ao.toArray.size:=by simp;omega
 refine aeY F.slot_list_index ⟨_,ho,rfl⟩ F.entry_list_index (F.args_list_index_2 _ _) (SeqAt.list_indexAt l ao.toArray n dd sl (.str i t) (gu (.str i)) j hsz (by rw[aeg] at hz;omega) ?_ (λm hm dP=>?_)) ⟨ho,λw hw=>qL (x:=.str i) ⟨t,rfl⟩ rfl r (by rw[afa];exact acA.mpr λ_ _=>rfl) w (by simpa using hw),⟨.int j,H,I.tok _,⟨_,rfl⟩,q⟩⟩
 .obtain⟨y,t',h1,h2⟩:=nO j hsz;rw[h2,NL];rw[hj] at h1;cases h1;exact adH _
 .obtain⟨y,t',h1,h2⟩:=nO m hm;rw[h2,NL];refine aeA.mpr λe=>rP m dP ?_
  rw[h1,eq_of_beq e]
end
end L2
namespace L2.Ev
open PySem PySem.Spec PyProof.Rows Builtin Builtin.Str
section
variable{X:Cx}{a b:Expr}{fa fb:EF}{p p2 p3 pos:Pos}
def Vv:D->D->Option D
 |.lst ds,.str i=>match iI ds with
  |some ts=>(ts.findIdx? (· == i)).map λj:Nat=>.int j
  |none=>none
 |_,_=>none
theorem YF(ha:FP X a fa)(hb:FP X b fb)(hs:starEach [b] X.env=[(false,eval b X.env)]:=by rfl)(i_:attributeBase a "index" X.env (eval a X.env)=eval a X.env:=by rfl)
  (jT:((backTo p3 (starEach [b] X.env)).all (λx=>!x.1)&&(backToKw p3 (keywordEach [] X.env)).all (λx=>x.1.isSome)&&decide ([b].length+([]:List Keyword).length+(if([]:List Keyword).isEmpty then 0 else 1)<30))=true:=by rfl)
  (jb:(p2.endLine==p3.line)=true:=by rfl):FP X (.Call (.Attribute a "index" p2) [b] [] p3) (e2 Vv fa fb):=by
 obtain⟨ta,pa,sa⟩:=ha;obtain⟨tb,pb,sb⟩:=hb;exists 21,sX PySem.F.plainAttrs_list PySem.F.slot_list_index PySem.F.type_list_index RE pa (bU pb dN hs) i_ jT jb hs rfl;obtain⟨d1,t1,d2,t2,e1,fY,e3,rfl⟩:=mJ e;refine sa ok e1 λH1 x f1 s1 r1 _=>?_
 cases d1 with
 |lst ds=>
  cases d2 with
  |str i=>
   have e3:(match iI ds with|some ts=>(ts.findIdx? (· == i)).map λj:Nat=>D.int j|none=>none)=some d:=e3;exists h,iI ds,ts,e3;dsimp only at e3;exists h2,ts.findIdx? (· == i),j,e3;cases e3;obtain⟨l0,Vk,f0,rfl,BU,TM,_⟩:=r1.dg;refine⟨.inl ⟨rfl,_,BU⟩,?_⟩;refine sb (ok.same s1) fY λH2 y f2 s2 r2 _=>?_
   obtain⟨rfl,_⟩:=r2.uZ;have qC:=r1.same s2;obtain⟨l,xs,f,e0,hq,rs,_⟩:=qC.dg;cases e0;have hx:=tG rs h;subst hx;obtain⟨hj,hp,rP⟩:=List.findIdx?_eq_some_iff_getElem.mp h2;refine⟨l0,ts,i,j,rfl,rfl,hq,?_,λm hm em=>?_,k H2 _ [] (s1.trans s2) (.int _) ⟨abF,λa m=>nomatch m⟩⟩
   .rw[aa0 hj,eq_of_beq hp]
   .obtain⟨j7,e'⟩:=abU.mp em;exact rP m hm (by rw[e'];exact adH _)
  |_=>cases e3
 |_=>cases e3
end
end L2.Ev
namespace L2.Ev
open PySem
section
variable{ρ ρ':aE}{f:EF}{sf sg:SF}{d d1 d2:D}{t t1 t2:Tag}{i:Nat}{r:Option Out}
theorem sq(h:sf ρ=some (.nx ρ'))(h2:sg ρ'=r):aS sf sg ρ=r:=by rw[h_,h,k7,h2]
theorem ku(h:f ρ=some (d,t))(h2:sg (jf ρ i d t)=r):aS (cj i f) sg ρ=r:=sq (by unfold cj;rw[h]) h2
theorem qj(h:tf ρ=some b)(h2:aS (if b=true then sf else cz) sg ρ=r):aS (cH tf sf cz) sg ρ=r:=by
 have e:cH tf sf cz ρ=(if b=true then sf else cz) ρ:=by rw[gQ,h];cases b<;>rfl
 rw[h_,e,<- h_,h2]
theorem cG(h:tf ρ=some false)(h2:sg ρ=r):aS (cH tf sf cz) sg ρ=r:=sq (by rw[gQ,h];rfl) h2
theorem dF{op:D->Option D}(h:f ρ=some (d,t))(h2:op d=some d1):e1 op f ρ=some (d1,.own):=by rw[rK,h,Aj,h2];rfl
theorem bX{op:D->D->Option D}(h:f ρ=some (d1,t1))(h2:g ρ=some (d2,t2))(h3:op d1 d2=some d):e2 op f g ρ=some (d,.own):=by rw[jO,h,h2,q_,h3];rfl
theorem fJ{F:List D->Option D}{ps:List (D×Tag)}(h:g ρ=some ps)(h2:F (ps.map (·.1))=some d):cM F g ρ=some (d,.own):=by rw[s_call,h,J7,h2];rfl
theorem cT(h:f ρ=some (.bl b,t)):tV f ρ=some b:=by rw[qv,h];rfl
theorem kN(h:tf ρ=some b):iN tf ρ=some (!b):=by rw[NS,h];rfl
end
open PySem PySem.Spec PyProof.Rows
section
variable{X:Cx}{x f cn:Str}{C:Addr}{a k v:Expr}{fk fv:EF}{p p1 p2 p3 pos pos':Pos}
def tR(i:Nat)(cn f:Str)(fk fv:EF):SF:=λρ=>match fv ρ,ρ[i]?,fk ρ with
 | some (d,_),some (some (.ins c es,.own)),some (kd,_)=>if c=cn then(match es.lookup f,g_ kd with
  |some (.bK aj),some k=>if(aG d&&aP (aj.map (·.2))&&decide (aj.length<sizeLine))=true then some (.nx (bJ ρ i (.ins c (dO f (.bK (putD aj k d)) es)))) else none
  |_,_=>none) else none
 |_,_,_=>none
theorem zQ(i:Nat)(hu:X.A.units+1<cLine)(hC:ClsAt X.K cn C)(na:ji X.K C f)(hk:FP X k fk)(hv:FP X v fv)(va:VA X i x:=by walk_at "va")
  (hb:attributeBase (.Name x p) f X.env (eval (.Name x p) X.env)=eval (.Name x p) X.env:=by rfl)
  (hs:swapsWith v (some (.Subscript (.Attribute (.Name x p) f p1) k pos')) pos.line X.env=pure false:=by rfl) :
  dU X (.Assign [.Subscript (.Attribute (.Name x p) f p1) k pos'] v pos) (tR i cn f fk fv):=by
 obtain⟨tk,pk,sk⟩:=hk;obtain⟨tv,lu,sv⟩:=hv;exists 25,GN hu (uX va.pe hb) pk lu hs;unfold tR at e
 split at e
 .rename_i d td c es kd Ud g1 g2 g3
  by_cases hc:c=cn
  .subst hc;rw[if_pos rfl] at e
   split at e
   .rename_i aj key hl xD;obtain⟨hc,e⟩:=ci e;cases e;obtain⟨c1,c3⟩:=(aaL _ _).mp hc;obtain⟨c1,c2⟩:=(aaL _ _).mp c1;refine sv ok g1 λH1 v fd s1 rv gv=>?_
    have hn:=rv.aG c1;subst hn;obtain⟨xv,fp,ck,r,zz⟩:=(ok.same s1).sl i _ _ g2;refine⟨xv,ck,?_⟩;obtain⟨b0,dx,fs,u,gf,rfl,h1,h2,h3,h4,h5,h6⟩:=r.place hC.ns zz.1 hl;refine⟨b0,C,dx,fs,u,rfl,h1,hC.cl,na,h2,?_⟩;refine sk (ok.same s1) g3 λH2 y O2 s2 rk _=>?_
    have ek:=rk.key xD;subst ek;have r':=h3.same s2;generalize hw:u=w at r' h6;cases r' with
    | @bK l ks _ f' h iF rs=>
     have hn:=rs.aG c2;subst hn;have hlen:ks.length=aj.length:=by have:=congrArg List.length iF;simpa using this.symm
     refine⟨l,_,rfl,ua.k (k:=key) h (by rw[hlen];exact aa3 c3),?_⟩;have im:aX H2 (upd H2 l (.dK (putK ks key v))):=aX.upd h rfl;have kp:∀(c:Addr) o,c∉[l]->H1 c=some o->upd H2 l (.dK (putK ks key v)) c=some o:=λc o n e=>by rw[aO λq=>n (by rw[q];exact aax)];exact s2 c o e
     obtain⟨bg,k1,k2,k3⟩:=h6 (upd H2 l (.dK (putK ks key v))) (.bK (putD aj key d)) [l] ((aX.of s2).trans im) kp
      (.bK bT (Bb iF) (EM iF (rs.frame (λa m=>nomatch m) im) ((rv.same s2).frame (λa m=>nomatch m) im))) h4 (λc m=>.inl m)
     obtain⟨z',aY⟩:=(ok.same s1).put g2 ck zz ((aX.of s2).trans im) (λc o n e=>kp c o (λm=>n (h5 c m)) e) k1 k2 k3;exact q z' σ _ aY (.refl _ _)
   .cases e
  .rw[abf hc] at e;cases e
 .cases e
def zq(i:Nat)(cn f:Str)(fv:EF):SF:=λρ=>match fv ρ,ρ[i]? with
 | some (.int j,_),some (some (.ins c es,.own))=>if c=cn/\es.length < 1000 then(match es.lookup f with
  |some (.int k)=>some (.nx (bJ ρ i (.ins c (dO f (.int (k+j)) es))))
  |_=>none) else none
 |_,_=>none
theorem DZ(i:Nat)(hC:ClsAt X.K cn C)(na:ji X.K C f)(hv:FP X a fv)(va:VA X i x:=by walk_at "va"):dU X (.AugAssign (.Attribute (.Name x p1) f pos') .Add a pos) (zq i cn f fv):=by
 obtain⟨t,p,q⟩:=hv;exists 23,YK va.pe p Xa;unfold zq at e
 split at e
 .rename_i j tg c es h1 h2
  by_cases hc:c=cn/\es.length<1000
  .rw[if_pos hc] at e;obtain⟨rfl,hl⟩:=hc
   split at e
   .rename_i m hf;cases e;obtain⟨v,aT,ck,r0,zz⟩:=ok.sl i _ _ h2;refine⟨v,ck,?_⟩;obtain⟨b,dx,fs,u,gf,rfl,h3,e2,e3,_⟩:=r0.place hC.ns zz.1 hf;obtain⟨b',xq,pB,g,ev,rfl,Aw,h4,h5,h6⟩:=r0.lX hC.ns;cases ev;rw[h3] at Aw;cases Aw;cases e3;have lf:fs.length<1000:=by have:=congrArg List.length h5;rw[aaf,aaf] at this;omega
    refine⟨b,C,dx,fs,_,rfl,h3,hC.cl,na,e2,q ok h1 λH1 y fd s1 r1 g1=>?_⟩;cases r1;refine⟨m,j,rfl,rfl,dx,fs,s1 _ _ h3,lf,?_⟩;obtain⟨z',aY⟩:=ok.fld (f:=f) hC h2 ck h3 s1 (.int (m+j)) abF λc m=>nomatch m
    exact k z' σ _ aY (.refl _ _)
   .cases e
  .rw[abf hc] at e;cases e
 .cases e
noncomputable def nU(f:EF):TF:=λρ=>match f ρ with
 |some (.lst ds,_)=>some (!ds.isEmpty)
 |_=>none
theorem Kz{f:EF}(h:FP X a f)(he:∀whole,isTrue a X.env whole=(do let v <- whole;standAt a.pos;holding [v] (truthy v)):=by intro _;rfl):FT X a (nU f):=by
 obtain⟨t,p,q⟩:=h;refine⟨_,VC p he,@λH0 S z ak ρ σ H Q b ok e k=>?_⟩;unfold nU at e
 split at e
 .rename_i ds tg e1;cases e;refine q ok e1 λH1 v fp s1 r1 _=>?_
  obtain⟨w,xs,f,rfl,hq,rs,_⟩:=r1.dg;have he:(!ds.isEmpty)=!xs.isEmpty:=by cases rs<;>rfl
  exact⟨_,.inl ⟨xs,hq,rfl⟩,he ▸ k H1 s1⟩
 .cases e
theorem WY{b:Expr}{fa fb:EF}(hu:X.A.units+1<cLine)(ha:FP X a fa)(hb:FP X b fb)(hm:behindInMarks .NotIn b=false:=by rfl):FP X (.Compare a [.NotIn] [b] pos) (e2 (rC true) fa fb):=
 fp_2 DX ha hb λta tb pa pb=>OA (abB hu pa pb) hm
end
end L2.Ev
namespace L2
open PySem PySem.Spec PyProof.Rows
section
variable{X:Cx}{af:List (Addr×Obj)}{σ:St}{H:Hp}{s:Shared}{a:Addr}
theorem KD{ks:List Key}(I:Inv X af σ H s)(h:cg X.K H a (ks.map kV)):(tupleKind (fM X.prog X.w)).is s.heap ks a:=by
 obtain⟨ao,r,⟨o,h1,h2,_,n,h3⟩,_⟩:=I.KO h;exact⟨o,ao.toArray,n,h1,h2,h3,by simpa using Ff r⟩
def Kw(K:PySem.W.Frag)(neg:Bool):R2:=λx y H Q=>∃b a k aj,x=.ref b/\y=.ref a/\cg K H b (List.map kV k)/\H a=some (.dT aj)/\Q (.bl (if neg=true then !(eg aj k).isSome else(eg aj k).isSome)) H
theorem YC(hu:X.A.units+1<cLine):cY X (compareOp .In) (Kw X.K false):=by
 rintro af s σ H x y v u Q I rx ry ⟨b,a,k,aj,rfl,rfl,hq,e,q⟩
 obtain rfl:v=Value.ref b:=rx;obtain rfl:u=Value.ref a:=ry;obtain⟨z,hd,xs,rel,dd⟩:=nN I.aD (.inl e);refine wpAny_in_heap (aex hu) (KD I hq) hd dd ?_;have w:=(rel.val k).uP;rw[afl] at w;rw[<- w];exact⟨.bl (eg aj k).isSome,H,I.tok _,rfl,q⟩
def ZD(K:PySem.W.Frag)(td ty:TE):TE:=λσ H Q=>td σ H λx H1=>ty σ H1 λy H2=>∃a b k aj v,x=.ref a/\y=.ref b/\cg K H2 b (List.map kV k)/\H2 a=some (.dT aj)/\eg aj k=some v/\Q v H2
theorem Ze(hu:X.A.units+1<cLine)(ho:PE X o td)(hi:PE X i ty)(hs:xR i):PE X (.Subscript o i pos) (ZD X.K td ty):=by
 intro af s σ H Q I h;refine LC PySem.F.slot_dict_getitem.lookup hs (aM (ho af s σ H _ I h) λu s1 ⟨x,H1,I1,rx,q1⟩=>aM (hi af s1 σ H1 _ I1 q1) λiv s2 ⟨y,H2,I2,ry,a,b,k,aj,v,ex,ey,hq,e,l,q2⟩=>?_);subst ex;subst ey;obtain rfl:u=Value.ref a:=rx;obtain rfl:iv=Value.ref b:=ry;obtain⟨z,hd,xs,rel,dd⟩:=nN I2.aD (.inl e);obtain⟨w',hw,dM⟩:=gE.some_of (by rw[<- l];exact rel.val k);obtain⟨p,hp,uI⟩:=acI.mp hw;refine⟨dd.typeIs,wpAny_getItem_heap (aex hu) (KD I2 hq) dd hp ?_⟩;rw[uI];exact⟨v,H2,I2.tok _,dM,q2⟩
end
namespace Ev
section
variable{X:Cx}{a b:Expr}{fa fb:EF}{pos:Pos}
def je:List D->Option (List Key)
 |[]=>some []
 |d::ds=>match g_ d,je ds with
  |some k,some ks=>some (k::ks)
  |_,_=>none
theorem ay.keys{K:PySem.W.Frag}:∀{ds:List D}{xs:List V}{fp:List Addr}{ks:List Key},ay K H ds xs fp->je ds=some ks->xs=ks.map L2.kV
 |[],_,_,_,.nil,e=>by cases e;rfl
 |d::ds,_,_,ks,.cons r rs,e=>by
  unfold je at e
  split at e
  .rename_i k n6 h1 h2;cases e;rw[r.key h1,ay.keys rs h2];rfl
  .cases e
def yE(neg:Bool):D->D->Option D
 |.tup ds,.eS es=>(je ds).map λk=>.bl (if neg=true then !(bI es k).isSome else(bI es k).isSome)
 |_,_=>none
theorem SO{neg:Bool}{K:PySem.W.Frag}:fm K (Kw K neg) (yE neg):=by
 intro H x y d1 d2 f1 f2 d Q r1 r2 e k;cases d1<;>try (cases e;done)
 cases d2<;>try (cases e;done)
 rename_i ds es;have e:((je ds).map λk=>D.bl (if neg=true then !(bI es k).isSome else(bI es k).isSome))=some d:=e;obtain⟨w,xs,rfl,hq,rs⟩:=r1.jx;exists hk,je ds,ks,e;cases e;obtain rfl:=ay.keys rs hk;cases r2 with
 | @eS a aj _ f h iF xT=>
  have ev:(eg aj ks).isSome=(bI es ks).isSome:=by
   obtain⟨h1,h2⟩:=rO iF xT;cases hv:bI es ks with
   |none=>rw[h2 hv];rfl
   |some dv=>obtain⟨v,f,nQ,_⟩:=h1 dv hv;rw[nQ];rfl
  refine⟨w,a,ks,aj,rfl,rfl,hq,h,?_⟩;rw[ev];exact k H _ (aF.refl H) (.bl _)
theorem TN(hu:X.A.units+1<cLine)(ha:FP X a fa)(hb:FP X b fb)(hm:behindInMarks .In b=false:=by rfl):FT X (.Compare a [.In] [b] pos) (tV (e2 (yE false) fa fb)):=i0 (YC hu) SO ha hb hm
def zk(fa fb:EF):EF:=λρ=>match fa ρ,fb ρ with
 |some (.eS es,t),some (.tup ds,_)=>(je ds).bind λk=>(bI es k).map λd=>(d,kK t)
 |_,_=>none
theorem acE(hu:X.A.units+1<cLine)(ha:FP X a fa)(hb:FP X b fb)(hs:xR b):FP X (.Subscript a b pos) (zk fa fb):=by
 obtain⟨ta,pa,sa⟩:=ha;obtain⟨tb,pb,sb⟩:=hb;exists 20,Ze hu pa pb hs;unfold zk at e
 split at e
 .rename_i es t ds t2 e1 fY;exists hk,je ds,ks,e,0;rw[hk,ach] at e;exists hv,bI es ks,dv,e;cases e;refine sa ok e1 λH1 x f1 s1 r1 g1=>?_
  refine sb (ok.same s1) fY λH2 y f2 s2 r2 _=>?_
  obtain⟨w,xs,rfl,hq,rs⟩:=r2.jx;obtain rfl:=ay.keys rs hk;have qC:=r1.same s2;cases qC with
  | @eS l aj _ f h iF xT=>
   obtain⟨h1,_⟩:=rO (k:=ks) iF xT;obtain⟨v,f,nQ,rv,sub⟩:=h1 _ hv;refine⟨l,w,ks,aj,v,rfl,rfl,hq,h,nQ,?_⟩;exact q H2 v f (s1.trans s2) rv (cO.sub (λa j e=>(ok.zd a j e).1) g1 λa m=>aal _ (sub a m))
 .cases e
def gV(neg:Bool):D->D->Option D
 |d1,.lst ds=>if(eE d1&&eE (.lst ds))=true then some (.bl (if neg=true then !(eZ ds).any λy=>PyData.eqv y (py d1) else(eZ ds).any λy=>PyData.eqv y (py d1))) else none
 |_,_=>none
def Gu(K:PySem.W.Frag)(neg:Bool):R2:=λx y H Q=>∃d1 ds f1 f2,Rep K H d1 x f1/\Rep K H (.lst ds) y f2/\eE d1=true/\eE (.lst ds)=true/\Q (.bl (if neg=true then !(eZ ds).any λy=>PyData.eqv y (py d1) else(eZ ds).any λy=>PyData.eqv y (py d1))) H
theorem O5(hu:X.A.units+64<cLine):cY X (compareOp .In) (Gu X.K false):=by
 intro af s σ H x y v u Q I rx ry h;obtain⟨d1,ds,f1,f2,r1,r2,l1,l2,q⟩:=h;obtain⟨a1,a2,a3⟩:=lay_of l1;obtain⟨b1,b2,b3⟩:=lay_of l2;obtain⟨as,ra⟩:=nZ I r1 rx a1;obtain⟨bs,rb⟩:=nZ I r2 ry b1;rw[py] at rb b2 b3;simp only[PyData.canLay0] at b2;exact SeqAt.in_list_reads rb ra b2 a2 (by have:=Nat.min_le_right (PyData.depthAll (eZ ds)) (py d1).depth;omega) ⟨.bl _,H,I,rfl,q⟩
theorem K3(hu:X.A.units+64<cLine):cY X (compareOp .NotIn) (Gu X.K true):=by
 intro af s σ H x y v u Q I rx ry h;obtain⟨d1,ds,f1,f2,r1,r2,l1,l2,q⟩:=h;obtain⟨a1,a2,a3⟩:=lay_of l1;obtain⟨b1,b2,b3⟩:=lay_of l2;obtain⟨as,ra⟩:=nZ I r1 rx a1;obtain⟨bs,rb⟩:=nZ I r2 ry b1;rw[py] at rb b2 b3;simp only[PyData.canLay0] at b2;exact SeqAt.notIn_list_reads rb ra b2 a2 (by have:=Nat.min_le_right (PyData.depthAll (eZ ds)) (py d1).depth;omega) ⟨.bl _,H,I,rfl,q⟩
theorem yp{K:PySem.W.Frag}:fm K (Gu K neg) (gV neg):=by
 intro H x y d1 d2 f1 f2 d Q r1 r2 e k;cases d2<;>try (cases e;done)
 rename_i ds;have e:(if(eE d1&&eE (.lst ds))=true then some (D.bl (if neg=true then !(eZ ds).any λy=>PyData.eqv y (py d1) else(eZ ds).any λy=>PyData.eqv y (py d1))) else none)=some d:=by cases d1<;>exact e
 obtain⟨hc,e⟩:=ci e;cases e;obtain⟨c1,c2⟩:=(aaL _ _).mp hc;exact⟨d1,ds,f1,f2,r1,r2,c1,c2,k H _ (aF.refl H) (.bl _)⟩
theorem ab1(hu:X.A.units+64<cLine)(ha:FP X a fa)(hb:FP X b fb)(hm:behindInMarks .In b=false:=by rfl):FT X (.Compare a [.In] [b] pos) (tV (e2 (gV false) fa fb)):=i0 (O5 hu) yp ha hb hm
theorem B7(hu:X.A.units+64<cLine)(ha:FP X a fa)(hb:FP X b fb)(hm:behindInMarks .NotIn b=false:=by rfl):FT X (.Compare a [.NotIn] [b] pos) (tV (e2 (gV true) fa fb)):=i0 (K3 hu) yp ha hb hm
theorem Kn(hu:X.A.units+64<cLine)(ha:FP X a fa)(hb:FP X b fb)(hm:behindInMarks .In b=false:=by rfl):FP X (.Compare a [.In] [b] pos) (e2 (gV false) fa fb):=mH (O5 hu) yp ha hb hm
theorem V7(hu:X.A.units+64<cLine)(ha:FP X a fa)(hb:FP X b fb)(hm:behindInMarks .NotIn b=false:=by rfl):FP X (.Compare a [.NotIn] [b] pos) (e2 (gV true) fa fb):=mH (K3 hu) yp ha hb hm
theorem ZW:FP X (.Dict [] [] pos) (eC (.eS [])):=by
 refine⟨_,Uz,@λH0 S z ak ρ σ H Q d tg ok e k p hp=>?_⟩;cases e;have s2:aF H (upd H p (.dT [])):=λb o e=>by rw[aO (cC e hp)];exact e
 exact k _ _ [p] s2 (.eS bT rfl .nil) ⟨abu.mpr ⟨(λm=>by cases m),abF⟩,λa m=>by cases aaH.mp m;exact hp⟩
end
end Ev
end L2
namespace L2
open PySem PySem.W PyProof.Rows
structure nA(r:Nat->Nat->Bool)(n:Nat):Prop where
 tr:∀i j k,i<n->j<n->k<n->r i j=true->r j k=true->r i k=true
 tt:∀i j,i<n->j<n->i≠j->r i j=false->r j i=true
def jD(r:Nat->Nat->Bool)(p:Array Nat)(m:Nat):Prop:=∀i j,i<j->j<m->r (p.getD i 0) (p.getD j 0)=true
def wK(r:Nat->Nat->Bool)(p:Array Nat)(m:Nat):Prop:=∀i j,i<j->j<m->r (p.getD j 0) (p.getD i 0)=true
noncomputable abbrev a_(n:Nat)(p:Array Nat):Prop:=p.Perm (List.range n).toArray
section
variable{cmp:Nat->Nat->(Bool->Shared->Prop)->Shared->Prop}{r:Nat->Nat->Bool}{n:Nat}{s:Shared}{p:Array Nat}
theorem a_.sz(P:a_ n p):p.size=n:=by rw[Array.Perm.size_eq P];simp
theorem getD_at(h:i<p.size):p.getD i 0=p[i]:=by simp[Array.getD,h]
theorem a_.lt(P:a_ n p)(h:i<n):p.getD i 0<n:=by
 have hs:i<p.size:=by rw[a_.sz P];exact h
 rw[getD_at hs];have m:p[i]∈p.toList:=by simp
 have:=(aeE.mp P).mem_iff.mp m;simpa using this
theorem a_.ne(P:a_ n p)(hi:i<n)(hj:j<n)(h:i≠j):p.getD i 0≠p.getD j 0:=λe'=>by
 have hs:i<p.size:=by rw[a_.sz P];exact hi
 have ck:j<p.size:=by rw[a_.sz P];exact hj
 rw[getD_at hs,getD_at ck] at e';have nd:=(aeE.mp P).nodup_iff.mpr (by simpa using List.nodup_range);have w:=ae5.mp nd;rcases Nat.lt_or_gt_of_ne h with q|q
 .exact w i j (by simpa using hs) (by simpa using ck) q (by simpa using e')
 .exact w j i (by simpa using ck) (by simpa using hs) q (by simpa using e'.symm)
def uM(cmp:Nat->Nat->(Bool->Shared->Prop)->Shared->Prop)(r:Nat->Nat->Bool)(n:Nat)(s:Shared):Prop:=∀i j C,i<n->j<n->C (r i j) s->cmp i j C s
theorem jD.snoc(T:nA r n)(P:a_ n p)(h:jD r p m)(h1:1<=m)(hm:m<n)(h2:r (p.getD (m-1) 0) (p.getD m 0)=true):jD r p (m+1):=λi j a b=>by
 by_cases e:j=m
 .subst e
  by_cases e':i=j-1
  .subst e';exact h2
  .exact T.tr _ _ _ (a_.lt P (by omega)) (a_.lt P (by omega)) (a_.lt P (by omega)) (h i (j-1) (by omega) (by omega)) h2
 .exact h i j a (by omega)
theorem wK.snoc(T:nA r n)(P:a_ n p)(h:wK r p m)(h1:1<=m)(hm:m<n)(h2:r (p.getD m 0) (p.getD (m-1) 0)=true):wK r p (m+1):=λi j a b=>by
 by_cases e:j=m
 .subst e
  by_cases e':i=j-1
  .subst e';exact h2
  .exact T.tr _ _ _ (a_.lt P (by omega)) (a_.lt P (by omega)) (a_.lt P (by omega)) h2 (h i (j-1) (by omega) (by omega))
 .exact h i j a (by omega)
theorem GS(T:nA r n)(A:uM cmp r n s)(P:a_ n p):∀(f m:Nat) {G:Nat->Shared->Prop},1<=m->m+f<=n->jD r p m->
  (∀m',m<=m'->m'<=m+f->jD r p m'->(m'=m+f\/r (p.getD m' 0) (p.getD (m'-1) 0)=true)->G m' s)->(kas_asc p f m).kasWp cmp G s
 |0,m,G,_,_,hs,g=>g m (abd _) (abd _) hs (.inl rfl)
 |f+1,m,G,h1,h2,hs,g=>by
  refine A _ _ _ (a_.lt P (by omega)) (a_.lt P (by omega)) ?_;cases c:r (p.getD m 0) (p.getD (m-1) 0) with
  |true=>exact g m (abd _) (by omega) hs (.inr c)
  |false=>
   exact GS T A P f (m+1) (by omega) (by omega) (hs.snoc T P h1 (by omega) (T.tt _ _ (a_.lt P (by omega)) (a_.lt P (by omega)) (a_.ne P (by omega) (by omega) (by omega)) c)) λm' a b c d=>g m' (by omega) (by omega) c (by rw[show m+1+f=m+(f+1) by omega] at d;exact d)
theorem Nq(T:nA r n)(A:uM cmp r n s)(P:a_ n p):∀(f m:Nat) {G:Array Nat×Nat×Nat->Shared->Prop},1<=m->m+f<=n->wK r p m->
  (∀m',m<=m'->m'<=m+f->wK r p m'->G (p,m',0) s)->(kas_desc f p m 0).kasWp cmp G s
 |0,m,G,_,_,hs,g=>g m (abd _) (abd _) hs
 |f+1,m,G,h1,h2,hs,g=>by
  refine A _ _ _ (a_.lt P (by omega)) (a_.lt P (by omega)) ?_;cases c:r (p.getD m 0) (p.getD (m-1) 0) with
  |true=>exact Nq T A P f (m+1) (by omega) (by omega) (hs.snoc T P h1 (by omega) c) λm' a b d=>g m' (by omega) (by omega) d
  |false=>
   refine A _ _ _ (a_.lt P (by omega)) (a_.lt P (by omega)) ?_;rw[T.tt _ _ (a_.lt P (by omega)) (a_.lt P (by omega)) (a_.ne P (by omega) (by omega) (by omega)) c];exact g m (abd _) (by omega) hs
theorem rev_getD(hm:m<=p.size)(h:i<m):(kas_rev p 0 m).getD i 0=p.getD (m-1-i) 0:=by
 have e:=getElem?_mirror_all (xs:=p) (i:=0) hm i;rw[if_pos ⟨aeh _,h⟩] at e;unfold kas_rev;rw[ad6,ad6,e]
 congr 2;omega
theorem Sv(T:nA r n)(A:uM cmp r n s)(P:a_ n p)(h:1<=n){G:Nat×Array Nat->Shared->Prop}(g:∀m q,1<=m->m<=n->a_ n q->jD r q m->G (m,q) s):(kas_count n p).kasWp cmp G s:=by
 unfold kas_count;rw[KasT.kasWp_bind];refine GS T A P (n-1) 1 (abd _) (by omega) (λi j a b=>by omega) λm a b hs d=>?_
 by_cases e:m=n
 .subst e;rw[if_pos (by simp)];exact g m p a (abd _) P hs
 .rw[abf (by simpa using e)]
  by_cases e1:m > 1
  .rw[if_pos e1];refine A _ _ _ (a_.lt P (by omega)) (a_.lt P (by omega)) ?_;rw[hs 0 (m-1) (by omega) (by omega)];exact g m p a (by omega) P hs
  .rw[abf e1];obtain rfl:m=1:=by omega
   have d:=d.resolve_left (by omega);unfold kas_descPart;rw[KasT.kasWp_bind];refine Nq T A P (n - (1 + 1)) (1 + 1) (by omega) (by omega) (λi j a b=>by
    obtain⟨rfl,rfl⟩:i=0/\j=1:=by omega
    exact d) λm' a' b' hd=>?_
   dsimp only;rw[abf (by omega)];unfold kas_tail3;rw[KasT.kasWp_bind];have Q:a_ n (kas_rev p 0 m'):=(mirror_perm _ _ _ _).trans P;refine GS T A Q (n-m') m' (by omega) (by omega) (λi j a b=>?_) λm2 a2 b2 bQ _=>g m2 _ (by omega) (by omega) Q bQ
   rw[rev_getD (by rw[a_.sz P];omega) (by omega),rev_getD (by rw[a_.sz P];omega) (by omega)];exact hd _ _ (by omega) (by omega)
theorem E5(T:nA r n)(A:uM cmp r n s)(P:a_ n p)(hx:x<n)(hs:jD r p x):∀(f l u:Nat) {G:Nat->Shared->Prop},u-l<=f->u<=x->l<=u->(∀i,i<l->r (p.getD i 0) (p.getD x 0)=true)->(∀i,u<=i->i<x->r (p.getD x 0) (p.getD i 0)=true)->
  (∀l,l<=x->(∀i,i<l->r (p.getD i 0) (p.getD x 0)=true)->(∀i,l<=i->i<x->r (p.getD x 0) (p.getD i 0)=true)->G l s)->(kas_place p x f l u).kasWp cmp G s
 |0,l,u,G,h1,h2,h3,lo,hi,g=>g l (by omega) lo λi a b=>hi i (by omega) b
 |f+1,l,u,G,h1,h2,h3,lo,hi,g=>by
  unfold kas_place
  by_cases c:l >= u
  .rw[if_pos c];exact g l (by omega) lo λi a b=>hi i (by omega) b
  .rw[abf c];refine A _ _ _ (a_.lt P hx) (a_.lt P (by omega)) ?_;cases d:r (p.getD x 0) (p.getD ((l+u) / 2) 0) with
   |true=>
    refine E5 T A P hx hs f l ((l+u) / 2) (by omega) (by omega) (by omega) lo (λi a b=>?_) g
    by_cases e:i=(l+u) / 2
    .rw[e];exact d
    .exact T.tr _ _ _ (a_.lt P (by omega)) (a_.lt P (by omega)) (a_.lt P (by omega)) d (hs _ i (by omega) b)
   |false=>
    have d:=T.tt _ _ (a_.lt P (by omega)) (a_.lt P (by omega)) (a_.ne P (by omega) (by omega) (by omega)) d;refine E5 T A P hx hs f ((l+u) / 2+1) u (by omega) h2 (by omega) (λi a=>?_) hi g
    by_cases e:i=(l+u) / 2
    .rw[e];exact d
    .exact T.tr _ _ _ (a_.lt P (by omega)) (a_.lt P (by omega)) (a_.lt P (by omega)) (hs i _ (by omega) (by omega)) d
theorem KE(hx:x<p.size)(hl:l<=x):(bubble p x (x-l)).getD i 0=if i=l then p.getD x 0 else if l<i/\i<=x then p.getD (i-1) 0 else p.getD i 0:=by
 have e:=getElem?_bubble hx (x-l) (by omega) i;rw[show x-(x-l)=l by omega] at e;rw[ad6,e]
 by_cases h1:i=l
 .rw[if_pos h1,if_pos h1,ad6]
 .rw[abf h1,abf h1]
  by_cases h2:l<i/\i<=x
  .rw[if_pos h2,if_pos h2,ad6]
  .rw[abf h2,abf h2,ad6]
theorem Lo(T:nA r n)(A:uM cmp r n s):∀(f:Nat) (p:Array Nat) (x:Nat) {G:Array Nat->Shared->Prop},a_ n p->1<=x->x+f=n->jD r p x->(∀q,a_ n q->jD r q n->G q s)->(kas_bin f p x).kasWp cmp G s
 |0,p,x,G,P,_,e,hs,g=>g p P (by rw[<- e];exact hs)
 |f+1,p,x,G,P,h1,e,hs,g=>by
  unfold kas_bin;rw[KasT.kasWp_bind];refine E5 T A P (by omega) hs x 0 x (by omega) (abd _) (aeh _) (λi a=>by omega) (λi a b=>by omega) λl hl lo hi=>?_
  have hz:x<p.size:=by rw[a_.sz P];omega
  refine Lo T A f _ (x+1) ((bubble_perm _ _ _).trans P) (by omega) (by omega) (λi j a b=>?_) g;rw[KE hz hl,KE hz hl]
  by_cases i1:i=l
  .rw[if_pos i1,abf (by omega),if_pos (by omega)];exact hi _ (by omega) (by omega)
  .rw[abf i1]
   by_cases j1:j=l
   .rw[if_pos j1,abf (by omega)];exact lo _ (by omega)
   .rw[abf j1]
    by_cases i2:l<i/\i<=x
    .rw[if_pos i2,if_pos (by omega)];exact hs _ _ (by omega) (by omega)
    .rw[abf i2]
     by_cases j2:l<j/\j<=x
     .rw[if_pos j2];exact hs _ _ (by omega) (by omega)
     .rw[abf j2];exact hs _ _ (by omega) (by omega)
theorem YX(T:nA r n)(A:uM cmp r n s)(h:1<=n){G:Array Nat->Shared->Prop}(g:∀q,a_ n q->jD r q n->G q s):(kas_sort n).kasWp cmp G s:=by
 unfold kas_sort;rw[KasT.kasWp_bind];refine Sv T A (Array.Perm.refl _) h λm q a b Q hs=>?_
 by_cases e:m<n
 .dsimp only;rw[if_pos e,Nat.max_eq_left a];exact Lo T A _ q m Q a (by omega) hs g
 .dsimp only;rw[abf e];obtain rfl:m=n:=by omega
  exact g q Q hs
end
open PySem PySem.Spec PySem.W PyProof.Rows
noncomputable def lex(x y:Int×Int):Bool:=decide (x.1<y.1\/x.1=y.1/\x.2<y.2)
def IsPair(h:Heap)(q:Addr)(x:Int×Int):Prop:=∃t u,IsTup h q #[.int x.1 t,.int x.2 u]
theorem Vw{pr:Nat->Int×Int}(h:∀i j,i<n->j<n->pr i=pr j->i=j):nA (λi j=>lex (pr i) (pr j)) n where
 tr:=λi j k _ _ _ a b=>by
  have a:=aa3 a;have b:=aa3 b;exact aa1 (by omega)
 tt:=λi j a b ne e=>by
  have e:=of_decide_eq_false e;have n2:¬((pr i).1=(pr j).1/\(pr i).2=(pr j).2):=λz=>ne (h i j a b (Prod.ext z.1 z.2))
  exact aa1 (by omega)
section
variable{prog:Program}{w:World}{A:Around}{E:Value->Shared->Prop}{s:Shared}
theorem Q2{a b:Int×Int}{Q:Bool->Shared->Prop}(hx:IsPair s.heap x a)(hy:IsPair s.heap y b)(h:Q (lex a b) s):wpAny (model prog w) A (keyLt' (tuples' true) (.ref x) (.ref y)) Q E s:=by
 obtain⟨t,u,o,h1,_,n,h2⟩:=hx;obtain⟨t',u',o',gm,_,n',mq⟩:=hy;refine kat_lt h1 h2 gm mq (kat_cons (wpAny_eqBool_int (kat_go (λe=>kat_yes (kat_cons (wpAny_eqBool_int (kat_go (λe2=>kat_yes (kat_nil ?_)) λe2=>kat_no (kat_one _ _ (lt_int ?_)))))) λe=>kat_no (oneLt_int ?_))))
 .have e:=eq_of_beq e;have e2:=eq_of_beq e2;have:lex a b=false:=abo (by omega);rw[this] at h;exact h
 .have e:=eq_of_beq e;have:lex a b=decide (a.2<b.2):=by unfold lex;congr 1;exact propext ⟨λz=>by omega,λz=>.inr ⟨e,z⟩⟩
  rw[this] at h;exact h
 .have e:=ne_of_beq_false e;have:lex a b=decide (a.1<b.1):=by unfold lex;congr 1;exact propext ⟨λz=>by omega,.inl⟩
  rw[this] at h;exact h
theorem MN:∀{qs:List Addr}{ps:List (Int×Int)},Paired (IsPair h) qs ps->∃fs,KatTups h (qs.map Value.ref) fs/\fs.length=qs.length/\∀v∈fs,∃i t,v=Value.int i t
 |_,_,.nil=>⟨[],.nil,rfl,λ_ m=>nomatch m⟩
 |_,_,.cons r t=>by
  obtain⟨fs,h1,h2,h3⟩:=MN t;obtain⟨t,u,o,e1,e2,n,e3⟩:=r;exact⟨_::fs,KatTups.cons e1 e2 e3 rfl h1,by rw[abj,abj,h2],λv m=>(aaM.mp m).elim (λz=>⟨_,_,z⟩) (h3 v)⟩
theorem XC{a kS:Addr}{vs:List Value}{qs:List Addr}{ps:List (Int×Int)}{e e1:Nat}{P:PySem.Fin->Shared->Prop}(k8:vs.length<64)(hl:qs.length=vs.length)(hp:Paired (IsPair s.heap) qs ps)(nd:ps.Nodup)
  (hk:s.heap.get? kS=some (seqObj "list" (qs.map Value.ref).toArray e)) (ha:s.heap.get? a=some (seqObj "list" #[] e1)) (ne:a≠kS)
  (h:∀q:Array Nat,a_ vs.length q->jD (λi j=>lex (ps.getD i (0,0)) (ps.getD j (0,0))) q vs.length->
   P (.done (.ret .none)) { s with heap:=(s.heap.update kS (Obj.mapSeq λ_=>#[])).update a (Obj.mapSeq λ_=>(q.toList.map λi=>vs.getD i Value.none).toArray) }) :
  wpAny (model prog w) A (ksk_end a false vs.toArray e1 (.ref kS) (qs.map Value.ref).toArray) P E s:=by
 have zo:(qs.map Value.ref).length=vs.length:=by rw[aaf];exact hl
 have tail:∀(st:SortSt) (q:Array Nat),a_ vs.length q->jD (λi j=>lex (ps.getD i (0,0)) (ps.getD j (0,0))) q vs.length->(arrOf st).map (·.2)=(q.toList.map λi=>vs.getD i Value.none).toArray->failedOf st=none->
   wpAny (model prog w) A (ksk_tail a false e1 (.ref kS) st) P E s:=by
  intro st q hq hs ho hf;have s1:=Heap.SameBut.update s.heap kS (Obj.mapSeq λ_=>(#[]:Array Value));have NN:=(s1.2 a ne).trans ha;unfold ksk_tail;dsimp only;refine aan (listUpdate_at hk rfl ?_ (by rw[aba,zo,aeg];omega) (aeh _));refine aan (wpAny_letGo ?_);refine aan (seqEpoch_at NN rfl ?_);refine aan (listUpdate_at NN rfl ?_ (aeh _) ?_)
  .rw[hf];simp only[bne_self_eq_false,aeU,if_false];rw[ho];exact abg (h q hq hs)
  .simp only[aeU,if_false];rw[ho,aba,aaf,ady,a_.sz hq,aeg];omega
 unfold ksk_end;dsimp only;rw[abf aaN]
 by_cases h2:vs.toArray.size<2
 .rw[if_pos h2,if_pos h2];refine aan (abg ?_);rw[StateT.run_pure];refine aan (abg ?_);dsimp only;rw[aba] at h2;refine tail _ (List.range vs.length).toArray (Array.Perm.refl _) (λi j a b=>by omega) ?_ rfl;have e:=kat_snds (vs:=vs) zo (st:=kas_st general' ((qs.map Value.ref).toArray.zip vs.toArray) (List.range vs.length).toArray) rfl;have er:(List.range vs.length).toArray.map (kas_item ((qs.map Value.ref).toArray.zip vs.toArray))=(qs.map Value.ref).toArray.zip vs.toArray:=by
   have:=kas_range ((qs.map Value.ref).toArray.zip vs.toArray);rw[show((qs.map Value.ref).toArray.zip vs.toArray).size=vs.length by simp[hl]] at this;exact this
  rw[<- e];show((qs.map Value.ref).toArray.zip vs.toArray).map (·.2)=((List.range vs.length).toArray.map (kas_item ((qs.map Value.ref).toArray.zip vs.toArray))).map (·.2);rw[er]
 .rw[abf h2,abf h2];rw[aba] at h2;obtain⟨fs,k1,k2,k3⟩:=MN hp;refine aan (kat_kind (T:=.type "int") k1 (by omega) (λv m=>by obtain⟨i,t,rfl⟩:=k3 v m;exact Looks.of_pure rfl) (by decide) ?_);refine aan (acH (kat_run (Q:=λst s'=>s'=s/\∃q:Array Nat,a_ vs.length q/\jD (λi j=>lex (ps.getD i (0,0)) (ps.getD j (0,0))) q vs.length/\(arrOf st).map (·.2)=(q.toList.map λi=>vs.getD i Value.none).toArray/\failedOf st=none)
   (G:=λq s'=>s'=s/\a_ vs.length q/\jD (λi j=>lex (ps.getD i (0,0)) (ps.getD j (0,0))) q vs.length) zo (by omega) k8 (λq eF s' _ ha hf g=>⟨g.1,q,g.2.1,g.2.2,kat_snds zo ha,hf⟩) ?_) ?_ λ_ _ z=>z)
  .have lp:ps.length=vs.length:=by rw[<- Paired.length hp];exact hl
   refine YX (Vw λi j a b e=>?_) (λi j C hi hj hc=>?_) (by omega) λq a b=>⟨rfl,a,b⟩
   .have ei:i<ps.length:=by omega
    have ej:j<ps.length:=by omega
    simp only[acv,aa0 ei,aa0 ej,aeO] at e;have w:=ae5.mp nd;rcases Nat.lt_trichotomy i j with q|q|q
    .exact absurd e (w i j ei ej q)
    .exact q
    .exact absurd e.symm (w j i ej ei q)
   .have at_:∀i,i<vs.length->∃x,(qs.map Value.ref).getD i Value.none=.ref x/\IsPair s.heap x (ps.getD i (0,0)):=λi hi=>by
     have lq:i<qs.length:=by omega
     have MV:i<ps.length:=by omega
     refine⟨qs[i],by simp[acv,lq],?_⟩;rw[acv,aa0 MV,aeO];have go:∀{qs:List Addr}{ps:List (Int×Int)},Paired (IsPair s.heap) qs ps->∀(i:Nat) (a:i<qs.length) (b:i<ps.length),IsPair s.heap qs[i] ps[i]:=by
      intro qs ps r
      induction r with
      |nil=>intro i a;exact absurd a (Nat.not_lt_zero _)
      |cons r t ih=>intro i a b;cases i with
       |zero=>exact r
       |succ i=>exact ih i (by simpa using a) (by simpa using b)
     exact go hp i lq MV
    obtain⟨x,ex,hx⟩:=at_ i hi;obtain⟨y,ey,hy⟩:=at_ j hj;show wpAny (model prog w) A (keyLt' _ ((qs.map Value.ref).getD i Value.none) ((qs.map Value.ref).getD j Value.none)) C _ s;rw[ex,ey];exact Q2 hx hy hc
  .rintro⟨⟨⟩,st⟩ s' ⟨rfl,q,h1,h3,h4,h5⟩
   exact tail st q h1 h3 h4 h5
end
section
variable{X:Cx}{af:List (Addr×Obj)}{σ:St}{H:Hp}{s:Shared}{q:Str}{iG:Pos}{args:Arguments}{body:Expr}{sc:Scope}{clos:List (Str×Addr)}
theorem yP:∀{K:PySem.W.Frag},K.lookup a=some o->(a,o)∈K
 |[],h=>by cases h
 |(b,u)::r,h=>by
  by_cases e:(a==b)=true
  .simp only[List.lookup,e] at h;cases h;rw[eq_of_beq e];exact aax
  .simp only[List.lookup,(by simpa using e:(a==b)=false)] at h;exact aal _ (yP h)
theorem abt(I:Inv X af σ H s)(lk:X.K.lookup f0=some o0)(sh:u5 o0=some (cv,q,iG)):∃cc P,cv=.ref cc/\codeHdIn X.K cc P=true/\H P=some (.gZ q iG):=by
 obtain⟨bq,ok⟩:=(aaL _ _).mp I.hq.ok;have bq:=acA.mp ((aaL _ _).mp bq).2 (f0,o0) (yP lk);have bq:=bq;rw[sh] at bq;obtain⟨⟨cc,P,q',pos'⟩,e⟩:=aew.mp (show(Bc X.K (f0,o0)).isSome=true from bq);have hm:(cc,P,q',pos')∈iC X.K:=aeG.mpr ⟨_,yP lk,e⟩;have e':=e;unfold Bc at e';dsimp only at e';rw[sh] at e'
 split at e'
 .rename_i h;cases h
  split at e'
  .split at e'
   .cases e';refine⟨cc,P,rfl,?_,I.hq.lm _ hm⟩
    split at ok
    .rename_i e;rw[e] at hm;cases hm
    .rename_i r e;rw[e] at hm;cases aaH.mp hm;exact((aaL _ _).mp ok).1
    .cases ok
   .cases e'
  .cases e'
 .cases e'
theorem acf(I:Inv X af σ H s)(lk:X.K.lookup f0=some o0)(sh:u5 o0=some (X.env.code,q,iG))(wN:defaultsOf args X.env=([],[]))(uv:closureFor sc X.env=pure clos)(hq:X.env.qual++"<lambda>"=q)
  (h:∀f c' gR pm H' s',Inv X ((f,kla_obj "<lambda>" q args body sc clos pm c' gR)::af) σ H' s'->aF H H'->H' c'=some (.iJ q)->Q (.ref f) s'):wpAny (model X.prog X.w) A (eval (.Lambda args body sc iG) X.env) Q E s:=by
 refine kla_eval wN ?_;rw[hq];obtain⟨cc,P,Pd,hc,hP⟩:=abt I lk sh;obtain⟨ps,eP,qu⟩:=I.aD P _ hP;have C:=codeHd_of_K I.cV hc;have g:=I.ok.mod.glob.keeps I.bk;obtain⟨bm,ob,b1,b2,b3,b4,b5,b6⟩:=I.ok.mod.bmn;have nP:∀{b:Addr}{o:Obj},X.base.get? b=some o->b≠P:=λ{b o} e z=>by
  have:=(I.bs b o e).2;rw[z,hP] at this;cases this
 obtain⟨om,es,ep,em,dm,_⟩:=id I.ok.mod.glob;have hb:s.heap.BuiltinsAt X.mg P:=⟨bm,ob,b1,b2,(λz=>by rw[z,em] at b3;cases b3;rw[dm] at b6;cases b6),nP b3,I.bk _ _ b3,b4,b5,b6⟩
 have fin:∀(f:Addr) (o:Obj) (H':Hp) (s':Shared),Inv X af σ H' s'->s'.heap.get? f=some o->s.heap.objs.size<=f->H' f=none->(∀v,o.data≠.cell v)->Inv X ((f,o)::af) σ H' s':=λf o H' s' J e hf hn hd=>by
  refine J.qM λp hp=>?_
  rcases aaM.mp hp with rfl|hp
  .exact⟨e,hn,aes (abP I.lt hf),I.Pg hf,hd⟩
  .exact J.pin p (aaE _ hp)
 rcases qu with rfl|⟨c',rfl,p_⟩
 .refine kla_makeFunction uv I.ok.glob g Pd C eP trivial rfl (nP em) hb λc' gR h' tk hx zm dP RP KZ=>?_
  have fc:=I.aD.fresh zm;have ff:=I.aD.fresh (ad3 (aeT zm dP));have up:∀{b:Addr}{o:HO},H b=some o->upd H c' (.iJ q) b=some o:=λ{b o} e=>by rw[aO (cC e fc)];exact e
  have pu:∀(b:Addr) (o:Obj),b≠P->s.heap.get? b=some o->(h'.push (kla_obj "<lambda>" q args body sc clos ((X.mg "__name__").getD .none) c' gR)).get? b=some o:=λb o n e=>aab _ (hx b o n e)
  have Og:∀{b:Addr},H b=none->b≠P:=λ{b} e z=>by rw[z,hP] at e;cases e
  have J:Inv X af σ (upd H c' (.iJ q)) { s with heap:=h'.push (kla_obj "<lambda>" q args body sc clos ((X.mg "__name__").getD .none) c' gR),toks:=tk }:=by
   refine I.un ⟨λb o e n _ _=>pu b o (Og n) e,λb o e n _ _=>⟨o.slots,pu b o (Og n) e⟩,λb o e n _=>?_,λb o e _=>?_,λb t e=>up e,λb o u e=>up e,λb ps e=>⟨#[],by rw[up e];simp⟩⟩ λa o e=>?_
   .rw[aO (abn (abP (aaZ e) zm))];exact n
   .by_cases z:b=P
    .rw[z];exact⟨_,aab _ KZ⟩
    .exact⟨o,pu b o z e⟩
   .by_cases z:a=c'
    .subst z;rw[bT] at e;cases e;exact RP.push _
    .rw[aO z] at e
     by_cases z2:a=P
     .subst z2;rw[hP] at e;cases e;exact⟨_,aab _ KZ,.inr ⟨c',by simp,bT⟩⟩
     .refine(I.aD a o e).dZ (λb u wU q=>pu b u ?_ q) (λb q=>up q) λb t q=>up q
      rcases wU with z3|z3
      .rw[z3];exact z2
      .intro z4;rw[z4,hP] at z3;cases z3
  refine h _ c' gR _ _ _ (fin _ _ _ _ J (aa6 _ rfl) (ad3 (aeT zm dP)) ?_ (λv z=>by cases z)) (λb o e=>up e) bT;rw[aO (aes dP)];exact ff
 .refine kla_makeFunctionHit (cv:=.ref c') uv I.ok.glob g Pd C eP (TriplesOk_snoc _ _ _ [] trivial) (codeAmong_snoc [] trivial rfl) hb λgR h' tk hk hsz=>?_
  exact h _ c' gR _ H _ (fin _ _ _ _ (I.kept λb u e=>aab _ (hk b u e)) (aa6 _ rfl) hsz (I.aD.fresh hsz) λv z=>by cases z) (aF.refl H) p_
noncomputable def qm(X:Cx)(A:Around)(x y:Str)(q:Str)(sc:Scope)(f:Addr)(cd:Value)(clos:List (Str×Addr))(s:Shared)(H:Hp):Cx where
 prog:=X.prog
 w:=X.w
 K:=X.K
 mg:=X.mg
 base:=X.base
 A:=A.deeper (envX q sc s.heap.objs.size f cd clos)
 N:=[x,y]
 cI:=s
 tY:=H
 env:=envX q sc s.heap.objs.size f cd clos
 outer:=X.stack
 stack:=envX q sc s.heap.objs.size f cd clos::X.stack
 ex:=[]
 fn:=λ_=>false
 calm:=X.calm
 pn:=[]
 xe:=λ_ _=>False
structure Ar(sc:Scope)(args:Arguments)(x y:Str):Prop where
 kind:sc.kind=.function
 co:sc.isCoroutine=false
 gen:sc.isGenerator=false
 vS:∀z∈sc.names,z.2≠.cell
 loc:sc.names.lookup x=some .local
 vJ:sc.names.lookup y=some .free
 one:∀z∈sc.names,z.2=.free->z.1=y
 SD:∀(q:Str) (body:Expr) (clos:List (Str×Addr)) (pm aR gR u:Value),bindArgs (kla_fn "<lambda>" q args body sc clos pm aR gR) ⟨[u],[]⟩=pure [(x,u)]
theorem RT{j:Nat}(I:Inv X af σ H s)(S:Ar sc args x y)(hf:(f,kla_obj "<lambda>" q args body sc [(y,c)] pm c' gR)∈af)(hc:H c'=some (.iJ q))
  (nY:X.env.cells.lookup y=some c) (hj:X.N[j]? = some y) (hv:σ[j]? = some (some v1)) (pU:X.env.scope.names.lookup y=some .cell) (ru:RelV v0 u) (hA:A.frames=X.A.frames) (hh:A.handled=X.A.handled) (hr:A.depth<recursionLimit)
  (hb:PE (qm X A x y q sc f (.ref c') [(y,c)] s H) body te) (h:te [some v0,some v1] H Q):wpAny (model X.prog X.w) A (call (.ref f) [u]) (EP X af σ Q) E s:=by
 have QK:=(I.pin _ (aaE _ hf)).1;refine afi (aeV (R:=λr s'=>match r with|.ok (.ret v)=>CE X.stack X.prog X.w H s Q v s'|_=>False) ?_ λr s' z=>?_)
 .refine kla_callFunE hr QK rfl S.co S.gen rfl (I.aD c' _ hc) ?_;rw[S.SD];refine abg (wpAny_newFunctionEnv S.vS (λz m=>by cases aaH.mp m;exact S.loc) (λyt oA B8=>?_) S.kind);have wH:∀b o,s.heap.get? b=some o->yt.get? b=some o:=λb o e=>B8.extBut b o (abn (aaZ e)) (aab _ e)
  refine⟨(I.ok.mod.nolimit.keeps I.bk).keeps wH,?_⟩;have cl:∀{z:Str}{d:Addr},List.lookup z [(y,c)]=some d->z=y/\d=c:=λ{z d} e=>by
   by_cases w:(z==y)=true
   .simp only[List.lookup,w] at e;cases e;exact⟨eq_of_beq w,rfl⟩
   .simp only[List.lookup,(by simpa using w:(z==y)=false)] at e;cases e
  have cy:List.lookup y [(y,c)]=some c:=by simp[List.lookup]
  have sD:∀b:Addr,b∉(qm X A x y q sc f (.ref c') [(y,c)] s H).ex:=λb z=>absurd (show b∈([]:List Addr) from z) (by simp)
  have J:Inv (qm X A x y q sc f (.ref c') [(y,c)] s H) [] [some v0,some v1] H { s with heap:=yt,toks:=s.toks+[(x,u)].length }:=by
   refine⟨⟨I.ok.mod,S.kind,rfl,rfl,abd _,λa b d h1 h2=>?_,λa ha=>?_,(λa d h _=>by cases h),λhc=>?_,Around.frames_deeper (hA.trans I.ok.frames),.inr ⟨rfl,rfl⟩,λb z=>absurd z (sD b),I.bs,aer I.ok.iA I.sz,λb _ _=>sD b,λb z=>absurd z (sD b),I.stack,I.uw⟩,
    rfl,I.bare,Un.kept wH,⟨_,oA,λi z v h1 h2 h3=>?_⟩,λz d e=>?_,I.aD.fresh (abd _),λz d e=>?_,λp hp=>absurd (show p∈([]:List (Addr×Obj)) from hp) (by simp),I.aD.kept wH,rfl,⟨?_,I.hq.ok,I.hq.lm⟩⟩
   .exact(cl h1).1.trans (cl h2).1.symm
   .have ha:=ha;rcases ha with ha|ha
    .exact absurd rfl (S.vS _ (PySem.mem_of_lookup ha))
    .have e:a=y:=S.one _ (PySem.mem_of_lookup ha) rfl;rw[e];exact⟨c,cy⟩
   .have:=I.ok.hd hc;exact hh.trans this
   .match i,h1,h2 with
    |0,h1,h2=>
     cases h1;cases h2;refine⟨u,ru,.inl ⟨S.loc,by simp[List.lookup]⟩⟩
    |1,h1,h2=>
     cases h1;cases h2;obtain⟨m,_,hl⟩:=I.loc;obtain⟨u1,r1,l⟩:=hl j y v1 hj hv (.inr (.inl pU));refine⟨u1,r1,.inr ⟨.inr S.vJ,c,cy,?_⟩⟩;rcases l with⟨kk,_⟩|⟨_,d,e,o,ho,hd⟩
     .rw[show X.env.kindOf y=some .cell from pU] at kk;cases kk
     .rw[nY] at e;cases e;exact⟨o,wH _ _ ho,hd⟩
    |i+2,h1,h2=>exact absurd h2 (by simp)
   .rw[(cl e).2];obtain⟨w,o,ho,hd⟩:=I.cell y c nY;exact⟨w,o,wH _ _ ho,hd⟩
   .rw[(cl e).2];exact I.f_ y c nY
   .have:=I.hq.hd;unfold qJ at this ⊢;rw[show(qm X A x y q sc f (.ref c') [(y,c)] s H).A.handled=X.A.handled from hh];exact this
  refine kla_codeExpr (acH (hb [] _ _ H _ J h) (λv s' ⟨v',H',J',rv,q'⟩=>?_) λ_ _ z=>z.elim);exact⟨v',H',J'.os,J'.bare,J'.base,J'.aD,rv,q'⟩
 .cases r with
  |error e=>exact z.elim
  |ok fl=>
   cases fl with
   |ret w=>exact I.after z
   |next=>exact z
   |brk=>exact z
   |cont=>exact z
end
theorem Sy(r:aK [.int a,.int b] ao):∃t u,ao=[.int a t,.int b u]:=by
 cases r with
 |cons h1 r=>cases r with
  |cons h2 r=>cases r;obtain⟨t,rfl⟩:=h1;obtain⟨u,rfl⟩:=h2;exact⟨t,u,rfl⟩
theorem IntsAre.at{vs:List Value}{ns:List Int}(h:IntsAre vs ns):∀{j:Nat}{v:Value},vs[j]? = some v->∃n t,ns[j]? = some n/\v=.int n t:=by
 induction h with
 |nil=>intro j v e;simp at e
 |cons n t _ ih=>
  intro j v e;cases j with
  |zero=>cases e;exact⟨n,t,rfl,rfl⟩
  |succ j=>exact ih (by simpa using e)
theorem Paired.SG{α β:Type}{R:α->β->Prop}{l:List α}{m:List β}{a:α}{b:β}(h:Paired R l m)(r:R a b):Paired R (l++[a]) (m++[b]):=by
 induction h with
 |nil=>exact .cons r .nil
 |cons r' _ ih=>exact .cons r' ih
theorem IG(h:IntsAre ao ns):∀(l:List Nat),(∀i∈l,i<ns.length)->aK ((l.map λi=>ns.getD i 0).map V.int) (l.map λi=>ao.getD i Value.none)
 |[],_=>.nil
 |i::l,hl=>by
  have hi:=hl i aax;have Lg:i<ao.length:=by rw[h.length];exact hi
  obtain⟨n,t,e1,e2⟩:=IntsAre.at h (aa0 Lg);refine .cons ?_ (IG h l λj m=>hl j (aal _ m));show RelV (V.int (ns.getD i 0)) (ao.getD i Value.none);rw[acv,acv,e1,aa0 Lg,e2];exact⟨t,rfl⟩
theorem Vl{ns:List Int}{q:Array Nat}(P:a_ ns.length q):(q.toList.map λi=>ns.getD i 0).Perm ns:=by
 have h:=(aeE.mp P).map λi=>ns.getD i 0
 have e:((List.range ns.length).toArray.toList.map λi=>ns.getD i 0)=ns:=by
  refine List.ext_getElem (by simp) λi h1 h2=>?_
  simp[acv,h2]
 rw[e] at h;exact h
section
variable{X:Cx}{af:List (Addr×Obj)}{σ:St}{s:Shared}{q:Str}{args:Arguments}{body:Expr}{sc:Scope}{x y:Str}{c:Addr}{j:Nat}{te:Addr->Addr->Shared->Hp->TE}
theorem aby{H2:Hp}{p f c':Addr}{gR pm:Value}{v1:V}{ns:List Int}{pr:Int->Int×Int}{Q:VK}(I:Inv X ((f,kla_obj "<lambda>" q args body sc [(y,c)] pm c' gR)::af) σ H2 s)(S:Ar sc args x y)(hc:H2 c'=some (.iJ q))
  (nY:X.env.cells.lookup y=some c) (hj:X.N[j]? = some y) (hv:σ[j]? = some (some v1)) (pU:X.env.scope.names.lookup y=some .cell) (xj:X.A.in1.in1.depth<recursionLimit)
  (hb:∀f c' s H,PE (qm X X.A.in1.in1 x y q sc f (.ref c') [(y,c)] s H) body (te f c' s H)) (hq:bS X.K H2 p (ns.map V.int)) (k8:ns.length<64) (nd:(ns.map pr).Nodup)
  (ht:∀s H3,aF H2 H3->∀n∈ns,te f c' s H3 [some (.int n),some v1] H3 λv H4=>∃k,v=.ref k/\cg X.K H4 k [.int (pr n).1,.int (pr n).2]/\aF H3 H4)
  (hQ:∀(Hf:Hp) (D:Addr) (cB:List Int),aF H2 Hf->H2 D=none->Hf D=some (.lst (cB.map V.int))->cB.Perm ns->cB.Pairwise (λa b=>lex (pr a) (pr b)=true)->Q (.ref D) Hf) :
  wpAny (model X.prog X.w) X.A (call (.builtin "sorted") [.ref p] [(Str.ofString "key",.ref f)]) (EP X af σ Q) X.xe s:=by
 obtain⟨ao,ri,pl,hz⟩:=I.list hq;have hi:=intsAre_of ri;have li:ao.length=ns.length:=hi.length;have zl:ao.length<=sizeLine:=by rw[aeg];omega
 refine call_function_entry_kw kind_sorted plain_sorted entry_sorted (ksk_s1 _ _) ?_;unfold Builtin.«sorted»;refine aan (m:=checkCount "sorted" 1 1 _) (abg ?_);refine aan (collect_list pl.isList ?_ zl);refine aan (wpAny_newList ?_ zl);generalize Pw:(s.heap.push (seqObj "list" #[] 0)).update s.heap.objs.size (Obj.mapSeq (·++ao.toArray))=h3;have k3:∀b o,s.heap.get? b=some o->h3.get? b=some o:=λb o e=>by
  rw[<- Pw,aeB _ _ _ _ (abn (aaZ e))];exact aab _ e
 have z3:h3.objs.size=s.heap.objs.size+1:=by rw[<- Pw,Heap.size_update,size_push']
 have hD:(h3.push (seqObj "list" ao.toArray 0)).get? h3.objs.size=some (seqObj "list" ao.toArray 0):=aa6 _ rfl;show wpAny _ _ _ _ _ { s with heap:=h3.push (seqObj "list" ao.toArray 0) };refine aan (ad7 (wpAny_call_entry_kw slot_list_sort ⟨_,hD,rfl⟩ entry_list_sort ?body (ksk_l1 _ _)))
 case body=>
  show wpAny (model X.prog X.w) X.A.in1.in1 (Builtin.«list.sort» ⟨[.ref h3.objs.size],[(Str.ofString "key",.ref f)]⟩) _ _ _;rw[ksk_t1];obtain⟨e1,NX⟩:∃e1,((h3.push (seqObj "list" ao.toArray 0)).update h3.objs.size (Obj.mapSeq λ_=>(#[]:Array Value))).get? h3.objs.size=some (seqObj "list" #[] e1):=⟨_,get?_update_seq hD λ_=>#[]⟩
  unfold ksk_tree;refine aan (listItems_at hD rfl ?_);refine aan (listUpdate_at hD rfl ?_ (by rw[aba];exact zl) (aeh _));refine aan (seqEpoch_at NX rfl ?_);refine aan (wpAny_newTuple ?_ (by show ao.length<=_;exact zl));refine aan (wpAny_newList ?_ (aeh _));refine ad7 ?_;generalize CY:((h3.push (seqObj "list" ao.toArray 0)).update h3.objs.size (Obj.mapSeq λ_=>(#[]:Array Value))).push (seqObj "tuple" ao.toArray 0)=h6;have z6:h6.objs.size=s.heap.objs.size+3:=by rw[<- CY,size_push',Heap.size_update,size_push',z3]
  have k6:∀b o,s.heap.get? b=some o->h6.get? b=some o:=λb o e=>by
   have dP:=aaZ e;rw[<- CY];refine aab _ ?_;rw[aeB _ _ _ _ (abn (abP dP (by rw[z3];exact Nat.le_succ _)))];exact aab _ (k3 b o e)
  have hD6:h6.get? h3.objs.size=some (seqObj "list" #[] e1):=by rw[<- CY];exact aab _ NX
  generalize hDe:h3.objs.size=D at *;generalize Yd:h6.objs.size=kS at *;have fD:=I.o_ (H':=λ_=>none) (b:=D) (by omega) rfl;have fK:=I.o_ (H':=λ_=>none) (b:=kS) (by omega) rfl;have Cb:D≠kS:=by omega
  have Cg:∀{H:Hp}{s':Shared}{b:Addr}{o:Obj},ie X ((f,kla_obj "<lambda>" q args body sc [(y,c)] pm c' gR)::af) (λ_=>none) b->H b=none->s'.heap.get? b=some o->(∀v,o.data≠.cell v)->
    s'.heap.get? b=some o/\H b=none/\b≠X.env.locals/\b∉X.fs/\∀v,o.data≠.cell v:=λF a b d=>⟨b,a,F.2.1,F.2.2.1,d⟩
  have J0:Inv X ((kS,seqObj "list" (List.map Value.ref []).toArray 0)::(D,seqObj "list" #[] e1)::(f,kla_obj "<lambda>" q args body sc [(y,c)] pm c' gR)::af) σ H2 { s with heap:=h6.push (seqObj "list" #[] 0) }:=by
   have J:=I.kept (h':=h6.push (seqObj "list" #[] 0)) (t':=s.toks) λb o e=>aab _ (k6 b o e)
   refine J.qM λp hp=>?_
   rcases aaM.mp hp with rfl|hp
   .exact Cg fK (I.aD.fresh (by omega)) (by rw[<- Yd];exact aa6 _ rfl) (λv z=>by cases z)
   .rcases aaM.mp hp with rfl|hp
    .exact Cg fD (I.aD.fresh (by omega)) (aab _ hD6) (λv z=>by cases z)
    .exact J.pin p (aaE _ hp)
  unfold ksk_rest;refine aan (afh ?_);rw[List.forIn_toArray];refine aan (ksk_fold (λi s'=>∃(H:Hp) (qs:List Addr) (e:Nat),Inv X ((kS,seqObj "list" (qs.map Value.ref).toArray e)::(D,seqObj "list" #[] e1)::(f,kla_obj "<lambda>" q args body sc [(y,c)] pm c' gR)::af) σ H s'/\aF H2 H/\
   Paired (λk n=>cg X.K H k [.int (pr n).1,.int (pr n).2]) qs (ns.take i)) ao 0 _ ⟨H2,[],0,J0,aF.refl _,.nil⟩ (λi u s' hu hI=>?_) λs' hI=>?_)
  .rw[Nat.zero_add] at hI ⊢;obtain⟨H,qs,e,J,sm,pd⟩:=hI;obtain⟨n,t,en,rfl⟩:=IntsAre.at hi hu;have ln:=Paired.length pd;have uq:i<ns.length:=(abU.mp en).1;rw[adf] at ln;refine aan (afb (acH (RT (A:=X.A.in1.in1) (v0:=.int n) (E:=λ_ _=>False) J S (aal _ (aal _ aax)) (sm _ _ hc) nY hj hv pU ⟨t,rfl⟩ rfl rfl xj (hb f c' s' H) (ht s' H sm n (List.mem_of_getElem? en))) (λk fL hk=>?_) λ_ _ z=>z.elim));obtain⟨v,H',J',rv,k',rfl,sq,wm⟩:=hk;obtain rfl:k=.ref k':=rv;have pk:=(J'.pin _ (aaE _ aax))
   have ea:((qs.map Value.ref).toArray).push (.ref k')=((qs++[k']).map Value.ref).toArray:=by simp
   obtain⟨c2,Hz⟩:∃c2,(fL.heap.update kS (Obj.mapSeq (·.push (.ref k')))).get? kS=some (seqObj "list" ((qs++[k']).map Value.ref).toArray c2):=⟨_,by rw[<- ea];exact get?_update_seq pk.1 (·.push (.ref k'))⟩
   dsimp only;refine aan (listUpdate_at pk.1 rfl ?_ (by rw[aba,aaf,ln,aeg];omega) (aer (Nat.le_of_eq (Array.size_push ..)) (by rw[aba,aaf,ln,aeg];omega)));refine abg ⟨rfl,H',qs++[k'],c2,?_,sm.trans wm,?_⟩
   .have J1:Inv X ((D,seqObj "list" #[] e1)::(f,kla_obj "<lambda>" q args body sc [(y,c)] pm c' gR)::af) σ H' fL:=J'.qM λp hp=>J'.pin p (aaE _ (aal _ hp))
    have J2:=J1.turned (h':=fL.heap.update kS (Obj.mapSeq (·.push (.ref k')))) (t':=fL.toks) (it:=kS) (λb o n e=>(aeB _ _ _ _ n).trans e) pk.2.1 fK.2.1 fK.2.2.2.1 fK.2.2.2.2.1 λp hp=>by
     rcases abb.mp hp with hp|hp
     .exact fK.2.2.2.2.2 p (aaR _ hp)
     .rcases aaM.mp hp with rfl|hp
      .exact Cb
      .exact fK.2.2.2.2.2 p (aaE _ hp)
    refine J2.qM λp hp=>?_
    rcases aaM.mp hp with rfl|hp
    .exact Cg fK pk.2.1 Hz (λv z=>by cases z)
    .exact J2.pin p (aaE _ hp)
   .rw[List.take_succ,en];exact Paired.SG (Paired.yF pd λk n r=>by
     rcases r with(r|⟨o,r⟩)|r
     .exact .inl (.inl (wm _ _ r))
     .exact .inl (.inr ⟨o,wm _ _ r⟩)
     .exact .inr r) sq
  .rw[Nat.zero_add] at hI;obtain⟨H,qs,e,J,sm,pd⟩:=hI;rw[li,List.take_length] at pd;have lq:qs.length=ns.length:=Paired.length pd;have pk:=(J.pin _ (aaE _ aax))
   have pD:=(J.pin _ (aaE _ (aal _ aax)))
   refine aan (listItems_at pk.1 rfl ?_);have pp:∀{l:List Int}{qs:List Addr},Paired (λk n=>cg X.K H k [.int (pr n).1,.int (pr n).2]) qs l->Paired (IsPair s'.heap) qs (l.map pr):=by
    intro l qs r
    induction r with
    |nil=>exact .nil
    |cons r _ ih=>
     refine .cons ?_ ih;obtain⟨it,rv,tp,_⟩:=J.tuple r;obtain⟨t,u,rfl⟩:=Sy rv;exact⟨t,u,tp⟩
   refine XC (by omega) (by rw[lq,li]) (pp pd) nd pk.1 pD.1 Cb λq2 P2 S2=>?_
   rw[li] at P2 S2;have ql:∀i∈q2.toList,i<ns.length:=λi m=>by
    have:=(aeE.mp P2).mem_iff.mp m;simpa using this
   refine⟨_,rfl,abg ⟨_,rfl,?_⟩⟩;have J1:Inv X af σ H s':=J.qM λp hp=>J.pin p (aaE _ (aal _ (aal _ (aal _ hp))))
   have np:∀{b:Addr},ie X ((f,kla_obj "<lambda>" q args body sc [(y,c)] pm c' gR)::af) (λ_=>none) b->∀p∈X.pn++af,p.1≠b:=λF p hp=>F.2.2.2.2.2 p ((abb.mp hp).elim (λz=>aaR _ z) λz=>aaE _ (aal _ z))
   have J2:=J1.turned (h':=s'.heap.update kS (Obj.mapSeq λ_=>#[])) (t':=s'.toks) (it:=kS) (λb o n e=>(aeB _ _ _ _ n).trans e) pk.2.1 fK.2.1 fK.2.2.2.1 fK.2.2.2.2.1 (np fK);have J3:=J2.turned (h':=(s'.heap.update kS (Obj.mapSeq λ_=>#[])).update D (Obj.mapSeq λ_=>(q2.toList.map λi=>ao.getD i Value.none).toArray)) (t':=s'.toks) (it:=D) (λb o n e=>(aeB _ _ _ _ n).trans e) pD.2.1 fD.2.1 fD.2.2.2.1 fD.2.2.2.2.1 (np fD);have ZJ:=get?_update_seq (h:=s'.heap.update kS (Obj.mapSeq λ_=>#[])) ((aeB _ _ _ _ Cb).trans pD.1) λ_=>(q2.toList.map λi=>ao.getD i Value.none).toArray
   refine⟨.ref D,upd H D (.lst ((q2.toList.map λi=>ns.getD i 0).map V.int)),J3.AJ (e:=D) (u:=.lst ((q2.toList.map λi=>ns.getD i 0).map V.int)) pD.2.1 ⟨?_,fD.2.1,fD.2.2.2.2.1,np fD⟩ ⟨?_,_,_,IG hi _ ql,ZJ⟩,rfl,hQ _ D _ (λb o e=>?_) ?_ bT (Vl P2) ?_⟩
   .exact ae0 (by have:=I.sz;omega)
   .rw[aaf,aaf,ady,a_.sz P2,aeg];omega
   .rw[aO (cC (sm b o e) pD.2.1)];exact sm b o e
   .cases e:H2 D with
    |none=>rfl
    |some o=>have:=sm D o e;rw[pD.2.1] at this;cases this
   .rw[ae5];intro i k hi hk WR;have hq:∀i,i<ns.length->(hx:i<(q2.toList.map λi=>ns.getD i 0).length)->pr ((q2.toList.map λi=>ns.getD i 0)[i])=(ns.map pr).getD (q2.getD i 0) (0,0):=λi hi hx=>by
     have hs:i<q2.size:=by rw[a_.sz P2];exact hi
     have dP:=a_.lt P2 hi;rw[List.getElem_map,getD_at hs];rw[getD_at hs] at dP;simp[acv,dP]
    have hz:(q2.toList.map λi=>ns.getD i 0).length=ns.length:=by rw[aaf,ady,a_.sz P2]
    rw[hq i (by omega) hi,hq k (by omega) hk];exact S2 i k WR (by omega)
def Ld(K:PySem.W.Frag)(j:Nat)(te:Addr->Addr->Shared->Hp->TE)(σ:St)(Q:VK)(x:V)(H1:Hp):Prop:=∃(p:Addr) (ns:List Int) (pr:Int->Int×Int) (v1:V),x=.ref p/\bS K H1 p (ns.map V.int)/\ns.length<64/\(ns.map pr).Nodup/\σ[j]? = some (some v1)/\
 (∀f c' s H3,aF H1 H3->∀n∈ns,te f c' s H3 [some (.int n),some v1] H3 λv H4=>∃k,v=.ref k/\cg K H4 k [.int (pr n).1,.int (pr n).2]/\aF H3 H4)/\
 ∀(Hf:Hp) (D:Addr) (cB:List Int),aF H1 Hf->H1 D=none->Hf D=some (.lst (cB.map V.int))->cB.Perm ns->cB.Pairwise (λa b=>lex (pr a) (pr b)=true)->Q (.ref D) Hf
def VQ(K:PySem.W.Frag)(j:Nat)(ta:TE)(te:Addr->Addr->Shared->Hp->TE):TE:=λσ H Q=>ta σ H (Ld K j te σ Q)
theorem aaX(hm:X.mg "sorted"=none)(ha:PE X a ta)(S:Ar sc args x y)(lk:X.K.lookup f0=some o0)(sh:u5 o0=some (X.env.code,q,iG))(hq:X.env.qual++"<lambda>"=q)(uv:closureFor sc X.env=pure [(y,c)])
  (nY:X.env.cells.lookup y=some c) (hj:X.N[j]? = some y) (pU:X.env.scope.names.lookup y=some .cell) (xj:X.A.in1.in1.depth<recursionLimit) (hb:∀f c' s H,PE (qm X X.A.in1.in1 x y q sc f (.ref c') [(y,c)] s H) body (te f c' s H))
  (wN:defaultsOf args X.env=([],[]):=by rfl) (hg:Gl X "sorted":=by rfl) (hs:starEach [a] X.env=[(false,eval a X.env)]:=by rfl)
  (h1:backTo pos (starEach [a] X.env)=(false,eval a X.env)::backTo pos (starEach [] X.env):=by rfl) (h2:(backTo pos (starEach [a] X.env)).any (·.1)=false:=by rfl)
  (h3:(backToKw pos (keywordEach [⟨some "key",.Lambda args body sc iG,kp⟩] X.env)).all (·.1.isSome)=true:=by rfl) (h4:(backToKw pos (keywordEach [⟨some "key",.Lambda args body sc iG,kp⟩] X.env)).any (·.1.isNone)=false:=by rfl)
  (h5:(backToKw pos (keywordEach [⟨some "key",.Lambda args body sc iG,kp⟩] X.env)).filterMap (·.1)=[("key":Str)]:=by rfl) :
  PE X (.Call (.Name "sorted" p) [a] [⟨some "key",.Lambda args body sc iG,kp⟩] pos) (VQ X.K j ta te):=by
 intro af s σ H Q I h;refine adR (lJ I hg hm (show bootBuiltins "sorted"=some (.builtin "sorted") by decide +kernel) ?_ (by decide) (by decide));refine callWith_kw ?_ h1 h2 h3 h4;rw[h5];refine aM (bU ha dN hs pos af s σ H (λvs H1=>match vs with|[x]=>Ld X.K j te σ Q x H1|_=>False) I h) λus s1 ⟨vs,H1,I1,rv,q1⟩=>?_
 rcases vs with _|⟨x,_|⟨x2,r2⟩⟩
 .exact q1.elim
 .obtain⟨u,rfl,ru⟩:=vals1 rv;obtain⟨p,ns,pr,v1,rfl,nK,k8,nd,hv,ht,hQ⟩:=q1;cases ru;refine kws_cons (acf (clos:=[(y,c)]) I1 lk sh wN uv hq λf c' gR pm H' s' J sm hc=>kws_nil ?_);refine aby J S hc nY hj hv pU xj hb (nK.elim (λz=>.inl (z.elim (λz=>.inl (sm _ _ z)) λ⟨o,z⟩=>.inr ⟨o,sm _ _ z⟩)) .inr) k8 nd (λs H3 wm=>ht f c' s H3 (sm.trans wm)) λHf D cB s1 n1=>hQ Hf D cB (sm.trans s1) ?_
  cases e:H1 D with
  |none=>rfl
  |some o=>have:=sm D o e;rw[n1] at this;cases this
 .exact q1.elim
end
end L2
namespace L2.Ev
open PySem PySem.Spec PyProof.Rows
section
variable{pr:Int->Int×Int}
def ue(pr:Int->Int×Int)(x:Int):List Int->List Int
 |[]=>[x]
 |y::r=>if lex (pr x) (pr y)=true then x::y::r else y::ue pr x r
def g9(pr:Int->Int×Int):List Int->List Int
 |[]=>[]
 |x::r=>ue pr x (g9 pr r)
theorem C7(x:Int):∀l:List Int,(ue pr x l).Perm (x::l)
 |[]=>.refl _
 |y::r=>by
  unfold ue
  split
  .exact .refl _
  .exact((C7 x r).cons y).trans (.swap x y r)
theorem qI:∀l:List Int,(g9 pr l).Perm l
 |[]=>.refl _
 |x::r=>(C7 x (g9 pr r)).trans ((qI r).cons x)
theorem lex_trans{a b c:Int×Int}(h:lex a b=true)(g:lex b c=true):lex a c=true:=by
 have h:=aa3 h;have g:=aa3 g;exact aa1 (by omega)
theorem VT{a b:Int×Int}(h:a≠b)(g:¬lex a b=true):lex b a=true:=by
 have n2:¬(a.1=b.1/\a.2=b.2):=λz=>h (Prod.ext z.1 z.2)
 have g:¬(a.1<b.1\/a.1=b.1/\a.2<b.2):=λz=>g (aa1 z)
 exact aa1 (by omega)
theorem PD(x:Int):∀{l:List Int},(∀y∈l,pr x≠pr y)->l.Pairwise (λa b=>lex (pr a) (pr b)=true)->(ue pr x l).Pairwise (λa b=>lex (pr a) (pr b)=true)
 |[],_,_=>List.pairwise_singleton _ _
 |y::r,n,h=>by
  obtain⟨h1,h2⟩:=adV.mp h;unfold ue
  split
  .rename_i hx;exact adV.mpr ⟨λz m=>(aaM.mp m).elim (λe=>e ▸ hx) λm=>lex_trans hx (h1 z m),h⟩
  .rename_i hx;refine adV.mpr ⟨λz m=>?_,PD x (λy m=>n y (aal _ m)) h2⟩;rcases aaM.mp ((C7 x r).mem_iff.mp m) with e|m
   .rw[e];exact VT (n y aax) hx
   .exact h1 z m
theorem K4:∀{l:List Int},(l.map pr).Nodup->(g9 pr l).Pairwise (λa b=>lex (pr a) (pr b)=true)
 |[],_=>.nil
 |x::r,n=>by
  rw[aaF] at n;obtain⟨n1,n2⟩:=abu.mp n;exact PD x (λy m e=>n1 (acs.mpr ⟨y,(qI r).mem_iff.mp m,e.symm⟩)) (K4 n2)
theorem JA(p:a.Perm b)(n:(b.map pr).Nodup)(s:a.Pairwise (λa b=>lex (pr a) (pr b)=true)):a=g9 pr b:=by
 have q:a.Perm (g9 pr b):=p.trans (qI b).symm;refine q.eq_of_pairwise (λx y _ _ h1 h2=>?_) s (K4 n);have h1:=aa3 h1;have h2:=aa3 h2;omega
end
noncomputable def rJ(fb:EF)(dc:D)(n:Int):Option (Int×Int):=match fb [some (.int n,.own),some (dc,.sh [])] with
 |some (.tup [.int a,.int b],_)=>some (a,b)
 |_=>none
def uu(fb:EF)(dc:D)(n:Int):Int×Int:=(rJ fb dc n).getD (0,0)
def Ho(j:Nat)(fa fb:EF):EF:=λρ=>match fa ρ,ρ[j]? with
 |some (.lst ds,_),some (some (dc,_))=>match dB ds with
  |some ns=>if ns.length<64/\(ns.map (uu fb dc)).Nodup/\∀n∈ns,(rJ fb dc n).isSome=true then some (.lst ((g9 (uu fb dc) ns).map D.int),.own) else none
  |none=>none
 |_,_=>none
section
variable{X:Cx}{a body:Expr}{fa fb:EF}{p kp pos iG:Pos}{f0 c:Addr}{o0:Obj}{x y q:Str}{args:Arguments}{sc:Scope}
theorem adG(j:Nat)(hm:X.mg "sorted"=none)(ha:FP X a fa)(S:Ar sc args x y)(lk:X.K.lookup f0=some o0)(sh:u5 o0=some (X.env.code,q,iG))(xj:X.A.in1.in1.depth<recursionLimit)
  (hb:∀f c' s H,FP (qm X X.A.in1.in1 x y q sc f (.ref c') [(y,c)] s H) body fb) (hq:X.env.qual++"<lambda>"=q:=by rfl) (uv:closureFor sc X.env=pure [(y,c)]:=by rfl)
  (nY:X.env.cells.lookup y=some c:=by rfl) (hj:X.N[j]? = some y:=by rfl) (pU:X.env.scope.names.lookup y=some .cell:=by rfl)
  (wN:defaultsOf args X.env=([],[]):=by rfl) (hg:Gl X "sorted":=by rfl) (hs:starEach [a] X.env=[(false,eval a X.env)]:=by rfl)
  (h1:backTo pos (starEach [a] X.env)=(false,eval a X.env)::backTo pos (starEach [] X.env):=by rfl) (h2:(backTo pos (starEach [a] X.env)).any (·.1)=false:=by rfl)
  (h3:(backToKw pos (keywordEach [⟨some "key",.Lambda args body sc iG,kp⟩] X.env)).all (·.1.isSome)=true:=by rfl) (h4:(backToKw pos (keywordEach [⟨some "key",.Lambda args body sc iG,kp⟩] X.env)).any (·.1.isNone)=false:=by rfl)
  (h5:(backToKw pos (keywordEach [⟨some "key",.Lambda args body sc iG,kp⟩] X.env)).filterMap (·.1)=[("key":Str)]:=by rfl) :
  FP X (.Call (.Name "sorted" p) [a] [⟨some "key",.Lambda args body sc iG,kp⟩] pos) (Ho j fa fb):=by
 obtain⟨ta,pa,sa⟩:=ha;refine⟨_,aaX (te:=λf c' s H=>(hb f c' s H).choose) hm pa S lk sh hq uv nY hj pU xj (λf c' s H=>(hb f c' s H).choose_spec.1) wN hg hs h1 h2 h3 h4 h5,@λH0 S' z ak ρ σ H Q d tg ok e k=>?_⟩;unfold Ho at e
 split at e
 .rename_i ds t1 dc t2 e1 e2
  split at e
  .rename_i ns oA
   split at e
   .rename_i hc;cases e;obtain⟨k8,nd,hk⟩:=hc;refine sa ok e1 λH1 v fp s1 r1 g1=>?_
    obtain⟨l,xs,f',rfl,nK,rs,_⟩:=r1.dg;have ex:=pP rs oA;subst ex;obtain⟨vc,fc,Yg,rc,_⟩:=ok.sl j dc t2 e2;refine⟨l,ns,uu fb dc,vc,rfl,nK,k8,nd,Yg,λf c' s H3 s3 n mn=>?_,λHf D cB sf nD hD pm st=>?_⟩
    .obtain⟨kk,ek⟩:=aew.mp (hk n mn);have A4:=ek;unfold rJ at A4
     split at A4
     .rename_i a b tb eb;cases A4;have gP:Ok X.K H3 [] (λ_=>none) [] [some (.int n,.own),some (dc,.sh [])] [some (.int n),some vc] H3:=by
       refine⟨λi d t e=>?_,(λp m=>nomatch m),(λa j e=>nomatch e),λa o e _=>e,rfl⟩
       match i,e with
       |0,e=>cases e;exact⟨_,[],rfl,.int n,abF,λa m=>nomatch m⟩
       |1,e=>cases e;exact⟨vc,fc,rfl,(rc.same s1).same s3,λa m j e=>nomatch e⟩
       |i+2,e=>exact absurd e (by simp)
      refine(hb f c' s H3).choose_spec.2 gP eb λH4 v fp s4 r4 _=>?_
      obtain⟨w,xs,rfl,hw,dM⟩:=r4.jx;refine⟨w,rfl,?_,s4⟩;have e1:(uu fb dc n)=(a,b):=by unfold uu;rw[ek];rfl
      rw[e1];cases dM with
      |cons h1 r=>cases r with
       |cons h2 r=>cases r;cases h1;cases h2;exact hw
     .cases A4
    .have eq:=JA pm nd st;subst eq;refine k Hf _ [D] (s1.trans sf) (.lst hD (qP _)) ⟨abu.mpr ⟨(λm=>nomatch m),abF⟩,λa m=>?_⟩;cases aaH.mp m;exact s1.free nD
   .cases e
  .cases e
 .cases e
end
def FY(X:Cx)(e:Expr)(f:XF):Prop:=∃t,PE X e t/\∀{H0:Hp}{S:List Addr}{z:Addr->Option Nat}{ak:List bZ}{ρ:aE}{σ:St}{H:Hp}{Q:VK}{d:D}{ρ':aE},
 Ok X.K H0 S z ak ρ σ H->f ρ=some (d,ρ')->(∀z' H' v,Ok X.K H0 S z' ak ρ' σ H'->aX H H'->Rep X.K H' d v []->Q v H')->t σ H Q
def vF(X:Cx)(es:List Expr)(f:gq):Prop:=∃t,PA X es t/\∀{H0:Hp}{S:List Addr}{z:Addr->Option Nat}{ak:List bZ}{ρ:aE}{σ:St}{H:Hp}{Q:List V->Hp->Prop}{ds:List D}{ρ':aE},
 Ok X.K H0 S z ak ρ σ H->f ρ=some (ds,ρ')->(∀z' H' vs,Ok X.K H0 S z' ak ρ' σ H'->aX H H'->ay X.K H' ds vs []->Q vs H')->t σ H Q
section
variable{X:Cx}{a b c e:Expr}{es:List Expr}{f:XF}{g:gq}{pos:Pos}
theorem FY.fz(h:FY X e f):FZ X e f:=let⟨t,p,q⟩:=h;⟨t,p,@λH0 S z ak ρ σ H Q d ρ' ok e k=>q ok e λz' H' v o _ r=>k z' H' v o r⟩
theorem oj(h:FX X e f):FY X e f:=let⟨t,p,q⟩:=h;⟨t,p,@λH0 S z ak ρ σ H Q d ρ' ok e k=>q ok e λH' v o s r=>k z H' v o s.1 r⟩
theorem x_{f:EF}(h:FP X e f):FY X e (xP f):=oj (gb h)
theorem Pr:vF X [] dG:=⟨_,dN,@λ_ _ z _ _ _ H _ _ _ ok e q=>by cases e;exact q z H _ ok (aX.refl H) .nil⟩
theorem ur(ha:FY X e f)(hr:vF X es g)(hs:starEach (e::es) X.env=(false,eval e X.env)::starEach es X.env:=by rfl):vF X (e::es) (bO f g):=by
 obtain⟨t,p,q⟩:=ha;obtain⟨t',p',q'⟩:=hr;refine⟨_,bU p p' hs,@λH0 S z ak ρ σ H Q ds ρ' ok e k=>?_⟩;obtain⟨d,aJ,r,e1,e2,rfl⟩:=GR e;refine q ok e1 λz1 H1 v bq i1 r1=>?_
 exact q' bq e2 λz2 H2 vs gx i2 r2=>k z2 H2 (v::vs) gx (i1.trans i2) (.cons (f1:=[]) (f2:=[]) (r1.frame (λa m=>nomatch m) i2) r2)
theorem VS{x:Str}{p:Pos}{k:Nat}{fa:Addr}{fd:FuncData}{ps:List Str}{F:List D->Option D}(G:bN X.prog X.w X.K X.mg X.base cE k fa fd ps (bx X.K F))(hr:aZ k X.A)(hm:X.mg x=some (.ref fa))(hk:PySem.W.keepIn X.K (.ref fa)=true)(hb:Binds X.K fd ps [])(ha:vF X (e::es) g)
  (hg:GD X x:=by exact⟨rfl,by decide⟩)
  (he:SE X e es pos:=by exact⟨rfl,rfl⟩):FY X (.Call (.Name x p) (e::es) [] pos) (sF F g):=by
 obtain⟨t,pa,sa⟩:=ha;refine⟨_,xx G hr hg.1 hm hk hb .nil jt pa hg.2 he.1 he.2,@λH0 S z ak ρ σ H Q d ρ' ok e0 q=>?_⟩;unfold sF at e0
 split at e0
 .rename_i ds aJ h1
  split at e0
  .rename_i d2 h2;obtain⟨hi,e0⟩:=ci e0;cases e0;refine sa ok h1 λz1 H1 vs bq i1 r1=>?_
   rw[abM];refine⟨ds,[],d,r1,h2,λH2 v fG s2 r2 nd fr=>?_⟩;have hn:=r2.aG hi;subst hn;exact q z1 H2 v (bq.same s2) (i1.trans (.of s2)) r2
  .cases e0
 .cases e0
def zC(j:Nat)(f:XF):XF:=λρ=>match ρ[j]?,f ρ with
 |some (some _),some (.int i,ρ')=>match ρ'[j]? with
  |some (some (.lst ds,_))=>match cP ds i with
   |some d=>if aG d=true then some (d,ρ') else none
   |none=>none
  |_=>none
 |_,_=>none
theorem Ra(j:Nat){x:Str}(hc:FY X c f)(va:VA X j x:=by walk_at "va")(hs:zH c:=by exact λ_ _=>rfl):FY X (.Subscript (.Name x p) c pos) (zC j f):=by
 obtain⟨t,pc,q⟩:=hc;exists 26,G_ BO va.pe pc hs;unfold zC at e
 split at e
 .rename_i w i aJ h0 h1
  split at e
  .rename_i ds tg h2
   split at e
   .rename_i d3 h3;obtain⟨hi,e⟩:=ci e;cases e;obtain⟨v,_,va.v,_⟩:=ok.sl j w.1 w.2 h0;refine⟨v,va.v,q ok h1 λz1 H1 y bq i1 r1=>?_⟩;cases r1;obtain⟨v',fp,va.v',r,_⟩:=bq.sl j _ tg h2;rw[va.v] at va.v';cases va.v';obtain⟨l,xs,g,rfl,hq,rs,_⟩:=r.dg;unfold cP at h3;exists hj,iw ds.length i,n,h3,0;rw[hj,ach] at h3;obtain⟨u,fu,hu,ru,_⟩:=rs.get h3;have hn:=ru.aG hi;subst hn;refine .inl ⟨l,xs,i,u,rfl,rfl,hq,?_,k z1 H1 u bq i1 ru⟩;unfold cP;rw[<- rs.length,hj,ach];exact hu
   .cases e
  .cases e
 .cases e
section
variable{g:AF}{m cn iU fl x:Str}{p1 p2 apos:Pos}{k:Nat}{C C2 fa:Addr}{fd:FuncData}{ps:List Str}{G:MF}{pl:Sem Bool}
theorem xu(i:Nat)(hC:ClsAt X.K cn C)(hm:j6 X.K C m fa)(GG:bN X.prog X.w X.K X.mg X.base cE k fa fd ps (c_ X.K G))(hr:aZ k X.A)(hb:Binds X.K fd ps [])(ha:FA X (e::es) g)(va:VA X i x:=by walk_at "va")
  (cN:SE X e es pos:=by exact⟨rfl,rfl⟩)
  (ht:uC X (.Name x p1) m apos (e::es) pos pl:=by exact rfl):FY X (.Call (.Attribute (.Name x p1) m apos) (e::es) [] pos) (xO i cn m G g):=by
 obtain⟨ta,pa,_,qa⟩:=ha;refine⟨_,Af (pl:=pl) va.pe hC.cl hm GG hr hb .nil jt pa cN.1 cN.2 ht,@λH0 S z ak ρ σ H Q d ρ' ok e0 kk=>?_⟩;obtain⟨rH,qs,d1,h1,h2,hm,n9,hG,rfl⟩:=PR e0;obtain⟨v,aT,hs,r0,zz⟩:=ok.sl i _ _ h1;refine⟨v,hs,?_⟩;obtain⟨b,dx,fs,gf,rfl,EX,h4,h5,h6,h7⟩:=r0.lX hC.ns;refine⟨b,dx,fs,rfl,h4,qd h6 hm,?_⟩;refine qa ok h2 λH2 vs jk s2 r2 g2=>?_
 rw[abM];refine⟨b,vs,_,aT,_,jk,d,d1,rfl,r0.same s2,zz.1,r2,u7 ok n9 g2 zz,hG,λH3 u bg im kp r1 nd fr rr=>?_⟩;obtain⟨z',gP⟩:=(ok.same s2).put h1 hs zz im kp r1 nd fr;exact kk z' H3 u gP ((aX.of s2).trans im) rr
def yw(i:Nat)(cn fl iU m:Str)(G:MF)(g:AF):XF:=λρ=>match ρ[i]?,g ρ with
 |some (some (.ins c es,.own)),some ps=>match es.lookup fl with
  |some (.ins c2 iz)=>if c=cn/\c2=iU/\iz.lookup m=none/\apart i ps=true then(G (.ins c2 iz) (ps.map (·.1))).map λw=>(w.1,bJ ρ i (.ins c (dO fl w.2 es))) else none
  |_=>none
 |_,_=>none
theorem Wz(i:Nat)(hC:ClsAt X.K cn C)(na:ji X.K C fl)(wD:ClsAt X.K iU C2)(hm:j6 X.K C2 m fa)(GG:bN X.prog X.w X.K X.mg X.base cE k fa fd ps (c_ X.K G))(hr:aZ k X.A)(hb:Binds X.K fd ps [])(ha:FA X (e::es) g)(va:VA X i x:=by walk_at "va")
  (Dk:attributeBase (.Name x p1) fl X.env (eval (.Name x p1) X.env)=eval (.Name x p1) X.env:=by rfl)
  (cN:SE X e es pos:=by exact⟨rfl,rfl⟩)
  (ht:uC X (.Attribute (.Name x p1) fl p2) m apos (e::es) pos pl:=by exact rfl):FY X (.Call (.Attribute (.Attribute (.Name x p1) fl p2) m apos) (e::es) [] pos) (yw i cn fl iU m G g):=by
 obtain⟨ta,pa,_,qa⟩:=ha;refine⟨_,Af (pl:=pl) (uX va.pe Dk) wD.cl hm GG hr hb .nil jt pa cN.1 cN.2 ht,@λH0 S z ak ρ σ H Q d ρ' ok e0 kk=>?_⟩;unfold yw at e0
 split at e0
 .rename_i c es1 qs h1 h2
  split at e0
  .rename_i c2 iz hl
   by_cases hc:c=cn/\c2=iU/\iz.lookup m=none/\apart i qs=true
   .rw[if_pos hc] at e0;obtain⟨rfl,rfl,hlm,n9⟩:=hc;obtain⟨w,hG,ew⟩:=acI.mp e0;cases ew;obtain⟨v,aT,hs,r0,zz⟩:=ok.sl i _ _ h1;refine⟨v,hs,?_⟩;obtain⟨b0,dx,fs,u,gf,rfl,a1,a2,a3,a4,a5,a6⟩:=r0.place hC.ns zz.1 hl;refine⟨b0,C,dx,fs,u,rfl,a1,hC.cl,na,a2,?_⟩;obtain⟨b,Q9,fs2,g2,rfl,EX,c4,c5,c6,c7⟩:=a3.lX wD.ns;refine⟨b,Q9,fs2,rfl,c4,qd c6 hlm,?_⟩;refine qa ok h2 λH2 vs jk s2 r2 gg=>?_
    rw[abM];refine⟨b,vs,_,gf,_,jk,w.1,w.2,rfl,a3.same s2,a4,r2,λx m n=>u7 ok n9 gg zz x m (a5 x n),hG,λH3 u' bg im kp r1 nd fr rr=>?_⟩;have i3:=(aX.of s2).trans im;have k3:∀b o,b∉gf->H b=some o->H3 b=some o:=λb o n e=>kp b o n (s2 b o e)
    obtain⟨DP,k1,k2,k4⟩:=a6 H3 w.2 bg i3 k3 r1 nd λb m=>(fr b m).imp id s2.free
    obtain⟨z',gP⟩:=ok.put h1 hs zz i3 (λb o n e=>k3 b o (λm=>n (a5 b m)) e) k1 k2 k4;exact kk z' H3 u' gP i3 rr
   .rw[abf hc] at e0;cases e0
  .cases e0
 .cases e0
def mT(i:Nat)(G:MF)(g:AF):XF:=λρ=>match ρ[i]?,g ρ with
 | some (some (d0,.own)),some ps=>if apart i ps=true then(match G d0 (ps.map (·.1)) with
  |some (r,d1)=>if aG r=true then some (r,bJ ρ i d1) else none
  |none=>none) else none
 |_,_=>none
theorem MG(i:Nat){xn:Str}{p:Pos}(GG:bN X.prog X.w X.K X.mg X.base cE k fa fd ps (oz X.K G))(hr:aZ k X.A)(hm:X.mg x=some (.ref fa))(hk:PySem.W.keepIn X.K (.ref fa)=true)(hb:Binds X.K fd ps [])(ha:FA X es g)
  (va:VA X i xn:=by walk_at "va")
  (hg:GD X x:=by exact⟨rfl,by decide⟩) (he:starEach (.Name xn p1::es) X.env=(false,eval (.Name xn p1) X.env)::starEach es X.env:=by rfl) (hpl:(backTo pos (starEach es X.env)).any (·.1)=false:=by rfl) :
  FY X (.Call (.Name x p) (.Name xn p1::es) [] pos) (mT i G g):=by
 obtain⟨t,pa,_,sa⟩:=ha;refine⟨_,xx GG hr hg.1 hm hk hb .nil jt (bU va.pe pa he) hg.2 he hpl,@λH0 S z ak ρ σ H Q d ρ' ok e0 kk=>?_⟩;unfold mT at e0
 split at e0
 .rename_i d0 qs h1 h2;obtain⟨n9,e0⟩:=ci e0
  split at e0
  .rename_i r d1 h3;obtain⟨hi,e0⟩:=ci e0;cases e0;obtain⟨v,aT,hs,r0,zz⟩:=ok.sl i _ _ h1;refine⟨v,hs,?_⟩;refine sa ok h2 λH2 vs jk s2 r2 g2=>?_
   show oz X.K G ((v::vs)++[]) H2 Q E0;rw[abM];refine⟨v,vs,d0,aT,_,jk,d,d1,rfl,r0.same s2,zz.1,r2,u7 ok n9 g2 zz,h3,λH3 u bg d7 im kp r1 nd fr rr OV Ek=>?_⟩;have hn:=rr.aG hi;subst hn;obtain⟨z',gP⟩:=(ok.same s2).put h1 hs zz im kp r1 nd fr;exact kk z' H3 u gP ((aX.of s2).trans im) rr
  .cases e0
 .cases e0
end
def zW(i:Nat)(cn:Str)(G:MF)(g:gq):SF:=λρ=>match g ρ with
 |some (ds,ρ')=>match G (.ins cn []) ds with
  |some (.aC,d)=>some (.nx (jf ρ' i d .own))
  |_=>none
 |none=>none
theorem aaO(i:Nat){cn x y:Str}{p pos':Pos}{k:Nat}{C fa:Addr}{fd:FuncData}{ps:List Str}{G:MF}(hn:PySem.W.nsIn X.K mainGlobals cn=some (some (.ref C)))(M:Mk X.K C fa)(GG:bN X.prog X.w X.K X.mg X.base cE k fa fd ps (c_ X.K G))(hr:aZ (k+1) X.A)(hm:X.mg y=some (.ref C))(hb:Binds X.K fd ps [])(ha:vF X (e::es) g)
  (hN:X.N.Nodup) (hi:X.N[i]? = some x:=by rfl) (hx:Loc X.env.scope x:=by first|exact Or.inl rfl|exact Or.inr rfl) (hg:GD X y:=by exact⟨rfl,by decide⟩)
  (he:SE X e es pos:=by exact⟨rfl,rfl⟩)
  {Od:Pos} (hs:swapsWith (.Call (.Name y p) (e::es) [] pos) (some (.Name x pos')) Od.line X.env=pure false:=by rfl) (hf:X.fn x=true\/X.env.scope.names.lookup x=some .local:=by first|exact .inl rfl|exact .inr rfl) (kH:jN X x=false:=by rfl) :
  dU X (.Assign [.Name x pos'] (.Call (.Name y p) (e::es) [] pos) Od) (zW i cn G g):=by
 obtain⟨ta,pa,qa⟩:=ha;exists 23,wg hN hi hx (My M GG hr hg.1 hm hb .nil jt pa hg.2 he.1 he.2) hs hf;unfold zW at e
 split at e
 .rename_i ds aJ h1
  split at e
  .rename_i d h2;cases e;refine qa ok h1 λz1 H1 vs bq i1 r1=>?_
   exact make_core hn r1 h2 λH' v fp s2 r3 nd fr=>bq.stored (t:=.own) s2 r3 ⟨nd,fr⟩ λz' aY=>k z' _ H' aY (.set hi kH)
  .cases e
 .cases e
noncomputable def tZ(f:XF):aE->Option (Bool×aE):=λρ=>match f ρ with
 |some (.bl b,ρ')=>some (b,ρ')
 |_=>none
theorem aaT(h:FZ X a f)(he:∀whole,isTrue a X.env whole=(do let v <- whole;standAt a.pos;holding [v] (truthy v)):=by intro _;rfl):uh X a (tZ f):=by
 obtain⟨t,p,q⟩:=h;refine⟨_,GP p he,@λH0 S z ak ρ σ H Q c ρ' ok e k=>?_⟩;unfold tZ at e
 split at e
 .rename_i c' aJ h1;cases e;refine q ok h1 λz' H' v aY r=>?_
  cases r;exact⟨_,rfl,k z' H' aY⟩
 .cases e
noncomputable def lA(c:aE->Option (Bool×aE))(f:SF):Nat->SF
 |0,_=>none
 |n+1,ρ=>match c ρ with
  |some (false,aJ)=>some (.nx aJ)
  |some (true,aJ)=>match f aJ with
   |some (.nx ρ')=>lA c f n ρ'
   |_=>none
  |none=>none
theorem Tt(n:Nat){body:List Stmt}{tc:aE->Option (Bool×aE)}{fb:SF}(hc:uh X c tc)(hb:FS X body fb)(hp:PassesOwn (model X.prog X.w) X.A X.env X.xe:=by exact PassesOwn.never):dU X (.While c body [] pos) (lA tc fb n):=by
 obtain⟨t,p,q⟩:=hc;obtain⟨tb,pb,qb⟩:=hb;exists 23,Qd hp p pb;refine⟨λm aB H'=>∃z' ρ',Ok X.K H0 S z' ak ρ' aB H'/\lA tc fb m ρ'=some o/\Kp X σ aB,⟨n,z,ρ,ok,e,.refl _ _⟩,?_⟩
 rintro m aB H' ⟨z',ρ',aY,e',kp⟩
 cases m with
 |zero=>cases e'
 |succ m=>
  unfold lA at e'
  split at e'
  .rename_i aJ hc;cases e';refine q aY hc λz1 H1 bq=>?_
   rw[abf aaN];exact k z1 aB H1 bq kp
  .rename_i aJ hc;refine q aY hc λz1 H1 bq=>?_
   rw[if_pos rfl]
   split at e'
   .rename_i bf hf;refine⟨λgH H2=>∃z2 bf,Ok X.K H0 S z2 ak bf gH H2/\lA tc fb m bf=some o/\Kp X σ gH,λgH H2 hn=>⟨m,ae8 m,hn⟩,?_⟩;exact qb bq hf λz3 cR H3 ir b=>⟨z3,bf,ir,e',kp.trans b⟩
   .cases e'
  .cases e'
noncomputable def uA(f g:XF):XF:=λρ=>match f ρ with
 |some (.bl true,ρ')=>some (.bl true,ρ')
 |some (.bl false,ρ')=>match g ρ' with
  |some (.bl b,bf)=>some (.bl b,bf)
  |_=>none
 |_=>none
theorem ac2{g:XF}(ha:FZ X a f)(hb:FZ X b g):FZ X (.BoolOp .Or [a,b] pos) (uA f g):=by
 obtain⟨t,p,q⟩:=ha;obtain⟨t',p',q'⟩:=hb;exists 26,Jp p (O6 p');unfold uA at e
 split at e
 .rename_i aJ h;cases e;refine q ok h λz1 H1 v bq r1=>?_
  cases r1;refine⟨true,rfl,?_⟩;rw[if_pos rfl];exact k z1 H1 _ bq (.bl _)
 .rename_i aJ h
  split at e
  .rename_i c bf h2;cases e;refine q ok h λz1 H1 v bq r1=>?_
   cases r1;refine⟨false,rfl,?_⟩;rw[abf aaN];exact q' bq h2 k
  .cases e
 .cases e
end
end L2.Ev
namespace L2
open PySem PySem.Spec PyProof.Rows
theorem OY:∀{vs:List Value}{ns:List Int},IntsAre vs ns->∃xs:List (Int×Tok),vs.toArray=intItems xs.toArray/\xs.map (·.1)=ns
 |_,_,.nil=>⟨[],by simp[intItems],rfl⟩
 |_,_,.cons n t h=>by
  obtain⟨xs,e1,e2⟩:=OY h;refine⟨(n,t)::xs,?_,by rw[aaF,e2]⟩;have:=congrArg Array.toList e1
  apply Array.toList_inj.mp
  simp[intItems] at this ⊢;exact this
theorem Ox:∀{ns:List Int},(∀n∈ns,-(b:Int)<=n/\n<=b)->-((ns.length:Int)*b)<=ns.sum/\ns.sum<=(ns.length:Int)*b
 |[],_=>by simp
 |n::r,h=>by
  obtain⟨a,c⟩:=Ox λm hm=>h m (aal _ hm)
  obtain⟨d,e⟩:=h n aax;rw[List.sum_cons,abj];have:((r.length+1:Nat):Int)*b=(r.length:Int)*b+b:=by rw[Int.natCast_add,Int.add_mul];simp
  omega
section
variable{X:Cx}
theorem adZ(hc:X.calm=true):eX X (.builtin "sum") (λxs H Q=>∃(p:Addr) (ns:List Int),xs=[V.ref p]/\bS X.K H p (ns.map V.int)/\(∀n∈ns,-1000<=n/\n<=1000)/\ns.length<=1000/\Q (.int ns.sum) H):=by
 intro af s σ H xs us Q I r h;obtain⟨p,ns,rfl,hq,hb,hz,q⟩:=h;obtain⟨u,rfl,ru⟩:=vals1 r;cases ru;obtain⟨ao,ri,pl,_⟩:=I.list hq;obtain⟨xs,e1,e2⟩:=OY (intsAre_of ri);have na:numAt xs.toArray=λi=>ns.getD i 0:=by
  funext i
  rw[<- e2];simp[numAt,acv]
 have ez:xs.toArray.size=ns.length:=by rw[<- e2];simp
 have hl:=pl.isList;rw[e1] at hl;refine sum_intList (I.ok.hd hc) hl (λj hj=>?_) λh' tk t' kp=>?_
 .rw[na,preSum_getD];have N9:j<ns.length:=by rw[<- ez];exact hj
  have b1:=hb ns[j] (List.getElem_mem N9);have b2:=Ox (ns:=ns.take (j+1)) λn m=>hb n (List.mem_of_mem_take m)
  have b3:((ns.take (j+1)).length:Int)<=1000:=by rw[adf];omega
  show InLong (ns.getD j 0)/\InLong (List.take (j+1) ns).sum;rw[acv,aa0 N9,aeO];constructor<;>(unfold InLong;omega)
 .rw[na,preSum_getD,ez,List.take_length];exact⟨.int ns.sum,H,I.kept kp,⟨t',rfl⟩,q⟩
theorem WS{Q:List Value->Shared->Prop}{t u v:Tok}{n:Nat}(hh:A.handled=none)(hr:IsRange s.heap r a b c t u v)(E9:Builtin.Range.small a b c=true)
  (hn:Builtin.Range.rangeSize a b c=n) (hlen:n<=2 ^ 24)
  (hQ:∀h' tk (acc:Array Value),(∀b o,s.heap.get? b=some o->h'.get? b=some o)->ItemsOf (λi v=>∃t,v=.int (a+i*c) t) acc n->Q acc.toList { s with heap:=h',toks:=tk }) :
  wpAny (model prog w) A (collect (.ref r)) Q E s:=by
 unfold collect;refine aan (wpAny_runValue (aef F.entry_proto_collect ?_));rw[aem F.plain_proto_collect _];refine aan (aeb ?_);refine abg ⟨aeZ F.plain_list_iadd _,aef F.entry_list_iadd ?_⟩;rw[aem F.plain_list_iadd _];have hS:(s.heap.push { cls:=.type "list",data:=.seq ([]:List Value).toArray }).get? s.heap.objs.size=some { cls:=.type "list",data:=.seq #[] 0 }:=aa6 _ rfl;have Jd:∀h' tk (acc:Array Value) c',(∀b o,b≠s.heap.objs.size->(s.heap.push { cls:=.type "list",data:=.seq ([]:List Value).toArray }).get? b=some o->h'.get? b=some o)->h'.get? s.heap.objs.size=some { cls:=.type "list",dict:=none,data:=.seq acc c',slots:=#[] }->ItemsOf (λi v=>∃t,v=.int (a+i*c) t) acc n->
   wpAny (model prog w) A (match Value.ref s.heap.objs.size with
   |Value.ref a=>do
    match(<- load a).data with
     |Data.seq xs _=>pure xs.toList
     |_=>unsupported "internal:collect"
   |_=>unsupported "internal:collect") Q E { s with heap:=h',toks:=tk }:=λh' tk acc c' hk kB iy=>by
  refine aan (wpAny_load kB ?_);exact abg (hQ h' tk acc (λb o hb=>hk b o (abn (aaZ hb)) (aab _ hb)) iy)
 refine acH (wpAny_extend_range (R:=λr s'=>r=.ok (.ret (.ref s.heap.objs.size))/\∃h' tk acc c',s'={ s with heap:=h',toks:=tk }/\(∀b o,b≠s.heap.objs.size->(s.heap.push { cls:=.type "list",data:=.seq ([]:List Value).toArray }).get? b=some o->h'.get? b=some o)/\h'.get? s.heap.objs.size=some { cls:=.type "list",dict:=none,data:=.seq acc c',slots:=#[] }/\ItemsOf (λi v=>∃t,v=.int (a + i * c) t) acc n)
  hh (aab _ hr) E9 hn hlen _ _ 0 hS λh' tk acc c' hk kB iy=>⟨rfl,h',tk,acc,c',rfl,hk,kB,iy⟩) (λfin s' h=>?_) (λe s' h=>?_)
 .cases fin with
  |done f=>
   obtain⟨e,h',tk,acc,c',rfl,x1,x2,x3⟩:=h;cases e;exact Jd h' tk acc c' x1 x2 x3
  |again c'=>exact⟨h.1,aeV h.2 λr fL hr=>by obtain⟨rfl,h',tk,acc,c',rfl,x1,x2,x3⟩:=hr;exact Jd h' tk acc c' x1 x2 x3⟩
 .exact absurd h.1 (by simp)
theorem Sk(r:Addr)(a b c:Int)(t u v:Tok)(n:Nat)(E9:Builtin.Range.small a b c=true)(hn:Builtin.Range.rangeSize a b c=n)(hlen:n<=sizeLine):
  Meets (Builtin.«tuple.__new__» ⟨[.type "tuple",.ref r],[]⟩)
   (λA R s=>A.handled=none/\IsRange s.heap r a b c t u v/\∀(h':Heap) tk (acc:Array Value),(∀b o',s.heap.get? b=some o'->h'.get? b=some o')->ItemsOf (λi v=>∃t,v=.int (a+i*c) t) acc n->R (.ok (.ret (.ref h'.objs.size))) { s with heap:=h'.push { cls:=.type "tuple",data:=.seq acc },toks:=tk }):=
 .of_wp λprog w A R s h=>by
  obtain⟨hp,g,d,tk,os⟩:=s;obtain⟨hh,hr,h⟩:=h;have yq:=sub_tuple_self;have aek:=init_tuple_lookup;have hmh:=madeHere_tuple;have hT:Shared.TypeIs ⟨hp,g,d,tk,os⟩ (.ref r) "range":=⟨_,hr,rfl⟩
  wp_walk using AutoSeq1.wpAny_loadPart' hr,wpAny_typeOf hT,WS (A:=A.in1) hh hr E9 hn (by rw[aeg] at hlen;omega)
  intro h' qZ acc hk iy;show wpAny _ _ (Builtin.Tuple.tupleExact acc.toList.toArray >>= λv=>ret v) _ _ _;unfold Builtin.Tuple.tupleExact;refine aan (aeb ?_ (by show acc.toList.toArray.size<=sizeLine;rw[Array.toArray_toList,iy.1];exact hlen));refine abg ⟨_,rfl,?_⟩;rw[Array.toArray_toList];exact h h' qZ acc hk iy
theorem SY(hc:X.calm=true):eX X (.type "tuple") (λxs H Q=>∃p i j,xs=[V.ref p]/\H p=some (.bG i j)/\(-(2 ^ 20)<=i/\i<2 ^ 20/\-(2 ^ 20)<=j/\j<2 ^ 20)/\(j-i).toNat<=sizeLine/\∀l,H l=none->Q (.ref l) (upd H l (.tup ((List.range (j-i).toNat).map λn:Nat=>V.int (i+n))))):=by
 intro af s σ H xs us Q I r h;obtain⟨p,i,j,rfl,hp,hb,hz,q⟩:=h;obtain⟨u,rfl,ru⟩:=vals1 r;cases ru;obtain⟨t,u',v,hr⟩:=(show ∃t u v,s.heap.get? p=some { cls:=.type "range",data:=.fields #[.int i t,.int j u,.int 1 v] } from I.aD p _ hp)
 have e2:Builtin.Range.rangeSize i j 1=((j-i).toNat:Int):=by rw[rangeSize_one];split<;>omega
 refine callType_new F.called_tuple (by decide) (F.typeCall_tuple_1 _) (F.newCall_tuple_1 _) (λobj=>F.args_object_init_2 obj _) F.entry_tuple_new
  (Sk p i j 1 t u' v (j-i).toNat (small_one (by omega) (by omega) (by omega) (by omega)) e2 hz) ⟨I.ok.hd hc,hr,λh' tk acc hk iy=>⟨⟨_,aa6 _ rfl,rfl⟩,?_⟩⟩
 obtain⟨az,av⟩:=iy;have vv:aK ((List.range (j-i).toNat).map λn:Nat=>V.int (i+n)) acc.toList:=by
  rw[List.range_eq_range'];refine JZ (by simpa using az) λm w e=>?_
  obtain⟨t,e⟩:=av m w (by simpa using e);exact⟨t,by rw[e];simp⟩
 have I1:Inv X af σ H { s with heap:=h',toks:=tk }:=I.kept hk;exact⟨.ref h'.objs.size,_,I1.laid (λb o e=>aab _ e) (abd _) (show cU X.prog X.w _ _ _ (.tup _) from⟨by rw[aaf,acP];exact hz,acc.toList,vv,by simpa using lF.new h' acc⟩),rfl,q _ (I1.aD.fresh (abd _))⟩
end
end L2
namespace L2.Ev
open PySem PySem.Spec PyProof.Rows
section
variable{X:Cx}{a b e:Expr}{fa fb:EF}{p p1 p2 p3 pos:Pos}
def yL:D->Option D
 |.lst ds=>match dB ds with
  |some ns=>if ns.length<=1000/\∀n∈ns,-1000<=n/\n<=1000 then some (.int ns.sum) else none
  |none=>none
 |_=>none
theorem RK(hc:X.calm=true)(hm:X.mg "sum"=none)(ha:FP X a fa)(hg:Gl X "sum":=by rfl)(hs:starEach [a] X.env=[(false,eval a X.env)]:=by rfl):FP X (.Call (.Name "sum" p) [a] [] pos) (e1 yL fa):=by
 refine fp_1 (r:=λxs H Q=>∃(p:Addr) (ns:List Int),xs=[V.ref p]/\bS X.K H p (ns.map V.int)/\(∀n∈ns,-1000<=n/\n<=1000)/\ns.length<=1000/\Q (.int ns.sum) H) ?_ ha λta pa=>mY (adZ hc) hg hm (show bootBuiltins "sum"=some (.builtin "sum") by decide +kernel) (bU pa dN hs) (he:=hs) (hpl:=rfl)
 intro H x d1 f1 d Q r e k;unfold yL at e
 split at e
 .rename_i ds
  split at e
  .rename_i ns oA;obtain⟨hb,e⟩:=ci e;cases e;obtain⟨l,xs,f,rfl,hq,rs,_⟩:=r.dg;have ex:=pP rs oA;subst ex;exact⟨l,ns,rfl,hq,hb.2,hb.1,k H _ [] (aF.refl H) (.int _) abF λa m=>nomatch m⟩
  .cases e
 .cases e
noncomputable def vE(g:AF):EF:=λρ=>match g ρ with
 |some [(.int i,_),(.int j,_)]=>if -(2 ^ 20)<=i/\i<2 ^ 20/\-(2 ^ 20)<=j/\j<2 ^ 20 then some (.tup ((List.range (j-i).toNat).map λn:Nat=>D.int (i+n)),.own) else none
 |_=>none
theorem adi{g:AF}(hc:X.calm=true)(hm:X.mg "tuple"=none)(kc:X.mg "range"=none)(ha:FA X [a,b] g)(hg:Gl X "tuple":=by rfl)(lU:Gl X "range":=by rfl)
  (hs:starEach [a,b] X.env=[(false,eval a X.env),(false,eval b X.env)]:=by rfl) (bQ:starEach [b] X.env=[(false,eval b X.env)]:=by rfl)
  (xH:starEach [.Call (.Name "range" p2) [a,b] [] p3] X.env=[(false,eval (.Call (.Name "range" p2) [a,b] [] p3) X.env)]:=by rfl) :
  FP X (.Call (.Name "tuple" p) [.Call (.Name "range" p2) [a,b] [] p3] [] pos) (vE g):=by
 obtain⟨ta,pa,_,qa⟩:=ha;exists 21,ym (SY hc) hg hm (by rfl) (bU (Vx kc pa lU hs bQ) dN xH) (he:=xH) (hpl:=rfl);unfold vE at e
 split at e
 .rename_i i t1 j t2 h1;obtain⟨hb,e⟩:=ci e;cases e;refine qa ok h1 λH1 vs fp s1 r1 _=>?_
  cases r1 with
  |cons r r1=>
   cases r1 with
   |cons r' r1=>
    cases r1;cases r;cases r';refine⟨i,j,rfl,λr hr=>⟨r,i,j,rfl,bT,hb,?_,λl hl=>?_⟩⟩
    .unfold sizeLine;omega
    .have s2:=aF.new (o:=.bG i j) hr;have s3:=aF.new (o:=.tup ((List.range (j-i).toNat).map λn:Nat=>V.int (i+n))) hl;exact k _ _ [] ((s1.trans s2).trans s3) (.tup (cg.of bT) (JS _)) .nil
 .cases e
theorem UO{f g:XF}(hc:X.calm=true)(hm:X.mg "min"=none)(ha:FY X a f)(hb:FY X b g)(hg:Gl X "min":=by rfl)(hs:starEach [a,b] X.env=[(false,eval a X.env),(false,eval b X.env)]:=by rfl)(bQ:starEach [b] X.env=[(false,eval b X.env)]:=by rfl)(hpl:(backTo pos (starEach [b] X.env)).any (·.1)=false:=by rfl):
  FY X (.Call (.Name "min" p) [a,b] [] pos) (x2 rj f g):=by
 obtain⟨ta,pa,sa⟩:=ha;obtain⟨tb,pb,sb⟩:=hb;exists 26,mY (Nf hc) hg hm OO (bU pa (bU pb dN bQ) (by rw[hs,bQ])) (he:=by rw[hs,bQ]) (hpl:=hpl);obtain⟨d1,aJ,d2,h1,h2,h3⟩:=Jl e;refine sa ok h1 λz1 H1 x bq i1 r1=>?_
 refine sb bq h2 λz2 H2 y gx i2 r2=>?_
 unfold rj qE at h3
 split at h3
 .cases h3;exact⟨_,_,by rw[r1.gO.1,r2.gO.1],k z2 H2 _ gx (i1.trans i2) (.int _)⟩
 .cases h3
end
section
variable{K:PySem.W.Frag}{H H':Hp}
theorem SR{ks:List Key}(h:cg K H a (ks.map L2.kV))(ni:vC K=true)(hi:ks.all (λk=>k.isLeft)=true)(hn:ks≠[]):Tk H a (ks.map L2.kV):=by
 rcases h with(h|⟨o,h⟩)|⟨o,ao,n,hk,_,_,hd,_,rv⟩
 .exact⟨.tup _,rfl,h⟩
 .exact⟨.sV o _,rfl,h⟩
 .exfalso
  have q:=acA.mp ni (a,o) (yP hk);dsimp only at q;rw[hd] at q;have len:=rv.length;have go:∀{ks:List Key}{vs:List Value},ks.all (λk=>k.isLeft)=true->aK (ks.map L2.kV) vs->∀v∈vs,∃i t,v=Value.int i t:=by
   intro ks
   induction ks with
   |nil=>intro vs _ r v m;cases r;cases m
   |cons k ks ih=>
    intro vs h r v m;obtain⟨h1,h2⟩:=(aaL _ _).mp (by simpa only[List.all_cons] using h);cases r with
    |cons r1 r2=>
     rcases aaM.mp m with e|m
     .subst e;cases k with
      |inr _=>cases h1
      |inl i=>obtain⟨t,e⟩:=(show RelV (.int i) _ from r1);exact⟨i,t,e⟩
     .exact ih h2 r2 v m
  rcases(Bool.or_eq_true _ _).mp (show(ao.size==0||ao.toList.any _)=true from q) with z|z
  .have z:ao.size=0:=by simpa using z
   simp only[aaf,ady] at len;exact hn (aeP (len.trans z))
  .obtain⟨v,mv,e⟩:=aey.mp z;obtain⟨i,t,rfl⟩:=go hi rv v mv;cases e
theorem Tk.aG(h:Tk H a xs)(i:aX H H'):Tk H' a xs:=by
 obtain⟨t,e1,e2⟩:=h;cases t with
 |tup ys=>exact⟨.tup ys,e1,i.1 _ _ e2⟩
 |sV o ys=>exact⟨.sV o ys,e1,i.2.1 _ _ _ e2⟩
 |gZ _ _=>cases e1
 |iJ _=>cases e1
variable{κ:Type}[DecidableEq κ]
theorem CU{α:Type}{k:κ}{d:α}:∀{es:List (κ×α)},k∉es.map (·.1)->(es.map λkv=>if kv.1=k then(kv.1,d) else kv)=es
 |[],_=>rfl
 |(q,x)::es,n=>by
  rw[aaF] at n ⊢;rw[abf (λe=>n (by rw[e];exact aax)),CU λm=>n (aal _ m)]
theorem ay.JV{k:κ}:∀{es:List (κ×D)}{aj:List (κ×V)}{g:List Addr},es.map (·.1)=aj.map (·.1)->ay K H (es.map (·.2)) (aj.map (·.2)) g->g.Nodup->(es.map (·.1)).Nodup->bI es k=some d0->
  ∃v gf,eg aj k=some v/\Rep K H d0 v gf/\gf.Nodup/\(∀a∈gf,a∈g)/\∀(H':Hp) (d1:D) (g1:List Addr),aX H H'->(∀b o,b∉gf->b∈g->H b=some o->H' b=some o)->Rep K H' d1 v g1->g1.Nodup->(∀b∈g1,b∈gf\/H b=none)->
   ∃g',ay K H' ((putD es k d1).map (·.2)) ((putK aj k v).map (·.2)) g'/\g'.Nodup/\∀b∈g',b∈g\/H b=none
 |[],_,_,_,_,_,_,e=>by cases e
 |_::_,[],_,k,_,_,_,_=>by simp at k
 |(x,d)::es,(y,v0)::aj,_,hk,r,nd,kd,e=>by
  simp only[aaF,ael] at hk;obtain⟨rfl,hk⟩:=hk;rw[aaF] at kd;obtain⟨JH,kd2⟩:=abu.mp kd;have any:∀{α:Type}{l:List (κ×α)}{d:α},k∈l.map (·.1)->(l.any λkv=>decide (kv.1=k))=true:=λ{α l d} m=>by
   obtain⟨p,m1,m2⟩:=acs.mp m;exact aey.mpr ⟨p,m1,aa1 m2⟩
  cases r with
  | @cons _ _ _ _ f1 f2 r1 r2=>
   obtain⟨a1,a2,a3⟩:=abL.mp nd
   by_cases hx:x=k
   .subst hx;have e1:bI ((x,d)::es) x=some d:=by simp[bI,aej]
    rw[e1] at e;obtain rfl:d=d0:=abi e;refine⟨v0,f1,wL rfl,r1,a1,λa m=>aaR _ m,λH' d1 g1 im kp rr n1 fr=>?_⟩;refine⟨g1++f2,?_,abL.mpr ⟨n1,a2,λa ma b mb e=>?_⟩,λb m=>?_⟩
    .have er:putD ((x,d)::es) x d1=(x,d1)::es:=by
      unfold putD;rw[any (d:=d1) (by simp),if_pos rfl,aaF,CU JH,if_pos rfl]
     have ev:putK ((x,v0)::aj) x v0=(x,v0)::aj:=by
      unfold putK;rw[any (d:=v0) (by simp),if_pos rfl,aaF,CU (show x∉aj.map (·.1) by rw[<- hk];exact JH),if_pos rfl]
     rw[er,ev,aaF,aaF];refine .cons rr (r2.frame (λa m=>?_) im);obtain⟨o,w,_⟩:=r2.dH a m;rw[kp a o (λq=>a3 a q a m rfl) (aaE _ m) w,w]
    .subst e;obtain⟨o,w,_⟩:=r2.dH a mb;rcases fr a ma with q|q
     .exact a3 a q a mb rfl
     .rw[q] at w;cases w
    .rcases abb.mp m with m|m
     .exact(fr b m).imp (aaR _) id
     .exact .inl (aaE _ m)
   .have e1:bI ((x,d)::es) k=bI es k:=by simp[bI,aej,hx]
    rw[e1] at e;obtain⟨v,gf,h1,h2,h3,h4,h5⟩:=ay.JV hk r2 a2 kd2 e;have mk:k∈es.map (·.1):=by
     unfold bI at e;obtain⟨p,e2,e3⟩:=acI.mp e;exact acs.mpr ⟨p,List.mem_of_find?_eq_some e2,aa3 (show decide (p.1=k)=true from List.find?_some (p:=λkv:κ×D=>decide (kv.1=k)) e2)⟩
    refine⟨v,gf,by rw[vz hx];exact h1,h2,h3,λa m=>aaE _ (h4 a m),λH' d1 g1 im kp rr n1 fr=>?_⟩;obtain⟨g',c1,c2,c3⟩:=h5 H' d1 g1 im (λb o n m e=>kp b o n (aaE _ m) e) rr n1 fr;refine⟨f1++g',?_,abL.mpr ⟨a1,c2,λa ma b mb e=>?_⟩,λb m=>?_⟩
    .have er:(putD ((x,d)::es) k d1)=(x,d)::putD es k d1:=by
      unfold putD;rw[any (d:=d1) (l:=(x,d)::es) (aal _ mk),any (d:=d1) mk,if_pos rfl,if_pos rfl,aaF,abf hx]
     have ev:(putK ((x,v0)::aj) k v)=(x,v0)::putK aj k v:=by
      unfold putK;rw[any (d:=v) (by rw[aaF,<- hk];exact aal _ mk),any (d:=v) (by rw[<- hk];exact mk),if_pos rfl,if_pos rfl,aaF,abf hx]
     rw[er,ev,aaF,aaF];refine .cons (r1.frame (λa m=>?_) im) c1;obtain⟨o,w,_⟩:=r1.dH a m;rw[kp a o (λq=>a3 a m a (h4 a q) rfl) (aaR _ m) w,w]
    .subst e;obtain⟨o,w,_⟩:=r1.dH a ma;rcases c3 a mb with q|q
     .exact a3 a ma a q rfl
     .rw[q] at w;cases w
    .rcases abb.mp m with m|m
     .exact .inl (aaR _ m)
     .exact(c3 b m).imp (aaE _) id
theorem Ok.blank{x:Option V}(ok:Ok K H0 S z ak ρ σ H)(h:ρ[i]? = some none):Ok K H0 S z ak ρ (σ.set i x) H:=
 ⟨λj d t e=>by
  have ne:i≠j:=λz=>by rw[<- z,h] at e;cases e
  obtain⟨v,fp,a,b,c⟩:=ok.sl j d t e;exact⟨v,fp,by rw[abY ne];exact a,b,c⟩,ok.hl,ok.zd,ok.en,by rw[aet];exact ok.ln⟩
end
def sS(cn fl iU m:Str)(ft:EF)(G:MF):SF:=λρ=>match(ρ[0]? : Option Slot),(ρ[1]? : Option Slot),(ρ[2]? : Option Slot),(ρ[3]? : Option Slot) with
 |some (some (.ins c es,.own)),some (some (.tup ls,_)),some (some (.str wd,_)),some none=>match es.lookup fl,je ls,ft ρ with
  |some (.eS aj),some ks,some (dn,.own)=>match(bI aj ks).getD dn with
   |.ins c2 iz=>if c=cn/\c2=iU/\iz.lookup m=none/\ks.all (λk=>k.isLeft)=true/\ks≠[]/\(aj.map (·.1)).Nodup/\aj.length<sizeLine then
     match G (.ins c2 iz) [.str wd] with
     |some (r,d1)=>if aG r=true then some (.nx (jf (bJ ρ 0 (.ins c (dO fl (.eS (putD aj ks d1)) es))) 4 r .own)) else none
     |none=>none
    else none
   |_=>none
  |_,_,_=>none
 |_,_,_,_=>none
theorem YR{w:Out}(e:sS cn fl iU m ft G ρ=some w):∃es ls lt wd wt aj ks dn iz r d1,ρ[0]? = some (some (.ins cn es,.own))/\ρ[1]? = some (some (.tup ls,lt))/\ρ[2]? = some (some (.str wd,wt))/\ρ[3]? = some none/\es.lookup fl=some (.eS aj)/\je ls=some ks/\ft ρ=some (dn,.own)/\
  (bI aj ks).getD dn=.ins iU iz/\iz.lookup m=none/\ks.all (λk=>k.isLeft)=true/\ks≠[]/\(aj.map (·.1)).Nodup/\aj.length<sizeLine/\G (.ins iU iz) [.str wd]=some (r,d1)/\aG r=true/\w=.nx (jf (bJ ρ 0 (.ins cn (dO fl (.eS (putD aj ks d1)) es))) 4 r .own):=by
 unfold sS at e
 split at e
 .rename_i c es ls lt wd wt g0 g1 g2 g3
  split at e
  .rename_i aj ks dn g4 g5 g6
   split at e
   .rename_i c2 iz g7
    split at e
    .rename_i hc;obtain⟨rfl,rfl,a1,a2,a3,a4,a5⟩:=hc
     split at e
     .rename_i r d1 g8;obtain⟨hi,e⟩:=ci e;cases e;exact⟨es,ls,lt,wd,wt,aj,ks,dn,iz,r,d1,g0,g1,g2,g3,g4,g5,g6,g7,a1,a2,a3,a4,a5,g8,hi,rfl⟩
     .cases e
    .cases e
   .cases e
  .cases e
 .cases e
section
variable{X:Cx}{cn fl iU m x0 x1 x2 x3 x4:Str}{C C2 fa:Addr}{fd:FuncData}{ps:List Str}{k:Nat}{G:MF}{tc:Expr}{ft:EF}{g:SF}{rest:List Stmt}{p1 p2 p3 p4 p5 p6 p7 p8 p9 q1 q2 q3 q4 q5 q6 q7 q8 q9 r1:Pos}{pl:Sem Bool}
set_option maxHeartbeats 1000000 in
theorem acU(hu:X.A.units+1<cLine)(ni:vC X.K=true)(hC:ClsAt X.K cn C)(na:ji X.K C fl)(wD:ClsAt X.K iU C2)(hm:j6 X.K C2 m fa)(GG:bN X.prog X.w X.K X.mg X.base cE k fa fd ps (c_ X.K G))(hr:aZ k X.A)(hb:Binds X.K fd ps [])
  (hT:FP X tc ft) (v8:FM X rest g) (hN:X.N.Nodup) (a0:VA X 0 x0:=by walk_at "va") (a1:VA X 1 x1:=by walk_at "va") (a2:VA X 2 x2:=by walk_at "va") (a3:VA X 3 x3:=by walk_at "va") (h4:X.N[4]? = some x4:=by rfl)
  (v3:Loc X.env.scope x3:=by first|exact Or.inl rfl|exact Or.inr rfl) (v4:Loc X.env.scope x4:=by first|exact Or.inl rfl|exact Or.inr rfl)
  (Dk:attributeBase (.Name x0 p1) fl X.env (eval (.Name x0 p1) X.env)=eval (.Name x0 p1) X.env:=by rfl) (aaG:attributeBase (.Name x0 q1) fl X.env (eval (.Name x0 q1) X.env)=eval (.Name x0 q1) X.env:=by rfl)
  (mm:M2 X (.Attribute (.Name x0 p1) fl p2) "get" p3 (.Name x1 p4) tc p5:=by exact⟨rfl,rfl,rfl,rfl⟩)
  (s1:swapsWith (.Call (.Attribute (.Attribute (.Name x0 p1) fl p2) "get" p3) [.Name x1 p4,tc] [] p5) (some (.Name x3 p6)) p7.line X.env=pure false:=by rfl)
  (s2:swapsWith (.Call (.Attribute (.Name x3 q2) m q3) [.Name x2 q4] [] q5) (some (.Name x4 p8)) p9.line X.env=pure false:=by rfl)
  (s3:swapsWith (.Name x3 q6) (some (.Subscript (.Attribute (.Name x0 q1) fl q7) (.Name x1 q8) q9)) r1.line X.env=pure false:=by rfl)
  (f3:X.fn x3=true\/X.env.scope.names.lookup x3=some .local:=by first|exact .inl rfl|exact .inr rfl) (f4:X.fn x4=true\/X.env.scope.names.lookup x4=some .local:=by first|exact .inl rfl|exact .inr rfl) (k3:jN X x3=false:=by rfl) (k4:jN X x4=false:=by rfl)
  (cN:starEach [.Name x2 q4] X.env=[(false,eval (.Name x2 q4) X.env)]:=by rfl)
  (ht:eval (.Call (.Attribute (.Name x3 q2) m q3) [.Name x2 q4] [] q5) X.env=(do
   let ov <- eval (.Name x3 q2) X.env
   standAt q3.atName
   let(f,first) <- holding [ov] (getMethod ov m pl)
   callWith q5 f first (backTo q5 (starEach [.Name x2 q4] X.env)) (backToKw q5 (keywordEach [] X.env))):=by rfl) :
  FM X (.Assign [.Name x3 p6] (.Call (.Attribute (.Attribute (.Name x0 p1) fl p2) "get" p3) [.Name x1 p4,tc] [] p5) p7::.Assign [.Name x4 p8] (.Call (.Attribute (.Name x3 q2) m q3) [.Name x2 q4] [] q5) p9::.Assign [.Subscript (.Attribute (.Name x0 q1) fl q7) (.Name x1 q8) q9] (.Name x3 q6) r1::rest) (aS (sS cn fl iU m ft G) g):=by
 obtain⟨tT,pT,sT⟩:=hT;obtain⟨tr,pr,sr⟩:=v8;refine⟨_,uO (wg (i:=3) hN a3.N v3 (ML hu (uX a0.pe Dk) a1.pe pT mm) s1 f3)
  (uO (wg (i:=4) hN h4 v4 (Af (pl:=pl) a3.pe wD.cl hm GG hr hb .nil jt (bU a2.pe dN cN) cN rfl ht) s2 f4)
  (uO (GN hu (uX a0.pe aaG) a1.pe a3.pe s3) pr)),@λH0 S z ak ρ σ H E o ok e kE=>?_⟩
 cases hw:sS cn fl iU m ft G ρ with
 |none=>unfold aS at e;rw[hw] at e;cases e
 |some w=>
  obtain⟨es,ls,lt,wd,wt,aj,ks,dn,iz,r,d1,e0,e1,e2,e3,VO,UX,eft,t8,R0,EE,rV,knd,hlen,eG,hir,rfl⟩:=YR hw;have e:g (jf (bJ ρ 0 (.ins cn (dO fl (.eS (putD aj ks d1)) es))) 4 r .own)=some o:=by unfold aS at e;rw[hw] at e;exact e
  obtain⟨v,aT,hs,r0,zz⟩:=ok.sl 0 _ _ e0;obtain⟨vl,BE,AX,rl,_⟩:=ok.sl 1 _ _ e1;obtain⟨bL,xs,rfl,QA,Z8⟩:=rl.jx;obtain rfl:=ay.keys Z8 UX;have HR:=SR QA ni EE rV;obtain⟨vw,fw,jX,dM,_⟩:=ok.sl 2 _ _ e2;obtain⟨rfl,rfl⟩:=dM.uZ;have l3:3<σ.length:=by rw[<- ok.ln];exact(abU.mp e3).1
  obtain⟨b0,dx,fs,u,gf,⟨nb,nx⟩,rfl,a1,a2,a3,a4,a5,a6⟩:=r0.L_ hC.ns zz.1 VO;cases a3 with
  | @eS l f6 _ g0 hl iF rs=>
   obtain⟨lg,n0⟩:=abu.mp a4;refine⟨.ref b0,hs,b0,C,dx,fs,.ref l,rfl,a1,hC.cl,na,a2,l,rfl,.inr ⟨f6,.inl hl⟩,.ref bL,AX,?_⟩;refine sT ok eft λH3 zv DP s3 rn gn=>?_
   refine⟨eg f6 ks,.inr ⟨f6,ks,bL,.inl (s3 _ _ hl),rfl,(Tk.aG HR (.of s3)),rfl⟩,?_⟩;have hv:∃jg,Rep X.K H3 (.ins iU iz) ((eg f6 ks).getD zv) jg/\jg.Nodup/\(∀b∈jg,b∈g0\/H b=none)/\∀H5 bg,aX H3 H5->(∀b o,b∉jg->H3 b=some o->H5 b=some o)->Rep X.K H5 d1 ((eg f6 ks).getD zv) bg->bg.Nodup->(∀b∈bg,b∈jg\/H3 b=none)->
     ∃g',ay X.K (upd H5 l (.dT (putK f6 ks ((eg f6 ks).getD zv)))) ((putD aj ks d1).map (·.2)) ((putK f6 ks ((eg f6 ks).getD zv)).map (·.2)) g'/\g'.Nodup/\l∉g'/\∀b∈g',b∈g0\/H b=none:=by
    cases rX:bI aj ks with
    |some dv=>
     rw[rX,aeO] at t8;subst t8;obtain⟨v,gv,b1,b2,b3,b4,b5⟩:=ay.JV iF rs n0 knd rX;rw[b1,aeO];refine⟨gv,b2.same s3,b3,λb m=>.inl (b4 b m),λH5 bg im kp r5 yi kY=>?_⟩;have nl:l∉gv:=λm=>lg (b4 l m)
     have nV:=kp l _ nl (s3 _ _ hl);have zD:l∉bg:=λm=>(kY l m).elim nl λq=>by rw[s3 _ _ hl] at q;cases q
     obtain⟨g',c1,c2,c3⟩:=b5 (upd H5 l (.dT (putK f6 ks v))) d1 bg (((aX.of s3).trans im).trans (aX.upd nV rfl)) (λb o n mb e=>by rw[aO (λq:b=l=>lg (q ▸ mb))];exact kp b o n (s3 b o e))
      (r5.frame (λb m=>aO (λq:b=l=>zD (q ▸ m))) (aX.upd nV rfl)) yi (λb m=>(kY b m).imp id s3.free)
     exact⟨g',c1,c2,(λm=>(c3 l m).elim lg λq=>by rw[hl] at q;cases q),c3⟩
    |none=>
     rw[rX] at t8;have t8:=t8;subst t8;have hn:=(rO iF rs).2 rX;rw[hn];show ∃jg,Rep X.K H3 (.ins iU iz) zv jg/\jg.Nodup/\(∀b∈jg,b∈g0\/H b=none)/\∀H5 bg,aX H3 H5->(∀b o,b∉jg->H3 b=some o->H5 b=some o)->Rep X.K H5 d1 zv bg->bg.Nodup->(∀b∈bg,b∈jg\/H3 b=none)->
      ∃g',ay X.K (upd H5 l (.dT (putK f6 ks zv))) ((putD aj ks d1).map (·.2)) ((putK f6 ks zv).map (·.2)) g'/\g'.Nodup/\l∉g'/\∀b∈g',b∈g0\/H b=none
     refine⟨DP,rn,gn.1,λb m=>.inr (gn.2 b m),λH5 bg im kp r5 yi kY=>?_⟩;have nl:l∉DP:=λm=>by rw[gn.2 l m] at hl;cases hl
     have nV:=kp l _ nl (s3 _ _ hl);have vJ:∀b∈bg,H b=none:=λb m=>(kY b m).elim (gn.2 b) s3.free
     have zD:l∉bg:=λm=>by rw[vJ l m] at hl;cases hl
     have i6:aX H (upd H5 l (.dT (putK f6 ks zv))):=((aX.of s3).trans im).trans (aX.upd nV rfl);have n1:(aj.any λkv=>decide (kv.1=ks))=false:=by
      unfold bI at rX;rw[Option.map_eq_none_iff,List.find?_eq_none] at rX;exact List.any_eq_false.mpr rX
     have n2:(f6.any λkv=>decide (kv.1=ks))=false:=by
      rw[Fk,hn];rfl
     refine⟨g0++(bg++[]),?_,?_,λm=>?_,λb m=>?_⟩
     .unfold putD putK;rw[n1,n2,abf aaN,abf aaN,ad5,ad5];unfold putK at i6;rw[n2,abf aaN] at i6;refine ay.append (rs.frame (λb m=>?_) i6) (.cons (r5.frame (λb m=>aO (λq:b=l=>zD (q ▸ m))) (aX.upd nV rfl)) .nil);obtain⟨o,w,_⟩:=rs.dH b m;rw[aO (λq:b=l=>lg (q ▸ m)),kp b o (λq=>by rw[gn.2 b q] at w;cases w) (s3 b o w),w]
     .rw[abM];refine abL.mpr ⟨n0,yi,λa ma b mb e=>?_⟩;obtain⟨o,w,_⟩:=rs.dH a ma;rw[e,vJ b mb] at w;cases w
     .rw[abM] at m;exact(abb.mp m).elim lg zD
     .rw[abM] at m;exact(abb.mp m).imp id (vJ b)
   generalize(eg f6 ks).getD zv=v at hv ⊢;obtain⟨jg,rv,ndv,Hr,fin⟩:=hv;obtain⟨a,QE,Tq,gT,rfl,EX,t1,t2,t3,t4⟩:=rv.lX wD.ns;refine⟨.ref a,ac1 l3,a,QE,Tq,rfl,t1,qd t3 R0,.str wd,(by rw[abY (by decide)];exact jX),?_⟩;refine⟨a,[.str wd],_,jg,[.str wd],[],r,d1,rfl,rv,ndv,.cons (f1:=[]) (f2:=[]) (.str wd) .nil,(λb m=>nomatch m),eG,λH5 ut bg im kp r5 yi kY rr=>?_⟩;have nl:l∉jg:=λm=>(Hr l m).elim lg λq=>by rw[hl] at q;cases q
   have nV:H5 l=some (.dT f6):=kp l _ nl (s3 _ _ hl);have S8:b0∉jg:=λm=>(Hr b0 m).elim (λq=>nb (aal _ q)) λq=>by rw[a1] at q;cases q
   have Qs:H5 b0=some (.ins C dx fs):=kp b0 _ S8 (s3 _ _ a1);have hlv:f6.length=aj.length:=by have:=congrArg List.length iF;simpa using this.symm
   refine⟨.ref a,(by rw[abY (by decide)];exact ac1 l3),.ref b0,(by rw[abY (by decide),abY (by decide)];exact hs),b0,C,dx,fs,.ref l,rfl,Qs,hC.cl,na,a2,.ref bL,(by rw[abY (by decide),abY (by decide)];exact AX),l,_,rfl,
    .inr ⟨f6,ks,bL,nV,rfl,(Tk.aG HR ((aX.of s3).trans im)),(by rw[hlv];exact hlen),rfl⟩,?_⟩
   obtain⟨g',y1,y2,y3,y4⟩:=fin H5 bg im kp r5 yi kY;have i6:aX H (upd H5 l (.dT (putK f6 ks (.ref a)))):=((aX.of s3).trans im).trans (aX.upd nV rfl);have k6:∀b o,b∉l::g0->H b=some o->upd H5 l (.dT (putK f6 ks (.ref a))) b=some o:=λb o n e=>by
    rw[aO (λq=>n (by rw[q];exact aax))];exact kp b o (λm=>(Hr b m).elim (λq=>n (aal _ q)) λq=>by rw[e] at q;cases q) (s3 b o e)
   obtain⟨aeu,z1,z2,z3⟩:=a6 _ (.eS (putD aj ks d1)) (l::g') i6 k6 (.eS bT (Bb iF) y1) (abu.mpr ⟨y3,y2⟩) (λb m=>(aaM.mp m).elim (λq=>.inl (by rw[q];exact aax)) λm=>(y4 b m).imp (aal _) id);obtain⟨z',gP⟩:=ok.put e0 hs zz i6 (λb o n e=>k6 b o (λm=>n (a5 b m)) e) z1 z2 z3;have Ye:(bJ ρ 0 (.ins cn (dO fl (.eS (putD aj ks d1)) es)))[3]? = some none:=by unfold bJ;rw[abY (by decide),abW,e3];rfl
   refine(gP.blank (x:=some (.ref a)) Ye).stored (t:=.own) (i:=4) (aF.refl _) (rr.frame (λa m=>nomatch m) (aX.upd nV rfl)) .nil λz2 vZ=>?_
   exact sr vZ e (kE.of ((Kp.set a3.N k3).trans (Kp.set h4 k4)))
end
end L2.Ev
namespace L2
open PySem PySem.Spec PyProof.Rows
section
variable{X:Cx}
def R7(K:PySem.W.Frag):V->List V->Hp->VK->Prop:=λx vs H Q=>∃(l:Addr) (ts:List Int) (i:Int) (j:Nat),x=.ref l/\vs=[.int i]/\bS K H l (ts.map V.int)/\ts[j]? = some i/\(∀m,m<j->ts[m]?≠some i)/\Q (.int j) H
theorem Iw(i y:Int)(t:Tok):gu (.int i) (.int y t)=(y==i):=rfl
theorem V5:xw X "list.index" (R7 X.K):=by
 intro af s σ H x vs v us Q I rx rv h;obtain⟨l,ts,i,j,rfl,rfl,hq,hj,rP,q⟩:=h;cases rx;obtain⟨u,rfl,ru⟩:=vals1 rv;obtain⟨t,rfl⟩:=ru;obtain⟨ao,r,pl,hz⟩:=I.list hq;have hlen:=r.length;rw[aaf] at hlen hz;obtain⟨o,ho,hc,n,hd⟩:=pl.isList;obtain⟨c,dd,da,sl⟩:=o;cases hc;cases hd;have Zm:=(abU.mp hj).1;have nO:∀(m:Nat) (hm:m<ao.toArray.size),∃y t',ts[m]? = some y/\ao.toArray[m]=.int y t':=λm hm=>by
  have j7:m<ts.length:=by simp at hm;omega
  obtain⟨w,hw,dM⟩:=r.get (by rw[abW,aa0 j7];rfl);obtain⟨t',rfl⟩:=dM;refine⟨ts[m],t',aa0 j7,?_⟩;have:=(abU.mp hw).2;simpa using this
 have hsz:j<ao.toArray.size:=by simp;omega
 refine aeY F.slot_list_index ⟨_,ho,rfl⟩ F.entry_list_index (F.args_list_index_2 _ _) (SeqAt.list_indexAt l ao.toArray n dd sl (.int i t) (gu (.int i)) j hsz (by rw[aeg] at hz;omega) ?_ (λm hm dP=>?_)) ⟨ho,λw hw=>qL (x:=.int i) ⟨t,rfl⟩ rfl r (by rw[afa];exact acA.mpr λ_ _=>rfl) w (by simpa using hw),⟨.int j,H,I.tok _,⟨_,rfl⟩,q⟩⟩
 .obtain⟨y,t',h1,h2⟩:=nO j hsz;rw[h2,Iw];rw[hj] at h1;cases h1;exact adH _
 .obtain⟨y,t',h1,h2⟩:=nO m hm;rw[h2,Iw];refine aeA.mpr λe=>rP m dP ?_
  rw[h1,eq_of_beq e]
end
end L2
namespace L2
theorem aZ.m{j k:Nat}{A:PySem.Around}{cm:Bool}(r:aZ k A cm)(h:j<=k:=by decide):aZ j A cm:=r.mono h
end L2
namespace L2.Ev
open PySem PySem.Spec PyProof.Rows
section
variable{X:Cx}{a b:Expr}{fa fb:EF}{pos p2 p3:Pos}
def GC:D->D->Option D
 |.lst ds,.int i=>match dB ds with
  |some ts=>(ts.findIdx? (· == i)).map λj:Nat=>.int j
  |none=>none
 |_,_=>none
theorem WM(ha:FP X a fa)(hb:FP X b fb)(hs:starEach [b] X.env=[(false,eval b X.env)]:=by rfl)(i_:attributeBase a "index" X.env (eval a X.env)=eval a X.env:=by rfl)
  (jT:((backTo p3 (starEach [b] X.env)).all (λx=>!x.1)&&(backToKw p3 (keywordEach [] X.env)).all (λx=>x.1.isSome)&&decide ([b].length+([]:List Keyword).length+(if([]:List Keyword).isEmpty then 0 else 1)<30))=true:=by rfl)
  (jb:(p2.endLine==p3.line)=true:=by rfl):FP X (.Call (.Attribute a "index" p2) [b] [] p3) (e2 GC fa fb):=by
 obtain⟨ta,pa,sa⟩:=ha;obtain⟨tb,pb,sb⟩:=hb;exists 21,sX PySem.F.plainAttrs_list PySem.F.slot_list_index PySem.F.type_list_index V5 pa (bU pb dN hs) i_ jT jb hs rfl;obtain⟨d1,t1,d2,t2,e1,fY,e3,rfl⟩:=mJ e;refine sa ok e1 λH1 x f1 s1 r1 _=>?_
 cases d1 with
 |lst ds=>
  cases d2 with
  |int i=>
   have e3:(match dB ds with|some ts=>(ts.findIdx? (· == i)).map λj:Nat=>D.int j|none=>none)=some d:=e3;exists h,dB ds,ts,e3;dsimp only at e3;exists h2,ts.findIdx? (· == i),j,e3;cases e3;obtain⟨l0,Vk,f0,rfl,BU,TM,_⟩:=r1.dg;refine⟨.inl ⟨rfl,_,BU⟩,?_⟩;refine sb (ok.same s1) fY λH2 y f2 s2 r2 _=>?_
   obtain⟨rfl,_⟩:=r2.gO;have qC:=r1.same s2;obtain⟨l,xs,f,e0,hq,rs,_⟩:=qC.dg;cases e0;have hx:=pP rs h;subst hx;obtain⟨hj,hp,rP⟩:=List.findIdx?_eq_some_iff_getElem.mp h2;refine⟨l0,ts,i,j,rfl,rfl,hq,?_,λm hm em=>?_,k H2 _ [] (s1.trans s2) (.int _) ⟨abF,λa m=>nomatch m⟩⟩
   .rw[aa0 hj,eq_of_beq hp]
   .obtain⟨j7,e'⟩:=abU.mp em;exact rP m hm (by rw[e'];exact adH _)
  |_=>cases e3
 |_=>cases e3
end
end L2.Ev
namespace L2
open PySem PySem.Spec PyProof.Rows
theorem El{K:PySem.W.Frag}(h:vg K=true):∀r∈iC K,iC K=[r]/\PySem.W.codeHdIn K r.1 r.2.1=true/\K.lookup r.2.1=none:=λr m=>by
 have ok:=((aaL _ _).mp h).2
 split at ok
 .rename_i e;rw[e] at m;cases m
 .rename_i r' e;rw[e] at m;cases aaH.mp m;obtain⟨a,b⟩:=(aaL _ _).mp ok;exact⟨e,a,by simpa using b⟩
 .cases ok
def uW(K:PySem.W.Frag):Hp:=λb=>match iC K with
 |[r]=>if b=r.2.1 then some (.gZ r.2.2.1 r.2.2.2) else none
 |_=>none
theorem Yw{P:Program}{w:World}{K:PySem.W.Frag}{mg mb:Str->Option Value}{CX:jj}{k:Nat}{fa a:Addr}{fd:FuncData}{x:Str}{sp:Sp}{bE:Shared}{vs:List Value}{ns:List Int}
  (KX:K.In bE.heap) (vR:vg K=true) (wj:∀r∈iC K,bE.heap.get? r.2.1=some (PySem.W.tabObj #[])) (oA:bE.heap.Ns mainGlobals mg) (hb:bE.heap.Ns builtinsNs mb) (Rw:∀x:Str,x≠"__name__"->mb x=bootBuiltins x) (UE:bE.heap.NoLimit)
  (Xx:∃bm ob,mg "__builtins__"=some (.ref bm)/\bm≠builtinsNs/\bE.heap.get? bm=some ob/\ob.cls=.type "module"/\ob.dict=some builtinsNs/\ob.data=.plain) (hg:bE.gens=#[])
  (ha:bE.heap.get? a=some { cls:=.type "list",data:=.seq vs.toArray }) (hi:IntsAre vs ns) (hl:ns.length<=sizeLine) (hr:aZ k callerA)
  (F:∀base:Heap,K.In base->base.Ns mainGlobals mg->bN P w K mg base CX k fa fd [x] sp) (Ss:∀(s:Shared) (u:Value),BindsTo s fd ⟨[u],[]⟩ [(x,u)])
  (pF:∀H:Hp,Ev.oZ K H a (ns.map V.int)->sp [.ref a] H (λv _=>v=.bl true) λ_ _ _=>False) (GU:∀H e s',CX [] H bE (λ_ _ _=>False) e s'->False) :
  codeAny (model P w) callerA (.call (.ref fa) ⟨[.ref a],[]⟩) (λr s'=>r=.ok (.ret (.bool true))/\OldK bE.heap s'.heap/\s'.os=bE.os/\AllBare s'.gens) bE:=by
 have rv:=DC hi;have abx:=hi.length;have tab_of:∀{b:Addr}{u:HO},uW K b=some u->∃r∈iC K,b=r.2.1/\u=.gZ r.2.2.1 r.2.2.2:=λ{b u} e=>by
  unfold uW at e
  split at e
  .rename_i r er;obtain⟨h,e⟩:=ci e;cases e;exact⟨r,by rw[er];exact List.mem_singleton_self r,h,rfl⟩
  .cases e
 have Oo:∀r∈iC K,uW K r.2.1=some (.gZ r.2.2.1 r.2.2.2):=λr m=>by
  unfold uW;rw[(El vR r m).1];exact if_pos rfl
 have na:∀r∈iC K,r.2.1≠a:=λr m z=>by
  have:=wj r m;rw[z,ha] at this;cases this
 have core:∀H:Hp,Ev.oZ K H a (ns.map V.int)->(∀b u,H b=some u->(b=a/\K.lookup a=none/\u=.dY { cls:=.type "list",data:=.seq vs.toArray } (.lst (ns.map V.int)))\/∃r∈iC K,b=r.2.1/\u=.gZ r.2.2.1 r.2.2.2)->(∀r∈iC K,H r.2.1=some (.gZ r.2.2.1 r.2.2.2))->
   codeAny (model P w) callerA (.call (.ref fa) ⟨[.ref a],[]⟩) (λr s'=>r=.ok (.ret (.bool true))/\OldK bE.heap s'.heap/\s'.os=bE.os/\AllBare s'.gens) bE:=by
  intro H hS hA hL;have aD:cK P w H bE.heap:=λb u e=>by
   rcases hA b u e with⟨rfl,_,rfl⟩|⟨r,m,rfl,rfl⟩
   .exact⟨ha,by rw[aaf];exact hl,vs,_,rv,ha⟩
   .exact⟨#[],wj r m,.inl rfl⟩
  have free:∀{b:Addr}{o:Obj},bE.heap.get? b=some o->(∀xs n,o.data≠.seq xs n)->(∀xs,o.data≠.fields xs)->H b=none:=λ{b o} e d1 d2=>by
   cases q:H b with
   |none=>rfl
   |some u=>
    rcases hA b u q with⟨rfl,_,_⟩|⟨r,m,rfl,_⟩
    .rw[ha] at e;cases e;exact absurd rfl (d1 _ _)
    .rw[wj r m] at e;cases e;exact absurd rfl (d2 _)
  have z_:∀{b:Addr}{m:Str->Option Value},bE.heap.Ns b m->(pM bE.heap H).Ns b m:=λ{b m} ⟨o,es,ep,e,d,r⟩=>⟨o,es,ep,Cc e (free e (λ_ _ z=>by rw[d] at z;cases z) λ_ z=>by rw[d] at z;cases z),d,r⟩
  have K9:K.In (pM bE.heap H):=λb o e=>Cc (KX b o e) (by
   cases q:H b with
   |none=>rfl
   |some u=>
    rcases hA b u q with⟨rfl,z,_⟩|⟨r,m,rfl,_⟩
    .rw[z] at e;cases e
    .rw[(El vR r m).2.2] at e;cases e)
  obtain⟨bm,ob,b1,b2,b3,b4,b5,b6⟩:=Xx;have hM:Mod K mg (pM bE.heap H):=⟨K9,z_ oA,⟨mb,z_ hb,Rw⟩,let⟨mc,h1,h2⟩:=UE;⟨mc,z_ h1,h2⟩,bm,ob,b1,b2,Cc b3 (free b3 (λ_ _ z=>by rw[b6] at z;cases z) λ_ z=>by rw[b6] at z;cases z),b4,b5,b6⟩
  have e0:rE P w K mg (pM bE.heap H) callerA [] bE H:=⟨rfl,hM,λb o e=>Sb e,Nat.le_of_eq (Wh _ _),trivial,λb hb=>absurd (show b∈([]:List Addr) from hb) (by simp),aD,.of_eq hg,⟨.inl rfl,vR,hL⟩⟩
  refine aeV ((F _ K9 (z_ oA)).run callerA [] bE H ⟨[.ref a],[]⟩ [.ref a] [.ref a] _ _ hr e0 (Ss bE (.ref a)) (.cons rfl .nil) (pF H hS)) λr s' h=>?_
  cases r with
  |error e=>exact(GU H e s' h).elim
  |ok fl=>
   cases fl with
   |next=>exact False.elim h
   |brk=>exact False.elim h
   |cont=>exact False.elim h
   |ret u=>
    obtain⟨v,H',os,bare,un,ID,r',q⟩:=h;have q':=q;subst q';obtain rfl:u=Value.bool true:=r';refine⟨rfl,⟨λb o e=>?_,λb o e=>un.there b o e (by simp)⟩,os,bare⟩;cases q:H b with
    |none=>exact .inl (un.keep b o e q (by intro z;exact absurd (show b∈([]:List Addr) from z) (by simp)) (by simp))
    |some u=>
     rcases hA b u q with⟨rfl,_,rfl⟩|⟨r,m,rfl,rfl⟩
     .have z2:=un.jh b _ _ q;obtain⟨e1,_⟩:=aD b _ q;obtain⟨e2,_⟩:=ID b _ z2;rw[e] at e1;cases e1;exact .inl e2
     .have z2:=un.iZ r.2.1 (.gZ _ _) q;obtain⟨ps,e2,_⟩:=ID _ _ z2;rw[wj r m] at e;cases e;exact .inr (.inl ⟨((PySem.W.codeHd_of_K KX (El vR r m).2.1).tab (wj r m)).isCodeTable,rfl,#[],ps,rfl,by simpa using e2⟩)
 cases hk:K.lookup a with
 |some o=>
  have e:=KX a o hk;rw[ha] at e;cases e;refine core (uW K) (.inr ⟨_,vs.toArray,_,hk,rfl,rfl,rfl,by rw[aba,abx];exact hl,by simpa using rv⟩) (λb u z=>.inr (tab_of z)) Oo
 |none=>
  refine core (λb=>if b=a then some (.dY { cls:=.type "list",data:=.seq vs.toArray } (.lst (ns.map V.int))) else uW K b) (.inl ⟨{ cls:=.type "list",data:=.seq vs.toArray },if_pos rfl⟩) (λb u z=>?_) λr m=>(abf (na r m)).trans (Oo r m)
  by_cases hb:b=a
  .have z':=(if_pos hb).symm.trans z;cases z';exact .inl ⟨hb,hk,rfl⟩
  .exact .inr (tab_of ((abf hb).symm.trans z))
theorem Vf{l:PySem.W.OpenLaw}{XP:(Str->Option Value)->Heap->Prop}{YP:World->Heap->Prop}{K:Params->PySem.W.Frag}{CX:World->jj}{sp:World->Sp}
  (hn:l.most=some n) (zc:n<=sizeLine) (xE:d.params.defaults=[]) (hr:aZ k callerA) (hY:∀(w:World) (h:Heap),YP w h->(K w.params).In h) (hT:∀(w:World) (h:Heap),YP w h->∀r∈iC (K w.params),h.get? r.2.1=some (PySem.W.tabObj #[])) (hL:∀w:World,vg (K w.params)=true)
  (F:∀(w:World) (mg:Str->Option Value) (fa:Addr) (h:Heap),(K w.params).In h->h.Ns mainGlobals mg->mg d.name=some (.ref fa)->
   ∃fd:FuncData,(∀(s:Shared) (u:Value),BindsTo s fd ⟨[u],[]⟩ [(x,u)])/\∀base:Heap,(K w.params).In base->base.Ns mainGlobals mg->bN l.prog w (K w.params) mg base (CX w) k fa fd [x] (sp w))
  (pF:∀(w:World) (H:Hp) (a:Addr) (ns:List Int),ns.length<=n->Ev.oZ (K w.params) H a (ns.map V.int)->sp w [.ref a] H (λv _=>v=.bl true) λ_ _ _=>False)
  (GU:∀(w:World) (H:Hp) (s:Shared) (e:Value) (s':Shared),CX w [] H s (λ_ _ _=>False) e s'->False) :
  PySem.W.WalkO q loose XP YP l.row.toRowW d [] (λf vs=>PySem.call f vs):=by
 refine M7.ZP hn xE λw cI bE mg mb fa o pm cd doc a vs ns G Y ho hd gG vj Ft hints hlen hg=>?_
 obtain⟨fd,hb,hF⟩:=F w mg fa _ (hY w _ Y) G.T.g vj;exact Yw (hY w _ Y) (hL w) (hT w _ Y) G.T.g G.T.b G.T.builtins G.T.nolimit G.T.bmain hg Ft hints (aer hlen zc) hr hF hb (λH hS=>pF w H a ns hlen hS) λH e s'=>GU w H bE e s'
end L2
namespace L2.Ev
open PySem PySem.Spec PySem.W PyProof.Rows
structure Z where
 P:Program
 w:World
 K:Frag
 mg:Str->Option Value
 base:Heap
structure En(L:Ls)(z:Z):Prop where
 b:∀{x:Str},L.bt.contains x=true->z.mg x=none
 i:∀{x:Str}{n:Int},L.gi.lookup x=some n->∃t,z.mg x=some (.int n t)
 t:∀{x:Str}{l:List Str},L.tp.lookup x=some l->∃a,z.mg x=some (.ref a)/\Ab z.K a l
 c:∀c:Str,L.cl.contains c=true->ClsAt z.K c (cA z.K c)
 m:∀{c:Str},L.cl.contains c=true->z.mg c=some (.ref (cA z.K c))
 n:∀{c a:Str},L.na.contains (c,a)=true->ji z.K (cA z.K c) a
 ni:L.ni=true->vC z.K=true
 g:∀{c:Str},L.ex.contains c=true->nsIn z.K mainGlobals c=some (some (.ref (cA z.K c)))
 e:∀{c:Str},L.ex.contains c=true->z.mg c=some (.ref (cA z.K c))
 x:∀{c:Str},L.xc.contains c=true->yU z.K (cA z.K c)
 ct:∀{c:Str}{ns:List Str},L.ct.lookup c=some ns->VH z.K ns (cA z.K c)
 kt:∀{c:Str}{tb:List (Str×Bool)},L.kt.lookup c=some tb->yK z.K tb (kv z.K c)
 ki:∀{c:Str}{p:List Str×List (Str×Bool)},L.ki.lookup c=some p->J5 z.K p.2 (p.1.map (cA z.K))
def ig(s:Stmt):List Str:=(lW s).args.map (·.arg)
theorem Nm:∀{l:List Str}{us:List Value},us.map strOf=l.map some->aK (l.map V.str) us
 |[],[],_=>.nil
 |[],_::_,e=>nomatch e
 |_::_,[],e=>nomatch e
 |a::l,u::us,e=>by
  obtain⟨e1,e2⟩:=List.cons.inj e;refine .cons ?_ (Nm e2);cases u<;>cases e1
  exact⟨_,rfl⟩
theorem Yq{K:Frag}(q:ET K x l=true):∃a,nsIn K mainGlobals x=some (some (.ref a))/\Ab K a l:=by
 unfold ET at q
 split at q
 .rename_i a h;refine⟨a,h,?_⟩
  split at q
  .rename_i c ao n sl h1;simp only[aaL,aed,decide_eq_true_eq] at q;exact⟨_,ao,_,h1,q.1.1,rfl,rfl,q.1.2,Nm q.2⟩
  .cases q
 .cases q
theorem pH{β:Type}{y:β}:∀{l:List (Str×β)},l.lookup x=some y->(x,y)∈l
 |[],e=>nomatch e
 |(a,b)::l,e=>by
  rw[acL] at e
  by_cases h:(x==a)=true
  .rw[h] at e;cases e;rw[eq_of_beq h];exact .head _
  .rw[show(x==a)=false by simpa using h] at e;exact .tail _ (pH e)
theorem MQ{K:Frag}(h:ek K r=true):mZ K (cA K r):=by
 unfold ek at h;simp only[aaL,aed] at h;obtain⟨⟨⟨⟨⟨⟨h1,h2⟩,h3⟩,h4⟩,h5⟩,h6⟩,h7⟩:=h;exact⟨h1,h2,h3,h4,h5,h6,h7,Wx h6⟩
theorem Zs{L:Ls}{K:Frag}(X:K.In h)(G:h.Ns mainGlobals mg)(q:qB L K=true):En L ⟨P,w,K,mg,base⟩:=by
 unfold qB at q;simp only[aaL,acA,aed] at q;obtain⟨⟨⟨⟨⟨⟨qi,qx⟩,q1⟩,q2⟩,q3⟩,q4⟩,q5⟩:=q;unfold NC at qx;simp only[aaL,acA,aed,acZ] at qx;obtain⟨⟨⟨⟨x1,x2⟩,x3⟩,x4⟩,x5⟩:=qx;have cx:∀{r:Str}{C:Addr},r∈L.ex->nsIn K mainGlobals r=some (some (.ref C))->C=cA K r:=λm e=>by
  rw[x1 _ m] at e;cases e;rfl
 have cl:∀c:Str,L.cl.contains c=true->wX K c=true:=λc h=>q4 c (acZ.mp h)
 refine⟨λh=>mg_none_of X G (q1 _ (acZ.mp h)),λ{x n} h=>?_,λh=>?_,λc h=>?_,λ{c} h=>?_,λh=>q5 _ (acZ.mp h),λh=>?_,λh=>x1 _ (acZ.mp h),λh=>mg_of X G (x1 _ (acZ.mp h)),λh=>QZ (x2 _ (acZ.mp h)),λh cn C h1 hn=>?_,λh cn b C h1 hn=>?_,λh cn b C h1 hn=>?_⟩
 .have:=q2 _ (pH h);unfold JF at this
  split at this
  .rename_i m t e;cases eq_of_beq this;exact⟨t,mg_of X G e⟩
  .cases this
 .obtain⟨a,e,t⟩:=Yq (q3 _ (pH h));exact⟨a,mg_of X G e,t⟩
 .have:=cl c h;unfold wX at this;simp only[aaL,aed] at this;obtain⟨⟨⟨⟨⟨⟨h1,h2⟩,h3⟩,h4⟩,h5⟩,_⟩,_⟩:=this;exact⟨h1,⟨h2,h3,h4,h5⟩⟩
 .have:=cl c h;unfold wX at this;simp only[aaL,aed] at this;exact mg_of X G this.1.1.1.1.1.1
 .rw[h] at qi;exact qi
 .obtain⟨⟨a1,a2⟩,a3⟩:=x3 _ (pH h);obtain⟨⟨b1,b2⟩,b3⟩:=a3 cn (acZ.mp h1);cases cx b2 hn;exact VB (KJ (x2 _ b1)) (KJ (x2 _ a1)) b3 a2
 .obtain⟨⟨a1,a2⟩,a3⟩:=x4 _ (pH h) _ (pH h1);cases cx a1 hn;exact⟨MQ a2,a3⟩
 .obtain⟨⟨a1,a2⟩,a3⟩:=x5 _ (pH h) _ (pH h1);cases cx a1 hn;exact⟨MQ a2,a3⟩
theorem TV{L:Ls}{K:Frag}(q:qB L K=true)(h:L.cl.contains c=true):makesIn K (cA K c)=true/\keepIn K (.ref (cA K c))=true:=by
 unfold qB at q;simp only[aaL,acA] at q;have:=q.1.2 c (acZ.mp h);unfold wX at this;simp only[aaL] at this;exact⟨this.1.2,this.2⟩
theorem M_{K:Frag}{v:Option (Option Value)}(e:De K q v=some (fnOf x q (lW s) (fZ s) (b_ s) .none .none .none .none none .none .none)):∃f,v=some (some (.ref f))/\isFn K (.ref f)=true/\GL K x q s f:=by
 unfold De at e
 split at e
 .rename_i a
  split at e
  .rename_i oc od fd sl h;obtain⟨hc,e⟩:=ci e;simp only[aaL] at hc;refine⟨a,rfl,hc.2,?_⟩;obtain⟨n,qn,pa,bo,sc,gl,cl,df,kw,dc,pm,an,cd,ct,bi⟩:=fd;unfold Nj at e;injection e with e;injection e with e1 e2 e3 e4 e5 e6 e7 e8 e9 e10 MA e12 e13 e14 Y5;subst e1 e2 e3 e4 e5 e6 e7 e8 Y5;exact⟨_,_,_,_,_,_,_,_,_,h,hc.1.1,hc.1.2⟩
  .cases e
 .cases e
theorem HS{K:Frag}{tab:List (Str×Stmt)}{i:Nat}{p:Str×Stmt}(t:tab.map (look K)=tab.map want)(e:tab[i]? = some p):look K p=want p:=by
 have:=congrArg (·[i]?) t;simp only[abW,e,Option.map_some] at this;exact abi this
theorem Fw{K:Frag}{tab:List (Str×Stmt)}(i:Nat){s:Stmt}(t:tab.map (look K)=tab.map want)(e:tab[i]? = some (Str.empty,s)):zR K (fW s) s:=by
 obtain⟨f,h,_,g⟩:=M_ (HS t e);exact⟨f,h,g⟩
theorem Cp{K:Frag}{tab:List (Str×Stmt)}(i:Nat){c:Str}{s:Stmt}(t:tab.map (look K)=tab.map want)(e:tab[i]? = some (c,s))(n:(c==Str.empty)=false):GM K (cA K c) (fW s) (gk c s) s:=by
 obtain⟨f,h,i,g⟩:=M_ (HS t e);refine⟨f,?_,i,g⟩;rw[n] at h;exact h
section
variable(z:Z)(k:Nat)(c:Str)(s:Stmt)(sp:Frag->Sp)(cm:Bool:=true)
def Z.D:Prop:=∀(f:Addr) (fd:FuncData),gJ z.K (fW s) (gk c s) s f fd->bN z.P z.w z.K z.mg z.base cE k f fd (ig s) (sp z.K) cm
def Z.DR:Prop:=∀(f:Addr) (fd:FuncData),gJ z.K (fW s) (gk c s) s f fd->bN z.P z.w z.K z.mg z.base (gS z.P z.w) k f fd (ig s) (sp z.K) cm
def Z.N:Prop:=FN z.P z.w z.K z.mg z.base cE k (fW s) (ig s) (sp z.K) cm
def Z.M:Prop:=MT z.P z.w z.K z.mg z.base cE k (cA z.K c) (fW s) (ig s) (sp z.K) cm
def Z.MR:Prop:=MT z.P z.w z.K z.mg z.base (gS z.P z.w) k (cA z.K c) (fW s) (ig s) (sp z.K) cm
def Z.I:Prop:=MI z.P z.w z.K z.mg z.base cE k (cA z.K c) (ig s) (sp z.K) cm
end
section
variable{P:Program}{w:World}{K:Frag}{mg:Str->Option Value}{base:Heap}{CX:jj}{k:Nat}{C:Addr}{x:Str}{ps:List Str}{sp:Sp}{cm:Bool}
theorem FN.G(W:FN P w K mg base CX k x ps sp cm):bN P w K mg base CX k W.choose W.choose_spec.choose ps sp cm:=W.choose_spec.choose_spec.1
theorem FN.m(W:FN P w K mg base CX k x ps sp cm):mg x=some (.ref W.choose):=W.choose_spec.choose_spec.2.1
theorem FN.kp(W:FN P w K mg base CX k x ps sp cm):keepIn K (.ref W.choose)=true:=W.choose_spec.choose_spec.2.2.1
theorem FN.b(W:FN P w K mg base CX k x ps sp cm):Binds K W.choose_spec.choose ps []:=W.choose_spec.choose_spec.2.2.2
theorem MT.G(W:MT P w K mg base CX k C x ps sp cm):bN P w K mg base CX k W.choose W.choose_spec.choose ps sp cm:=W.choose_spec.choose_spec.1
theorem MT.b(W:MT P w K mg base CX k C x ps sp cm):Binds K W.choose_spec.choose ps []:=W.choose_spec.choose_spec.2.1
theorem MT.t(W:MT P w K mg base CX k C x ps sp cm):j6 K C x W.choose:=W.choose_spec.choose_spec.2.2
theorem MI.G(W:MI P w K mg base CX k C ps sp cm):bN P w K mg base CX k W.choose W.choose_spec.choose ps sp cm:=W.choose_spec.choose_spec.1
theorem MI.b(W:MI P w K mg base CX k C ps sp cm):Binds K W.choose_spec.choose ps []:=W.choose_spec.choose_spec.2.1
theorem MI.M(W:MI P w K mg base CX k C ps sp cm):Mk K C W.choose:=W.choose_spec.choose_spec.2.2
end
def ia(s:Stmt):List Str:=(b_ s).names.filterMap λy=>if y.2 == .local||y.2 == .cell then some y.1 else none
def sY(n m:Nat)(s:Stmt):Prop:=mF (ia s) (ig s) (b_ s)/\(ig s).length=n/\(ia s).length=m/\n<=m
section
variable{z:Z}{k n m:Nat}{c:Str}{s:Stmt}{b:SF}{x0 x1:Str}
theorem Z.oF(S:sY n m s)(h:∀(f:Addr) (fd:FuncData) (aR:{c:Value // c=fd.code}) (A:Around) (o:List Env) (t:Shared) (H:Hp) (E:XK),aZ k (A.deeper (envOfC (gk c s) (b_ s) t.heap.objs.size f aR)) cm->(ia s).Nodup->FS (e_ cE z.P z.w z.K z.mg z.base (ia s) (gk c s) (b_ s) f aR A o t H E cm).gz (fZ s) b):
  z.D (k+1) c s (bx · (bV n m b)) cm:=by
 obtain⟨S,rfl,rfl,_⟩:=S;exact λ_ _ F=>Fd F S λaR A o t H E hr=>h _ _ aR A o t H E hr S.nd
theorem Z.oQ(S:sY n m s)(h0:(ia s)[0]? = some x0)(h:∀(f:Addr) (aR:Value) (A:Around) (o:List Env) (t:Shared) (H:Hp) (E:XK),aZ k (A.deeper (envOfC (gk c s) (b_ s) t.heap.objs.size f aR))->(ia s).Nodup->ly im ((e_ cE z.P z.w z.K z.mg z.base (ia s) (gk c s) (b_ s) f aR A o t H E).gz.mD [x0]) (fZ s) b):
  z.D (k+1) c s (yM im · (runM n m b)):=by
 obtain⟨S,rfl,rfl,l⟩:=S;exact λ_ _ F=>Uw F S h0 λaR A o t H E hr=>h _ aR A o t H E hr S.nd
theorem Z.oM(S:sY n m s)(h0:(ia s)[0]? = some x0)(h:∀(f:Addr) (aR:Value) (A:Around) (o:List Env) (t:Shared) (H:Hp) (E:XK),aZ k (A.deeper (envOfC (gk c s) (b_ s) t.heap.objs.size f aR))->(ia s).Nodup->ly true ((e_ cE z.P z.w z.K z.mg z.base (ia s) (gk c s) (b_ s) f aR A o t H E).gz.mD [x0]) (fZ s) b):
  z.D (k+1) c s (c_ · (runM n m b)):=λ_ _ F=>(Z.oQ S h0 h _ _ F).imp Xh
theorem Z.oP(S:sY n m s)(h0:(ia s)[0]? = some x0)(h:∀(f:Addr) (aR:Value) (A:Around) (o:List Env) (t:Shared) (H:Hp) (E:XK),aZ k (A.deeper (envOfC (gk c s) (b_ s) t.heap.objs.size f aR))->(ia s).Nodup->ly false ((e_ cE z.P z.w z.K z.mg z.base (ia s) (gk c s) (b_ s) f aR A o t H E).gz.mD [x0]) (fZ s) b):
  z.D (k+1) c s (oz · (runM n m b)):=λ_ _ F=>(Z.oQ S h0 h _ _ F).imp QC
theorem Z.oC(S:sY n m s)(h:∀(f:Addr) (fd:FuncData) (aR:{c:Value // c=fd.code}) (A:Around) (o:List Env) (t:Shared) (H:Hp) (E:XK),aZ k (A.deeper (envOfC (gk c s) (b_ s) t.heap.objs.size f aR)) cm->(ia s).Nodup->FS (e_ cE z.P z.w z.K z.mg z.base (ia s) (gk c s) (b_ s) f aR A o t H E cm).gz (fZ s) b):
  z.D (k+1) c s (qo · (runC n m b)) cm:=by
 obtain⟨S,rfl,rfl,_⟩:=S;exact λ_ _ F=>Je F S λaR A o t H E hr=>h _ _ aR A o t H E hr S.nd
theorem Z.oR(S:sY n m s)(h:∀(f:Addr) (aR:Value) (A:Around) (o:List Env) (t:Shared) (H:Hp) (E:XK),aZ k (A.deeper (envOfC (gk c s) (b_ s) t.heap.objs.size f aR))->(ia s).Nodup->FS (e_ (gS z.P z.w) z.P z.w z.K z.mg z.base (ia s) (gk c s) (b_ s) f aR A o t H E) (fZ s) b):
  z.DR (k+1) c s (rR · (uL n m b)):=by
 obtain⟨S,rfl,rfl,l⟩:=S;exact λ_ _ F=>aa8 F S l λaR A o t H E hr=>h _ aR A o t H E hr S.nd
end
section
variable{P:Program}{w:World}{K:Frag}{h:Heap}{mg:Str->Option Value}{base:Heap}{k:Nat}{c:Str}{s:Stmt}{sp:Frag->Sp}{cm:Bool}{tab:List (Str×Stmt)}{L:Ls}
theorem fU(X:K.In h)(G:h.Ns mainGlobals mg)(t:tab.map (look K)=tab.map want)(i:Nat)(o:Z.D ⟨P,w,K,mg,base⟩ k Str.empty s sp cm)(b:BA (fW s) (fW s) s (ig s):=by walk_at "ba")(e:tab[i]? = some (Str.empty,s):=by rfl):Z.N ⟨P,w,K,mg,base⟩ k s sp cm:=fnW X G (Fw i t e) (λF=>o _ _ F) b
theorem dz(t:tab.map (look K)=tab.map want)(i:Nat)(o:Z.D ⟨P,w,K,mg,base⟩ k c s sp cm)(b:BA (fW s) (gk c s) s (ig s):=by walk_at "ba")(e:tab[i]? = some (c,s):=by rfl)(n:(c==Str.empty)=false:=by rfl):Z.M ⟨P,w,K,mg,base⟩ k c s sp cm:=N6 (Cp i t e n) (λF=>o _ _ F) b
theorem WL(t:tab.map (look K)=tab.map want)(i:Nat)(o:Z.DR ⟨P,w,K,mg,base⟩ k c s sp cm)(b:BA (fW s) (gk c s) s (ig s):=by walk_at "ba")(e:tab[i]? = some (c,s):=by rfl)(n:(c==Str.empty)=false:=by rfl):Z.MR ⟨P,w,K,mg,base⟩ k c s sp cm:=N6 (Cp i t e n) (λF=>o _ _ F) b
theorem CO(t:tab.map (look K)=tab.map want)(q:qB L K=true)(i:Nat)(o:Z.D ⟨P,w,K,mg,base⟩ k c s sp cm)(b:BA (fW s) (gk c s) s (ig s):=by walk_at "ba")(e:tab[i]? = some (c,s):=by rfl)(n:(c==Str.empty)=false:=by rfl)(y:fW s="__init__":=by rfl)(v:L.cl.contains c=true:=by rfl):Z.I ⟨P,w,K,mg,base⟩ k c s sp cm:=by
 have l:=Cp i t e n;obtain⟨a,b'⟩:=TV q v;obtain⟨f,e1,i,l⟩:=l;obtain⟨kp,fd,F⟩:=yS l;rw[y] at e1;exact⟨f,fd,o _ _ F,F.binds b,⟨a,e1,i,b'⟩⟩
end
section
variable{x q:Str}{st:Stmt}{ps:List Str}
theorem ba_n(n:Nat)(h:ps.length=n)(e:∀(kV doc pm:Value) (an:Option Addr) (aR ct:Value) (f:Fin n->Value),bindArgs (fnOf x q (lW st) (fZ st) (b_ st) .none kV doc pm an aR ct) ⟨List.ofFn f,[]⟩=pure (ps.zip (List.ofFn f))):BA x q st ps:=λkV doc pm an aR ct us hl=>by
 obtain rfl:=hl.trans h;have:=e kV doc pm an aR ct λi=>us[(i:Nat)]
 rwa [List.ofFn_getElem] at this
end
section
variable{X:Cx}{pos:Pos}
theorem nC{x:Str}{n:Int}(h:∃t,X.mg x=some (.int n t))(hg:GD X x:=by exact⟨rfl,by decide⟩):FP X (.Name x pos) (eC (.int n)):=let⟨_,h⟩:=h;X7 h hg
theorem Nn{x:Str}{ys:List Str}(h:∃t,X.mg x=some (.ref t)/\Ab X.K t ys)(hg:GD X x:=by exact⟨rfl,by decide⟩):FP X (.Name x pos) (eC (.tup (ys.map D.str))):=let⟨_,h,t⟩:=h;VR h t hg
end
theorem iE{X:Cx}{sc:Scope}{M:List Str}{js:List (Option Nat)}(h3:X.env.kindOf=λx=>X.env.scope.names.lookup x)(h:xC X.N X.env.scope sc M js=true):nG X M js sc:=Zy rfl rfl h3 h
section
variable{A:Z->Prop}{k:Nat}{c:Str}{s:Stmt}{cm:Bool}
noncomputable abbrev wF{F:List D->Option D}(_:∀z,A z->z.D k c s (bx · F) cm)(z:Z):Prop:=z.N k s (bx · F) cm
noncomputable abbrev wP{F:MF}(_:∀z,A z->z.D k c s (oz · F) cm)(z:Z):Prop:=z.N k s (oz · F) cm
noncomputable abbrev wQ{F:CF}(_:∀z,A z->z.D k c s (qo · F) cm)(z:Z):Prop:=z.N k s (qo · F) cm
noncomputable abbrev wG{F:List D->Option D}(_:∀z,A z->z.D k c s (bx · F) cm)(z:Z):Prop:=z.M k c s (bx · F) cm
noncomputable abbrev wO{F:MF}(_:∀z,A z->z.D k c s (c_ · F) cm)(z:Z):Prop:=z.M k c s (c_ · F) cm
noncomputable abbrev wI{F:MF}(_:∀z,A z->z.D k c s (c_ · F) cm)(z:Z):Prop:=z.I k c s (c_ · F) cm
noncomputable abbrev wR{F:List D->Option Rz}(_:∀z,A z->z.DR k c s (rR · F) cm)(z:Z):Prop:=z.MR k c s (rR · F) cm
noncomputable abbrev fF{F:List D->Option D}(_:∀z,A z->z.D k c s (bx · F) cm):List D->Option D:=F
noncomputable abbrev fO{F:MF}(_:∀z,A z->z.D k c s (c_ · F) cm):MF:=F
noncomputable abbrev fP{F:MF}(_:∀z,A z->z.D k c s (oz · F) cm):MF:=F
noncomputable abbrev fQ{F:CF}(_:∀z,A z->z.D k c s (qo · F) cm):CF:=F
noncomputable abbrev fR{F:List D->Option Rz}(_:∀z,A z->z.DR k c s (rR · F) cm):List D->Option Rz:=F
end
end L2.Ev
namespace K46
open PySem L2 L2.Ev
local macro_rules | `(tactic| walk_at "s")=>`(tactic| exact ⟨⟨rfl,rfl,rfl,by decide +kernel,rfl,by decide +kernel,by decide +kernel⟩,rfl,rfl,by decide⟩)
set_option hygiene false
local macro_rules | `(tactic| exists 1,$a)=>`(tactic| exact Z.oF (by walk_at "s") fun _ _ _ _ _ _ _ _ hr nd=>by exact $a)
local macro_rules | `(tactic| exists 2,$a)=>`(tactic| exact Z.oM (by walk_at "s") rfl fun _ _ _ _ _ _ _ hr nd=>by exact $a)
local macro_rules | `(tactic| exists 3,$a)=>`(tactic| exact Z.oP (by walk_at "s") rfl fun _ _ _ _ _ _ _ hr nd=>by exact $a)
local macro_rules | `(tactic| exists 4,$a)=>`(tactic| exact Z.oC (by walk_at "s") fun _ _ _ _ _ _ _ _ hr nd=>by exact $a)
local macro_rules | `(tactic| exists 5,$a)=>`(tactic| exact Z.oR (by walk_at "s") fun _ _ _ _ _ _ _ hr nd=>by exact $a)
set_option hygiene true
theorem eW{z:Z}(E:En L z):ClsAt z.K "Changes" (cA z.K "Changes"):=E.c _ rfl
theorem aH{z:Z}(E:En L z):ClsAt z.K "Gate" (cA z.K "Gate"):=E.c _ rfl
theorem ja{z:Z}(E:En L z):ClsAt z.K "Tally" (cA z.K "Tally"):=E.c _ rfl
theorem Ql(z:Z)(E:En L z):z.D 1 Str.empty (top 50) (xG · gj):=λ_ _ F=>F.ok ⟨rfl,rfl,rfl,by decide +kernel,rfl,by decide +kernel,by decide +kernel⟩ (λvs H Q E h=>NR h) λaR A outer s H vs Q E' hr h=>Wf (N:=["_law_left","_law_many"]) rfl (jU (fX (E.b rfl) (ai 0)) aU) Hx (wA abS (Zk PySem.F.plainAttrs_list PySem.F.slot_list_pop PySem.F.type_list_pop RA (Dl rfl (Or.inl rfl))) (Dl rfl (Or.inl rfl))) h
def Mi(z:Z):Prop:=z.N 1 (top 50) (xG · gj)
def BG:SF:=(dw (jM (e1 (jK "int") (ah 0)) (jM (e1 A0 (e1 (jK "bool") (ah 0))) (oU oLe oLe (ah 1) (ah 0) (ah 2)))))
def Df:=λ(z:Z) (E:En L z)=>(by exists 1,(aQ (bC (l9 (pI Jo (E.b rfl) (E.b rfl) (ai 0)) (l9 (Jj (pI Iu (E.b rfl) (E.b rfl) (ai 0))) (m7 (V1 (ai 1) (ai 0) (ai 2))))))):z.D 1 Str.empty (top 13) (bx · (bV 3 3 BG)))
abbrev n_:=fF Df
def u_:=wF Df
def D9:SF:=(dw (jM (cM n_ (aq (ah 1) (aq (eC (.int 1)) (aq (eC (.int 20)) aA)))) (cM n_ (aq (ah 0) (aq (eC (.int 1)) (aq (ah 1) aA))))))
def C9:=λ(z:Z) (E:En L z/\u_ z)=>(by obtain⟨E,p⟩:=E;exists 1,(aQ (bC (l9 (cQ p.G hr.m p.m p.kp p.b (au (ai 1) (au aU (au (nC (E.i rfl)) aI)))) (m7 (cQ p.G hr.m p.m p.kp p.b (au (ai 0) (au aU (au (ai 1) aI)))))))):z.D 2 Str.empty (top 43) (bx · (bV 2 2 D9)))
abbrev uY:=fF C9
def JO:=wF C9
def L7:=λ(z:Z) (E:En L z)=>(by exists 2,(cu (bH (eV 0 (eW E) (E.n rfl) (fC aI)))):z.D 1 "Changes" (inClass (top 27) 0) (c_ · (runM 1 1 _)))
def Ue:=wI L7
def F0:=λ(z:Z) (E:En L z/\JO z/\u_ z/\Ue z)=>(by obtain⟨E,p,q,u⟩:=E;exists 2,(bh (eN (iD (FW.ft (ou (dX (cQ q.G hr.m q.m q.kp q.b (au (ai 1) (au aU (au (nC (E.i rfl)) aI))))) (ou (dX (cQ q.G hr.m q.m q.kp q.b (au (ai 2) (au aU (au (nC (E.i rfl)) aI))))) (rQ (dX (cQ p.G hr.m p.m p.kp p.b (au (ai 3) (au (ai 4) aI))))))))) (cu nI) fS) (bh (bH (eV 0 (aH E) (E.n rfl) (jA (au (ai 1) (au (ai 2) (au (ai 3) (au (ai 4) aI))))))) (bh (bH (eV 0 (aH E) (E.n rfl) (Zq (eW E).ns u.M u.G hr.m (E.m rfl) u.b))) (bh (bH (eV 0 (aH E) (E.n rfl) (fC aI))) (bh (bH (eV 0 (aH E) (E.n rfl) (fC aI))) (bh (bH (eV 0 (aH E) (E.n rfl) Xq)) (bh (bH (eV 0 (aH E) (E.n rfl) ZW)) (bh (bH (eV 0 (aH E) (E.n rfl) (fC aI))) (bh (bH (eV 0 (aH E) (E.n rfl) fq)) (bh (bH (eV 0 (aH E) (E.n rfl) (fC aI))) (bh (bH (eV 0 (aH E) (E.n rfl) (fC aI))) (bh (bH (eV 0 (aH E) (E.n rfl) aU)) (cu (bH (eV 0 (aH E) (E.n rfl) aU))))))))))))))):z.D 3 "Gate" (inClass (top 48) 0) (c_ · (runM 5 5 _)))
abbrev LS:=fO F0
def adA:=wI F0
def PB:=λ(z:Z) (E:En L z)=>(by exists 1,(aQ (bC (xU rfl (E.b rfl) (jw (M:=["low","high"]) (js:=[none,none]) (iE rfl (by kernel_rfl)) rfl (KU (E.b rfl) (ai 0) (Dg CN FL (ai 0))) (by decide) λs3 H3 fp=>⟨(tX rfl (iS (cL 0 (aa3 rfl)) (iS (cL 1 (aa3 rfl)) uD))),mS,(Mb (ai 0) (ai 1))⟩)))):z.D 1 Str.empty (top 14) (bx · (bV 1 1 _)))
def Mr:=wF PB
def E7:=λ(z:Z) (E:En L z)=>(by exists 1,(aQ (bC (fX (E.b rfl) (bR (eW E) (E.n rfl) (ai 0))))):z.D 1 "Changes" (inClass (top 27) 2) (bx · (bV 1 1 _)))
abbrev Gh:=fF E7
def C_:=wG E7
def Ef:=λ(z:Z) (E:En L z/\u_ z/\C_ z)=>(by obtain⟨E,p,q⟩:=E;exists 1,(aQ (bC (cQ p.G hr.m p.m p.kp p.b (au (ai 1) (au aU (au (eO (eW E) q.t q.G hr.m q.b (ai 0)) aI)))))):z.D 2 "Changes" (inClass (top 27) 9) (bx · (bV 2 2 _)))
abbrev OJ:=fF Ef
def Fb:=wG Ef
def MO:=λ(z:Z) (E:En L z/\u_ z/\Mr z)=>(by obtain⟨E,p,q⟩:=E;exists 1,(aV (kU rfl (gA (ai 0)) (tX rfl (iS (cL 1 nd) (iS (cL 2 nd) (iS (cL 3 nd) uD)))) (aV (eK (iD (FW.ft (ou (dX (cQ p.G hr.m p.m p.kp p.b (au (ai 1) (au aU (au (nC (E.i rfl)) aI))))) (rQ (dX (cQ p.G hr.m p.m p.kp p.b (au (ai 2) (au aU (au (nC (E.i rfl)) aI))))))))) (aQ (bC fq)) d8) (aQ (eK (FW.ft (pO (iD (dX (cQ p.G hr.m p.m p.kp p.b (au (ai 3) (au aU (au (nC (E.i rfl)) aI)))))) (qK (jU (ai 2) (ai 3))))) (aQ (bC fq)) d8)))) (aQ (bC (cQ q.G hr.m q.m q.kp q.b (au (jw (M:=["edit"]) (js:=[none]) (iE rfl (by kernel_rfl)) rfl (gA (ai 0)) (by decide) λs3 H3 fp=>⟨(cL 0 (aa3 rfl)),mS,(gc (ai 0) aU)⟩) aI))))):z.D 2 Str.empty (top 20) (bx · (bV 1 4 _)))
def Uo:=wF MO
def Fc:=λ(z:Z) (E:En L z/\u_ z/\Mr z/\Fb z/\Uo z)=>(by obtain⟨E,p,q,u,v⟩:=E;exists 1,(aV (eK (iD (dX (cQ p.G hr.m p.m p.kp p.b (au (ai 1) (au aU (au (nC (E.i rfl)) aI)))))) (aQ (bC fq)) d8) (aV (eK (FW.ft (pO (iD (dX (xU rfl (E.b rfl) (jw (M:=["lean","self"]) (js:=[none,some 0]) (iE rfl (by kernel_rfl)) rfl (gA (ai 2)) (by decide) λs3 H3 fp=>⟨(cL 0 (aa3 rfl)),mS,(fE (eW E) u.t u.G hr.m u.b (ai 1) (au (ai 0) aI))⟩)))) (qK (iD (dX (cQ q.G hr.m q.m q.kp q.b (au (ai 2) aI))))))) (aQ (bC fq)) d8) (aQ (bC (l9 (Zg (fX (E.b rfl) (ai 3)) (nC (E.i rfl))) (m7 (cQ v.G hr.m v.m v.kp v.b (au (ai 3) aI)))))))):z.D 3 "Changes" (inClass (top 27) 11) (bx · (bV 4 4 _)))
abbrev YW:=fF Fc
def adx:=wG Fc
def BZ:=λ(z:Z) (E:En L z/\adx z/\C_ z)=>(by obtain⟨E,p,q⟩:=E;exists 2,(bh (eN (iD (dX (fE (eW E) p.t p.G hr.m p.b (ai 0) (au (ai 1) (au (ai 2) (au (ai 3) aI)))))) (cu nI) fS) (bh (eN (Bk (eO (eW E) q.t q.G hr.m q.b (ai 0)) (nC (E.i rfl))) (cu nI) fS) (bh (bH (Aq 0 (eW E) (E.n rfl) (jA (au (ai 1) (au (yl (E.b rfl) (ai 2)) (au (yl (E.b rfl) (jw (M:=["edit"]) (js:=[none]) (iE rfl (by kernel_rfl)) rfl (gA (ai 3)) (by decide) λs3 H3 fp=>⟨(cL 0 (aa3 rfl)),mS,(yl (E.b rfl) (ai 0))⟩)) aI)))))) (cu (jy (eO (eW E) q.t q.G hr.m q.b (ai 0))))))):z.D 4 "Changes" (inClass (top 27) 1) (c_ · (runM 4 4 _)))
abbrev Bl:=fO BZ
def Y0:=wO BZ
def D5:=λ(z:Z) (E:En L z)=>(by exists 1,(aQ (bC (l9 (Of (ai 1) (bR (aH E) (E.n rfl) (ai 0))) (l9 (Of (ai 1) (bR (aH E) (E.n rfl) (ai 0))) (m7 (WY (iT hr) (ai 1) (bR (aH E) (E.n rfl) (ai 0)))))))):z.D 1 "Gate" (inClass (top 48) 19) (bx · (bV 2 2 _)))
abbrev BD:=fF D5
def QG:=wG D5
def Eh:=λ(z:Z) (E:En L z/\C_ z/\QG z)=>(by obtain⟨E,p,q⟩:=E;exists 1,(aQ (bC (jw (M:=["number","self"]) (js:=[none,some 0]) (iE rfl (by kernel_rfl)) rfl (DQ (E.b rfl) aU (qG (eO (eW E) p.t p.G hr.m p.b (bR (aH E) (E.n rfl) (ai 0))) aU)) (by decide) λs3 H3 fp=>⟨(cL 0 (aa3 rfl)),(rY (dX (fE (aH E) q.t q.G hr.m q.b (ai 1) (au (ai 0) aI)))),(ai 0)⟩))):z.D 2 "Gate" (inClass (top 48) 8) (bx · (bV 1 1 _)))
abbrev Ew:=fF Eh
def Ht:=wG Eh
def EN:=λ(z:Z) (E:En L z/\Fb z)=>(by obtain⟨E,p⟩:=E;exists 1,(aV (eK (iD (dX (fE (eW E) p.t p.G hr.m p.b (ai 0) (au (ai 1) aI)))) (aQ mE) d8) (aQ (bC (gc (bR (eW E) (E.n rfl) (ai 0)) (vG (ai 1) aU))))):z.D 3 "Changes" (inClass (top 27) 10) (bx · (bV 2 2 _)))
abbrev adM:=fF EN
def Em:=wG EN
def Eg:=λ(z:Z) (E:En L z/\Em z)=>(by obtain⟨E,p⟩:=E;exists 1,(aQ (bC (kq (E.b rfl) (gc (fE (eW E) p.t p.G hr.m p.b (ai 0) (au (ai 1) aI)) aU)))):z.D 4 "Changes" (inClass (top 27) 4) (bx · (bV 2 2 _)))
abbrev B4:=fF Eg
def LZ:=wG Eg
def E_:=λ(z:Z) (E:En L z/\Ht z/\LZ z)=>(by obtain⟨E,p,q⟩:=E;exists 2,(cu (bH (kU rfl (gA (eO (aH E) p.t p.G hr.m p.b (ai 0))) (cL 1 nd) (aV (DB 2 (hN:=nd) (M:=["lean","self"]) (js:=[none,some 0]) (iE rfl (by kernel_rfl)) rfl (gA (fE (eW E) q.t q.G hr.m q.b (bR (aH E) (E.n rfl) (ai 0)) (au (ai 1) aI))) (by decide) λs3 H3 fp=>⟨(cL 0 (aa3 rfl)),(rY (Ke (iT hr) (ai 0) (bR (aH E) (E.n rfl) (ai 1)))),(ai 0)⟩) (aQ (eK (Kz (ai 2)) (aQ (zQ 0 (iT hr) (aH E) (E.n rfl) (ai 1) (jA (au c9 (au (gc (ai 2) aU) aI))))) d8)))))):z.D 5 "Gate" (inClass (top 48) 24) (c_ · (runM 1 3 _)))
abbrev Cn:=fO E_
def Xu:=wO E_
def F5:SF:=(aS (cH (tV (e2 rS (e2 u6 (bz "Tally" "heard" (ah 0)) (eC (.str "yes"))) (bz "Tally" "need" (ah 0)))) (dw (eC (.str "yes"))) cz) (aS (cH (tV (e2 rS (e2 u6 (bz "Tally" "heard" (ah 0)) (eC (.str "no"))) (bz "Tally" "need" (ah 0)))) (dw (eC (.str "no"))) cz) (aS (cH (tV (e2 rS (e1 cX (bz "Tally" "heard" (ah 0))) (bz "Tally" "tries" (ah 0)))) (dw (eC (.str "unsure"))) cz) (dw (eC (.str "more"))))))
def Hl:=λ(z:Z) (E:En L z)=>(by exists 1,(aV (eK (Bk (OB (bR (ja E) (E.n rfl) (ai 0)) c9) (bR (ja E) (E.n rfl) (ai 0))) (aQ (bC c9)) d8) (aV (eK (Bk (OB (bR (ja E) (E.n rfl) (ai 0)) c9) (bR (ja E) (E.n rfl) (ai 0))) (aQ (bC c9)) d8) (aV (eK (Bk (fX (E.b rfl) (bR (ja E) (E.n rfl) (ai 0))) (bR (ja E) (E.n rfl) (ai 0))) (aQ (bC c9)) d8) (aQ (bC c9))))):z.D 1 "Tally" (inClass (top 42) 3) (bx · (bV 1 1 F5)))
abbrev DM:=fF Hl
def O4:=wG Hl
def Ea:=λ(z:Z) (E:En L z/\O4 z)=>(by obtain⟨E,p⟩:=E;exists 1,(aQ (bC (Pb (TN (iT hr) (ai 1) (bR (aH E) (E.n rfl) (ai 0))) (eO (ja E) p.t p.G hr.m p.b (acE (iT hr) (bR (aH E) (E.n rfl) (ai 0)) (ai 1) (by exact λ_ _=>rfl))) c9))):z.D 2 "Gate" (inClass (top 48) 21) (bx · (bV 2 2 _)))
abbrev AG:=fF Ea
def Ck:=wG Ea
def Gq:=λ(z:Z) (E:En L z)=>(by exists 1,(aQ (bC (yl (E.b rfl) (xA (bR (aH E) (E.n rfl) (ai 0)) (HU (bR (aH E) (E.n rfl) (ai 0)) (ai 1)))))):z.D 1 "Gate" (inClass (top 48) 20) (bx · (bV 2 2 _)))
abbrev pW:=fF Gq
def DJ:=wG Gq
def G5:=λ(z:Z) (E:En L z/\Ck z/\DJ z)=>(by obtain⟨E,p,q⟩:=E;exists 1,(aV (kU rfl (DQ (E.b rfl) aU (qG (fX (E.b rfl) (bR (aH E) (E.n rfl) (ai 0))) aU)) (cL 1 nd) (aQ (eK (Sn (fE (aH E) p.t p.G hr.m p.b (ai 0) (au (fE (aH E) q.t q.G hr.m q.b (ai 0) (au (ai 1) aI)) aI)) (Nn (E.t rfl))) (aQ (xm 1)) d8))) (aQ (bC lP))):z.D 3 "Gate" (inClass (top 48) 11) (bx · (bV 1 2 _)))
abbrev AE:=fF G5
def Gm:=wG G5
def Dj:=λ(z:Z) (E:En L z)=>(by exists 1,(aQ (bC (Wi rfl (E.b rfl) (jw (M:=["slot","old","new","values"]) (js:=[none,none,none,some 0]) (iE rfl (by kernel_rfl)) rfl (gA (ai 1)) (by decide) λs3 H3 fp=>⟨(tX rfl (iS (cL 0 (aa3 rfl)) (iS (cL 1 (aa3 rfl)) (iS (cL 2 (aa3 rfl)) uD)))),(rY (ud (UI (iT hr) (ai 3) (ai 0) aU) (ai 1))),(ai 0)⟩) lP))):z.D 1 Str.empty (top 21) (bx · (bV 2 2 _)))
abbrev Xn:=fF Dj
def Gf:=wF Dj
def LU:=λ(z:Z) (E:En L z)=>(by exists 1,(aQ (bC (jw (M:=["slot","values"]) (js:=[none,some 0]) (iE rfl (by kernel_rfl)) rfl (gA (Js rfl (E.b rfl) (ai 0))) (by decide) λs3 H3 fp=>⟨(cL 0 (aa3 rfl)),(rY (ud (Ib (iT hr) (ai 1) (ai 0)) aU)),(jA (au (ai 0) (au (Ib (iT hr) (ai 1) (ai 0)) aI)))⟩))):z.D 1 Str.empty (top 22) (bx · (bV 1 1 _)))
def Rp:=wF LU
def HC:=λ(z:Z) (E:En L z/\Gf z/\Rp z)=>(by obtain⟨E,p,q⟩:=E;exists 1,(aV (dS 2 (Be rfl (E.b rfl) (ai 0)) nd) (aV (kU rfl (gA (ai 1)) (cL 3 nd) (aV (dS 4 (cQ p.G hr.m p.m p.kp p.b (au (ai 2) (au (ai 3) aI))) nd) (aV (eK (U6 (ai 4) lP) (aQ mE) d8) (aQ (kU rfl (gA (ai 3)) (tX rfl (iS (cL 5 nd) (iS (cL 6 nd) (iS (cL 7 nd) uD)))) (aQ (IM 2 (iT hr) (ai 5) (ai 7)))))))) (aQ (bC (cQ q.G hr.m q.m q.kp q.b (au (ai 2) aI)))))):z.D 2 Str.empty (top 19) (bx · (bV 2 8 _)))
abbrev WX:=fF HC
def RV:=wF HC
def Di:=λ(z:Z) (E:En L z/\Em z)=>(by obtain⟨E,p⟩:=E;exists 1,(aQ (bC (kq (E.b rfl) (gc (fE (eW E) p.t p.G hr.m p.b (ai 0) (au (ai 1) aI)) aU)))):z.D 4 "Changes" (inClass (top 27) 5) (bx · (bV 2 2 _)))
abbrev CK:=fF Di
def AU:=wG Di
def Du:=λ(z:Z) (E:En L z/\RV z/\AU z)=>(by obtain⟨E,p,q⟩:=E;exists 1,(aQ (bC (cQ p.G hr.m p.m p.kp p.b (au (fC aI) (au (jw (M:=["number","changes"]) (js:=[none,some 0]) (iE rfl (by kernel_rfl)) rfl (gA (ai 1)) (by decide) λs3 H3 fp=>⟨(cL 0 (aa3 rfl)),mS,(fE (eW E) q.t q.G hr.m q.b (ai 1) (au (ai 0) aI))⟩) aI))))):z.D 5 Str.empty (top 28) (bx · (bV 2 2 _)))
abbrev S5:=fF Du
def IS:=wF Du
def EH:=λ(z:Z) (E:En L z/\IS z)=>(by obtain⟨E,p⟩:=E;exists 1,(aQ (bC (Be rfl (E.b rfl) (cQ p.G hr.m p.m p.kp p.b (au (ai 0) (au (xA (kq (E.b rfl) (ai 1)) (kq (E.b rfl) (ai 2))) aI)))))):z.D 6 Str.empty (top 34) (bx · (bV 3 3 _)))
abbrev adk:=fF EH
def WA:=wF EH
def Gk:=λ(z:Z) (E:En L z/\Em z)=>(by obtain⟨E,p⟩:=E;exists 1,(aQ (bC (gc (fE (eW E) p.t p.G hr.m p.b (ai 0) (au (ai 1) aI)) aU))):z.D 4 "Changes" (inClass (top 27) 3) (bx · (bV 2 2 _)))
abbrev yO:=fF Gk
def aa7:=wG Gk
def S9:SF:=(dw (Ho 0 (ah 1) (jq (aq (e1 xX (bu "Changes" "rank_of" yO (ah 1) (aq (ah 0) aA))) (aq (ah 0) aA)))))
def Gi:=λ(z:Z) (E:En L z/\aa7 z)=>(by obtain⟨E,p⟩:=E;intro f fd F;obtain⟨oc,od,kV,doc,pm,an,cd0,ct,mG,rfl,lk,_⟩:=id F.ex;exact Fd (N:=["changes","numbers"]) F ⟨rfl,rfl,rfl,by decide +kernel,rfl,by decide +kernel,by decide +kernel⟩ λaR A outer s H E' hr=>by exact(aQ (bC (adG (x:="number") (y:="changes") 0 (E.b rfl) (ai 1) ⟨rfl,rfl,rfl,by decide +kernel,rfl,rfl,by decide +kernel,λ_ _ _ _ _ _ _=>rfl⟩ lk (congrArg (λc=>some (c,_,_)) aR.2.symm) (aZ.depth (k:=0) (aZ.in1 (aZ.in1 hr.m))) (λf c' s H=>(jA (au (OC (fE (eW E) p.t p.G (aZ.deeper (aZ.in1 (aZ.in1 hr.m)) _) p.b (ai 1) (au (ai 0) aI))) (au (ai 0) aI))))))):z.D 8 Str.empty (top 33) (bx · (bV 2 2 S9)))
abbrev LB:=fF Gi
def Ym:=wF Gi
def F7:=λ(z:Z) (E:En L z/\Gf z/\AU z)=>(by obtain⟨E,p,q⟩:=E;exists 1,(aQ (bC (JI (cQ p.G hr.m p.m p.kp p.b (au (ai 1) (au (fE (eW E) q.t q.G hr.m q.b (ai 0) (au (ai 2) aI)) aI))) lP))):z.D 5 Str.empty (top 35) (bx · (bV 3 3 _)))
abbrev R_:=fF F7
def acW:=wF F7
def Ca:=λ(z:Z) (E:En L z/\Ym z/\acW z)=>(by obtain⟨E,p,q⟩:=E;exists 1,(aV (kU rfl (gA (cQ p.G hr.m p.m p.kp p.b (au (ai 0) (au (ai 2) aI)))) (cL 3 nd) (aQ (eK (dX (cQ q.G hr.m q.m q.kp q.b (au (ai 0) (au (ai 1) (au (ai 3) aI))))) (aQ (xm 3)) d8))) (aQ (bC lP))):z.D 9 Str.empty (top 32) (bx · (bV 3 4 _)))
abbrev BS:=fF Ca
def Z4:=wF Ca
def GH:=λ(z:Z) (E:En L z/\LZ z)=>(by obtain⟨E,p⟩:=E;exists 1,(aV (dS 4 (Be rfl (E.b rfl) (jw (M:=["number"]) (js:=[none]) (iE rfl (by kernel_rfl)) rfl (gA (xA (kq (E.b rfl) (ai 1)) (kq (E.b rfl) (ai 2)))) (by decide) λs3 H3 fp=>⟨(cL 0 (aa3 rfl)),mS,(jA (au (ai 0) (au fq aI)))⟩)) nd) (aQ (bC (jw (M:=["number","changes","here"]) (js:=[none,some 0,some 4]) (iE rfl (by kernel_rfl)) rfl (gA (ai 3)) (by decide) λs3 H3 fp=>⟨(cL 0 (aa3 rfl)),(rY (dX (xU rfl (E.b rfl) (jw (M:=["lean","here"]) (js:=[none,some 2]) (QH (by decide +kernel)) rfl (gA (fE (eW E) p.t p.G hr.m p.b (ai 1) (au (ai 0) aI))) (by decide) λs3 H3 fp=>⟨(cL 0 (aa3 rfl)),mS,(YY (iT hr) (ai 0) (ai 1))⟩)))),(ai 0)⟩)))):z.D 5 Str.empty (top 30) (bx · (bV 4 5 _)))
abbrev yg:=fF GH
def Ob:=wF GH
def GB:=λ(z:Z) (E:En L z/\WA z/\Z4 z/\Ob z/\AU z)=>(by obtain⟨E,p,q,u,v⟩:=E;exists 1,(aV (dS 5 (kq (E.b rfl) (ai 2)) nd) (aV (dS 6 (kq (E.b rfl) (ai 3)) nd) (aV (dS 7 (cQ p.G hr.m p.m p.kp p.b (au (ai 0) (au (ai 1) (au (ai 2) aI)))) nd) (aV (ON 4000 (zK (fX (E.b rfl) (ai 5)) (ai 4)) (aV (dS 8 (cQ q.G hr.m q.m q.kp q.b (au (ai 0) (au (ai 7) (au (cQ u.G hr.m u.m u.kp u.b (au (ai 0) (au (ai 1) (au (ai 5) (au (ai 6) aI))))) aI)))) nd) (aV (eK (vL (ai 8) lP) (aQ (xm 5)) d8) (aV (Eo 5 (ai 8)) (aV (aaW 6 (ai 8)) (aQ (kU rfl (gA (fE (eW E) v.t v.G hr.m v.b (ai 0) (au (ai 8) aI))) (tX rfl (iS (cL 9 nd) (iS (cL 10 nd) (iS (cL 11 nd) uD)))) (aQ (IM 7 (iT hr) (ai 9) (ai 11)))))))))) (aQ (xm 5)))))):z.D 10 Str.empty (top 31) (bx · (bV 5 12 _)))
abbrev Py:=fF GB
def TQ:=wF GB
def Gv:=λ(z:Z) (E:En L z/\Gm z/\DJ z/\Ck z)=>(by obtain⟨E,p,q,u⟩:=E;exists 2,(bh (eN (CZ hr.units (eO (aH E) p.t p.G hr.m p.b (ai 0)) aU) (cu (jy fq)) fS) (bh (bH (dS 1 (fE (aH E) q.t q.G hr.m q.b (ai 0) (au aU aI)) nd)) (bh (bH (zQ 0 (iT hr) (aH E) (E.n rfl) (gc (bR (aH E) (E.n rfl) (ai 0)) aU) (jA (au c9 (au (yl (E.b rfl) (bR (aH E) (E.n rfl) (ai 0))) (au (ai 1) (au (fE (aH E) u.t u.G hr.m u.b (ai 0) (au (ai 1) aI)) aI))))))) (bh (bH (eV 0 (aH E) (E.n rfl) (fC aI))) (cu (jy fq)))))):z.D 4 "Gate" (inClass (top 48) 26) (c_ · (runM 1 2 _)))
abbrev O1:=fO Gv
def T9:=wO Gv
def Gw:=λ(z:Z) (E:En L z/\IS z)=>(by obtain⟨E,p⟩:=E;exists 1,(aQ (bC (cQ p.G hr.m p.m p.kp p.b (au (bR (aH E) (E.n rfl) (ai 0)) (au (bR (aH E) (E.n rfl) (ai 0)) aI))))):z.D 6 "Gate" (inClass (top 48) 13) (bx · (bV 1 1 _)))
abbrev Qm:=fF Gw
def Sd:=wG Gw
def Ky:=λ(z:Z) (E:En L z/\Gf z)=>(by obtain⟨E,p⟩:=E;exists 1,(aQ (bC (cQ p.G hr.m p.m p.kp p.b (au (Be rfl (E.b rfl) (ai 0)) (au (ai 1) aI))))):z.D 2 Str.empty (top 18) (bx · (bV 2 2 _)))
def Yb:=wF Ky
def FU:=λ(z:Z) (E:En L z/\Ob z/\Ht z/\Sd z/\Yb z/\AU z)=>(by obtain⟨E,p,q,u,v,y⟩:=E;exists 2,(bh (eN (Kz (bR (aH E) (E.n rfl) (ai 0))) (cu (jy fq)) fS) (bh (bH (dS 1 (cQ p.G hr.m p.m p.kp p.b (au (bR (aH E) (E.n rfl) (ai 0)) (au (bR (aH E) (E.n rfl) (ai 0)) (au (fC aI) (au (eO (aH E) q.t q.G hr.m q.b (ai 0)) aI))))) nd)) (bh (bH (dS 2 (eO (aH E) u.t u.G hr.m u.b (ai 0)) nd)) (bh (bH (kU rfl (gA (ai 1)) (cL 3 nd) (aQ (zQ 0 (iT hr) (aH E) (E.n rfl) (ai 3) (jA (au c9 (au (cQ v.G hr.m v.m v.kp v.b (au (ai 2) (au (fE (eW E) y.t y.G hr.m y.b (bR (aH E) (E.n rfl) (ai 0)) (au (ai 3) aI)) aI))) aI))))))) (cu (jy (aa9 hr.units (ai 1) (fC aI)))))))):z.D 7 "Gate" (inClass (top 48) 27) (c_ · (runM 1 4 _)))
abbrev NO:=fO FU
def Z2:=wO FU
def DO:=λ(z:Z) (E:En L z/\Gm z/\TQ z/\Ht z/\T9 z/\Z2 z)=>(by obtain⟨E,p,q,u,v,y⟩:=E;exists 2,(bh (eN (vL (eO (aH E) p.t p.G hr.m p.b (ai 0)) lP) (cu (bH (eV 0 (aH E) (E.n rfl) (cQ q.G hr.m q.m q.kp q.b (au (bR (aH E) (E.n rfl) (ai 0)) (au (bR (aH E) (E.n rfl) (ai 0)) (au (bR (aH E) (E.n rfl) (ai 0)) (au (eO (aH E) u.t u.G hr.m u.b (ai 0)) (au (gc (bR (aH E) (E.n rfl) (ai 0)) aU) aI))))))))) fS) (cu (TY (ac2 (jI 0 (aH E) v.t v.G hr.m v.b) (jI 0 (aH E) y.t y.G hr.m y.b))))):z.D 11 "Gate" (inClass (top 48) 25) (c_ · (runM 1 1 _)))
abbrev pX:=fO DO
def Tf:=wO DO
def B0:=λ(z:Z) (E:En L z/\Ck z)=>(by obtain⟨E,p⟩:=E;exists 1,(aQ (bC (l9 (Kn hr.units (ai 1) (bR (aH E) (E.n rfl) (ai 0))) (m7 (uR (fE (aH E) p.t p.G hr.m p.b (ai 0) (au (ai 1) aI)) c9))))):z.D 3 "Gate" (inClass (top 48) 29) (bx · (bV 2 2 _)))
abbrev C5:=fF B0
def Yh:=wG B0
def Fq:SF:=(aS (cj 1 (e2 cZ (ah 0) (eC (.int 0)))) (aS (cj 2 (ah 1)) (aS (jF (um (ah 0) (e1 (oG (some 1) none) (ah 0))) (gT (j8 (gN 3) (j8 (gN 4) xV))) (cH (tV (e2 wz (e2 lV (ah 4) (ah 3)) (e2 lV (ah 2) (ah 1)))) (aS (cj 1 (ah 3)) (cj 2 (ah 4))) cz)) (dw (e2 oDiv (e2 jc (ah 1) (ah 2)) (eC (.int 2)))))))
def EK:=λ(z:Z) (E:En L z)=>(by exists 1,(aV (dS 1 (gc (ai 0) aU) nd) (aV (dS 2 (ai 1) nd) (aV (kU rfl (KU (E.b rfl) (ai 0) (Dg CN FL (ai 0))) (tX rfl (iS (cL 3 nd) (iS (cL 4 nd) uD))) (aQ (eK (Mg (vG (ai 4) (ai 3)) (vG (ai 2) (ai 1))) (aV (dS 1 (ai 3) nd) (aQ (dS 2 (ai 4) nd))) d8))) (aQ (bC (ZY (qG (ai 1) (ai 2)) aU)))))):z.D 1 Str.empty (top 38) (bx · (bV 1 5 Fq)))
abbrev yb:=fF EK
def acm:=wF EK
def DE:SF:=(aS (cj 4 (mX (tV (e2 iu (ah 1) (eC .aC))) (e2 jc (ah 0) (eC (.int 1))) (ah 1))) (aS (cj 5 (gI [none,some 4] (jl (ah 2)) (gN 0) (tV (e2 oLt (ah 0) (ah 1))) (ah 0))) (aS (gU (tV (e2 oLt (e1 cX (ah 5)) (e2 rj (ah 3) (e2 lV (ah 4) (eC (.int 1)))))) (aS (cH (fN (tV (e2 iu (ah 1) (eC .aC))) (tV (e2 (iP true) (ah 0) (ah 5)))) (lT 5 (ah 0)) (lT 5 (cM yb (aq (e2 gp (e2 gp (d_ (aq (eC (.int 0)) aA)) (ah 5)) (d_ (aq (ah 4) aA))) aA)))) (cj 5 (e1 uB (ah 5)))) 4000) (ux 5))))
def GZ:=λ(z:Z) (E:En L z/\acm z)=>(by obtain⟨E,p⟩:=E;exists 1,(aV (dS 4 (Pb (vL (ai 1) lP) (qG (ai 0) aU) (ai 1)) nd) (aV (DB 5 (hN:=nd) (M:=["place","end"]) (js:=[none,some 4]) (iE rfl (by kernel_rfl)) rfl (gA (ai 2)) (by decide) λs3 H3 fp=>⟨(cL 0 (aa3 rfl)),(rY (zK (ai 0) (ai 1))),(ai 0)⟩) (aV (ON 4000 (zK (fX (E.b rfl) (ai 5)) (acR rfl (E.b rfl) (ai 3) (vG (ai 4) aU))) (aV (eK (FW.ft (ou (vL (ai 1) lP) (rQ (Vy (ai 0) (ai 5))))) (aQ (Eo 5 (ai 0))) (aQ (Eo 5 (cQ p.G hr.m p.m p.kp p.b (au (xA (xA (fC (au aU aI)) (ai 5)) (fC (au (ai 4) aI))) aI))))) (aQ (dS 5 (Js rfl (E.b rfl) (ai 5)) nd)))) (aQ (xm 5))))):z.D 2 Str.empty (top 37) (bx · (bV 4 6 DE)))
abbrev GO:=fF GZ
def aa2:=wF GZ
def C1:=λ(z:Z) (E:En L z/\Yh z/\DJ z/\aa2 z/\Gm z)=>(by obtain⟨E,p,q,u,v⟩:=E;exists 1,(aV (dS 1 (fX (E.b rfl) (bR (aH E) (E.n rfl) (ai 0))) nd) (aV (DB 2 (hN:=nd) (M:=["place","self"]) (js:=[none,some 0]) (iE rfl (by kernel_rfl)) rfl (DQ (E.b rfl) aU (qG (ai 1) aU)) (by decide) λs3 H3 fp=>⟨(cL 0 (aa3 rfl)),(rY (dX (fE (aH E) p.t p.G hr.m p.b (ai 1) (au (fE (aH E) q.t q.G hr.m q.b (ai 1) (au (ai 0) aI)) aI)))),(ai 0)⟩) (aQ (bC (jw (M:=["place","self"]) (js:=[none,some 0]) (iE rfl (by kernel_rfl)) rfl (gA (cQ u.G hr.m u.m u.kp u.b (au (ai 1) (au (eO (aH E) v.t v.G hr.m v.b (ai 0)) (au (ai 2) (au (gc (bR (aH E) (E.n rfl) (ai 0)) aU) aI)))))) (by decide) λs3 H3 fp=>⟨(cL 0 (aa3 rfl)),mS,(fE (aH E) q.t q.G hr.m q.b (ai 1) (au (ai 0) aI))⟩))))):z.D 4 "Gate" (inClass (top 48) 28) (bx · (bV 1 3 _)))
abbrev SS:=fF C1
def Wq:=wG C1
def CL:=λ(z:Z) (E:En L z/\Xu z/\Tf z/\Wq z)=>(by obtain⟨E,p,q,u⟩:=E;exists 2,(bh (bH (i7 (jI 0 (aH E) p.t p.G hr.m p.b))) (bh (bH (Tt 4000 (Qe (iD (dX (bR (aH E) (E.n rfl) (ai 0)))) (aaT (jI 0 (aH E) q.t q.G hr.m q.b))) (aQ (i7 (jI 0 (aH E) p.t p.G hr.m p.b))))) (cu (bH (eV 0 (aH E) (E.n rfl) (eO (aH E) u.t u.G hr.m u.b (ai 0))))))):z.D 12 "Gate" (inClass (top 48) 23) (c_ · (runM 1 1 _)))
abbrev jz:=fO CL
def wM:=wO CL
def GJ:=λ(z:Z) (E:En L z/\Y0 z/\wM z)=>(by obtain⟨E,p,q⟩:=E;exists 2,(bh (bH (nq 4 (FY.fz (Wz 0 (aH E) (E.n rfl) (eW E) p.t p.G hr.m p.b (au (ai 1) (au (ai 2) (au (ai 3) aI))))) nd)) (bh (bH (i7 (jI 0 (aH E) q.t q.G hr.m q.b))) (cu (jy (ai 4))))):z.D 13 "Gate" (inClass (top 48) 1) (c_ · (runM 4 5 _)))
abbrev yc:=fO GJ
def MU:=wO GJ
def EO:=λ(z:Z) (E:En L z/\wM z)=>(by obtain⟨E,p⟩:=E;exists 2,(bh (bH (eV 0 (aH E) (E.n rfl) (fC aI))) (bh (bH (eV 0 (aH E) (E.n rfl) fq)) (bh (bH (DZ 0 (aH E) (E.n rfl) aU)) (cu (bH (i7 (jI 0 (aH E) p.t p.G hr.m p.b))))))):z.D 13 "Gate" (inClass (top 48) 4) (c_ · (runM 1 1 _)))
abbrev B_:=fO EO
def M8:=wO EO
def GV:=λ(z:Z) (E:En L z/\wM z)=>(by obtain⟨E,p⟩:=E;exists 2,(bh (bH (eV 0 (aH E) (E.n rfl) fq)) (cu (bH (i7 (jI 0 (aH E) p.t p.G hr.m p.b))))):z.D 13 "Gate" (inClass (top 48) 5) (c_ · (runM 1 1 _)))
abbrev G6:=fO GV
def OM:=wO GV
def Dp:=λ(z:Z) (E:En L z)=>(by exists 1,(aQ (bC (kq (E.b rfl) (bR (aH E) (E.n rfl) (ai 0))))):z.D 1 "Gate" (inClass (top 48) 10) (bx · (bV 1 1 _)))
abbrev jL:=fF Dp
def FJ:=wG Dp
def tU(G:List D->Option D):SF:=(aS (cH (tV (e1 (Bq "tuple") (ah 1))) (aS (cH (nJ (iN (tV (e1 (Bq "tuple") (ah 0)))) (tV (e2 jH (e1 cX (ah 0)) (e1 cX (ah 1))))) (dw (eC (.bl false))) cz) (dw (e1 oS (gI [none,some 0,some 1] (lB (e1 cX (ah 1))) (gN 0) mw (cM G (aq (e2 cZ (ah 1) (ah 0)) (aq (e2 cZ (ah 2) (ah 0)) aA))))))) cz) (aS (cH (tV (e1 (jK "list") (ah 1))) (aS (cH (nJ (iN (tV (e1 (jK "list") (ah 0)))) (tV (e2 jH (e1 cX (ah 0)) (e1 cX (ah 1))))) (dw (eC (.bl false))) cz) (dw (e1 oS (gI [none,some 0,some 1] (lB (e1 cX (ah 1))) (gN 0) mw (cM G (aq (e2 cZ (ah 1) (ah 0)) (aq (e2 cZ (ah 2) (ah 0)) aA))))))) cz) (aS (cH (tV (e2 iu (ah 1) (eC .aC))) (dw (e2 iu (ah 0) (eC .aC))) cz) (aS (cH (tV (e1 (jK "str") (ah 1))) (dw (jM (e1 (jK "str") (ah 0)) (e2 oEq (ah 0) (ah 1)))) cz) (dw (jM (e1 (jK "int") (ah 0)) (jM (e1 A0 (e1 (jK "bool") (ah 0))) (e2 oEq (ah 0) (ah 1)))))))))
def Ua:List D->Option D:=bV 2 2 (tU λ_=>none)
def Yu:List D->Option D:=bV 2 2 (tU Ua)
def YB:List D->Option D:=bV 2 2 (tU Yu)
def XI:List D->Option D:=bV 2 2 (tU YB)
abbrev j_:List D->Option D:=XI
theorem Tr{z:Z}(E:En L z){f:Addr}(K8:z.mg (fW (top 51))=some (.ref f))(NI:PySem.W.keepIn z.K (.ref f)=true)(Kv:Binds z.K fd (ig (top 51)) [])(F:gJ z.K (fW (top 51)) (fW (top 51)) (top 51) f fd):bN z.P z.w z.K z.mg z.base cE 5 f fd (ig (top 51)) (bx z.K j_):=by
 have sc:mF ["_law_found","_law_due"] (ig (top 51)) (b_ (top 51)):=⟨rfl,rfl,rfl,by decide +kernel,rfl,by decide +kernel,by decide +kernel⟩
 have st:∀(k:Nat) G,bN z.P z.w z.K z.mg z.base cE (k+1) f fd (ig (top 51)) (bx z.K G)->bN z.P z.w z.K z.mg z.base cE (k+1+1) f fd (ig (top 51)) (bx z.K (bV 2 2 (tU G))):=λk G Nv=>Fd F sc λaR A outer s H E' hr=>(aV (eK (dX (NV Lv PN (E.b rfl) (E.b rfl) (ai 1))) (aV (eK (FW.ft (pO (iD (dX (NV Lv PN (E.b rfl) (E.b rfl) (ai 0)))) (qK (ud (fX (E.b rfl) (ai 0)) (fX (E.b rfl) (ai 1)))))) (aQ (bC fq)) d8) (aQ (bC (xU rfl (E.b rfl) (jw (M:=["_law_k","_law_found","_law_due"]) (js:=[none,some 0,some 1]) (iE rfl (by kernel_rfl)) rfl (Ah (E.b rfl) (fX (E.b rfl) (ai 1))) (by decide) λs3 H3 fp=>⟨(cL 0 (aa3 rfl)),mS,(cQ Nv (hr.mono (by omega)) K8 NI Kv (au (gc (ai 1) (ai 0)) (au (gc (ai 2) (ai 0)) aI)))⟩))))) d8) (aV (eK (dX (pI II (E.b rfl) (E.b rfl) (ai 1))) (aV (eK (FW.ft (pO (iD (dX (pI II (E.b rfl) (E.b rfl) (ai 0)))) (qK (ud (fX (E.b rfl) (ai 0)) (fX (E.b rfl) (ai 1)))))) (aQ (bC fq)) d8) (aQ (bC (xU rfl (E.b rfl) (jw (M:=["_law_k","_law_found","_law_due"]) (iE rfl (by kernel_rfl)) rfl (Ah (E.b rfl) (fX (E.b rfl) (ai 1))) (by decide) λs3 H3 fp=>⟨(cL 0 (aa3 rfl)),mS,(cQ Nv (hr.mono (by omega)) K8 NI Kv (au (gc (ai 1) (ai 0)) (au (gc (ai 2) (ai 0)) aI)))⟩))))) d8) (aV (eK (vL (ai 1) lP) (aQ (bC (JI (ai 0) lP))) d8) (aV (eK (dX (pI OD (E.b rfl) (E.b rfl) (ai 1))) (aQ (bC (l9 (pI OD (E.b rfl) (E.b rfl) (ai 0)) (m7 (uR (ai 0) (ai 1)))))) d8) (aQ (bC (l9 (pI Jo (E.b rfl) (E.b rfl) (ai 0)) (l9 (Jj (pI Iu (E.b rfl) (E.b rfl) (ai 0))) (m7 (uR (ai 0) (ai 1)))))))))))
 exact(st 3 _ (st 2 _ (st 1 _ (st 0 _ (XX F sc)))))
def CG(z:Z):Prop:=z.N 5 (top 51) (bx · j_)
def Dn:=λ(z:Z) (E:En L z)=>(by exists 3,(bh (bH (dS 4 (YF (fC (au c9 (au c9 (au c9 aI)))) (ai 1)) nd)) (bh (bH (aap 0 (ai 4) (qG (gc (ai 0) (ai 4)) aU))) (bh (eN (jU (gc (ai 0) aU) (ai 2)) (cu (jy c9)) fS) (bh (eN (jU (gc (ai 0) aU) (ai 2)) (cu (jy c9)) fS) (bh (eN (jU (RK rfl (E.b rfl) (ai 0)) (ai 3)) (cu (jy c9)) fS) (cu (jy c9))))))):z.D 1 Str.empty (top 52) (oz · (runM 4 5 _)))
abbrev v7:=fP Dn
def ac8:=wP Dn
def DA:=λ(z:Z) (E:En L z/\O4 z)=>(by obtain⟨E,p⟩:=E;exists 2,(bh (eN (ZQ (ai 1) (Nn (E.t rfl))) (cu nI) fS) (bh (eN (ud (eO (ja E) p.t p.G hr.m p.b (ai 0)) c9) (cu nI) fS) (bh (bH (Aq 0 (ja E) (E.n rfl) (ai 1))) (cu (jy (eO (ja E) p.t p.G hr.m p.b (ai 0))))))):z.D 2 "Tally" (inClass (top 42) 1) (c_ · (runM 2 2 _)))
abbrev MZ:=fO DA
def adq:=wO DA
def yd:SF:=(aS (cH (iN (tV (cM uY (aq (ah 1) (aq (ah 2) aA))))) kQ cz) (aS (iR (o9 0 "Tally" "need" (ah 1))) (aS (iR (o9 0 "Tally" "tries" (ah 2))) (iR (o9 0 "Tally" "heard" (d_ aA))))))
def Gc:=λ(z:Z) (E:En L z/\JO z)=>(by obtain⟨E,p⟩:=E;exists 2,(bh (eN (iD (dX (cQ p.G hr.m p.m p.kp p.b (au (ai 1) (au (ai 2) aI))))) (cu nI) fS) (bh (bH (eV 0 (ja E) (E.n rfl) (ai 1))) (bh (bH (eV 0 (ja E) (E.n rfl) (ai 2))) (cu (bH (eV 0 (ja E) (E.n rfl) (fC aI))))))):z.D 3 "Tally" (inClass (top 42) 0) (c_ · (runM 3 3 yd)))
abbrev xg:=fO Gc
def abv:=wI Gc
def G3:=λ(z:Z) (E:En L z)=>(by exists 2,(bh (bH (eV 0 (aH E) (E.n rfl) (Xj (bR (aH E) (E.n rfl) (ai 0)) (vG (fX (E.b rfl) (ai 1)) (fX (E.b rfl) (bR (aH E) (E.n rfl) (ai 0))))))) (bh (bH (eV 0 (aH E) (E.n rfl) (kq (E.b rfl) (ai 1)))) (cu (bH (Aq 0 (aH E) (E.n rfl) (ai 1)))))):z.D 1 "Gate" (inClass (top 48) 22) (c_ · (runM 2 2 _)))
abbrev rZ:=fO G3
def Tw:=wO G3
def BN:=λ(z:Z) (E:En L z/\adq z/\abv z/\Tw z/\wM z)=>(by obtain⟨E,p,q,u,v⟩:=E;exists 2,(bh (eN (B7 hr.units (ai 1) (bR (aH E) (E.n rfl) (ai 0))) (cu nI) fS) (acU (iT hr) (E.ni rfl) (aH E) (E.n rfl) (ja E) p.t p.G hr.m p.b (Wt (ja E).ns q.M q.G hr.m (E.m rfl) q.b (au (gc (bR (aH E) (E.n rfl) (ai 0)) aU) (au (gc (bR (aH E) (E.n rfl) (ai 0)) aU) aI))) (bh (bH (DZ 0 (aH E) (E.n rfl) aU)) (bh (eN (ud (ai 4) c9) (cu (bH (Aq 0 (aH E) (E.n rfl) (jA (au (ai 1) (au (ai 4) aI)))))) fS) (bh (eN (jU (ai 4) c9) (cu (bH (i7 (FY.fz (xu 0 (aH E) u.t u.G hr.m u.b (au (ai 1) aI)))))) fS) (bh (bH (i7 (jI 0 (aH E) v.t v.G hr.m v.b))) (cu (jy (ai 4))))))) nd)):z.D 13 "Gate" (inClass (top 48) 3) (c_ · (runM 3 5 _)))
abbrev uE:=fO BN
def V3:=wO BN
def DW:=λ(z:Z) (E:En L z)=>(by exists 1,(aQ (bC (kq (E.b rfl) (bR (aH E) (E.n rfl) (ai 0))))):z.D 1 "Gate" (inClass (top 48) 15) (bx · (bV 1 1 _)))
abbrev Ac:=fF DW
def adU:=wG DW
def Bu:SF:=(aS (cH (tV (e2 (gV true) (ah 1) (bz "Gate" "looks" (ah 0)))) (GY "NoLook" (aq (eC (.str "this look is not wanted")) aA)) cz) (aS kQ (aS kQ (aS kQ (aS kQ (aS kQ (aS kQ (aS kQ kQ))))))))
def Cm:=λ(z:Z) (E:En L z)=>(by exists 5,(aV (eK (B7 hr.units (ai 1) (bR (aH E) (E.n rfl) (ai 0))) (aQ (RH rfl (E.x rfl) (E.g rfl) (E.e rfl) (au c9 aI))) d8) (aV mE (aV mE (aV mE (aV mE (aV mE (aV mE (aV mE (aQ mE))))))))):z.DR 1 "Gate" (inClass (top 48) 3) (rR · (uL 3 5 Bu)))
abbrev zO:=fR Cm
def abR:=wR Cm
def Gy:=λ(z:Z) (E:En L z/\abR z)=>(by obtain⟨E,p⟩:=E;exists 1,(aV (dS 2 (jA aI) nd) (aV (abp 3 (λaf R=>(aQ (Qn (ZT (aH E) p.t p.G hr.m p.b (ai 0) (au (ai 1) (au c9 aI)))))) (λa=>(aV (dS 4 (Qp (E.ki (c:="_law_refused") rfl) (E.b rfl) (ai 3) (bU (oB rfl (E.e rfl)) (bU (oB rfl (E.e rfl)) (bU (oB rfl (E.e rfl)) (bU (oB rfl (E.e rfl)) (bU (oB rfl (E.e rfl)) (bU (oB rfl (E.e rfl)) (bU (oB rfl (E.e rfl)) (bU (oB rfl (E.e rfl)) dN)))))))) (λ_ _ _ q=>q) (by show(8:Nat)<=1000;decide)) nd) (aQ (dS 2 (jA (au (Xw (E.kt (c:="NoLook") rfl) (E.b rfl) (E.e rfl) (ai 3)) (au (acK (E.kt (c:="ValueError") rfl) (E.b rfl) (E.b rfl) (ai 3)) (au (ai 4) aI)))) nd)))) (E.ct rfl) (E.e rfl) nd) (aQ (bC (abT hr.units (ai 2) (jA (au fq (au fq (au fq aI))))))))):z.D 2 Str.empty (top 53) (bx · (bV 2 5 _)))
abbrev KH:=fF Gy
def QF:=wF Gy
def HD:=λ(z:Z) (E:En L z)=>(by exists 1,(aQ (bC (kq (E.b rfl) (bR (aH E) (E.n rfl) (ai 0))))):z.D 1 "Gate" (inClass (top 48) 7) (bx · (bV 1 1 _)))
abbrev yQ:=fF HD
def UJ:=wG HD
def Ep:=λ(z:Z) (E:En L z/\Fb z/\wM z)=>(by obtain⟨E,p,q⟩:=E;exists 2,(bh (eN (iD (dX (fE (eW E) p.t p.G hr.m p.b (bR (aH E) (E.n rfl) (ai 0)) (au (ai 1) aI)))) (cu nI) fS) (bh (eN (FW.ft (pO (O3 (ai 1) (bR (aH E) (E.n rfl) (ai 0))) (qK (Ke (iT hr) (ai 1) (bR (aH E) (E.n rfl) (ai 0)))))) (cu nI) fS) (bh (eN (O3 (ai 1) (bR (aH E) (E.n rfl) (ai 0))) (cu (bH (eV 0 (aH E) (E.n rfl) (HU (bR (aH E) (E.n rfl) (ai 0)) (WM (bR (aH E) (E.n rfl) (ai 0)) (ai 1)))))) fS) (bh (bH (zQ 0 (iT hr) (aH E) (E.n rfl) (ai 1) (jA (au c9 aI)))) (bh (bH (DZ 0 (aH E) (E.n rfl) aU)) (cu (bH (i7 (jI 0 (aH E) q.t q.G hr.m q.b))))))))):z.D 13 "Gate" (inClass (top 48) 2) (c_ · (runM 2 2 _)))
abbrev NT:=fO Ep
def Wm:=wO Ep
def Et:=λ(z:Z) (E:En L z/\M8 z/\QF z/\UJ z/\FJ z/\MU z/\OM z/\Wm z)=>(by obtain⟨E,p,q,u,v,y,g,h⟩:=E;exists 3,(bh (eN (FW.ft (pO (jU (ai 1) aU) (qK (jU (ai 1) aU)))) (bh (bH (i7 (jI 0 (aH E) p.t p.G hr.m p.b))) (bh (eN (FW.ft (pO (CZ hr.units (eO (aH E) v.t v.G hr.m v.b (ai 0)) (fC aI)) (pO (CZ hr.units (eO (aH E) u.t u.G hr.m u.b (ai 0)) (fC aI)) (qK (iD (dX (cQ q.G hr.m q.m q.kp q.b (au (ai 0) (au (ai 2) aI))))))))) (cu (jy fq)) fS) (bh (eN (FW.ft (ou (jU (ai 1) aU) (rQ (zK (fX (E.b rfl) (ai 2)) aU)))) (cu (bH (i7 (FY.fz (xu 0 (aH E) y.t y.G hr.m y.b (au aU (au (fC aI) (au (fC aI) aI)))))))) fS) (cu (bH (i7 (jI 0 (aH E) g.t g.G hr.m g.b))))))) fS) (bh (eN (FW.ft (ou (jU (ai 1) aU) (rQ (Mg (fX (E.b rfl) (eO (aH E) u.t u.G hr.m u.b (ai 0))) (fX (E.b rfl) (ai 2)))))) (cu (bH (i7 (FY.fz (xu 0 (aH E) h.t h.G hr.m h.b (au (gc (eO (aH E) u.t u.G hr.m u.b (ai 0)) (OC aU)) aI)))))) fS) (cu (jy (Dv (uR (ai 1) aU) (Dv (uR (ai 1) aU) (m7 (Kn hr.units (ai 2) (eO (aH E) v.t v.G hr.m v.b (ai 0)))))))))):z.D 14 Str.empty (top 54) (oz · (runM 3 3 _)))
abbrev wC:=fP Et
def TZ:=wP Et
def GI:SF:=(aS (cj 5 (d_ (aq (eC (.int 0)) (aq (eC (.int 0)) (aq (eC (.int 0)) aA))))) (aS (cj 6 (eC (.bl true))) (aS (cj 7 (eC (.str "more"))) (aS (jF (lB (eC (.int 20))) (gN 8) (aS (cH (fN (tV (ah 6)) (fN (tV (e2 oEq (ah 7) (eC (.str "more")))) (tV (e2 (gV true) (ah 2) (bu "Gate" "wanted" jL (ah 1) aA))))) (dw (eC (.bl false))) cz) (cH (fN (tV (e2 oEq (ah 7) (eC (.str "more")))) (tV (e2 (gV false) (ah 2) (bu "Gate" "wanted" jL (ah 1) aA)))) (aS (jW 9 (oH (bO (xP (eC (.str "yes"))) (bO (xP (eC (.str "no"))) (bO (xP (eC (.str "yes"))) (bO (xP (eC (.str "unsure"))) dG)))) (xM 0 gj (bO (xP (eC (.int 4))) dG)))) (aS (jW 7 (mT 5 v7 (aq (ah 9) (aq (ah 3) (aq (ah 4) aA))))) (aS (m6 (mV (sF j_ (bO (xO 1 "Gate" "answer" uE (aq (ah 2) (aq (ah 9) aA))) (bO (xP (ah 7)) dG)))) (dw (eC (.bl false))) cz) (aS (cj 10 (e2 pJ (d_ (aq (jq (aq (ah 2) (aq (ah 7) aA))) aA)) (e1 sC (e2 jH (ah 7) (eC (.str "more")))))) (aS (cH (iN (tV (cM j_ (aq (bu "Gate" "settled" Ac (ah 1) aA) (aq (ah 10) aA))))) (dw (eC (.bl false))) cz) (aS (jW 11 (xM 0 gj (bO (xP (eC (.int 4))) dG))) (aS (cj 6 (jM (ah 6) (e2 oLt (ah 11) (eC (.int 2))))) (m6 (mK (tV (e2 oEq (ah 7) (eC (.str "more")))) (mV (mT 1 wC (aq (ah 11) (aq (ah 2) aA))))) (dw (eC (.bl false))) cz)))))))) cz))) (dw (oX (e2 oEq (ah 7) (eC (.str "more"))) (e2 (gV true) (ah 2) (bu "Gate" "wanted" jL (ah 1) aA))))))))
def Dt:=λ(z:Z) (E:En L z/\FJ z/\Mi z/\ac8 z/\CG z/\V3 z/\adU z/\TZ z)=>(by obtain⟨E,p,q,u,v,y,g,h⟩:=E;exists 4,(aV (dS 5 (fC (au aU (au aU (au aU aI)))) nd) (aV (dS 6 fq nd) (aV (dS 7 c9 nd) (aV (kU rfl (Ah (E.b rfl) aU) (cL 8 nd) (aV (eK (FW.ft (ou (dX (ai 6)) (ou (jU (ai 7) c9) (rQ (B7 hr.units (ai 2) (eO (aH E) p.t p.G hr.m p.b (ai 1))))))) (aQ (bC fq)) d8) (aQ (eK (FW.ft (ou (jU (ai 7) c9) (rQ (ab1 hr.units (ai 2) (eO (aH E) p.t p.G hr.m p.b (ai 1)))))) (aV (nq 9 (FY.fz (oj (Mw (jm (gb c9) (jm (gb c9) (jm (gb c9) (jm (gb c9) lK)))) (nM 0 q.G hr.m q.m q.kp q.b (jm (gb aU) lK))))) nd) (aV (nq 7 (FY.fz (MG 5 u.G hr.m u.m u.kp u.b (au (ai 9) (au (ai 3) (au (ai 4) aI))))) nd) (aV (N2 (Mp (FY.fz (VS v.G hr.m v.m v.kp v.b (ur (xu 1 (aH E) y.t y.G hr.m y.b (au (ai 2) (au (ai 9) aI))) (ur (x_ (ai 7)) Pr))))) (aQ (bC fq)) d8) (aV (dS 10 (RJ (fC (au (jA (au (ai 2) (au (ai 7) aI))) aI)) (ZS (E.b rfl) (UZ (ai 7) c9))) nd) (aV (eK (iD (dX (cQ v.G hr.m v.m v.kp v.b (au (eO (aH E) g.t g.G hr.m g.b (ai 1)) (au (ai 10) aI))))) (aQ (bC fq)) d8) (aV (nq 11 (FY.fz (oj (nM 0 q.G hr.m q.m q.kp q.b (jm (gb aU) lK)))) nd) (aV (dS 6 (l9 (ai 6) (m7 (Mb (ai 11) aU))) nd) (aQ (N2 (Qe (jU (ai 7) c9) (Mp (FY.fz (MG 1 h.G hr.m h.m h.kp h.b (au (ai 11) (au (ai 2) aI)))))) (aQ (bC fq)) d8))))))))) d8)))) (aQ (bC (Dv (uR (ai 7) c9) (m7 (V7 hr.units (ai 2) (eO (aH E) p.t p.G hr.m p.b (ai 1))))))))))):z.D 15 Str.empty (top 55) (qo · (runC 5 12 GI)))
abbrev Dz:=fQ Dt
def QL:=wQ Dt
def o_law:=λ(z:Z) (E:En L z/\Mi z/\adA z/\MU z/\M8 z/\OM z/\FJ z/\CG z/\QL z)=>(by obtain⟨E,p,q,u,v,y,g,h,j⟩:=E;exists 1,(aV (dS 1 (Q3 rfl (E.b rfl) (E.b rfl) (Dg FL CN (ai 0))) nd) (aV (nq 2 (FY.fz (oj (vV (gb aU) (nM 1 p.G hr.m p.m p.kp p.b (jm (gb aU) lK))))) nd) (aV (nq 3 (FY.fz (oj (vV (gb aU) (nM 1 p.G hr.m p.m p.kp p.b (jm (Mw (jm (gb aU) (jm (gb aU) lK)) (nM 1 p.G hr.m p.m p.kp p.b (jm (gb aU) lK))) lK))))) nd) (aV (nq 4 (FY.fz (UO rfl (E.b rfl) (x_ aU) (oj (vV (gb (ai 3)) (nM 1 p.G hr.m p.m p.kp p.b (jm (gb aU) lK)))))) nd) (aV (nq 5 (FY.fz (oj (vV (gb aU) (nM 1 p.G hr.m p.m p.kp p.b (jm (gb aU) lK))))) nd) (aV (aaO 6 (aH E).ns q.M q.G hr.m (E.m rfl) q.b (ur (x_ (ai 2)) (ur (oj (vV (gb aU) (nM 1 p.G hr.m p.m p.kp p.b (jm (gb aU) lK)))) (ur (x_ (ai 3)) (ur (x_ (ai 4)) Pr)))) nd) (aV (kU rfl (Ah (E.b rfl) (ai 5)) (cL 7 nd) (aQ (i7 (FY.fz (xu 6 (aH E) u.t u.G hr.m u.b (au aU (au (fC aI) (au (fC aI) aI)))))))) (aV (i7 (jI 6 (aH E) v.t v.G hr.m v.b)) (aV (i7 (jI 6 (aH E) y.t y.G hr.m y.b)) (aV (dS 8 (eO (aH E) g.t g.G hr.m g.b (ai 6)) nd) (aV (nq 9 (FY.fz (Ra 8 (oj (nM 1 p.G hr.m p.m p.kp p.b (jm (gb (fX (E.b rfl) (ai 8))) lK))))) nd) (aV (eK (iD (dX (cQ h.G hr.m h.m h.kp h.b (au (ai 9) (au (adi rfl (E.b rfl) (E.b rfl) (au aU (au (qG (fX (E.b rfl) (ai 9)) aU) aI))) aI))))) (aQ (bC fq)) d8) (aQ (aag 1 6 j.G hr.m j.m j.kp j.b (au (ai 9) (au (ai 3) (au (ai 4) aI))))))))))))))))):z.D 16 Str.empty (top 56) (bx · (bV 1 10 _)))
abbrev za:=fF o_law
end K46
namespace K46
open PySem L2 L2.Ev
theorem xS:n_ [.int v,.int a,.int b]=some (.bl (decide (a<=v)&&decide (v<=b))):=by
 refine dh rfl ?_;show BG [some (.int v,.sh []),some (.int a,.sh []),some (.int b,.sh [])]=_;unfold BG;have q1:e1 (jK "int") (ah 0) [some (.int v,.sh []),some (.int a,.sh []),some (.int b,.sh [])]=some (.bl true,.own):=rfl;have q2:e1 A0 (e1 (jK "bool") (ah 0)) [some (.int v,.sh []),some (.int a,.sh []),some (.int b,.sh [])]=some (.bl true,.own):=rfl;rw[A3,AO,q1,AL,AO,q2,AL]
 by_cases h:a<=v
 .have e1:oLe (.int a) (.int v)=some (.bl true):=by rw[Qh,aa1 h]
  have:oU oLe oLe (ah 1) (ah 0) (ah 2) [some (.int v,.sh []),some (.int a,.sh []),some (.int b,.sh [])]=some (.bl (decide (v<=b)),.own):=by
   unfold oU;show(match oLe (.int a) (.int v) with|some (.bl true)=>(oLe (.int v) (.int b)).map (λd=>(d,Tag.own))|some (.bl false)=>some (.bl false,.own)|_=>none)=_;rw[e1]<;>rfl
  rw[this,aa1 h];rfl
 .have e1:oLe (.int a) (.int v)=some (.bl false):=by rw[Qh,abo h]
  have:oU oLe oLe (ah 1) (ah 0) (ah 2) [some (.int v,.sh []),some (.int a,.sh []),some (.int b,.sh [])]=some (.bl false,.own):=by
   unfold oU;show(match oLe (.int a) (.int v) with|some (.bl true)=>(oLe (.int v) (.int b)).map (λd=>(d,Tag.own))|some (.bl false)=>some (.bl false,.own)|_=>none)=_;rw[e1]<;>rfl
  rw[this,abo h];rfl
noncomputable def iL(l:List Int):D:=.lst (l.map D.int)
theorem wJ{α β:Type}(f:α->β):∀l:List α,l.filterMap (λx=>some (f x))=l.map f
 |[]=>rfl
 |a::l=>by rw[ad4,aaF];show _::_=_;rw[wJ f l]
theorem size_le(h:n<=10000):n<sizeLine:=by unfold sizeLine;omega
theorem U1(hi:it ρ=some (ds,.sh []))(h:fj g (.sh []) f ds ρ=some (.nx ρ')):jF it g f ρ=some (.nx ρ'):=D0 hi h
noncomputable def inR(v a b:Int):Bool:=decide (a<=v)&&decide (v<=b)
theorem mQ{F:List D->Option D}{ps:List (D×Tag)}(h:fo ρ=some (.ins cn es,t))(hm:es.lookup m=none)(hg:g ρ=some ps)(hF:F (.ins cn es::ps.map (·.1))=some d):
  bu cn m F fo g ρ=some (d,.own):=by
 unfold bu;rw[h];dsimp only;rw[if_pos ⟨rfl,hm⟩,hg,ach,hF];rfl
theorem Ba(h1:fv ρ=some (d,t))(h2:ρ[i]? = some (some (.ins cn es,.own)))(hl:es.lookup f=some (.lst ds))(hc:(aG d&&aP ds&&decide (ds.length<sizeLine))=true):
  Bf i cn f fv ρ=some (.nx (bJ ρ i (.ins cn (dO f (.lst (ds++[d])) es)))):=by
 unfold Bf;rw[h1,h2];dsimp only;rw[if_pos rfl,hl];dsimp only;rw[if_pos hc]
theorem iK(h:f ρ=some (.nx ρ')):iR f ρ=some (.nx ρ'):=by unfold iR;rw[h]
theorem gK(hl:ds.length+1=n)(h:b (wY N d0 ds)=some (.rt (.tup [r,d1]))):runM n N b d0 ds=some (r,d1):=by unfold runM;rw[if_pos hl,h]
theorem qO(h1:-1000<=i)(h2:i<=1000):small i=true:=by
 unfold small;rw[aa1 (show -(2 ^ 62)<=i by omega),aa1 (show i<2 ^ 62 by omega)];rfl
noncomputable def bG(a:Int)(n:Nat):List Int:=(List.range n).map λi:Nat=>a+(i:Int)
theorem rG:x∈bG a n↔a<=x/\x<a+n:=by
 unfold bG;rw[acs];constructor
 .rintro⟨i,m,rfl⟩
  have:=aeI.mp m;omega
 .intro h;exact⟨(x-a).toNat,aeI.mpr (by omega),by omega⟩
theorem Fj(a:Int)(n:Nat):(bG a n).Pairwise (· < ·):=by
 unfold bG;rw[List.pairwise_map];exact List.pairwise_lt_range.imp (λh=>by omega)
theorem B5(h:f ρ=some (.int i,t))(h2:g ρ=some (.int j,t2))(hi:small i=true)(hj:small j=true):qA f g ρ=some ((bG i (j-i).toNat).map D.int,.own):=by
 unfold qA;rw[h,h2];dsimp only;rw[if_pos (by rw[hi,hj];rfl)];unfold bG;rw[aea];rfl
theorem eN(p:Int->Bool)(f:Int->Int):∀l:List Int,l.filterMap (λx=>if p x=true then some (D.int (f x)) else none)=((l.filter p).map f).map D.int
 |[]=>rfl
 |a::r=>by
  rw[ad4]
  by_cases hp:p a=true
  .rw[List.filter_cons_of_pos hp,if_pos hp,eN p f r];rfl
  .rw[List.filter_cons_of_neg hp,abf hp,eN p f r]
theorem Ga{l:List Int}{p:Int->Bool}{f:Int->Int}(hi:it ρ=some (l.map D.int,t))(hl:l.length<=10000)(h:∀x∈l,iY g tt te (jC js ρ) (.int x)=some (if p x=true then some (.int (f x)) else none)):
  gI js it g tt te ρ=some (iL ((l.filter p).map f),.own):=by
 have hc:=t9 (k:=λd=>match d with | .int x=>if p x=true then some (.int (f x)) else none | _=>none) hi (by rw[aaf];exact size_le hl) (λd m=>by
  obtain⟨x,mx,rfl⟩:=acs.mp m;exact h x mx)
 rw[hc]
 congr 3
 clear hc h hi hl;rw[List.filterMap_map];exact eN p f l
theorem ac0{α:Type}{f:α->D}{L:List α}{m:Int}{l:α}(h1:1<=m)(h2:m<=L.length)(h:L[(m-1).toNat]? = some l):cP (L.map f) (m-1)=some (f l):=by
 unfold cP iw;rw[aaf];rw[if_pos (by omega),if_pos (by omega),ach,abW,h];rfl
theorem Gb(h:e ρ=some (.int n,t))(hs:n<=1000):lB e ρ=some ((bG 0 n).map D.int,.own):=by
 rw[WO h (qO (by omega) (by omega)),afj];unfold bG;rw[aea];rfl
theorem Pe{l:List Int}:l.any (· == m)=decide (m∈l):=by
 by_cases h:m∈l
 .rw[aa1 h];exact aey.mpr ⟨m,h,by simp⟩
 .rw[abo h,aeA];intro e;obtain⟨y,my,ey⟩:=aey.mp e;exact h (by rw[<- (aed.mp ey)];exact my)
theorem Io(hf:f ρ=some (.int m,t))(hh:h ρ=some (iL l,t2)):tV (e2 (iP false) f h) ρ=some (decide (m∈l)):=by
 rw[qv,jO,hf,hh,q_];show Ev.kV ((iP false (.int m) (.lst (l.map D.int))).map _)=_;rw[FO,abf aaN,Pe];rfl
theorem ZE{bs:List Bool}:oS (.lst (bs.map D.bl))=some (.bl (bs.all id)):=by
 have e:mR (bs.map D.bl)=some bs:=by
  induction bs with
  |nil=>rfl
  |cons b r ih=>rw[aaF];unfold mR;rw[ih];rfl
 show(mR (bs.map D.bl)).map (λbs=>D.bl (bs.all id))=_;rw[e];rfl
theorem adK{l:List Int}{p:Int->Bool}(hi:it ρ=some (l.map D.int,t))(hl:l.length<=10000)(h:∀x∈l,iY g mw te (jC js ρ) (.int x)=some (some (.bl (p x)))):
  e1 oS (gI js it g mw te) ρ=some (.bl (l.all p),.own):=by
 have hc:=t9 (k:=λd=>match d with | .int x=>some (.bl (p x)) | _=>none) hi (by rw[aaf];exact size_le hl) (λd m=>by
  obtain⟨x,mx,rfl⟩:=acs.mp m;exact h x mx)
 rw[rK,hc,Aj,List.filterMap_map];have e:l.filterMap ((λd=>match d with|D.int x=>some (D.bl (p x))|_=>none) ∘ D.int)=(l.map p).map D.bl:=by
  rw[aea];exact wJ (λx=>D.bl (p x)) _
 rw[e,ZE,afa];rfl
theorem eY(h:f ρ=some (d,.own)):dw f ρ=some (.rt d):=by rw[A3,h];rfl
theorem qe(hl:ds.length+1=n)(h:b (wY N d0 ds)=some (.nx ρ))(h0:ρ[0]? = some (some (d1,.own))):runM n N b d0 ds=some (.aC,d1):=by unfold runM;rw[if_pos hl,h];dsimp only;rw[h0]
noncomputable def ent(r:Int):D:=.tup [.int r,.tup [],.tup []]
def kD(R:List Int):D:=.ins "Changes" [("entries",.lst (R.map ent))]
theorem OR:∀R:List Int,aP (R.map ent)=true
 |[]=>rfl
 |_::R=>OR R
theorem AA(R:List Int):Gh [kD R]=some (.int R.length):=by
 have h:Gh [kD R]=some (.int (R.map ent).length):=rfl;rw[h,aaf]
theorem Km(R:List Int)(m:Int):OJ [kD R,.int m]=some (.bl (inR m 1 R.length)):=dh rfl (eY (fJ (ps:=[(.int m,.sh []),(.int 1,.own),(.int R.length,.own)]) (by
 rw[cJ,cJ,cJ,mQ rfl rfl rfl (AA R)];rfl) xS))
noncomputable def rk(R:List Int)(m:Int):Int:=(R[(m-1).toNat]?).getD 0
theorem Mf(h1:1<=m)(h2:m<=R.length):R[(m-1).toNat]? = some (rk R m):=by
 unfold rk;rw[aa0 (by omega)];rfl
theorem l_{F:List D->Option D}(h:fo ρ=some (kD R,t))(ha:fa ρ=some (x,t2))(hF:F [kD R,x]=some d)(hm:([("entries",D.lst (R.map ent))]:List (Str×D)).lookup mm=none:=by rfl):
  bu "Changes" mm F fo (aq fa aA) ρ=some (d,.own):=
 mQ (ps:=[(x,t2)]) h hm (by rw[cJ,ha,CI,CM]) hF
theorem F8{m:Int}(h1:1<=m)(h2:m<=R.length):adM [kD R,.int m]=some (ent (rk R m)):=
 dh rfl (cG (kN (b:=true) (cT (l_ rfl rfl ((Km R m).trans (by unfold inR;rw[aa1 h1,aa1 h2];rfl))))) (eY (bX (d1:=.lst (R.map ent)) (d2:=.int (m-1)) rfl rfl (xB (ac0 h1 h2 (Mf h1 h2)) rfl))))
theorem Y8{R:List Int}{m:Int}(h1:1<=m)(h2:m<=R.length):yO [kD R,.int m]=some (.int (rk R m)):=
 dh rfl (eY (bX (l_ rfl rfl (F8 h1 h2)) rfl rfl))
theorem Lh{R:List Int}{m:Int}(h1:1<=m)(h2:m<=R.length):B4 [kD R,.int m]=some (.lst []):=
 dh rfl (eY (dF (bX (l_ rfl rfl (F8 h1 h2)) rfl rfl) rfl))
theorem G2{R:List Int}{m:Int}(h1:1<=m)(h2:m<=R.length):CK [kD R,.int m]=some (.lst []):=
 dh rfl (eY (dF (bX (l_ rfl rfl (F8 h1 h2)) rfl rfl) rfl))
theorem Yn{R:List Int}(h:r=0\/r=9):YW [kD R,.int r,.lst [],.lst []]=some (.bl true):=by
 rcases h with rfl|rfl<;>kernel_rfl
theorem UA{R:List Int}(h:r=0\/r=9)(hl:R.length<60):Bl (kD R) [.int r,.lst [],.lst []]=some (.int (R.length+1),kD (R++[r])):=by
 refine gK rfl (cG (kN (cT (mQ (ps:=[(.int r,.sh []),(.lst [],.sh []),(.lst [],.sh [])]) rfl rfl rfl (Yn h)))) (cG (cT (bX (d2:=.int 60) (mQ rfl rfl rfl (AA R)) rfl (by rw[Vz,abo (by omega)]))) (sq (iK (Ba (d:=ent r) (t:=.sh []) (by kernel_rfl) rfl rfl (by
  rw[OR,aa1 (by rw[aaf];exact size_le (by omega))];rfl))) ?_)))
 have e:bJ (wY 4 (kD R) [.int r,.lst [],.lst []]) 0 (.ins "Changes" (dO "entries" (.lst (R.map ent++[ent r])) [("entries",.lst (R.map ent))]))=[some (kD (R++[r]),.own),some (.int r,.sh []),some (.lst [],.sh []),some (.lst [],.sh [])]:=by
  have:kD (R++[r])=.ins "Changes" [("entries",.lst (R.map ent++[ent r]))]:=by unfold kD;rw[ad5];rfl
  rw[this];rfl
 rw[e];unfold k_;rw[mQ (es:=[("entries",.lst ((R++[r]).map ent))]) rfl rfl rfl (AA (R++[r])),abe];rfl
def Row(R ns:List Int):Prop:=∀x∈ns,1<=x/\x<=R.length
abbrev Ul:SF:=(aS (cj 4 (cM Xn (aq (ah 2) (aq (ah 3) aA)))) (aS (cH (tV (e2 y_ (ah 4) (eC .aC))) kQ cz) (jF (jl (ah 3)) (gT (j8 (gN 5) (j8 (gN 6) (j8 (gN 7) xV)))) (Ax 2 (ah 5) (ah 7)))))
theorem N5{S L:D}:∀{row:List Int}{s3 s4:Slot},∃C8 DI,fj (gN 3) (.sh []) Ul (row.map λ_=>.lst []) [some (S,.sh []),some (L,.sh []),some (.bK [],.own),s3,s4,none,none,none]=some (.nx [some (S,.sh []),some (L,.sh []),some (.bK [],.own),C8,DI,none,none,none])
 |[],s3,s4=>⟨s3,s4,rfl⟩
 |_::row,s3,s4=>by
  obtain⟨a,b,h⟩:=N5;refine⟨a,b,(se (by rfl) ?_).trans h⟩;refine sq (by rfl) (cG (by rfl) ?_);rfl
theorem Vn{row:List Int}:WX [.lst [],.lst (row.map λ_=>.lst [])]=some (.lst []):=by
 obtain⟨a,b,h⟩:=N5;exact dh rfl (sq (by rfl) (sq (U1 (by rfl) h) (eY (fJ rfl (by kernel_rfl)))))
theorem Kr(h:Row R row)(hl:row.length<=100):S5 [kD R,iL row]=some (.lst []):=by
 refine dh rfl (eY (fJ (ps:=[(.lst [],.own),(.lst (row.map λ_=>.lst []),.own)]) ?_ Vn));have hc:=t9 (js:=[none,some 0]) (g:=gN 0) (tt:=mw) (te:=bu "Changes" "edits_of" CK (ah 1) (aq (ah 0) aA)) (k:=λ_=>some (.lst [])) (it:=jl (ah 1)) (ρ:=[some (kD R,.sh []),some (iL row,.sh [])]) (ow rfl) (by rw[aaf];exact size_le (by omega)) (λd m=>by
  obtain⟨x,mx,rfl⟩:=acs.mp m;exact C6 (aJ:=[some (.int x,.sh []),some (kD R,.sh [])]) rfl rfl (l_ (R:=R) (t:=.sh []) (x:=.int x) (t2:=.sh []) rfl rfl (G2 (h x mx).1 (h x mx).2)))
 rw[wJ (λ_=>D.lst []),aea] at hc;rw[cJ,cJ,show pQ 2 [kD R,iL row]=[some (kD R,.sh []),some (iL row,.sh [])] from rfl,hc];rfl
theorem KG(h:f ρ=some (iL a,t))(h2:g ρ=some (iL b,t2))(hl:a.length+b.length<=1000):e2 gp (e1 sM f) (e1 sM g) ρ=some (iL (a++b),.own):=
 bX (dF h xW) (dF h2 xW) (zw (by rw[aeg];omega))
theorem adh{R ln ld:List Int}(h:Row R (ln++ld))(hl:ln.length+ld.length<=100):adk [kD R,iL ln,iL ld]=some (.bK []):=
 dh rfl (eY (dF (fJ (ps:=[(kD R,.sh []),(iL (ln++ld),.own)]) (by rw[cJ,cJ,KG rfl rfl (by omega)];rfl) (Kr h (by rw[abe];exact hl))) rfl))
theorem Jq:∀ns:List Int,∃ps,lI (ns.map λn=>.tup [.int n,.bl true])=some ps
 |[]=>⟨[],rfl⟩
 |n::r=>by
  obtain⟨ps,h⟩:=Jq r;refine⟨(Sum.inl n,.bl true)::ps,?_⟩;rw[aaF];show(match g_ (.int n),lI (r.map λn=>.tup [.int n,.bl true]) with|some k,some ps=>if aG (.bl true)=true then some ((k,D.bl true)::ps) else none|_,_=>none)=_;rw[h];rfl
theorem IT{R ln ld wt:List Int}(h:Row R wt)(hl:ln.length+ld.length<=100)(hw:wt.length<=100):yg [kD R,iL ln,iL ld,iL wt]=some (iL wt):=by
 obtain⟨ps,hp⟩:=Jq (ln++ld);obtain⟨es,he⟩:∃es,E1 (.lst ((ln++ld).map λn=>.tup [.int n,.bl true]))=some (.bK es):=⟨_,by
  show(lI _).map _=_;rw[hp];rfl⟩
 have hc:=t9 (js:=[none]) (g:=gN 0) (tt:=mw) (te:=jq (aq (ah 0) (aq (eC (.bl true)) aA))) (k:=λd=>some (.tup [d,.bl true])) (ρ:=[some (kD R,.sh []),some (iL ln,.sh []),some (iL ld,.sh []),some (iL wt,.sh []),none]) (ow (KG (f:=ah 1) (g:=ah 2) rfl rfl (by omega))) (by rw[aaf,abe];exact size_le (by omega)) (λd m=>by
  obtain⟨x,mx,rfl⟩:=acs.mp m;exact vq (aJ:=[some (.int x,.sh [])]) (tg:=.sh []) rfl rfl rfl rfl)
 rw[wJ (λd=>D.tup [d,.bl true]),aea] at hc;refine dh rfl (ku (d:=.bK es) (t:=.own) (dF hc he) (eY ?_));have hk:=Ga (js:=[none,some 0,some 4]) (it:=jl (ah 3)) (g:=gN 0) (tt:=(tV (e1 oS (gI [none,some 2] (jl (bu "Changes" "leans_of" B4 (ah 1) (aq (ah 0) aA))) (gN 0) mw (e2 (rC false) (ah 0) (ah 1)))))) (te:=ah 0) (p:=λ_=>true) (f:=id)
  (ρ:=[some (kD R,.sh []),some (iL ln,.sh []),some (iL ld,.sh []),some (iL wt,.sh []),some (.bK es,.own)]) (l:=wt) (ow rfl) (by omega) (λx mx=>vq rfl (cT (dF (d:=.lst []) (by
   unfold gI;rw[ow (l_ rfl rfl (Lh (h x mx).1 (h x mx).2))];rfl) rfl)) rfl rfl)
 rw[List.filter_eq_self.mpr λ_ _=>rfl,List.map_id] at hk;exact hk
abbrev kf:EF:=jq (aq (e1 xX (bu "Changes" "rank_of" yO (ah 1) (aq (ah 0) aA))) (aq (ah 0) aA))
abbrev pr(R:List Int):Int->Int×Int:=uu kf (kD R)
theorem Ka(h1:1<=x)(h2:x<=R.length):rJ kf (kD R) x=some (-(rk R x),x):=by
 unfold rJ;have e:e1 xX (bu "Changes" "rank_of" yO (ah 1) (aq (ah 0) aA)) [some (.int x,.own),some (kD R,.sh [])]=some (.int (-(rk R x)),.own):=dF (l_ rfl rfl (Y8 h1 h2)) rfl;show(match jq _ _ with|some (.tup [.int a,.int b],_)=>some (a,b)|_=>none)=_;rw[Ju,cJ,e];rfl
theorem yC(h1:1<=x)(h2:x<=R.length):pr R x=(-(rk R x),x):=by
 show(rJ kf (kD R) x).getD _=_;rw[Ka h1 h2];rfl
theorem L8(h:Row R ns)(hn:ns.Nodup):(ns.map (pr R)).Nodup:=by
 unfold List.Nodup;rw[List.pairwise_map];refine hn.imp_of_mem λ{a b} ma mb ne e=>ne ?_
 rw[yC (h a ma).1 (h a ma).2,yC (h b mb).1 (h b mb).2] at e;exact(Prod.mk.injEq .. ▸ e).2
theorem Rk(h:Row R ns)(hn:ns.Nodup)(hl:ns.length<64):LB [kD R,iL ns]=some (iL (g9 (pr R) ns)):=by
 refine dh rfl (eY ?_);show(match dB (ns.map D.int) with|some ns=>if ns.length<64/\(ns.map (pr R)).Nodup/\∀n∈ns,(rJ kf (kD R) n).isSome=true then some (D.lst ((g9 (pr R) ns).map D.int),Tag.own) else none|none=>none)=_;rw[uc];dsimp only;rw[if_pos ⟨hl,L8 h hn,λx m=>by rw[Ka (h x m).1 (h x m).2];rfl⟩];rfl
theorem T_{R:List Int}{vs:D}{x:Int}(h1:1<=x)(h2:x<=R.length):R_ [kD R,vs,.int x]=some (.bl true):=
 dh rfl (eY (bX (fJ (by rw[cJ,cJ,l_ rfl rfl (G2 h1 h2)];rfl) (by rfl)) rfl rfl))
noncomputable def AK:List Int->D
 |[]=>.aC
 |x::_=>.int x
theorem kZ(h:sf ρ=some (.rt d)):aS sf sg ρ=some (.rt d):=by rw[h_,h];rfl
theorem ab4(h:Row R ns)(hn:ns.Nodup)(hl:ns.length<64):BS [kD R,vs,iL ns]=some (AK (g9 (pr R) ns)):=by
 have hi:jl (cM LB (aq (ah 0) (aq (ah 2) aA))) [some (kD R,.sh []),some (vs,.sh []),some (iL ns,.sh []),none]=some ((g9 (pr R) ns).map D.int,.own):=ow (fJ rfl (Rk h hn hl));refine dh rfl ?_;cases e:g9 (pr R) ns with
 |nil=>
  rw[e] at hi;exact sq (tu hi rfl) rfl
 |cons x r=>
  rw[e] at hi;have mx:=h x ((qI ns).mem_iff.mp (e ▸ aax));exact kZ (Jg hi (Iq rfl (by
   rw[gQ,cT (fJ rfl (T_ mx.1 mx.2))];rfl)))
theorem V4(h1:c ρ=some true)(h2:b ρ=some (.nx ρ')):gU c b (n+1) ρ=gU c b n ρ':=by rw[gU,h1];dsimp only;rw[h2]
theorem Vo(h1:c ρ=some false):gU c b (n+1) ρ=some (.nx ρ):=by rw[gU,h1]
theorem aae(h1:c ρ=some true)(h2:b ρ=some (.rt d)):gU c b (n+1) ρ=some (.rt d):=by rw[gU,h1];dsimp only;rw[h2]
theorem TJ{ns:List Int}(h1:fv ρ=some (.int n,t))(h2:ρ[i]? = some (some (.lst (ns.map D.int),.own)))(hm:n∈ns):xQ i fv ρ=some (.nx (bJ ρ i (.lst ((ns.erase n).map D.int)))):=by
 unfold xQ;rw[h1,h2];dsimp only;rw[uc];dsimp only;rw[if_pos hm]
def jr(R:List Int):Nat->List Int->List Int->List Int
 |0,told,_=>told
 |k+1,told,left=>match g9 (pr R) left with
  |[]=>told
  |c::_=>jr R k (told++[c]) (left.erase c)
abbrev cF:TF:=tV (e2 oLt (e1 cX (ah 5)) (ah 4))
abbrev bF:SF:=(aS (cj 8 (cM BS (aq (ah 0) (aq (ah 7) (aq (cM yg (aq (ah 0) (aq (ah 1) (aq (ah 5) (aq (ah 6) aA))))) aA))))) (aS (cH (tV (e2 iu (ah 8) (eC .aC))) (ux 5) cz) (aS (lT 5 (ah 8)) (aS (xQ 6 (ah 8)) (jF (jl (bu "Changes" "edits_of" CK (ah 0) (aq (ah 8) aA))) (gT (j8 (gN 9) (j8 (gN 10) (j8 (gN 11) xV)))) (Ax 7 (ah 9) (ah 11)))))))
def rF(R ln ld wt:List Int)(w:Int)(told left:List Int)(s8:Slot):aE:=[some (kD R,.sh []),some (iL ln,.sh []),some (iL ld,.sh []),some (iL wt,.sh []),some (.int w,.sh []),some (iL told,.own),some (iL left,.own),some (.bK [],.own),s8,none,none,none]
theorem Lm:cF (rF R ln ld wt w told left s8)=some (decide ((told.length:Int)<w)):=
 cT (bX (d1:=.int told.length) (d2:=.int w) (dF (d:=iL told) rfl (by show some (D.int (told.map D.int).length)=_;rw[aaf])) rfl rfl)
theorem Jz(hw:w<=16):∀{k n:Nat}{told left:List Int}{s8:Slot},(told.length:Int)+k=w\/(k=0/\w<=told.length)->k<n->Row R left->left.Nodup->left.length<64->ln.length+told.length+k<=100->
  aS (gU cF bF n) (ux 5) (rF R ln ld wt w told left s8)=some (.rt (iL (jr R k told left)))
 |0,n+1,told,left,s8,h,hn,hr,nd,hl,hb=>sq (Vo (by rw[Lm,abo (by omega)])) rfl
 |k+1,n+1,told,left,s8,h,hn,hr,nd,hl,hb=>by
  have hc:cF (rF R ln ld wt w told left s8)=some true:=by rw[Lm,aa1 (by omega)]
  have h8:(cM BS (aq (ah 0) (aq (ah 7) (aq (cM yg (aq (ah 0) (aq (ah 1) (aq (ah 5) (aq (ah 6) aA))))) aA)))) (rF R ln ld wt w told left s8)=some (AK (g9 (pr R) left),.own):=
   fJ (ps:=[(kD R,.sh []),(.bK [],.sh [7]),(iL left,.own)]) (by
    rw[cJ,cJ,cJ,fJ (F:=yg) (ps:=[(kD R,.sh []),(iL ln,.sh []),(iL told,.sh [5]),(iL left,.sh [6])]) (d:=iL left) rfl (IT hr (by omega) (by omega))];rfl) (ab4 hr nd hl)
  unfold jr;cases e:g9 (pr R) left with
  |nil=>
   rw[e] at h8;exact kZ (aae hc (ku h8 (kZ (by rw[gQ];rfl))))
  |cons x r=>
   rw[e] at h8;have mx:=(qI left).mem_iff.mp (e ▸ aax);have hx:=hr x mx;have step:bF (rF R ln ld wt w told left s8)=some (.nx (rF R ln ld wt w (told++[x]) (left.erase x) (some (.int x,.own)))):=by
    refine ku h8 (cG (by rfl) (sq (ρ':=rF R ln ld wt w (told++[x]) left (some (.int x,.own))) (Cq rfl rfl (size_le (by omega))) (sq (ρ':=rF R ln ld wt w (told++[x]) (left.erase x) (some (.int x,.own))) (TJ rfl rfl mx) ?_)));exact tu (ow (l_ rfl rfl (G2 hx.1 hx.2))) rfl
   rw[h_,V4 hc step,<- h_];have el:=List.length_erase_of_mem mx;exact Jz hw (by rw[abe,aee];omega) (by omega) (λy my=>hr y (List.mem_of_mem_erase my)) (nd.erase x) (by omega) (by rw[abe,aee];omega)
theorem SA{R ln ld wt:List Int}(hw:1<=w/\w<=16)(h:Row R (ln++ld))(hr:Row R wt)(nd:wt.Nodup)(hl:wt.length<64)(hb:ln.length+ld.length<=64):Py [kD R,iL ln,iL ld,iL wt,.int w]=some (iL (jr R (w-ld.length).toNat ld wt)):=
 dh rfl (ku (dF (d:=iL ld) rfl xW) (ku (dF (d:=iL wt) rfl xW) (ku (fJ rfl (adh h (by omega))) (Jz hw.2 (by omega) (by omega) hr nd hl (by omega)))))
theorem KN:∀{k:Nat}{told left:List Int},left.Nodup->∃ex,jr R k told left=told++ex/\ex.Nodup/\(∀x∈ex,x∈left)/\ex.length<=k/\(0<k->left≠[]->ex≠[])
 |0,told,left,nd=>⟨[],(abM _).symm,.nil,(λx m=>nomatch m),abd _,λh=>absurd h (adw _)⟩
 |k+1,told,left,nd=>by
  unfold jr;cases e:g9 (pr R) left with
  |nil=>exact⟨[],(abM _).symm,.nil,(λx m=>nomatch m),aeh _,λ_ h=>absurd (List.perm_nil.mp (e ▸ (qI (pr:=pr R) left).symm)) h⟩
  |cons x r=>
   have mx:=(qI left).mem_iff.mp (e ▸ aax);obtain⟨ex,h1,h2,h3,h4,_⟩:=KN (told:=told++[x]) (nd.erase x);refine⟨x::ex,by dsimp only;rw[h1,List.append_assoc];rfl,abu.mpr ⟨λm=>((nd.mem_erase_iff).mp (h3 x m)).1 rfl,h2⟩,λy m=>?_,by rw[abj];omega,λ_ _=>by simp⟩;rcases aaM.mp m with rfl|m
   .exact mx
   .exact List.mem_of_mem_erase (h3 y m)
theorem OG(h1:1<=n)(h2:n<=t)(h3:t<=20):uY [.int n,.int t]=some (.bl true):=by
 refine dh rfl ?_;show D9 [some (.int n,.sh []),some (.int t,.sh [])]=_;unfold D9;have q1:cM n_ (aq (ah 1) (aq (eC (.int 1)) (aq (eC (.int 20)) aA))) [some (.int n,.sh []),some (.int t,.sh [])]=some (.bl true,.own):=by
  show(n_ [.int t,.int 1,.int 20]).map (λd=>(d,Tag.own))=_;rw[xS,aa1 (show(1:Int)<=t by omega),aa1 h3];rfl
 have q2:cM n_ (aq (ah 0) (aq (eC (.int 1)) (aq (ah 1) aA))) [some (.int n,.sh []),some (.int t,.sh [])]=some (.bl true,.own):=by
  show(n_ [.int n,.int 1,.int t]).map (λd=>(d,Tag.own))=_;rw[xS,aa1 h1,aa1 h2];rfl
 rw[A3,AO,q1,AL,q2];rfl
noncomputable def hs(h:List Str):D:=.lst (h.map D.str)
def obj(n t:Int)(h:List Str):D:=.ins "Tally" [("need",.int n),("tries",.int t),("heard",hs h)]
theorem UU(h1:1<=n)(h2:n<=t)(h3:t<=20):xg (.ins "Tally" []) [.int n,.int t]=some (.aC,obj n t []):=by
 have v:cM uY (aq (ah 1) (aq (ah 2) aA)) [some (.ins "Tally" [],.own),some (.int n,.sh []),some (.int t,.sh [])]=some (.bl true,.own):=by
  show(uY [.int n,.int t]).map (λd=>(d,Tag.own))=_;rw[OG h1 h2 h3];rfl
 have c:iN (tV (cM uY (aq (ah 1) (aq (ah 2) aA)))) [some (.ins "Tally" [],.own),some (.int n,.sh []),some (.int t,.sh [])]=some false:=by rw[NS,qv,v];rfl
 have b:yd [some (.ins "Tally" [],.own),some (.int n,.sh []),some (.int t,.sh [])]=some (.nx [some (obj n t [],.own),some (.int n,.sh []),some (.int t,.sh [])]):=by
  unfold yd;rw[h_,gQ,c];rfl
 show runM 3 3 yd (.ins "Tally" []) [.int n,.int t]=_;unfold runM;rw[if_pos (by rfl)];show(match yd [some (.ins "Tally" [],.own),some (.int n,.sh []),some (.int t,.sh [])] with|some (.rt (.tup [r,d1]))=>some (r,d1)|some (.nx ρ)=>(match ρ[0]? with|some (some (d1,Tag.own))=>some (D.aC,d1)|_=>none)|_=>none)=_;rw[b];rfl
theorem aaa:u6 (hs h) (.str w)=some (.int (bY w h)):=by
 show(iI (h.map D.str)).map (λys=>D.int (bY w ys))=_;rw[IC];rfl
theorem wW:bY w (h++[v])=bY w h+(if(v==w)=true then 1 else 0):=by
 unfold bY;rw[List.countP_append,List.countP_cons,List.countP_nil,Nat.zero_add]
theorem aaJ:bY w h<=h.length:=List.countP_le_length
theorem abq:cX (hs h)=some (.int h.length):=by unfold hs;rw[Pq,aaf]
def word(n t:Int)(h:List Str):Str:=if(bY "yes" h:Int) >= n then "yes" else if(bY "no" h:Int) >= n then "no" else if(h.length:Int) >= t then "unsure" else "more"
theorem PK:DM [obj n t h]=some (.str (word n t h)):=by
 refine dh rfl ?_;show F5 [some (obj n t h,.sh [])]=_;have v1:bz "Tally" "heard" (ah 0) [some (obj n t h,.sh [])]=some (hs h,.sh []):=rfl;have v2:bz "Tally" "need" (ah 0) [some (obj n t h,.sh [])]=some (.int n,.sh []):=rfl;have v3:bz "Tally" "tries" (ah 0) [some (obj n t h,.sh [])]=some (.int t,.sh []):=rfl;have c1:∀w:Str,tV (e2 rS (e2 u6 (bz "Tally" "heard" (ah 0)) (eC (.str w))) (bz "Tally" "need" (ah 0))) [some (obj n t h,.sh [])]=some (decide ((bY w h:Int) >= n)):=λw=>by
  rw[qv,jO,jO,v1,v2,zG,q_,aaa];rfl
 have c2:tV (e2 rS (e1 cX (bz "Tally" "heard" (ah 0))) (bz "Tally" "tries" (ah 0))) [some (obj n t h,.sh [])]=some (decide ((h.length:Int) >= t)):=by
  rw[qv,jO,rK,v1,v3,Aj,abq];rfl
 unfold F5 word;rw[h_,gQ,c1]
 by_cases a1:(bY "yes" h:Int) >= n
 .rw[aa1 a1,if_pos a1];rfl
 .rw[abo a1,abf a1,wo,CV,k7,h_,gQ,c1]
  by_cases a2:(bY "no" h:Int) >= n
  .rw[aa1 a2,if_pos a2];rfl
  .rw[abo a2,abf a2,wo,CV,k7,h_,gQ,c2]
   by_cases a3:(h.length:Int) >= t
   .rw[aa1 a3,if_pos a3];rfl
   .rw[abo a3,abf a3,wo,CV,k7];rfl
theorem U8{k:Nat}(hk:k<=ds.length):cutD ds (some (k:Int)) none=ds.drop k:=by
 unfold cutD;rw[HT.ze,HT.An,Nat.min_eq_left hk,List.take_of_length_le (by rw[List.length_drop];exact abd _)]
theorem H_{k:Nat}(hk:k<=ds.length):cutD ds none (some (k:Int))=ds.take k:=by
 unfold cutD;rw[HT.ze,HT.An,Nat.min_eq_left hk];rfl
structure G where
 w:Int
 h:Int
 n:Int
 t:Int
 R:List Int
 ln:List Int
 ld:List Int
 gr:List (Key×D)
 ta:Option (List Int×List Str)
 lk:List (List Int)
 ht:Bool
 gw:List D
 en:List D
 an:Int
 br:Int
noncomputable def tD(l:List Int):D:=.tup (l.map D.int)
noncomputable def kL(l:List Int):List Key:=l.map Sum.inl
def kG(n t:Int):Option (List Int×List Str)->List (List Key×D)
 |none=>[]
 |some (l,h)=>[(kL l,obj n t h)]
def gF(g:G):List (Str×D):=[("numbers",.tup [.int g.w,.int g.h,.int g.n,.int g.t]),("known",kD g.R),("on_line",iL g.ln),("laid_ones",iL g.ld),("grounds",.bK g.gr),("tallies",.eS (kG g.n g.t g.ta)),("looks",.lst (c8 g.lk)),("halted",.bl g.ht),("grown",.lst g.gw),("ended",.lst g.en),("answers",.int g.an),("breaks",.int g.br)]
def gD(g:G):D:=.ins "Gate" (gF g)
section
variable{g:G}{ρ:aE}{t t2:Tag}{fo fa:EF}{f mm:Str}{d x:D}
theorem fl(h:fo ρ=some (gD g,t))(e:(gF g).lookup f=some d:=by rfl):bz "Gate" f fo ρ=some (d,kK t):=by
 unfold bz;rw[h];show(if("Gate":Str)="Gate" then((gF g).lookup f).map _ else none)=_;rw[if_pos rfl,e];rfl
theorem gX{F:List D->Option D}(h:fo ρ=some (gD g,t))(hF:F [gD g]=some d)(hm:(gF g).lookup mm=none:=by rfl):bu "Gate" mm F fo aA ρ=some (d,.own):=mQ h hm rfl hF
theorem oO{F:List D->Option D}(h:fo ρ=some (gD g,t))(ha:fa ρ=some (x,t2))(hF:F [gD g,x]=some d)(hm:(gF g).lookup mm=none:=by rfl):bu "Gate" mm F fo (aq fa aA) ρ=some (d,.own):=
 mQ (ps:=[(x,t2)]) h hm (by rw[cJ,ha,CI,CM]) hF
end
def qf(g:G)(x:Int):Bool:=(bI g.gr (Sum.inl x:Key)).isSome
def pN(g:G)(x:Int):Bool:=!decide (x∈g.ln)&&(!decide (x∈g.ld)&&!qf g x)
theorem Qi{l:List Int}{x:Int}{f f2:EF}{ρ:aE}{t t2:Tag}(h:f ρ=some (.int x,t))(h2:f2 ρ=some (iL l,t2)):e2 (iP true) f f2 ρ=some (.bl (!decide (x∈l)),.own):=
 bX h h2 (by rw[<- Pe];exact FO)
theorem yx(h:f ρ=some (.bl a,t))(h2:f2 ρ=some (.bl b,.own)):jM f f2 ρ=some (.bl (a&&b),.own):=by
 rw[AO,h];cases a
 .rfl
 .rw[AL,h2];rfl
theorem SJ{g:G}{x:Int}:BD [gD g,.int x]=some (.bl (pN g x)):=
 dh rfl (eY (yx (Qi rfl (fl rfl)) (yx (Qi rfl (fl rfl)) (bX (d1:=.int x) rfl (fl rfl) rfl))))
def wl(g:G):List Int:=(bG 1 g.R.length).filter (pN g)
theorem CJ{g:G}(hR:g.R.length<=100):Ew [gD g]=some (iL (wl g)):=by
 have hi:qA (eC (.int 1)) (e2 jc (bu "Changes" "many" Gh (bz "Gate" "known" (ah 0)) aA) (eC (.int 1))) [some (gD g,.sh [])]=some ((bG 1 g.R.length).map D.int,.own):=by
  rw[B5 (i:=1) (j:=g.R.length+1) rfl (bX (mQ (fl rfl) rfl rfl (AA g.R)) rfl rfl) (qO (by omega) (by omega)) (qO (by omega) (by omega)),show((g.R.length:Int)+1-1).toNat=g.R.length by omega]
 have hk:=Ga (js:=[none,some 0]) (g:=gN 0) (tt:=tV (bu "Gate" "waits" BD (ah 1) (aq (ah 0) aA))) (te:=ah 0) (p:=pN g) (f:=id) hi (by unfold bG;rw[aaf,acP];omega) (λx mx=>by
  have ht:tV (bu "Gate" "waits" BD (ah 1) (aq (ah 0) aA)) [some (.int x,.sh []),some (gD g,.sh [])]=some (pN g x):=cT (oO (g:=g) rfl rfl SJ);cases e:pN g x with
  |true=>rw[e] at ht;exact vq rfl ht rfl rfl
  |false=>rw[e] at ht;exact CW rfl ht)
 rw[List.map_id] at hk;exact dh rfl (eY hk)
theorem yI{g:G}:Row g.R (wl g):=λx m=>by have:=rG.mp (adY.mp m).1;omega
theorem Lx{g:G}:(wl g).Nodup:=((Fj 1 _).imp (λh=>by omega)).sublist List.filter_sublist
theorem adv{g:G}:(wl g).length<=g.R.length:=by
 have:=List.length_filter_le (pN g) (bG 1 g.R.length);unfold bG at this;rw[aaf,acP] at this;exact this
theorem HJ{g:G}:∀{l:List Int}{s1 s2:Slot},Row g.R l->∃tP Wg,fj (gN 1) (.sh []) (aS (cj 2 (gI [none,some 0] (jl (bu "Changes" "leans_of" B4 (bz "Gate" "known" (ah 0)) (aq (ah 1) aA))) (gN 0) (tV (e2 (rC false) (ah 0) (bz "Gate" "grounds" (ah 1)))) (ah 0))) (cH (nU (ah 2)) (tR 0 "Gate" "grounds" (ah 1) (jq (aq (eC (.str "leans")) (aq (e2 cZ (ah 2) (eC (.int 0))) aA)))) cz)) (l.map D.int) [some (gD g,.own),s1,s2]=some (.nx [some (gD g,.own),tP,Wg])
 |[],s1,s2,_=>⟨s1,s2,rfl⟩
 |x::l,s1,s2,h=>by
  obtain⟨a,b,e⟩:=HJ (λy m=>h y (aal _ m));have hx:=h x aax;refine⟨a,b,(se rfl ?_).trans e⟩;refine ku (d:=.lst []) (t:=.own) ?_ rfl;unfold gI;rw[ow (l_ (fl rfl) rfl (Lh hx.1 hx.2))];rfl
theorem YM{g:G}(hR:g.R.length<=100):Cn (gD g) []=some (.aC,gD g):=by
 obtain⟨a,b,e⟩:=HJ yI;exact qe rfl (iK (tu (ow (gX rfl (CJ hR))) e)) rfl
def wd(g:G)(l:List Int):Str:=match g.ta with
 |none=>"more"
 |some (k,h)=>if k=l then word g.n g.t h else "more"
theorem kF:∀l:List Int,je (l.map D.int)=some (kL l)
 |[]=>rfl
 |x::l=>by
  rw[aaF];unfold je;rw[kF l];rfl
theorem Jk:∀{a b:List Int},kL a=kL b->a=b
 |[],[],_=>rfl
 |[],_::_,e=>by cases e
 |_::_,[],e=>by cases e
 |x::a,y::b,e=>by
  injection e with e1 e2;cases e1;rw[Jk e2]
theorem OH{ta:Option (List Int×List Str)}:bI (kG n t ta) (kL l)=match ta with|none=>none|some (k,h)=>if k=l then some (obj n t h) else none:=by
 cases ta with
 |none=>rfl
 |some p=>
  obtain⟨k,h⟩:=p;show(List.find? _ [(kL k,obj n t h)]).map _=_;dsimp only
  by_cases e:k=l
  .subst e;rw[if_pos rfl,aeR (by simp)];rfl
  .rw[abf e,ad9 (by simpa using λz=>e (Jk z))];rfl
theorem Hj{g:G}:AG [gD g,tD l]=some (.str (wd g l)):=by
 have v:=OH (n:=g.n) (t:=g.t) (ta:=g.ta) (l:=l);have uq:tV (e2 (yE false) (ah 1) (bz "Gate" "tallies" (ah 0))) [some (gD g,.sh []),some (tD l,.sh [])]=some (bI (kG g.n g.t g.ta) (kL l)).isSome:=cT (bX (d1:=tD l) rfl (fl rfl) (by
  show(je (l.map D.int)).map _=_;rw[kF];rfl))
 refine dh rfl (eY ?_);unfold wd;have no:bI (kG g.n g.t g.ta) (kL l)=none->mX (tV (e2 (yE false) (ah 1) (bz "Gate" "tallies" (ah 0)))) (bu "Tally" "word" DM (zk (bz "Gate" "tallies" (ah 0)) (ah 1)) aA) (eC (.str "more")) [some (gD g,.sh []),some (tD l,.sh [])]=some (.str "more",.own):=λe=>by
  rw[e] at uq;exact Ih uq
 cases e:g.ta with
 |none=>rw[e] at v;exact no (by rw[e];exact v)
 |some p=>
  obtain⟨k,h⟩:=p;rw[e] at v uq no;dsimp only at v ⊢
  by_cases ek:k=l
  .rw[if_pos ek] at v ⊢;rw[v] at uq;refine(HH uq).trans (mQ (t:=.sh []) ?_ rfl rfl PK);unfold zk;rw[fl (d:=.eS (kG g.n g.t g.ta)) rfl,show ah 1 [some (gD g,.sh []),some (tD l,.sh [])]=some (tD l,.sh []) from rfl];show(je (l.map D.int)).bind _=_;rw[kF,ach,e,v];rfl
  .rw[abf ek] at v ⊢;exact no v
noncomputable def b7(g:G)(p:Nat):List Int:=g.ln++g.ld.take p
theorem f_look{g:G}{p:Nat}(hp:p<=g.ld.length)(hl:g.ln.length+g.ld.length<=1000):pW [gD g,.int p]=some (tD (b7 g p)):=by
 have hc:uK (bz "Gate" "laid_ones" (ah 0)) (ah 1) [some (gD g,.sh []),some (.int p,.sh [])]=some (iL (g.ld.take p),.own):=by
  unfold uK;rw[fl (g:=g) (d:=iL g.ld) rfl,show ah 1 [some (gD g,.sh []),some (.int p,.sh [])]=some (.int p,.sh []) from rfl];show(if aP (g.ld.map D.int)=true then some (D.lst (cutD (g.ld.map D.int) none (some (p:Int))),Tag.own) else none)=_;rw[if_pos (fH _),H_ (by rw[aaf];exact hp),<- List.map_take];rfl
 have h1:=adf (i:=p) (l:=g.ld);exact dh rfl (eY (dF (bX (fl rfl) hc (zw (by rw[aeg];omega))) NZ))
def sE(g:G)(p:Nat):Bool:=(["no","unsure"]:List Str).any (· == wd g (b7 g p))
def lG(g:G):List Nat->Option Nat
 |[]=>none
 |p::r=>if sE g p=true then some p else lG g r
def bad(g:G):Option Nat:=lG g ((List.range g.ld.length).map (· + 1))
noncomputable def bD:Option Nat->D
 |none=>.aC
 |some p=>.int p
theorem Lk{g:G}(hl:g.ln.length+g.ld.length<=1000):∀{ps:List Nat}{s1:Slot},(∀p∈ps,p<=g.ld.length)->∃tP,
  fj (gN 1) (.sh []) (cH (tV (e2 (tL false) (bu "Gate" "word_of" AG (ah 0) (aq (bu "Gate" "look_of" pW (ah 0) (aq (ah 1) aA)) aA)) (eC (.tup ((["no","unsure"]:List Str).map D.str))))) (ux 1) cz) (ps.map λp:Nat=>D.int p) [some (gD g,.sh []),s1]=some (match lG g ps with|none=>.nx [some (gD g,.sh []),tP]|some p=>.rt (.int p))
 |[],s1,_=>⟨s1,rfl⟩
 |p::ps,s1,h=>by
  obtain⟨a,e⟩:=Lk hl (λq m=>h q (aal _ m));have ht:tV (e2 (tL false) (bu "Gate" "word_of" AG (ah 0) (aq (bu "Gate" "look_of" pW (ah 0) (aq (ah 1) aA)) aA)) (eC (.tup ((["no","unsure"]:List Str).map D.str)))) [some (gD g,.sh []),some (.int p,.sh [])]=some (sE g p):=
   cT (bX (oO rfl (oO rfl rfl (f_look (h p aax) hl)) Hj) rfl rfl)
  refine⟨a,?_⟩;unfold lG;cases eb:sE g p with
  |true=>
   rw[eb] at ht;exact Iq (aJ:=[some (gD g,.sh []),some (.int p,.sh [])]) rfl (by rw[gQ,ht];rfl)
  |false=>
   rw[eb] at ht;exact(se (aJ:=[some (gD g,.sh []),some (.int p,.sh [])]) rfl (by rw[gQ,ht];rfl)).trans e
theorem adI(n:Nat):(bG 1 n).map D.int=((List.range n).map (· + 1)).map λp:Nat=>D.int p:=by
 unfold bG;rw[aea,aea];refine List.map_congr_left λi _=>?_
 show D.int (1+(i:Int))=D.int ((i+1:Nat):Int);rw[show(1+(i:Int))=((i+1:Nat):Int) by omega]
theorem CP{g:G}(hl:g.ln.length+g.ld.length<=900):AE [gD g]=some (bD (bad g)):=by
 obtain⟨a,e⟩:=Lk (g:=g) (by omega) (ps:=(List.range g.ld.length).map (· + 1)) (λp m=>by
  obtain⟨i,mi,rfl⟩:=acs.mp m;have:=aeI.mp mi;omega)
 have hi:qA (eC (.int 1)) (e2 jc (e1 cX (bz "Gate" "laid_ones" (ah 0))) (eC (.int 1))) [some (gD g,.sh []),none]=some (((List.range g.ld.length).map (· + 1)).map λp:Nat=>D.int p,.own):=by
  rw[B5 (j:=g.ld.length+1) rfl (bX (dF (fl rfl) (by show some (D.int (g.ld.map D.int).length)=_;rw[aaf])) rfl rfl) (qO (by omega) (by omega)) (qO (by omega) (by omega)),show((g.ld.length:Int)+1-1).toNat=g.ld.length by omega,adI]
 refine dh rfl ?_;unfold bad;cases eb:lG g ((List.range g.ld.length).map (· + 1)) with
 |none=>rw[eb] at e;exact sq (tu hi e) rfl
 |some p=>rw[eb] at e;exact kZ (Jg hi e)
noncomputable def best:Int×Int->List (Int×Int)->Int×Int
 |p,[]=>p
 |p,q::r=>best (if p.2-p.1<q.2-q.1 then q else p) r
noncomputable def pairs(f:List Int):List (Int×Int):=f.zip f.tail
def mid(f:List Int):Int:=let p:=best (f.headD 0,f.headD 0) (pairs f);(p.1+p.2) / 2
theorem Ao:∀(l:List (Int×Int)) (p:Int×Int),best p l=p\/best p l∈l
 |[],p=>.inl rfl
 |q::r,p=>by
  unfold best
  by_cases h:p.2-p.1<q.2-q.1
  .rw[if_pos h];rcases Ao r q with e|e
   .rw[e];exact .inr aax
   .exact .inr (aal _ e)
  .rw[abf h];rcases Ao r p with e|e
   .exact .inl e
   .exact .inr (aal _ e)
theorem zF:∀(l:List (Int×Int)) (p:Int×Int),p.2-p.1<=(best p l).2-(best p l).1/\∀q∈l,q.2-q.1<=(best p l).2-(best p l).1
 |[],p=>⟨Int.le_refl _,λq m=>nomatch m⟩
 |x::r,p=>by
  unfold best
  by_cases h:p.2-p.1<x.2-x.1
  .rw[if_pos h];obtain⟨h1,h2⟩:=zF r x;refine⟨by omega,λq m=>?_⟩;rcases aaM.mp m with rfl|m
   .exact h1
   .exact h2 q m
  .rw[abf h];obtain⟨h1,h2⟩:=zF r p;refine⟨h1,λq m=>?_⟩;rcases aaM.mp m with rfl|m
   .omega
   .exact h2 q m
theorem Ds:∀(r:List Int) (a:Int),(∀q∈pairs (a::r),q.2-q.1<=1)->(a::r).getLastD 0<=a+r.length
 |[],a,_=>by simp
 |b::r,a,h=>by
  have h1:=h (a,b) (by unfold pairs;exact aax);have h2:=Ds r b λq m=>h q (by unfold pairs at m ⊢;exact aal _ m)
  have e:(a::b::r).getLastD 0=(b::r).getLastD 0:=by simp[List.getLastD]
  rw[e,abj];omega
noncomputable abbrev fence(ws:List Int)(e:Int):List Int:=0::(ws++[e])
theorem G7{q:Int×Int}(m:q∈pairs f):q.1∈f/\q.2∈f:=by
 unfold pairs at m;obtain⟨h1,h2⟩:=List.of_mem_zip m;exact⟨h1,List.mem_of_mem_tail h2⟩
theorem aaB(hw:∀x∈ws,1<=x)(hl:(ws.length:Int)<e-1):1<=mid (fence ws e):=by
 have hf:∀x∈fence ws e,0<=x:=λx m=>by
  rcases aaM.mp m with rfl|m
  .exact Int.le_refl _
  .rcases abb.mp m with m|m
   .have:=hw x m;omega
   .cases aaH.mp m;omega
 obtain⟨q,m,hq⟩:∃q∈pairs (fence ws e),2<=q.2-q.1:=by
  refine aeJ λhn=>?_
  have:=Ds (ws++[e]) 0 λq m=>by
   refine aeJ λh=>hn ⟨q,m,by omega⟩
  have q1:(0::(ws++[e])).getLastD 0=e:=by rw[show(0::(ws++[e]))=(0::ws)++[e] from rfl,List.getLastD_concat]
  rw[q1,abe,aee] at this;omega
 have hb:=(zF (pairs (fence ws e)) ((fence ws e).headD 0,(fence ws e).headD 0)).2 q m;unfold mid;dsimp only;rcases Ao (pairs (fence ws e)) ((fence ws e).headD 0,(fence ws e).headD 0) with h|h
 .rw[h] at hb;dsimp only at hb;omega
 .obtain⟨h1,h2⟩:=G7 h;have:=hf _ h1;omega
noncomputable def LR(p:Int×Int):D:=.tup [.int p.1,.int p.2]
noncomputable def rM(f:List Int)(l h:Int)(t1 t2:Tag)(s3 s4:Slot):aE:=[some (.lst (f.map D.int),.sh []),some (.int l,t1),some (.int h,t2),s3,s4]
abbrev bM:SF:=cH (tV (e2 wz (e2 lV (ah 4) (ah 3)) (e2 lV (ah 2) (ah 1)))) (aS (cj 1 (ah 3)) (cj 2 (ah 4))) cz
abbrev gM:GF:=gT (j8 (gN 3) (j8 (gN 4) xV))
theorem D6:∀(ps:List (Int×Int)) (p:Int×Int) (t1 t2:Tag) (s3 s4:Slot),∃t1' X4 C8 DI,fj gM (.sh []) bM (ps.map LR) (rM f p.1 p.2 t1 t2 s3 s4)=some (.nx (rM f (best p ps).1 (best p ps).2 t1' X4 C8 DI))
 |[],p,t1,t2,s3,s4=>⟨t1,t2,s3,s4,rfl⟩
 |q::r,p,t1,t2,s3,s4=>by
  have hc:tV (e2 wz (e2 lV (ah 4) (ah 3)) (e2 lV (ah 2) (ah 1))) (rM f p.1 p.2 t1 t2 (some (.int q.1,.own)) (some (.int q.2,.own)))=some (decide (p.2-p.1<q.2-q.1)):=rfl
  by_cases h:p.2-p.1<q.2-q.1
  .have hb:bM (rM f p.1 p.2 t1 t2 (some (.int q.1,.own)) (some (.int q.2,.own)))=some (.nx (rM f q.1 q.2 (.sh [3]) (.sh [4]) (some (.int q.1,.own)) (some (.int q.2,.own)))):=by
    unfold bM;rw[gQ,hc,aa1 h,MD];rfl
   obtain⟨a,b,c,d,hh⟩:=D6 r q (.sh [3]) (.sh [4]) (some (.int q.1,.own)) (some (.int q.2,.own));refine⟨a,b,c,d,(se rfl hb).trans ?_⟩;unfold best;rw[if_pos h];exact hh
  .have hb:bM (rM f p.1 p.2 t1 t2 (some (.int q.1,.own)) (some (.int q.2,.own)))=some (.nx (rM f p.1 p.2 t1 t2 (some (.int q.1,.own)) (some (.int q.2,.own)))):=by
    unfold bM;rw[gQ,hc,abo h,wo];rfl
   obtain⟨a,b,c,d,hh⟩:=D6 r p t1 t2 (some (.int q.1,.own)) (some (.int q.2,.own));refine⟨a,b,c,d,(se rfl hb).trans ?_⟩;unfold best;rw[abf h];exact hh
theorem U3(a:Int)(r:List Int):oG (some 1) none (.lst ((a::r).map D.int))=some (.lst (r.map D.int)):=by
 show(if aP ((a::r).map D.int)=true then some (D.lst (cutD ((a::r).map D.int) (some 1) none)) else none)=_;rw[if_pos (fH _)];have:cutD ((a::r).map D.int) (some 1) none=r.map D.int:=by
  unfold cutD;have e:HT.fT ((a::r).map D.int).length 0 (some 1)=1:=by
   have q:=HT.ze ((a::r).map D.int).length 0 1;rw[show((1:Nat):Int)=1 from rfl] at q;rw[q,aaf,abj];omega
  rw[HT.An,e,aaF,List.drop_succ_cons,List.drop_zero,abj,Nat.add_sub_cancel,List.take_length]
 rw[this]
theorem QU(a:Int)(r:List Int):yb [.lst ((a::r).map D.int)]=some (.int (mid (a::r))):=by
 refine dh rfl ?_;show Fq [some (.lst ((a::r).map D.int),.sh []),none,none,none,none]=_;unfold Fq;have q1:cj 1 (e2 cZ (ah 0) (eC (.int 0))) [some (.lst ((a::r).map D.int),.sh []),none,none,none,none]=some (.nx [some (.lst ((a::r).map D.int),.sh []),some (.int a,.own),none,none,none]):=by
  have hx:cZ (.lst ((a::r).map D.int)) (.int 0)=some (.int a):=xB (by rw[U9 (by omega) (by rw[abj];omega)];rfl) rfl;rw[xh,jO];show v9 1 _ ((cZ (.lst ((a::r).map D.int)) (.int 0)).map _)=_;rw[hx];rfl
 have q2:cj 2 (ah 1) [some (.lst ((a::r).map D.int),.sh []),some (.int a,.own),none,none,none]=some (.nx (rM (a::r) a a .own (.sh [1]) none none)):=rfl;have hz:um (ah 0) (e1 (oG (some 1) none) (ah 0)) (rM (a::r) a a .own (.sh [1]) none none)=some ((pairs (a::r)).map LR,.sh []):=by
  unfold um;have v0:ah 0 (rM (a::r) a a .own (.sh [1]) none none)=some (.lst ((a::r).map D.int),.sh []):=rfl;have v1:e1 (oG (some 1) none) (ah 0) (rM (a::r) a a .own (.sh [1]) none none)=some (.lst (r.map D.int),.own):=by
   rw[rK,v0];show(oG (some 1) none (.lst ((a::r).map D.int))).map _=_;rw[U3];rfl
  rw[v0,v1];dsimp only;rw[if_pos (by rw[fH,fH];rfl)];refine congrArg some (Prod.ext ?_ rfl);show((((a::r).map D.int).zip (r.map D.int)).map λp=>D.tup [p.1,p.2])=_;rw[List.zip_map,aea];rfl
 obtain⟨t1,t2,s3,s4,hl⟩:=D6 (f:=a::r) (pairs (a::r)) (a,a) .own (.sh [1]) none none;have hf:jF (um (ah 0) (e1 (oG (some 1) none) (ah 0))) gM bM (rM (a::r) a a .own (.sh [1]) none none)=some (.nx (rM (a::r) (best (a,a) (pairs (a::r))).1 (best (a,a) (pairs (a::r))).2 t1 t2 s3 s4)):=D0 (t:=.sh []) hz hl;rw[h_,q1,k7,h_,q2,k7,h_];rw[hf,k7];unfold mid;rw[show((a::r).headD 0,(a::r).headD 0)=(a,a) from rfl];generalize best (a,a) (pairs (a::r))=p;have v1:ah 1 (rM (a::r) p.1 p.2 t1 t2 s3 s4)=some (.int p.1,Gx 1 t1):=rfl;have v2:ah 2 (rM (a::r) p.1 p.2 t1 t2 s3 s4)=some (.int p.2,Gx 2 t2):=rfl;rw[A3,jO,jO,v1,v2,q_,N_,LD,zG,q_,WU (by omega) (by omega)];rfl
noncomputable def jv:Option Int->D
 |none=>.aC
 |some b=>.int b
noncomputable def endOf(size:Int):Option Int->Int
 |none=>size+1
 |some b=>b
def pick(size:Int)(bad:Option Int)(e:Int)(ws:List Int):Int:=if(bad.isNone&&!(ws.any (· == size)))=true then size else mid (fence ws e)
def ju(size:Int)(bad:Option Int)(e:Int)(ws:List Int):List Int:=jd (ws++[pick size bad e ws])
noncomputable def lim(e aW:Int):Int:=if e-1<aW then e-1 else aW
def jQ(size:Int)(bad:Option Int)(e aW:Int):Nat->List Int->List Int
 |0,ws=>ws
 |n+1,ws=>if(ws.length:Int)<lim e aW then jQ size bad e aW n (ju size bad e ws) else ws
theorem Bp{bad:Option Int}:(ju size bad e ws).length=ws.length+1:=by unfold ju;rw[T5,abe];rfl
theorem Nd(b:Option Int):oq (jv b)=b.isNone:=by cases b<;>rfl
abbrev cW:TF:=tV (e2 oLt (e1 cX (ah 5)) (e2 rj (ah 3) (e2 lV (ah 4) (eC (.int 1)))))
abbrev bW:SF:=aS (cH (fN (tV (e2 iu (ah 1) (eC .aC))) (tV (e2 (iP true) (ah 0) (ah 5)))) (lT 5 (ah 0)) (lT 5 (cM yb (aq (e2 gp (e2 gp (d_ (aq (eC (.int 0)) aA)) (ah 5)) (d_ (aq (ah 4) aA))) aA)))) (cj 5 (e1 uB (ah 5)))
def Bj(t:Tag):Prop:=t=.own\/t=.sh []
def rW(size:Int)(bad:Option Int)(kd:D)(aW e:Int)(t4:Tag)(ws:List Int):aE:=[some (.int size,.sh []),some (jv bad,.sh []),some (kd,.sh []),some (.int aW,.sh []),some (.int e,t4),some (.lst (ws.map D.int),.own)]
section
variable{size aW e:Int}{bad:Option Int}{kd:D}{t4:Tag}{ws:List Int}
theorem Nx:cW (rW size bad kd aW e t4 ws)=some (decide ((ws.length:Int)<lim e aW)):=by
 show some (decide (((ws.map D.int).length:Int)<(if e-1<aW then e-1 else aW)))=_;rw[aaf];rfl
theorem ZV:(tV (e2 (iP true) (ah 0) (ah 5))) (rW size bad kd aW e t4 ws)=some (!(ws.any (· == size))):=by
 rw[qv,jO];show Ev.kV ((iP true (.int size) (.lst (ws.map D.int))).map _)=_;rw[FO];rfl
theorem aa4:(fN (tV (e2 iu (ah 1) (eC .aC))) (tV (e2 (iP true) (ah 0) (ah 5)))) (rW size bad kd aW e t4 ws)=some (bad.isNone&&!(ws.any (· == size))):=by
 refine J9 ?_ ZV;show some (oq (jv bad))=_;rw[Nd]
theorem J6(h:Bj t4)(x:Int):bJ (rW size bad kd aW e t4 ws) 5 (.lst ((ws++[x]).map D.int))=rW size bad kd aW e t4 (ws++[x]):=by
 rcases h with rfl|rfl<;>rfl
theorem aar(hl:ws.length<63):(e2 gp (e2 gp (d_ (aq (eC (.int 0)) aA)) (ah 5)) (d_ (aq (ah 4) aA))) (rW size bad kd aW e t4 ws)=some (.lst ((fence ws e).map D.int),.own):=by
 have h1:gp (.lst (([0]:List Int).map D.int)) (.lst (ws.map D.int))=some (.lst (([0]++ws).map D.int)):=zw (by unfold PySem.sizeLine;show 1+ws.length<=_;omega);have h2:gp (.lst (([0]++ws).map D.int)) (.lst (([e]:List Int).map D.int))=some (.lst (([0]++ws++[e]).map D.int)):=zw (by unfold PySem.sizeLine;rw[abe];show 1+ws.length+1<=_;omega);rw[jO,jO];show k2 gp ((gp (.lst (([0]:List Int).map D.int)) (.lst (ws.map D.int))).map _) _=_;rw[h1,LD];show(gp (.lst (([0]++ws).map D.int)) (.lst (([e]:List Int).map D.int))).map _=_;rw[h2];rfl
theorem Z9(ht:Bj t4)(hl:ws.length<63):bW (rW size bad kd aW e t4 ws)=some (.nx (rW size bad kd aW e t4 (ju size bad e ws))):=by
 have hz:ws.length<PySem.sizeLine:=by unfold PySem.sizeLine;omega
 have h1:cH (fN (tV (e2 iu (ah 1) (eC .aC))) (tV (e2 (iP true) (ah 0) (ah 5)))) (lT 5 (ah 0)) (lT 5 (cM yb (aq (e2 gp (e2 gp (d_ (aq (eC (.int 0)) aA)) (ah 5)) (d_ (aq (ah 4) aA))) aA))) (rW size bad kd aW e t4 ws)=some (.nx (rW size bad kd aW e t4 (ws++[pick size bad e ws]))):=by
  rw[gQ,aa4];unfold pick
  by_cases hb:(bad.isNone&&!(ws.any (· == size)))=true
  .rw[hb,MD,if_pos rfl,Cq rfl rfl hz,J6 ht]
  .have wU:(bad.isNone&&!(ws.any (· == size)))=false:=by simpa using hb
   have hm:cM yb (aq (e2 gp (e2 gp (d_ (aq (eC (.int 0)) aA)) (ah 5)) (d_ (aq (ah 4) aA))) aA) (rW size bad kd aW e t4 ws)=some (.int (mid (fence ws e)),.own):=by
    rw[s_call,cJ,aar hl,CI,CM,J7];simp only[aaF,afm];have:=QU 0 (ws++[e]);rw[aaF] at this;rw[this];rfl
   rw[wU,wo,abf aaN,Cq hm rfl hz,J6 ht]
 unfold bW;rw[h_,h1,k7,xh,rK];show v9 5 _ ((uB (.lst ((ws++[pick size bad e ws]).map D.int))).map _)=_;rw[Zx (by rw[abe];show ws.length+1<64;omega)];rfl
theorem Jv(ht:Bj t4)(hh:aW<=60):∀(n:Nat) (ws:List Int) (m:Nat),aW-ws.length<=n->n<m->gU cW bW m (rW size bad kd aW e t4 ws)=some (.nx (rW size bad kd aW e t4 (jQ size bad e aW n ws)))
 |_,_,0,_,h=>absurd h (Nat.not_lt_zero _)
 |0,ws,m+1,h,_=>by
  have:¬((ws.length:Int)<lim e aW):=by unfold lim;split<;>omega
  rw[gU,Nx,abo this];rfl
 |n+1,ws,m+1,h,hm=>by
  rw[gU,Nx];unfold jQ
  by_cases hc:(ws.length:Int)<lim e aW
  .have h1:(ws.length:Int)<aW:=by unfold lim at hc;split at hc<;>omega
   rw[aa1 hc,if_pos hc];dsimp only;rw[Z9 ht (by omega)];exact Jv ht hh n (ju size bad e ws) m (by rw[Bp];omega) (by omega)
  .rw[abo hc,abf hc]
end
noncomputable def jZ(e:Int)(ks:List Int):List Int:=ks.filter λk=>decide (k<e)
noncomputable def kI(e:Int):D->Option D
 |.int i=>if decide (i<e)=true then some (.int i) else none
 |_=>none
theorem D_(e:Int):∀ks:List Int,(ks.map D.int).filterMap (kI e)=(jZ e ks).map D.int
 |[]=>rfl
 |k::r=>by
  unfold jZ;rw[aaF,ad4,List.filter_cons];have hk:kI e (D.int k)=if decide (k<e)=true then some (D.int k) else none:=rfl
  by_cases h:decide (k<e)=true
  .rw[hk,if_pos h,if_pos h,aaF];dsimp only;rw[D_ e r];rfl
  .rw[hk,abf h,abf h];exact D_ e r
theorem adF(hi:it ρ=some (ks.map D.int,t))(hj:jC js ρ=[none,some (.int e,.sh [])])(hl:ks.length<64):
  gI js it (gN 0) (tV (e2 oLt (ah 0) (ah 1))) (ah 0) ρ=some (.lst ((jZ e ks).map D.int),.own):=by
 have hc:=t9 (g:=gN 0) (tt:=tV (e2 oLt (ah 0) (ah 1))) (te:=ah 0) (k:=kI e) hi (by rw[aaf];unfold PySem.sizeLine;omega) (λd m=>by
  obtain⟨i,mi,rfl⟩:=acs.mp m;rw[hj];show _=some (if decide (i<e)=true then some (D.int i) else none)
  by_cases h:decide (i<e)=true
  .rw[if_pos h];refine vq rfl ?_ rfl rfl;show some (decide (i<e))=_;rw[h]
  .rw[abf h];refine CW rfl ?_;show some (decide (i<e))=_;rw[aeA.mpr h])
 rw[hc,D_]
theorem abK{bad:Option Int}(h0:ah 0 ρ=some (.int size,.sh []))(h1:ah 1 ρ=some (jv bad,.sh [])):∃t,Bj t/\mX (tV (e2 iu (ah 1) (eC .aC))) (e2 jc (ah 0) (eC (.int 1))) (ah 1) ρ=some (.int (endOf size bad),t):=by
 have hc:tV (e2 iu (ah 1) (eC .aC)) ρ=some bad.isNone:=by
  rw[qv,jO,h1,zG,q_,ada,Nd];rfl
 cases bad with
 |none=>exact⟨.own,.inl rfl,by rw[HH (by rw[hc];rfl),jO,h0,zG,q_,N_];rfl⟩
 |some b=>exact⟨.sh [],.inr rfl,by rw[Ih (by rw[hc];rfl),h1];rfl⟩
def W(size:Int)(bad:Option Int)(ks:List Int)(aW:Int):List Int:=jQ size bad (endOf size bad) aW 100 (jZ (endOf size bad) ks)
theorem U7{bad:Option Int}(hh:aW<=60)(hl:ks.length<64)(kd:D)(hk:jl (ah 2) [some (.int size,.sh []),some (jv bad,.sh []),some (kd,.sh []),some (.int aW,.sh []),none,none]=some (ks.map D.int,.sh []))
  (hk2:∀t,jl (ah 2) [some (.int size,.sh []),some (jv bad,.sh []),some (kd,.sh []),some (.int aW,.sh []),some (.int (endOf size bad),t),none]=some (ks.map D.int,.sh [])) :
  GO [.int size,jv bad,kd,.int aW]=some (.lst ((W size bad ks aW).map D.int)):=by
 refine dh rfl ?_;show DE [some (.int size,.sh []),some (jv bad,.sh []),some (kd,.sh []),some (.int aW,.sh []),none,none]=_;unfold DE;obtain⟨t4,ht,h1⟩:=abK (size:=size) (bad:=bad) (ρ:=[some (.int size,.sh []),some (jv bad,.sh []),some (kd,.sh []),some (.int aW,.sh []),none,none]) rfl rfl;have q1:cj 4 (mX (tV (e2 iu (ah 1) (eC .aC))) (e2 jc (ah 0) (eC (.int 1))) (ah 1)) [some (.int size,.sh []),some (jv bad,.sh []),some (kd,.sh []),some (.int aW,.sh []),none,none]=some (.nx [some (.int size,.sh []),some (jv bad,.sh []),some (kd,.sh []),some (.int aW,.sh []),some (.int (endOf size bad),t4),none]):=by
  rw[xh,h1];rcases ht with rfl|rfl<;>rfl
 have q2:cj 5 (gI [none,some 4] (jl (ah 2)) (gN 0) (tV (e2 oLt (ah 0) (ah 1))) (ah 0)) [some (.int size,.sh []),some (jv bad,.sh []),some (kd,.sh []),some (.int aW,.sh []),some (.int (endOf size bad),t4),none]=some (.nx (rW size bad kd aW (endOf size bad) t4 (jZ (endOf size bad) ks))):=by
  rw[xh,adF (e:=endOf size bad) (hk2 t4) rfl hl];rfl
 have q3:=Jv (size:=size) (bad:=bad) (kd:=kd) (e:=endOf size bad) ht hh 100 (jZ (endOf size bad) ks) 4000 (by omega) (by omega);rw[h_,q1,k7,h_,q2,k7,h_,q3,k7];rfl
theorem aav{bad:Option Int}(hh:aW<=60)(hl:ks.length<64):GO [.int size,jv bad,.lst (ks.map D.int),.int aW]=some (.lst ((W size bad ks aW).map D.int)):=U7 hh hl _ rfl λ_=>rfl
theorem P6{bad:Option Int}(hh:aW<=60):∀(n:Nat) (ws:List Int),ws.length<64->(jQ size bad e aW n ws).length<64
 |0,ws,h=>h
 |n+1,ws,h=>by
  unfold jQ
  split
  .rename_i hc;refine P6 hh n _ ?_;rw[Bp];unfold lim at hc
   split at hc<;>omega
  .exact h
theorem Vs{bad:Option Int}(hh:aW<=60)(hl:ks.length<64):(W size bad ks aW).length<64:=P6 hh _ _ (aeT (List.length_filter_le _ _) hl)
structure lY(e:Int)(ws:List Int):Prop where
 so:ws.Pairwise (· < ·)
 bd:∀x∈ws,1<=x/\x<e
theorem between:∀{f:List Int}{q:Int×Int}{x:Int},f.Pairwise (· < ·)->q∈pairs f->x∈f->x<=q.1\/q.2<=x
 |[],q,x,_,m,_=>by cases m
 |[a],q,x,_,m,_=>by cases m
 |a::b::r,q,x,hp,m,mx=>by
  obtain⟨h1,h2⟩:=adV.mp hp;have hs:pairs (a::b::r)=(a,b)::pairs (b::r):=rfl;rw[hs] at m;rcases aaM.mp m with hq|m'
  .subst hq;rcases aaM.mp mx with hx|Gr
   .exact .inl (by show x<=a;omega)
   .rcases aaM.mp Gr with hx|Ut
    .exact .inr (by show b<=x;omega)
    .have:=(adV.mp h2).1 x Ut;exact .inr (by show b<=x;omega)
  .rcases aaM.mp mx with hx|Gr
   .have:=h1 q.1 (G7 m').1;exact .inl (by omega)
   .exact between h2 m' Gr
theorem Vp(h:lY e ws)(he:1<=e):(fence ws e).Pairwise (· < ·):=by
 refine adV.mpr ⟨λx m=>?_,List.pairwise_append.mpr ⟨h.so,List.pairwise_singleton _ _,λx m y my=>?_⟩⟩
 .rcases abb.mp m with m|m
  .have:=h.bd x m;omega
  .cases aaH.mp m;omega
 .cases aaH.mp my;exact(h.bd x m).2
theorem adE(h:lY e ws)(hl:(ws.length:Int)<e-1):mid (fence ws e)<e/\mid (fence ws e)∉ws:=by
 have hf:=Vp h (by omega);obtain⟨q,m,hq⟩:∃q∈pairs (fence ws e),2<=q.2-q.1:=by
  refine aeJ λhn=>?_
  have:=Ds (ws++[e]) 0 λq m=>by
   refine aeJ λh=>hn ⟨q,m,by omega⟩
  have q1:(0::(ws++[e])).getLastD 0=e:=by rw[show(0::(ws++[e]))=(0::ws)++[e] from rfl,List.getLastD_concat]
  rw[q1,abe,aee] at this;omega
 have hb:=(zF (pairs (fence ws e)) ((fence ws e).headD 0,(fence ws e).headD 0)).2 q m;unfold mid;dsimp only;rcases Ao (pairs (fence ws e)) ((fence ws e).headD 0,(fence ws e).headD 0) with h'|h'
 .rw[h'] at hb;dsimp only at hb;omega
 .generalize best ((fence ws e).headD 0,(fence ws e).headD 0) (pairs (fence ws e))=p at hb h';have h2:p.2<=e:=by
   have:=(G7 h').2;rcases aaM.mp this with z|z
   .omega
   .rcases abb.mp z with z|z
    .have:=(h.bd _ z).2;omega
    .rw[aaH.mp z];exact Int.le_refl _
  refine⟨by omega,λmx=>?_⟩;rcases between hf h' (aal _ (aaR _ mx)) with z|z<;>omega
section
variable{size aW e:Int}{bad:Option Int}{ws:List Int}
theorem UT(h:lY e ws)(he:e=endOf size bad)(hl:(ws.length:Int)<e-1):1<=pick size bad e ws/\pick size bad e ws<e/\pick size bad e ws∉ws:=by
 unfold pick
 split
 .rename_i hc;cases bad with
  |none=>
   have he:e=size+1:=he;refine⟨by omega,by omega,λm=>?_⟩;have:ws.any (· == size)=true:=aey.mpr ⟨size,m,adH size⟩;rw[this] at hc;cases hc
  |some b=>cases hc
 .obtain⟨h1,h2⟩:=adE h hl;exact⟨aaB (λx m=>(h.bd x m).1) hl,h1,h2⟩
theorem RM(h:lY e ws)(he:e=endOf size bad)(hl:(ws.length:Int)<e-1):lY e (ju size bad e ws)/\∀x∈ws,x∈ju size bad e ws:=by
 obtain⟨p1,p2,p3⟩:=UT h he hl;have hp:(ju size bad e ws).Perm (ws++[pick size bad e ws]):=AD _;have hn:(ju size bad e ws).Nodup:=by
  refine hp.nodup_iff.mpr (abL.mpr ⟨h.so.imp λdP=>Int.ne_of_lt dP,abu.mpr ⟨(λm=>by cases m),abF⟩,λa ma b mb e=>?_⟩);cases aaH.mp mb;exact p3 (e ▸ ma)
 refine⟨⟨?_,λx m=>?_⟩,λx m=>hp.mem_iff.mpr (aaR _ m)⟩
 .have hs:(ju size bad e ws).Pairwise (·<=·):=Dq _;exact(List.pairwise_and_iff.mpr ⟨hs,hn⟩).imp λh=>by have h1:=h.1;have h2:=h.2;omega
 .rcases abb.mp (hp.mem_iff.mp m) with m|m
  .exact h.bd x m
  .rw[aaH.mp m];exact⟨p1,p2⟩
theorem D8(he:e=endOf size bad):∀(n:Nat) (ws:List Int),lY e ws->lY e (jQ size bad e aW n ws)/\∀x∈ws,x∈jQ size bad e aW n ws
 |0,ws,h=>⟨h,λx m=>m⟩
 |n+1,ws,h=>by
  unfold jQ
  split
  .rename_i hc;have hl:(ws.length:Int)<e-1:=by unfold lim at hc;split at hc<;>omega
   obtain⟨a,b⟩:=RM h he hl;obtain⟨c,d⟩:=D8 he n (ju size bad e ws) a;exact⟨c,λx m=>d x (b x m)⟩
  .exact⟨h,λx m=>m⟩
theorem JC:∀(n:Nat) (ws:List Int),ws.length<=(jQ size bad e aW n ws).length
 |0,ws=>abd _
 |n+1,ws=>by
  unfold jQ
  split
  .have:=JC n (ju size bad e ws);rw[Bp] at this;omega
  .exact abd _
end
theorem Th{bad:Option Int}(hk:lY (endOf size bad) ks)(hh:1<=aW)(he:2<=endOf size bad):lY (endOf size bad) (W size bad ks aW)/\(∀x∈ks,x∈W size bad ks aW)/\W size bad ks aW≠[]:=by
 have hi:jZ (endOf size bad) ks=ks:=by
  unfold jZ;exact List.filter_eq_self.mpr λx m=>aa1 (hk.bd x m).2
 unfold W;rw[hi];obtain⟨a,b⟩:=D8 (size:=size) (bad:=bad) (aW:=aW) rfl 100 ks hk;refine⟨a,b,λz=>?_⟩;cases ks with
 |nil=>
  have hg:=JC (size:=size) (bad:=bad) (e:=endOf size bad) (aW:=aW) 99 (ju size bad (endOf size bad) []);have hc:(([]:List Int).length:Int)<lim (endOf size bad) aW:=by unfold lim;show(0:Int)<_;split<;>omega
  have Kf:jQ size bad (endOf size bad) aW 100 []=jQ size bad (endOf size bad) aW 99 (ju size bad (endOf size bad) []):=by
   show(if _ then _ else _)=_;rw[if_pos hc]
  rw[Kf] at z;rw[z,Bp] at hg;simp at hg
 |cons k r=>
  have:=b k aax;rw[z] at this;cases this
theorem Uu{bad:Option Int}(h:ks.Pairwise (· < ·))(h1:∀x∈ks,1<=x):lY (endOf size bad) (W size bad ks aW)/\∀x∈ks,x<endOf size bad->x∈W size bad ks aW:=by
 have hi:lY (endOf size bad) (jZ (endOf size bad) ks):=⟨h.sublist List.filter_sublist,λx m=>let q:=adY.mp m;⟨h1 x q.1,aa3 q.2⟩⟩
 obtain⟨a,b⟩:=D8 (size:=size) (bad:=bad) (aW:=aW) rfl 100 _ hi;exact⟨a,λx m hx=>b x (adY.mpr ⟨m,aa1 hx⟩)⟩
theorem JL:∀a b:List Int,PyData.eqvAll (a.map PyData.int) (b.map PyData.int)=decide (a=b)
 |[],[]=>rfl
 |[],_::_=>rfl
 |_::_,[]=>rfl
 |x::a,y::b=>by
  simp only[aaF,PyData.eqvAll,PyData.eqv,JL a b]
  by_cases h:x=y<;>by_cases k:a=b<;>simp[h,k]
theorem MS(l:List Int):py (tD l)=.tuple (l.map PyData.int):=by unfold tD;unfold py;rw[CS]
theorem Wy(l:List Int):eE (tD l)=true:=by
 unfold eE;have c1:gY (tD l)=true:=by unfold tD;unfold gY;exact GQ _
 rw[c1,MS];have c2:(PyData.tuple (l.map PyData.int)).canLay0=true:=by simp only[PyData.canLay0];exact CB l
 have c3:(PyData.tuple (l.map PyData.int)).depth<=40:=by simp only[PyData.depth,depthAll_ints];omega
 rw[c2,aa1 c3];rfl
theorem any_rows(l:List Int)(L:List (List Int)):((eZ (c8 L)).any λy=>PyData.eqv y (py (tD l)))=decide (l∈L):=by
 rw[BV,MS,ae9];have:((λy=>PyData.eqv y (PyData.tuple (l.map PyData.int))) ∘ jJ)=λr=>decide (r=l):=funext λr=>by
  simp only[Function.comp,jJ,PyData.eqv,JL]
 rw[this]
 by_cases h:l∈L
 .rw[aa1 h];exact aey.mpr ⟨l,h,by simp⟩
 .rw[abo h,aeA];intro e;obtain⟨y,my,ey⟩:=aey.mp e;exact h ((aa3 ey) ▸ my)
theorem uJ(neg:Bool)(l:List Int)(L:List (List Int)):gV neg (tD l) (.lst (c8 L))=some (.bl (if neg=true then !decide (l∈L) else decide (l∈L))):=by
 show(if(eE (tD l)&&eE (.lst (c8 L)))=true then some (D.bl (if neg=true then !(eZ (c8 L)).any λy=>PyData.eqv y (py (tD l)) else(eZ (c8 L)).any λy=>PyData.eqv y (py (tD l)))) else none)=_;rw[Wy,Sl,any_rows];rfl
def kp(g:G)(l:List Int):Bool:=decide (l∈g.lk)&&(wd g l == "more")
theorem ace{g:G}{l:List Int}:C5 [gD g,tD l]=some (.bl (kp g l)):=
 dh rfl (eY (yx (bX (d1:=tD l) rfl (fl rfl) (uJ false l g.lk)) (bX (oO rfl rfl Hj) rfl rfl)))
def jB(g:G):List Int:=(bG 1 g.ld.length).filter λx=>kp g (b7 g x.toNat)
def kO(g:G):Option Int:=(bad g).map λp:Nat=>(p:Int)
def uN(g:G):List Int:=W g.ld.length (kO g) (jB g) g.h
def nX(g:G):List (List Int):=(uN g).map λp=>b7 g p.toNat
theorem adp(o:Option Nat):bD o=jv (o.map λp:Nat=>(p:Int)):=by cases o<;>rfl
theorem OZ{g:G}:∀{ps:List Nat}{p:Nat},lG g ps=some p->p∈ps/\sE g p=true
 |[],p,h=>by cases h
 |q::ps,p,h=>by
  unfold lG at h
  split at h
  .cases h;exact⟨aax,by assumption⟩
  .obtain⟨a,b⟩:=OZ h;exact⟨aal _ a,b⟩
theorem Pf{g:G}:∀{ps:List Nat},(∀p∈ps,sE g p=false)->lG g ps=none
 |[],_=>rfl
 |q::ps,h=>by
  unfold lG;rw[h q aax,abf aaN,Pf λp m=>h p (aal _ m)]
theorem Qc{g:G}(h:bad g=some p):1<=p/\p<=g.ld.length/\sE g p=true:=by
 obtain⟨a,b⟩:=OZ h;obtain⟨i,mi,rfl⟩:=acs.mp a;have:=aeI.mp mi;exact⟨by omega,by omega,b⟩
theorem yz{g:G}:(jB g).Pairwise (· < ·)/\(∀x∈jB g,1<=x/\x<=g.ld.length)/\(jB g).length<=g.ld.length:=by
 refine⟨(Fj 1 _).sublist List.filter_sublist,λx m=>by have:=rG.mp (adY.mp m).1;omega,?_⟩;have:=List.length_filter_le (λx=>kp g (b7 g x.toNat)) (bG 1 g.ld.length);unfold bG at this;rw[aaf,acP] at this;exact this
theorem Cd{g:G}:(∀p∈uN g,1<=p/\p<endOf g.ld.length (kO g))/\(∀p∈jB g,p<endOf g.ld.length (kO g)->p∈uN g):=by
 obtain⟨a,b⟩:=Uu (size:=g.ld.length) (aW:=g.h) (bad:=kO g) yz.1 (λx m=>(yz.2.1 x m).1);exact⟨a.bd,b⟩
theorem LA{g:G}:endOf g.ld.length (kO g)<=g.ld.length+1:=by
 unfold kO;cases e:bad g with
 |none=>exact Int.le_refl _
 |some p=>have:=Qc e;show(p:Int)<=_;omega
theorem adT{g:G}(hl:g.ln.length+g.ld.length<=900)(h6:g.ld.length<64)(hh:g.h<=60):SS [gD g]=some (.lst (c8 (nX g))):=by
 have hi:qA (eC (.int 1)) (e2 jc (ah 1) (eC (.int 1))) [some (gD g,.sh []),some (.int g.ld.length,.own),none]=some ((bG 1 g.ld.length).map D.int,.own):=by
  rw[B5 (i:=1) (j:=g.ld.length+1) rfl rfl (qO (by omega) (by omega)) (qO (by omega) (by omega)),show((g.ld.length:Int)+1-1).toNat=g.ld.length by omega]
 have look:∀{x:Int},1<=x->x<=g.ld.length->bu "Gate" "look_of" pW (ah 1) (aq (ah 0) aA) [some (.int x,.sh []),some (gD g,.sh [])]=some (tD (b7 g x.toNat),.own):=λ{x} h1 h2=>
  oO (x:=.int x) (t2:=.sh []) rfl rfl (by
   have:=f_look (g:=g) (p:=x.toNat) (by omega) (by omega)
   rwa [show((x.toNat:Nat):Int)=x by omega] at this)
 have hk:=Ga (js:=[none,some 0]) (g:=gN 0) (tt:=tV (bu "Gate" "is_kept" C5 (ah 1) (aq (bu "Gate" "look_of" pW (ah 1) (aq (ah 0) aA)) aA))) (te:=ah 0) (p:=λx=>kp g (b7 g x.toNat)) (f:=id) hi (by unfold bG;rw[aaf,acP];omega) (λx mx=>by
  have hx:=rG.mp mx;have ht:tV (bu "Gate" "is_kept" C5 (ah 1) (aq (bu "Gate" "look_of" pW (ah 1) (aq (ah 0) aA)) aA)) [some (.int x,.sh []),some (gD g,.sh [])]=some (kp g (b7 g x.toNat)):=cT (oO (g:=g) (t:=.sh []) rfl (look (by omega) (by omega)) ace);cases e:kp g (b7 g x.toNat) with
  |true=>rw[e] at ht;exact vq (tg:=.sh []) rfl ht rfl rfl
  |false=>rw[e] at ht;exact CW rfl ht)
 rw[List.map_id] at hk;refine dh rfl (ku (dF (fl (g:=g) (t:=.sh []) rfl) (by show some (D.int (g.ld.map D.int).length)=_;rw[aaf])) (ku hk (eY ?_)));have hw:cM GO (aq (ah 1) (aq (bu "Gate" "bad" AE (ah 0) aA) (aq (ah 2) (aq (e2 cZ (bz "Gate" "numbers" (ah 0)) (eC (.int 1))) aA)))) [some (gD g,.sh []),some (.int g.ld.length,.own),some (iL (jB g),.own)]=some (iL (uN g),.own):=
  fJ (ps:=[(.int g.ld.length,.sh [1]),(bD (bad g),.own),(iL (jB g),.sh [2]),(.int g.h,.own)]) (by
   rw[cJ,cJ,gX (g:=g) (t:=.sh []) rfl (CP hl)];rfl) (by
   have:=aav (size:=g.ld.length) (bad:=kO g) (ks:=jB g) hh (by have:=yz (g:=g).2.2;omega);simp only[aaF,afm];rw[adp];exact this)
 have hc:=t9 (js:=[none,some 0]) (g:=gN 0) (tt:=mw) (te:=bu "Gate" "look_of" pW (ah 1) (aq (ah 0) aA)) (k:=λd=>match d with | .int p=>some (tD (b7 g p.toNat)) | _=>none) (ow hw) (by rw[aaf];exact size_le (by have:=Vs (size:=g.ld.length) (bad:=kO g) (ks:=jB g) hh (by have:=yz (g:=g).2.2;omega);show(W _ _ _ _).length<=_;omega)) (λd m=>by
  obtain⟨x,mx,rfl⟩:=acs.mp m;have:=(Cd (g:=g)).1 x mx;have:=LA (g:=g);exact C6 rfl rfl (look (by omega) (by omega)))
 rw[List.filterMap_map] at hc;have e:(uN g).filterMap ((λd=>match d with|.int p=>some (tD (b7 g p.toNat))|_=>none) ∘ D.int)=c8 (nX g):=by
  unfold nX c8;rw[aea];exact wJ (λp:Int=>tD (b7 g p.toNat)) _
 rw[e] at hc;exact hc
section
variable{g g':G}{ρ:aE}{d r:D}{t:Tag}{f m:Str}{fv:EF}{F:MF}
theorem Yp(h:fv ρ=some (d,t))(h0:ρ[0]? = some (some (.ins "Gate" es,.own)))(hl:es.length<1000)(ho:(lM t||aG d)=true):iR (o9 0 "Gate" f fv) ρ=some (.nx (bJ ρ 0 (.ins "Gate" (dO f d es)))):=by
 refine iK ?_;unfold o9;rw[h,h0];dsimp only;rw[if_pos ⟨rfl,hl,ho⟩]
theorem nh(h:fv ρ=some (d,t))(h0:ρ[0]? = some (some (gD g,.own)))(ho:(lM t||aG d)=true)(e:dO f d (gF g)=gF g'):iR (o9 0 "Gate" f fv) ρ=some (.nx (bJ ρ 0 (gD g'))):=by
 rw[Yp h h0 (by show 12<1000;decide) ho,e];rfl
theorem xo(h0:ρ[0]? = some (some (gD g,.own)))(h:F (gD g) []=some (r,gD g'))(hm:(gF g).lookup m=none:=by rfl):xO 0 "Gate" m F aA ρ=some (r,bJ ρ 0 (gD g')):=by
 unfold xO;rw[h0];show(if("Gate":Str)="Gate"/\(gF g).lookup m=none/\apart 0 []=true then(F (gD g) []).map _ else none)=_;rw[if_pos ⟨rfl,hm,rfl⟩,h];rfl
end
theorem HA(h:f ρ=some (d,t)):iR (cj i f) ρ=some (.nx (jf ρ i d t)):=iK (by unfold cj;rw[h])
theorem kT{r:Option Out}(h:tf ρ=some true)(h2:sf ρ=r):cH tf sf sg ρ=r:=by rw[gQ,h];exact h2
theorem QO:cP ((x::r).map D.int) 0=some (.int x):=by
 unfold cP iw;rw[if_pos (by omega),if_pos (by rw[aaf,abj];omega)];rfl
theorem ne1{o:Option Nat}:mL (bD o) (.int 1)=some (.bl (!decide (o=some 1))):=by
 cases o with
 |none=>kernel_rfl
 |some p=>
  show(if(eE (.int p)&&eE (.int 1))=true then some (D.bl (!PyData.eqv (py (.int p)) (py (.int 1)))) else none)=_;have e:eE (.int (p:Int))=true:=by unfold eE;simp[gY,py,PyData.canLay0,PyData.depth]
  have e1:eE (.int 1)=true:=by unfold eE;simp[gY,py,PyData.canLay0,PyData.depth]
  rw[e,e1];simp only[py,PyData.eqv,aeq,if_true]
  by_cases h:p=1
  .subst h;rfl
  .rw[abo (λz=>h (abi z)),show(((p:Int)==1)=false) from ab0.mpr (by omega)]
theorem N8{g:G}(hl:g.ln.length+g.ld.length<=900){s:List Slot}:tV (e2 mL (bu "Gate" "bad" AE (ah 0) aA) (eC (.int 1))) (some (gD g,.own)::s)=some (!decide (bad g=some 1)):=
 cT (bX (gX rfl (CP hl)) rfl ne1)
theorem Mq{g:G}(hl:g.ln.length+g.ld.length<=900)(h:bad g≠some 1):O1 (gD g) []=some (.bl false,gD g):=by
 have ht:=N8 hl (s:=[none]);rw[abo h] at ht;exact gK rfl (qj ht (kZ rfl))
def kP(g:G):D:=.tup [.str "look",tD g.ln,tD (b7 g 1),.str (wd g (b7 g 1))]
def iW(g:G)(x:Int):G:={ g with ld:=[],gr:=putD g.gr (Sum.inl x) (kP g) }
theorem Ys{g:G}{x:Int}(hl:g.ln.length+g.ld.length<=900)(h:bad g=some 1)(hx:g.ld=x::r)(hi:aP (g.gr.map (·.2))=true)(hg:g.gr.length<=100):O1 (gD g) []=some (.bl true,gD (iW g x)):=by
 have ht:=N8 hl (s:=[none]);rw[aa1 h] at ht;have h1:bu "Gate" "look_of" pW (ah 0) (aq (eC (.int 1)) aA) [some (gD g,.own),none]=some (tD (b7 g 1),.own):=oO rfl rfl (f_look (p:=1) (by rw[hx,abj];omega) (by omega));refine gK rfl (cG ht (sq (ρ':=[some (gD g,.own),some (tD (b7 g 1),.own)]) (HA h1) (sq (ρ':=[some (gD { g with gr:=putD g.gr (Sum.inl x) (kP g) },.own),some (tD (b7 g 1),.own)]) (iK ?_) (sq (ρ':=[some (gD (iW g x),.own),some (tD (b7 g 1),.own)]) (nh (g':=iW g x) (d:=.lst []) rfl rfl rfl rfl) rfl))));unfold tR;have e1:∃t,jq (aq (eC (.str "look")) (aq (e1 yG (bz "Gate" "on_line" (ah 0))) (aq (ah 1) (aq (bu "Gate" "word_of" AG (ah 0) (aq (ah 1) aA)) aA)))) [some (gD g,.own),some (tD (b7 g 1),.own)]=some (kP g,t):=by
  rw[Ju,cJ,cJ,cJ,cJ,dF (fl (d:=iL g.ln) rfl) NZ,oO rfl rfl Hj];exact⟨_,rfl⟩
 obtain⟨t,e1⟩:=e1;have fY:e2 cZ (bz "Gate" "laid_ones" (ah 0)) (eC (.int 0)) [some (gD g,.own),some (tD (b7 g 1),.own)]=some (.int x,.own):=bX (fl (d:=iL g.ld) rfl) rfl (xB (by rw[hx];exact QO) rfl);rw[e1,fY];show(if("Gate":Str)="Gate" then(match(gF g).lookup ("grounds":Str),g_ (.int x) with
  |some (.bK aj),some k=>if(aG (kP g)&&aP (aj.map (·.2))&&decide (aj.length<sizeLine))=true then some (Out.nx (bJ [some (gD g,.own),some (tD (b7 g 1),.own)] 0 (.ins "Gate" (dO "grounds" (.bK (putD aj k (kP g))) (gF g))))) else none
  |_,_=>none) else none)=_
 rw[if_pos rfl];show(if(aG (kP g)&&aP (g.gr.map (·.2))&&decide (g.gr.length<sizeLine))=true then _ else none)=_;have e3:aG (kP g)=true:=by
  unfold kP tD;simp only[aG,aP,fH,aeq]
 rw[e3,hi,aa1 (size_le (by omega)),if_pos (show(true&&true&&true)=true from rfl)];rfl
theorem JB{g:G}(h:g.ld≠[]):NO (gD g) []=some (.bl false,gD g):=by
 obtain⟨x,r,e⟩:=List.exists_cons_of_ne_nil h;have ht:Ev.nU (bz "Gate" "laid_ones" (ah 0)) [some (gD g,.own),none,none,none]=some true:=by
  unfold Ev.nU;rw[fl (g:=g) (d:=iL g.ld) rfl,e];rfl
 exact gK rfl (qj ht (kZ rfl))
theorem adJ{g:G}(h:g.ld=[])(hw:wl g=[])(hR:g.R.length<=100)(hr:Row g.R g.ln)(hl:g.ln.length<=100):NO (gD g) []=some (.bl false,gD g):=by
 have ht:Ev.nU (bz "Gate" "laid_ones" (ah 0)) [some (gD g,.own),none,none,none]=some false:=by
  unfold Ev.nU;rw[fl (d:=iL g.ld) rfl,h];rfl
 have h1:cM yg (aq (bz "Gate" "known" (ah 0)) (aq (bz "Gate" "on_line" (ah 0)) (aq (d_ aA) (aq (bu "Gate" "waiting" Ew (ah 0) aA) aA)))) [some (gD g,.own),none,none,none]=some (.lst [],.own):=
  fJ (by rw[cJ,cJ,cJ,cJ,gX rfl (CJ hR)];rfl) (by
   have:=IT (ln:=g.ln) (ld:=[]) (wt:=wl g) yI (by simpa using hl) (by rw[hw];simp);rw[hw] at this ⊢;exact this)
 have h2:bu "Gate" "sheet" Qm (ah 0) aA [some (gD g,.own),some (.lst [],.own),none,none]=some (.lst [],.own):=gX rfl (dh rfl (eY (fJ rfl (Kr hr hl))));exact gK rfl (cG ht (sq (ρ':=[some (gD g,.own),some (.lst [],.own),none,none]) (HA h1) (sq (ρ':=[some (gD g,.own),some (.lst [],.own),some (.lst [],.own),none]) (HA h2) (sq (ρ':=[some (gD g,.own),some (.lst [],.own),some (.lst [],.own),none]) rfl (by
  unfold k_;have:e2 mL (ah 1) (d_ aA) [some (gD g,.own),some (.lst [],.own),some (.lst [],.own),none]=some (.bl false,.own):=bX (d1:=.lst []) (d2:=.lst []) rfl rfl (by kernel_rfl);rw[this];rfl)))))
def fill(g:G):G:={ g with ld:=jr g.R (g.w-g.ld.length).toNat g.ld (wl g) }
structure Gd(g:G):Prop where
 w1:1<=g.w/\g.w<=16
 h1:1<=g.h/\g.h<=8
 R6:g.R.length<60
 row:Row g.R (g.ln++g.ld)
 nd:(g.ln++g.ld).Nodup
 kM:(g.ld.length:Int)<=g.w
 kJ:g.ln.length<=16
 l8:∀x∈g.ld,qf g x=false
 jo:aP (g.gr.map (·.2))=true
 gl:g.gr.length<=60
theorem Gd.len{g:G}(k:Gd g):g.ln.length+g.ld.length<=60:=by have:=k.kM;have:=k.w1;have:=k.kJ;omega
theorem Dh{g:G}(hl:g.ln.length+g.ld.length<=900){s:List Slot}:tV (e2 iu (bu "Gate" "bad" AE (ah 0) aA) (eC .aC)) (some (gD g,.own)::s)=some (bad g).isNone:=
 cT (bX (gX rfl (CP hl)) rfl (by cases bad g<;>rfl))
theorem Bx{g':G}(h:f ρ=some (r,[some (gD g',.own)])):Am f ρ=some (.rt (.tup [r,gD g'])):=by
 unfold Am;rw[h];rfl
theorem Ko(h:f ρ=some (.bl false,ρ'))(h2:f2 ρ'=some (.bl b,bf)):uA f f2 ρ=some (.bl b,bf):=by
 unfold uA;rw[h];dsimp only;rw[h2]
theorem orT(h:f ρ=some (.bl true,ρ')):uA f f2 ρ=some (.bl true,ρ'):=by
 unfold uA;rw[h]
theorem JT{g:G}(k:Gd g)(hb:bad g=none)(k1:Gd (fill g))(h1:bad (fill g)≠some 1)(h2:(fill g).ld=[]->wl (fill g)=[]):pX (gD g) []=some (.bl false,gD (fill g)):=by
 have hl:=k.len;have uQ:=k1.len;have ht:=Dh (g:=g) (by omega) (s:=[]);rw[hb] at ht;have hf:cM Py (aq (bz "Gate" "known" (ah 0)) (aq (bz "Gate" "on_line" (ah 0)) (aq (bz "Gate" "laid_ones" (ah 0)) (aq (bu "Gate" "waiting" Ew (ah 0) aA) (aq (e2 cZ (bz "Gate" "numbers" (ah 0)) (eC (.int 0))) aA))))) [some (gD g,.own)]=some (iL (fill g).ld,.own):=
  fJ (ps:=[(kD g.R,.sh [0]),(iL g.ln,.sh [0]),(iL g.ld,.sh [0]),(iL (wl g),.own),(.int g.w,.own)]) (by rw[cJ,cJ,cJ,cJ,gX (t:=.sh [0]) rfl (CJ (by have:=k.R6;omega))];rfl) (SA k.w1 k.row yI Lx (by have:=adv (g:=g);have:=k.R6;omega) (by omega))
 refine gK rfl (sq (ρ':=[some (gD (fill g),.own)]) (kT ht (nh (g':=fill g) hf rfl rfl rfl)) (Bx (g':=fill g) (Ko (ρ':=[some (gD (fill g),.own)]) (xo rfl (Mq (by omega) h1)) (xo rfl ?_))))
 by_cases e:(fill g).ld=[]
 .exact adJ e (h2 e) (by have:=k1.R6;omega) (λx m=>k1.row x (aaR _ m)) (by omega)
 .exact JB e
theorem ac4{g:G}{p:Nat}(k:Gd g)(hb:bad g=some p)(hp:p≠1):pX (gD g) []=some (.bl false,gD g):=by
 have hl:=k.len;have ht:=Dh (g:=g) (by omega) (s:=[]);rw[hb] at ht;have hm:=Qc hb;exact gK rfl (cG ht (Bx (g':=g) (Ko (ρ':=[some (gD g,.own)]) (xo rfl (Mq (by omega) (by rw[hb];exact λz=>hp (abi z)))) (xo rfl (JB λe=>by rw[e] at hm;simp at hm;omega)))))
theorem VW{g:G}{x:Int}(k:Gd g)(hb:bad g=some 1)(hx:g.ld=x::r):pX (gD g) []=some (.bl true,gD (iW g x)):=by
 have hl:=k.len;have ht:=Dh (g:=g) (by omega) (s:=[]);rw[hb] at ht;exact gK rfl (cG ht (Bx (g':=iW g x) (orT (xo rfl (Ys (by omega) hb hx k.jo (by have:=k.gl;omega))))))
def ic(g:G):G:={ g with lk:=nX g }
section
variable{g g1 g2:G}
abbrev cS:aE->Option (Bool×aE):=mK (iN (tV (bz "Gate" "halted" (ah 0)))) (tZ (xO 0 "Gate" "put_out_more" pX aA))
theorem KS{fz:aE->Option (Bool×aE)}(h:ft ρ=some true):mK ft fz ρ=fz ρ:=by unfold mK;rw[h]
theorem Iz{fz:aE->Option (Bool×aE)}(h:ft ρ=some false):mK ft fz ρ=some (false,ρ):=by unfold mK;rw[h]
theorem adW(h:f ρ=some (.bl b,ρ')):tZ f ρ=some (b,ρ'):=by unfold tZ;rw[h]
theorem M3:iN (tV (bz "Gate" "halted" (ah 0))) [some (gD g,.own)]=some (!g.ht):=kN (cT (fl (d:=.bl g.ht) rfl))
theorem abz(h:g.ht=true):cS [some (gD g,.own)]=some (false,[some (gD g,.own)]):=Iz (M3.trans (by rw[h];rfl))
theorem Fy(h:g.ht=false)(hm:pX (gD g) []=some (.bl b,gD g1)):cS [some (gD g,.own)]=some (b,[some (gD g1,.own)]):=(KS (M3.trans (by rw[h];rfl))).trans (adW (xo (g':=g1) rfl hm))
theorem ED{c:aE->Option (Bool×aE)}(h:c ρ=some (false,aJ)):lA c f (n+1) ρ=some (.nx aJ):=by rw[lA,h]
theorem Zu{c:aE->Option (Bool×aE)}(h:c ρ=some (true,aJ))(h2:f aJ=some (.nx bf)):lA c f (n+1) ρ=lA c f n bf:=by
 rw[lA,h];dsimp only;rw[h2]
theorem IB(hR:g.R.length<60):sZ (xO 0 "Gate" "put_out_leaning" Cn aA) [some (gD g,.own)]=some (.nx [some (gD g,.own)]):=by
 unfold sZ;rw[xo (g':=g) rfl (YM (by omega))];rfl
theorem BC(k:Gd g)(k1:Gd g1)(hw:lA cS (sZ (xO 0 "Gate" "put_out_leaning" Cn aA)) 4000 [some (gD g,.own)]=some (.nx [some (gD g1,.own)])):jz (gD g) []=some (.aC,gD (ic g1)):=
 qe rfl (sq (iK (IB k.R6)) (sq (iK hw) (nh (g:=g1) (g':=ic g1) (gX rfl (adT (by have:=k1.len;omega) (by have:=k1.len;omega) (by have:=k1.h1;omega))) rfl rfl rfl))) rfl
theorem Nr(k:Gd g)(h:g.ht=true):jz (gD g) []=some (.aC,gD (ic g)):=BC k k (ED (abz h))
theorem JM(k:Gd g)(k1:Gd g1)(h:g.ht=false)(hm:pX (gD g) []=some (.bl false,gD g1)):jz (gD g) []=some (.aC,gD (ic g1)):=BC k k1 (ED (Fy h hm))
theorem WW(k:Gd g)(k1:Gd g1)(k2:Gd g2)(h:g.ht=false)(h':g1.ht=false)(hm:pX (gD g) []=some (.bl true,gD g1))(kc:pX (gD g1) []=some (.bl false,gD g2)):jz (gD g) []=some (.aC,gD (ic g2)):=
 BC k k2 ((Zu (Fy h hm) (IB k1.R6)).trans (ED (Fy h' kc)))
end
theorem F4{g:G}:x∈wl g↔(1<=x/\x<=g.R.length)/\x∉g.ln/\x∉g.ld/\qf g x=false:=by
 unfold wl;rw[adY,rG];unfold pN;simp only[aaL,Bool.not_eq_true',decide_eq_false_iff_not];exact⟨λh=>⟨⟨h.1.1,by omega⟩,h.2⟩,λh=>⟨⟨h.1.1,by omega⟩,h.2⟩⟩
theorem sN{g:G}(k:Gd g):∃ex,(fill g).ld=g.ld++ex/\Gd (fill g)/\((fill g).ld=[]->wl (fill g)=[])/\∀x∈ex,x∈wl g:=by
 obtain⟨ex,h1,h2,h3,h4,h5⟩:=KN (told:=g.ld) (Lx);have h1:(fill g).ld=g.ld++ex:=h1;refine⟨ex,h1,⟨k.w1,k.h1,k.R6,λx m=>?_,?_,?_,k.kJ,λx m=>?_,k.jo,k.gl⟩,λe=>?_,h3⟩
 .rw[h1] at m;rcases abb.mp m with m|m
  .exact k.row x (aaR _ m)
  .rcases abb.mp m with m|m
   .exact k.row x (aaE _ m)
   .exact yI (g:=g) x (h3 x m)
 .rw[h1,<- List.append_assoc];refine abL.mpr ⟨k.nd,h2,λx m y my e=>?_⟩;subst e;have q:=F4.mp (h3 x my);exact(abb.mp m).elim q.2.1 q.2.2.1
 .rw[h1,abe];have:=k.kM;show((g.ld.length+ex.length:Nat):Int)<=g.w;omega
 .rw[h1] at m;rcases abb.mp m with m|m
  .exact k.l8 x m
  .exact(F4.mp (h3 x m)).2.2.2
 .rw[h1] at e;obtain⟨e1,e2⟩:=adQ.mp e;have hw:=Decidable.byContradiction λn=>h5 (by have:=k.w1;rw[e1];simp;omega) n e2
  have:wl (fill g)=wl g:=by
   unfold wl;refine List.filter_congr λx _=>?_
   unfold pN;rw[h1,e1,e2];rfl
  rw[this,hw]
noncomputable def bw(s:Str):Bool:=(["no","unsure"]:List Str).any (· == s)
theorem GX{g:G}(h:∀p,1<=p->p<=g.ld.length->bw (wd g (b7 g p))=false):bad g=none:=Pf λp m=>by
 obtain⟨i,mi,rfl⟩:=acs.mp m;have:=aeI.mp mi;exact h _ (by omega) (by omega)
def calm(g:G):Prop:=∀l,bw (wd g l)=false
theorem calm.bad{g:G}(c:calm g):bad g=none:=GX λp _ _=>c _
theorem calm.fill{g:G}(c:calm g):calm (fill g):=c
theorem vo{g:G}(k:Gd g)(c:calm g)(h:g.ht=false):jz (gD g) []=some (.aC,gD (ic (fill g))):=by
 obtain⟨ex,_,k1,h1,_⟩:=sN k;exact JM k k1 h (JT k c.bad k1 (by rw[c.fill.bad];exact λz=>by cases z) h1)
section
variable{g g':G}{ρ:aE}{d r:D}{t:Tag}{f m:Str}{fv:EF}{F:MF}{g3:G}
theorem EY(h:fv ρ=some (.int j,t))(h0:ρ[0]? = some (some (gD g,.own)))(hl:(gF g).lookup f=some (.int i))(e:dO f (.int (i+j)) (gF g)=gF g'):iR (zq 0 "Gate" f fv) ρ=some (.nx (bJ ρ 0 (gD g'))):=by
 refine iK ?_;unfold zq;rw[h,h0];show(if("Gate":Str)="Gate"/\(gF g).length<1000 then(match(gF g).lookup f with|some (.int k)=>some (Out.nx (bJ ρ 0 (.ins "Gate" (dO f (.int (k+j)) (gF g)))))|_=>none) else none)=_;rw[if_pos ⟨rfl,by show 12<1000;decide⟩,hl];dsimp only;rw[e];rfl
theorem lZ(h0:ρ[0]? = some (some (gD g,.own)))(h:F (gD g) []=some (r,gD g'))(hm:(gF g).lookup m=none:=by rfl):iR (sZ (xO 0 "Gate" m F aA)) ρ=some (.nx (bJ ρ 0 (gD g'))):=iK (by
 unfold sZ;rw[xo h0 h hm];rfl)
noncomputable def zx(g:G):G:={ g with ld:=[],ht:=true,br:=g.br+1 }
theorem adL(h:jz (gD (zx g)) []=some (.aC,gD g3)):B_ (gD g) []=some (.aC,gD g3):=
 qe rfl (sq (ρ':=[some (gD { g with ld:=[] },.own)]) (nh (g':={ g with ld:=[] }) (d:=.lst []) rfl rfl rfl rfl) (sq (ρ':=[some (gD { g with ld:=[],ht:=true },.own)]) (nh (g':={ g with ld:=[],ht:=true }) (d:=.bl true) rfl rfl rfl rfl)
  (sq (ρ':=[some (gD (zx g),.own)]) (EY (g':=zx g) rfl rfl rfl rfl) (lZ rfl h)))) rfl
theorem Uj(h:jz (gD { g with ht:=false }) []=some (.aC,gD g3)):G6 (gD g) []=some (.aC,gD g3):=
 qe rfl (sq (ρ':=[some (gD { g with ht:=false },.own)]) (nh (g:=g) (g':={ g with ht:=false }) (d:=.bl false) rfl rfl rfl rfl) (lZ rfl h)) rfl
noncomputable def iM(g:G)(r:Int):G:={ g with R:=g.R++[r] }
theorem MP{r:Int}(h9:r=0\/r=9)(hR:g.R.length<60)(h:jz (gD (iM g r)) []=some (.aC,gD g3)):yc (gD g) [.int r,.lst [],.lst []]=some (.int (g.R.length+1),gD g3):=by
 have h1:yw 0 "Gate" "known" "Changes" "added" Bl (aq (ah 1) (aq (ah 2) (aq (ah 3) aA))) [some (gD g,.own),some (.int r,.sh []),some (.lst [],.sh []),some (.lst [],.sh []),none]=some (.int (g.R.length+1),[some (gD (iM g r),.own),some (.int r,.sh []),some (.lst [],.sh []),some (.lst [],.sh []),none]):=by
  show(if("Gate":Str)="Gate"/\("Changes":Str)="Changes"/\([("entries",D.lst (g.R.map ent))]:List (Str×D)).lookup ("added":Str)=none/\apart 0 [(.int r,.sh []),(.lst [],.sh []),(.lst [],.sh [])]=true then(Bl (kD g.R) [.int r,.lst [],.lst []]).map _ else none)=_;rw[if_pos ⟨rfl,rfl,rfl,rfl⟩,UA h9 hR];rfl
 refine gK rfl (sq (ρ':=[some (gD (iM g r),.own),some (.int r,.sh []),some (.lst [],.sh []),some (.lst [],.sh []),some (.int (g.R.length + 1),.own)]) (iK (by
  show(match yw 0 "Gate" "known" "Changes" "added" Bl (aq (ah 1) (aq (ah 2) (aq (ah 3) aA))) [some (gD g,.own),some (.int r,.sh []),some (.lst [],.sh []),some (.lst [],.sh []),none] with|some (d,ρ')=>some (Out.nx (jf ρ' 4 d .own))|none=>none)=_;rw[h1];rfl)) (sq (ρ':=[some (gD g3,.own),some (.int r,.sh []),some (.lst [],.sh []),some (.lst [],.sh []),some (.int (g.R.length+1),.own)]) (lZ (g:=iM g r) rfl h) rfl))
theorem Qq(h:fv ρ=some (d,t))(hk:fk ρ=some (.int x,t2))(h0:ρ[0]? = some (some (gD g,.own)))(hi:aG d=true)(hG:aP (g.gr.map (·.2))=true)(hl:g.gr.length<=100):iR (tR 0 "Gate" "grounds" fk fv) ρ=some (.nx (bJ ρ 0 (gD { g with gr:=putD g.gr (Sum.inl x) d }))):=by
 refine iK ?_;unfold tR;rw[h,h0,hk];show(if("Gate":Str)="Gate" then(if(aG d&&aP (g.gr.map (·.2))&&decide (g.gr.length<sizeLine))=true then some (Out.nx (bJ ρ 0 (.ins "Gate" (dO "grounds" (.bK (putD g.gr (Sum.inl x) d)) (gF g))))) else none) else none)=_;rw[if_pos rfl,hi,hG,aa1 (size_le (by omega)),if_pos (show(true&&true&&true)=true from rfl)];rfl
theorem Ma:∀{r:List Int}{x:Int},x∉r->(r++[x]).findIdx? (· == x)=some r.length
 |[],x,_=>by simp
 |a::r,x,h=>by
  have ha:(a==x)=false:=by simpa using λz:a=x=>h (by rw[z];exact aax)
  have:=Ma (r:=r) λm=>h (aal _ m)
  rw[List.cons_append,List.findIdx?_cons,ha,this];rfl
def lH(g:G)(r:List Int)(x:Int):G:={ g with ld:=r,gr:=putD g.gr (Sum.inl x) (.tup [.str "withdrawn"]),br:=g.br+1 }
theorem UH{r:List Int}{x:Int}(k:Gd g)(hx:g.ld=r++[x])(h:jz (gD (lH g r x)) []=some (.aC,gD g3)):NT (gD g) [.int x]=some (.aC,gD g3):=by
 have mx:x∈g.ld:=by rw[hx];exact aaE _ aax
 have rx:=k.row x (aaE _ mx);have nl:x∉g.ln:=λm=>(abL.mp k.nd).2.2 x m x mx rfl
 have nr:x∉r:=λm=>by
  have:=(abL.mp k.nd).2.1;rw[hx] at this;exact(abL.mp this).2.2 x m x aax rfl
 have t1:iN (tV (bu "Changes" "has" OJ (bz "Gate" "known" (ah 0)) (aq (ah 1) aA))) [some (gD g,.own),some (.int x,.sh [])]=some false:=kN (b:=true) (cT (l_ (fl rfl) rfl ((Km g.R x).trans (by unfold inR;rw[aa1 rx.1,aa1 rx.2];rfl))));have t2:nJ (tV (e2 (iP false) (ah 1) (bz "Gate" "on_line" (ah 0)))) (tV (e2 (rC false) (ah 1) (bz "Gate" "grounds" (ah 0)))) [some (gD g,.own),some (.int x,.sh [])]=some false:=
  (wu ((Io rfl (fl rfl)).trans (by rw[abo nl]))).trans (cT (bX (d1:=.int x) rfl (fl rfl) (by show some (D.bl (qf g x))=_;rw[k.l8 x mx])))
 have t3:tV (e2 (iP false) (ah 1) (bz "Gate" "laid_ones" (ah 0))) [some (gD g,.own),some (.int x,.sh [])]=some true:=(Io rfl (fl rfl)).trans (by rw[aa1 mx]);have c:uK (bz "Gate" "laid_ones" (ah 0)) (e2 GC (bz "Gate" "laid_ones" (ah 0)) (ah 1)) [some (gD g,.own),some (.int x,.sh [])]=some (iL r,.own):=by
  have e1:e2 GC (bz "Gate" "laid_ones" (ah 0)) (ah 1) [some (gD g,.own),some (.int x,.sh [])]=some (.int r.length,.own):=bX (d2:=.int x) (fl (d:=iL g.ld) rfl) rfl (by
   show(match dB (g.ld.map D.int) with|some ts=>(ts.findIdx? (· == x)).map λj:Nat=>D.int j|none=>none)=_;rw[uc,hx];dsimp only;rw[Ma nr];rfl)
  unfold uK;rw[fl (d:=iL g.ld) rfl,e1];show(if aP (g.ld.map D.int)=true then some (D.lst (cutD (g.ld.map D.int) none (some (r.length:Int))),Tag.own) else none)=_;rw[if_pos (fH _),H_ (by rw[aaf,hx,abe];omega),<- List.map_take,hx,List.take_left];rfl
 exact qe rfl (cG t1 (cG t2 (sq (ρ':=[some (gD { g with ld:=r },.own),some (.int x,.sh [])]) (kT t3 (nh (g':={ g with ld:=r }) c rfl rfl rfl)) (sq (ρ':=[some (gD { g with ld:=r,gr:=putD g.gr (Sum.inl x) (.tup [.str "withdrawn"]) },.own),some (.int x,.sh [])]) (Qq (g:={ g with ld:=r }) (d:=.tup [.str "withdrawn"]) (t:=.own) rfl rfl rfl rfl k.jo (by have:=k.gl;show g.gr.length<=100;omega))
  (sq (ρ':=[some (gD (lH g r x),.own),some (.int x,.sh [])]) (EY (g':=lH g r x) rfl rfl rfl rfl) (lZ rfl h)))))) rfl
theorem LQ:∀h:List Str,aP (h.map D.str)=true
 |[]=>rfl
 |x::h=>by rw[aaF];unfold aP;rw[LQ h];rfl
theorem Q8{n t:Int}{h:List Str}{w:Str}(hw:w∈(["yes","no","unsure"]:List Str))(hm:word n t h="more")(hl:h.length<=100):MZ (obj n t h) [.str w]=some (.str (word n t (h++[w])),obj n t (h++[w])):=by
 have m1:∀h:List Str,bu "Tally" "word" DM (ah 0) aA [some (obj n t h,.own),some (.str w,.sh [])]=some (.str (word n t h),.own):=λh=>mQ rfl rfl rfl PK
 refine gK rfl (cG ?_ (cG (cT (bX (m1 h) rfl (by rw[hm];rfl))) (sq (ρ':=[some (obj n t (h++[w]),.own),some (.str w,.sh [])]) (iK ?_) ?_)))
 .simp only[aaM,acy,aeC] at hw;rcases hw with rfl|rfl|rfl<;>rfl
 .refine(Ba (d:=.str w) rfl rfl rfl (by rw[LQ,aaf,aa1 (size_le (by omega))];rfl)).trans ?_;unfold obj hs;rw[ad5];rfl
 .unfold k_;rw[m1 (h++[w])];rfl
def lS(g:G)(L:List Int)(h:List Str):Prop:=(g.ta=none/\h=[])\/g.ta=some (L,h)
theorem S4{L:List Int}(a:lS g L h):(bI (kG g.n g.t g.ta) (kL L)).getD (obj g.n g.t [])=obj g.n g.t h:=by
 rw[OH];rcases a with⟨e,rfl⟩|e
 .rw[e];rfl
 .rw[e];dsimp only;rw[if_pos rfl];rfl
theorem VD{L:List Int}(a:lS g L h):putD (kG g.n g.t g.ta) (kL L) d=[(kL L,d)]:=by
 unfold putD;rcases a with⟨e,rfl⟩|e
 .rw[e];rfl
 .rw[e];show(if(List.any [(kL L,obj g.n g.t h)] λkv=>decide (kv.1=kL L))=true then _ else _)=_;rw[if_pos (by simp)];simp[kG]
theorem Xl:((kG g.n g.t g.ta).map (·.1)).Nodup/\(kG g.n g.t g.ta).length<=1:=by
 cases g.ta with
 |none=>exact⟨.nil,aeh _⟩
 |some p=>exact⟨by simp[kG],abd _⟩
theorem aaQ{L:List Int}{h:List Str}{w:Str}(a:lS g L h)(hL:L≠[])(hn:1<=g.n/\g.n<=g.t/\g.t<=20)(hw:w∈(["yes","no","unsure"]:List Str))(hm:word g.n g.t h="more")(hl:h.length<=100):
  sS "Gate" "tallies" "Tally" "tell" (qN "Tally" xg (aq (e2 cZ (bz "Gate" "numbers" (ah 0)) (eC (.int 2))) (aq (e2 cZ (bz "Gate" "numbers" (ah 0)) (eC (.int 3))) aA))) MZ [some (gD g,.own),some (tD L,.sh []),some (.str w,.sh []),none,none] =
   some (.nx [some (gD { g with ta:=some (L,h++[w]) },.own),some (tD L,.sh []),some (.str w,.sh []),none,some (.str (word g.n g.t (h++[w])),.own)]):=by
 have e1:qN "Tally" xg (aq (e2 cZ (bz "Gate" "numbers" (ah 0)) (eC (.int 2))) (aq (e2 cZ (bz "Gate" "numbers" (ah 0)) (eC (.int 3))) aA)) [some (gD g,.own),some (tD L,.sh []),some (.str w,.sh []),none,none]=some (obj g.n g.t [],.own):=by
  show(match xg (.ins "Tally" []) [.int g.n,.int g.t] with|some (.aC,d)=>some (d,Tag.own)|_=>none)=_;rw[UU hn.1 hn.2.1 hn.2.2]
 unfold sS;show(match(gF g).lookup ("tallies":Str),je (L.map D.int),qN "Tally" xg (aq (e2 cZ (bz "Gate" "numbers" (ah 0)) (eC (.int 2))) (aq (e2 cZ (bz "Gate" "numbers" (ah 0)) (eC (.int 3))) aA)) [some (gD g,.own),some (tD L,.sh []),some (.str w,.sh []),none,none] with
  |some (.eS aj),some ks,some (dn,.own)=>_
  |_,_,_=>none)=_
 rw[e1,kF,show(gF g).lookup ("tallies":Str)=some (.eS (kG g.n g.t g.ta)) from rfl];dsimp only;rw[S4 a];unfold obj;dsimp only;obtain⟨n1,n2⟩:=Xl;rw[if_pos ⟨rfl,rfl,rfl,by unfold kL;rw[afa];exact acA.mpr λ_ _=>rfl,λz=>hL (List.map_eq_nil_iff.mp z),n1,size_le (by omega)⟩];have ht:=Q8 hw hm hl;unfold obj at ht;rw[ht];dsimp only;rw[if_pos (show aG (D.str (word g.n g.t (h++[w])))=true from rfl),VD a];rfl
def dW(g:G)(L:List Int)(h:List Str)(w:Str):G:={ g with ta:=some (L,h++[w]),an:=g.an+1,en:=if(word g.n g.t (h++[w]) == "more")=true then g.en else g.en++[.tup [tD L,.str (word g.n g.t (h++[w]))]] }
def qw(g:G)(L:List Int):G:={ g with ld:=g.ld.drop L.length,ln:=L,gw:=g.gw++[tD L] }
theorem RZ{L:List Int}(Hs:g.ln=[])(EA:g.gw=[])(hL:L.length<=g.ld.length):rZ (gD g) [tD L]=some (.aC,gD (qw g L)):=by
 have c:yX (bz "Gate" "laid_ones" (ah 0)) (e2 lV (e1 cX (ah 1)) (e1 cX (bz "Gate" "on_line" (ah 0)))) [some (gD g,.own),some (tD L,.sh [])]=some (iL (g.ld.drop L.length),.own):=by
  have e1:e2 lV (e1 cX (ah 1)) (e1 cX (bz "Gate" "on_line" (ah 0))) [some (gD g,.own),some (tD L,.sh [])]=some (.int L.length,.own):=bX (dF (d:=tD L) rfl (by show some (D.int (L.map D.int).length)=_;rw[aaf])) (dF (fl (d:=iL g.ln) rfl) (by rw[Hs];rfl)) (by show some (D.int (_-0))=_;rw[Int.sub_zero]);unfold yX;rw[fl (d:=iL g.ld) rfl,e1];show(if aP (g.ld.map D.int)=true then some (D.lst (cutD (g.ld.map D.int) (some (L.length:Int)) none),Tag.own) else none)=_;rw[if_pos (fH _),U8 (by rw[aaf];exact hL),<- List.map_drop];rfl
 refine qe rfl (sq (ρ':=[some (gD { g with ld:=g.ld.drop L.length },.own),some (tD L,.sh [])]) (nh (g':={ g with ld:=g.ld.drop L.length }) c rfl rfl rfl) (sq (ρ':=[some (gD { g with ld:=g.ld.drop L.length,ln:=L },.own),some (tD L,.sh [])]) (nh (g':={ g with ld:=g.ld.drop L.length,ln:=L }) (dF (d:=tD L) rfl aaA) rfl rfl rfl) (iK (Ba (d:=tD L) rfl rfl rfl ?_)))) rfl;rw[EA];have:aG (tD L)=true:=fH L;rw[this];rfl
def jR(g:G)(L:List Int)(h:List Str)(w:Str):G:=if(word g.n g.t (h++[w]) == "yes")=true then qw (dW g L h w) L else dW g L h w
theorem ZX{L:List Int}{h:List Str}{w:Str}(hk:L∈g.lk)(a:lS g L h)(hL:L≠[])(hn:1<=g.n/\g.n<=g.t/\g.t<=20)(hw:w∈(["yes","no","unsure"]:List Str))(hm:word g.n g.t h="more")(hl:h.length<=100)(Zz:g.en=[])(Hs:g.ln=[])(EA:g.gw=[])(hd:L.length<=g.ld.length)
  (hs:jz (gD (jR g L h w)) []=some (.aC,gD g3)):uE (gD g) [tD L,.str w]=some (.str (word g.n g.t (h++[w])),gD g3):=by
 generalize ew:word g.n g.t (h++[w])=u;have ft:=aaQ a hL hn hw hm hl;rw[ew] at ft;have hu:∀g':G,iR (sZ (xO 0 "Gate" "grow" rZ (aq (ah 1) aA))) [some (gD g',.own),some (tD L,.sh []),some (.str w,.sh []),none,some (.str u,.own)]=(rZ (gD g') [tD L]).map λv=>.nx [some (v.2,.own),some (tD L,.sh []),some (.str w,.sh []),none,some (.str u,.own)]:=λg'=>by
  show iR (λρ=>(xO 0 "Gate" "grow" rZ (aq (ah 1) aA) ρ).map λw=>.nx w.2) _=_;have:xO 0 "Gate" "grow" rZ (aq (ah 1) aA) [some (gD g',.own),some (tD L,.sh []),some (.str w,.sh []),none,some (.str u,.own)]=(rZ (gD g') [tD L]).map λv=>(v.1,bJ [some (gD g',.own),some (tD L,.sh []),some (.str w,.sh []),none,some (.str u,.own)] 0 v.2):=by
   show(if("Gate":Str)="Gate"/\(gF g').lookup ("grow":Str)=none/\apart 0 [(tD L,.sh [])]=true then _ else none)=_;rw[if_pos ⟨rfl,rfl,rfl⟩];rfl
  unfold iR;dsimp only;rw[this];cases rZ (gD g') [tD L]<;>rfl
 refine gK rfl (cG (cT (bX (d1:=tD L) rfl (fl rfl) ((uJ true L g.lk).trans (by rw[aa1 hk];rfl)))) (sq ft (sq (ρ':=[some (gD { g with ta:=some (L,h++[w]),an:=g.an+1 },.own),some (tD L,.sh []),some (.str w,.sh []),none,some (.str u,.own)]) (EY (g':={ g with ta:=some (L,h++[w]),an:=g.an+1 }) rfl rfl rfl rfl) (sq (ρ':=[some (gD (dW g L h w),.own),some (tD L,.sh []),some (.str w,.sh []),none,some (.str u,.own)]) ?_ (sq (ρ':=[some (gD (jR g L h w),.own),some (tD L,.sh []),some (.str w,.sh []),none,some (.str u,.own)]) ?_ (sq (ρ':=[some (gD g3,.own),some (tD L,.sh []),some (.str w,.sh []),none,some (.str u,.own)]) (lZ rfl hs) rfl))))))
 .have ht:tV (e2 jH (ah 4) (eC (.str "more"))) [some (gD { g with ta:=some (L,h++[w]),an:=g.an+1 },.own),some (tD L,.sh []),some (.str w,.sh []),none,some (.str u,.own)]=some (!(u == "more")):=rfl;unfold dW;rw[ew];cases e:(u==("more":Str)) with
  |true=>rw[e] at ht;rw[gQ,ht];rfl
  |false=>
   rw[e] at ht;refine kT ht (iK ((Ba (d:=.tup [tD L,.str u]) rfl rfl rfl ?_).trans ?_))
   .rw[Zz];have:aG (.tup [tD L,.str u])=true:=by unfold tD;simp only[aG,aP,fH,aeq]
    rw[this];rfl
   .rfl
 .have ht:tV (e2 oEq (ah 4) (eC (.str "yes"))) [some (gD (dW g L h w),.own),some (tD L,.sh []),some (.str w,.sh []),none,some (.str u,.own)]=some (u == "yes"):=rfl;unfold jR;rw[ew];cases e:(u==("yes":Str)) with
  |true=>
   rw[e] at ht;refine kT ht ((hu (dW g L h w)).trans ?_);rw[RZ (g:=dW g L h w) Hs EA hd];rfl
  |false=>rw[e] at ht;rw[gQ,ht];rfl
end
theorem pC{g:G}(m:l∈nX g):∃p:Nat,1<=p/\p<=g.ld.length/\(p:Int)<endOf g.ld.length (kO g)/\l=b7 g p:=by
 obtain⟨x,mx,rfl⟩:=acs.mp m;have h:=(Cd).1 x mx;have h2:=LA (g:=g);exact⟨x.toNat,by omega,by omega,by omega,rfl⟩
theorem LW{g:G}(hb:bad g=none)(h1:1<=p)(h2:p<=g.ld.length)(hk:b7 g p∈g.lk)(hw:wd g (b7 g p)="more"):b7 g p∈nX g:=by
 refine acs.mpr ⟨(p:Int),(Cd).2 p (adY.mpr ⟨rG.mpr (by omega),?_⟩) ?_,rfl⟩
 .show kp g (b7 g ((p:Int).toNat))=true;rw[afj];unfold kp;rw[aa1 hk,hw];rfl
 .unfold kO;rw[hb];show(p:Int)<g.ld.length+1;omega
structure Ph(k:Nat)(L:List Int)(h:List Str)(g:G):Prop where
 gd:Gd g
 rl:g.R.length<=13+k
 gl:g.gr.length<=k
 nt:1<=g.n/\g.n<=g.t/\g.t<=20
 ln:g.ln=[]
 ht:g.ht=false
 en:g.en=[]
 gw:g.gw=[]
 tl:lS g L h
 mo:word g.n g.t h="more"
 lk:∀l∈g.lk,∃p:Nat,1<=p/\p<=g.ld.length/\l=g.ld.take p
theorem xY{g:G}{L:List Int}(a:lS g L h)(l:List Int):wd g l="more"\/(wd g l=word g.n g.t h/\l=L):=by
 unfold wd;rcases a with⟨e,_⟩|e
 .rw[e];exact .inl rfl
 .rw[e];dsimp only
  by_cases z:L=l
  .rw[if_pos z];exact .inr ⟨rfl,z.symm⟩
  .rw[abf z];exact .inl rfl
theorem vN{g:G}{L:List Int}(a:lS g L h)(hb:bw (word g.n g.t h)=false):calm g:=λl=>by
 rcases xY a l with e|⟨e,_⟩
 .rw[e];rfl
 .rw[e];exact hb
theorem BR(hm:word n t h="more"):(h.length:Int)<t/\(bY "yes" h:Int)<n/\(bY "no" h:Int)<n:=by
 unfold word at hm
 split at hm
 .exact absurd hm (by decide +kernel)
 .split at hm
  .exact absurd hm (by decide +kernel)
  .split at hm
   .exact absurd hm (by decide +kernel)
   .omega
theorem G9{g:G}{L:List Int}(k:Gd g):Gd (dW g L h w):=⟨k.w1,k.h1,k.R6,k.row,k.nd,k.kM,k.kJ,k.l8,k.jo,k.gl⟩
theorem abN{k:Nat}{g:G}{L:List Int}(P:Ph k L h g)(hk:L∈g.lk)(hw:word g.n g.t (h++[w])="more"):jz (gD (jR g L h w)) []=some (.aC,gD (ic (fill (dW g L h w))))/\Ph k L (h++[w]) (ic (fill (dW g L h w)))/\L∈(ic (fill (dW g L h w))).lk:=by
 have e2:jR g L h w=dW g L h w:=by unfold jR;rw[hw];rfl
 have tl:lS (dW g L h w) L (h++[w]):=.inr rfl;have c:=vN tl (by show bw (word g.n g.t (h++[w]))=false;rw[hw];rfl);obtain⟨ex,h1,k1,_,_⟩:=sN (G9 (h:=h) P.gd);have h1:(fill (dW g L h w)).ld=g.ld++ex:=h1;obtain⟨p,p1,p2,rfl⟩:=P.lk L hk;have lp:∀q:Nat,b7 (fill (dW g (g.ld.take p) h w)) q=(g.ld++ex).take q:=λq=>by
  unfold b7;rw[h1,show(fill (dW g (g.ld.take p) h w)).ln=[] from P.ln,aei]
 have ep:b7 (fill (dW g (g.ld.take p) h w)) p=g.ld.take p:=by rw[lp,aeQ p2]
 refine⟨by rw[e2];exact vo (G9 P.gd) c P.ht,⟨⟨k1.w1,k1.h1,k1.R6,k1.row,k1.nd,k1.kM,k1.kJ,k1.l8,k1.jo,k1.gl⟩,P.rl,P.gl,P.nt,P.ln,P.ht,?_,P.gw,.inr rfl,hw,λl m=>?_⟩,?_⟩
 .show(if(word g.n g.t (h++[w]) == "more")=true then g.en else _)=[];rw[hw];exact P.en
 .obtain⟨q,q1,q2,_,rfl⟩:=pC m;exact⟨q,q1,q2,by rw[lp];show _=(fill _).ld.take q;rw[h1]⟩
 .have:=LW c.fill.bad p1 (by rw[h1,abe];omega) (by rw[ep];exact hk) (by
   rw[ep];show wd (dW g (g.ld.take p) h w) (g.ld.take p)=_;rcases xY tl (g.ld.take p) with e|⟨e,_⟩
   .exact e
   .rw[e];exact hw)
  rw[ep] at this;exact this
theorem RU{es:List (Key×D)}:(bI (putD es k d) k)=some d:=by
 unfold bI putD
 by_cases h:(es.any λkv=>decide (kv.1=k))=true
 .rw[if_pos h]
  induction es with
  |nil=>cases h
  |cons a r ih=>
   rw[aaF]
   by_cases z:a.1=k
   .rw[if_pos z,aeR (by simpa using z)];rfl
   .rw[abf z,ad9 (by simpa using z)];exact ih (by rw[afd,abo z,Bool.false_or] at h;exact h)
 .rw[abf h,List.find?_append];have:es.find? (λkv=>decide (kv.1=k))=none:=by
   rw[List.find?_eq_none];intro x m e;exact h (aey.mpr ⟨x,m,e⟩)
  rw[this];simp
theorem BK{es:List (Key×D)}:(putD es k d).length<=es.length+1:=by
 unfold putD
 split
 .rw[aaf];omega
 .rw[abe];exact abd _
theorem JE:aP ds=true↔∀d∈ds,aG d=true:=by
 induction ds with
 |nil=>exact⟨λ_ d m=>(nomatch m),λ_=>rfl⟩
 |cons a r ih=>
  unfold aP;rw[aaL,ih];exact⟨λh d m=>(aaM.mp m).elim (λe=>e ▸ h.1) (h.2 d),λh=>⟨h a aax,λd m=>h d (aal _ m)⟩⟩
theorem N7{es:List (Key×D)}(h:aP (es.map (·.2))=true)(hd:aG d=true):aP ((putD es k d).map (·.2))=true:=by
 rw[JE] at h ⊢;intro y m;obtain⟨kv,mk,rfl⟩:=acs.mp m;unfold putD at mk
 split at mk
 .obtain⟨x,mx,rfl⟩:=acs.mp mk
  split
  .exact hd
  .exact h _ (acs.mpr ⟨x,mx,rfl⟩)
 .rcases abb.mp mk with mk|mk
  .exact h _ (acs.mpr ⟨kv,mk,rfl⟩)
  .cases aaH.mp mk;exact hd
theorem Nh{l:List Int}{p q:Nat}(hp:p<=l.length)(hq:q<=l.length)(e:l.take p=l.take q):p=q:=by
 have:=congrArg List.length e;rw[adf,adf] at this;omega
theorem R9{k:Nat}{g:G}{L:List Int}{h:List Str}{w:Str}(P:Ph k L h g)(hk:L∈g.lk)(hw:word g.n g.t (h++[w])="yes"):∃g3,jz (gD (jR g L h w)) []=some (.aC,gD g3)/\L∉g3.lk/\g3.en=(dW g L h w).en:=by
 have e2:jR g L h w=qw (dW g L h w) L:=by unfold jR;rw[hw];rfl
 obtain⟨p,p1,p2,eL⟩:=P.lk L hk;have uy:L.length=p:=by rw[eL,adf];omega
 have eq:L++g.ld.drop L.length=g.ld:=by rw[uy,eL];exact List.take_append_drop p g.ld
 have c:calm (qw (dW g L h w) L):=vN (h:=h++[w]) (.inr rfl) (by show bw (word g.n g.t (h++[w]))=false;rw[hw];rfl);have k0:=P.gd;have kd:Gd (qw (dW g L h w) L):=by
  have r:=k0.row;have n:=k0.nd;rw[P.ln,aei] at r n;refine⟨k0.w1,k0.h1,k0.R6,?_,?_,?_,?_,λx m=>k0.l8 x (List.mem_of_mem_drop m),k0.jo,k0.gl⟩
  .show Row g.R (L++g.ld.drop L.length);rw[eq];exact r
  .show(L++g.ld.drop L.length).Nodup;rw[eq];exact n
  .show(((g.ld.drop L.length).length:Nat):Int)<=g.w;rw[List.length_drop];have:=k0.kM;omega
  .show L.length<=16;have:=k0.kM;have:=k0.w1;omega
 refine⟨ic (fill (qw (dW g L h w) L)),by rw[e2];exact vo kd c P.ht,λm=>?_,rfl⟩;obtain⟨q,q1,q2,_,e⟩:=pC m;have:=congrArg List.length e;unfold b7 at this;rw[abe,adf] at this;have e3:(fill (qw (dW g L h w) L)).ln=L:=rfl;rw[e3] at this;omega
theorem adj{k:Nat}{g:G}{L:List Int}(P:Ph k L h g)(hk6:k<=30)(hk:L∈g.lk)(hw:bw (word g.n g.t (h++[w]))=true):∃g3,jz (gD (jR g L h w)) []=some (.aC,gD g3)/\L∉g3.lk/\g3.en=(dW g L h w).en:=by
 have ny:(word g.n g.t (h++[w]) == "yes")=false:=by
  rw[aeA];intro z;rw[eq_of_beq z] at hw;exact absurd hw (by decide +kernel)
 have e2:jR g L h w=dW g L h w:=by unfold jR;rw[ny];rfl
 rw[e2];have kd:=G9 (L:=L) (h:=h) (w:=w) P.gd;generalize ea:dW g L h w=a at kd ⊢;have By:a.ln=[]:=by rw[<- ea];exact P.ln
 have vP:a.ld=g.ld:=by rw[<- ea];rfl
 have TH:a.gr=g.gr:=by rw[<- ea];rfl
 have EV:a.ht=false:=by rw[<- ea];exact P.ht
 have at':a.ta=some (L,h++[w]):=by rw[<- ea];rfl
 have an':word a.n a.t (h++[w])=word g.n g.t (h++[w]):=by rw[<- ea];rfl
 obtain⟨p,p1,p2,eL⟩:=P.lk L hk;have tl:lS a L (h++[w]):=.inr at';have lp:∀q:Nat,b7 a q=g.ld.take q:=λq=>by unfold b7;rw[By,vP,aei]
 have Y3:∀q:Nat,q<=g.ld.length->sE a q=decide (q=p):=λq hq=>by
  show bw (wd a (b7 a q))=_
  by_cases z:q=p
  .rw[aa1 z,z,lp,<- eL];have:wd a L=word a.n a.t (h++[w]):=by unfold wd;rw[at'];dsimp only;rw[if_pos rfl]
   rw[this,an'];exact hw
  .rw[abo z];rcases xY tl (b7 a q) with e|⟨_,e⟩
   .rw[e];rfl
   .rw[lp,eL] at e;exact absurd (Nh hq p2 e) z
 have hb:bad a=some p:=by
  have gen:∀ps:List Nat,(∀q∈ps,q<=g.ld.length)->p∈ps->lG a ps=some p:=λps=>by
   induction ps with
   |nil=>intro _ m;cases m
   |cons q r ih=>
    intro hq m;unfold lG;rw[Y3 q (hq q aax)]
    by_cases z:q=p
    .rw[aa1 z,if_pos rfl,z]
    .rw[abo z,abf aaN];exact ih (λq m=>hq q (aal _ m)) ((aaM.mp m).resolve_left λe=>z e.symm)
  refine gen _ (λq m=>?_) (acs.mpr ⟨p-1,aeI.mpr (by rw[vP];omega),by omega⟩);obtain⟨i,mi,rfl⟩:=acs.mp m;have:=aeI.mp mi;rw[vP] at this;omega
 by_cases z:p=1
 .subst z;obtain⟨x,r,ex⟩:∃x r,g.ld=x::r:=List.exists_cons_of_ne_nil λe=>by rw[e] at p2;simp at p2
  have Zt:L=[x]:=by rw[eL,ex];rfl
  have Po:qf (iW a x) x=true:=by
   show(bI (putD a.gr (Sum.inl x) (kP a)) (Sum.inl x)).isSome=true;rw[RU];rfl
  have k1:Gd (iW a x):=⟨kd.w1,kd.h1,kd.R6,λy m=>kd.row y (by rw[show(iW a x).ld=[] from rfl,abM] at m;exact aaR _ m),by
    show(a.ln++[]).Nodup;rw[By];exact .nil,by show((0:Nat):Int)<=a.w;have:=kd.w1;omega,kd.kJ,(λy m=>nomatch m),N7 kd.jo (by
     unfold kP tD;simp only[aG,aP,fH,aeq]),by
    have:=BK (es:=a.gr) (k:=(Sum.inl x:Key)) (d:=kP a);have:=P.gl;rw[<- TH] at this;show(putD a.gr (Sum.inl x) (kP a)).length<=60;omega⟩
  obtain⟨A2,f1,k2,f2,f3⟩:=sN k1;have f1:(fill (iW a x)).ld=A2:=f1;have nx:∀q:Nat,b7 (fill (iW a x)) q≠L:=λq e=>by
   have e:a.ln++(fill (iW a x)).ld.take q=L:=e;rw[By,aei,f1,Zt] at e;have mx:=List.mem_of_mem_take (by rw[e];exact aax);rw[(F4.mp (f3 x mx)).2.2.2] at Po;cases Po
  have b2:bad (fill (iW a x))=none:=GX λq _ _=>by
   rcases xY (g:=fill (iW a x)) (h:=h++[w]) (.inr at') (b7 (fill (iW a x)) q) with e|⟨_,e⟩
   .rw[e];rfl
   .exact absurd e (nx q)
  have b1:bad (iW a x)=none:=GX λq q1 q2=>absurd q2 (by show ¬q<=0;omega)
  refine⟨_,WW kd k1 k2 EV EV (VW kd hb (by rw[vP];exact ex)) (JT k1 b1 k2 (by rw[b2];exact λz=>by cases z) f2),λm=>?_,rfl⟩;obtain⟨q,_,_,_,e⟩:=pC m;exact nx q e.symm
 .refine⟨_,JM kd kd EV (ac4 kd hb z),λm=>?_,rfl⟩;obtain⟨q,q1,q2,q3,e⟩:=pC m;unfold kO at q3;rw[hb] at q3;have q3:(q:Int)<p:=q3;rw[lp,eL] at e;have:=Nh p2 (by rw[vP] at q2;exact q2) e;omega
theorem N4{g:G}(h:g.ld=[]):nX g=[]:=List.eq_nil_iff_forall_not_mem.mpr λl m=>by
 obtain⟨p,p1,p2,_,_⟩:=pC m;rw[h] at p2;simp at p2;omega
structure Sp(k:Nat)(L:List Int)(h:List Str)(g:G):Prop where
 gd:Gd g
 rl:g.R.length<=13+k
 gl:g.gr.length<=k
 nt:1<=g.n/\g.n<=g.t/\g.t<=20
 ln:g.ln=[]
 ht:g.ht=true
 en:g.en=[]
 gw:g.gw=[]
 tl:lS g L h
 mo:word g.n g.t h="more"
 ld:g.ld=[]
 lk:g.lk=[]
theorem Gd.reset{g:G}(k:Gd g)(b:Bool)(i:Int)(l:List (List Int)):Gd { g with ld:=[],ht:=b,br:=i,lk:=l }:=⟨k.w1,k.h1,k.R6,λx m=>k.row x (aaR _ (by rwa [abM] at m)),by
 rw[abM];exact(abL.mp k.nd).1,by show((0:Nat):Int)<=g.w;have:=k.w1;omega,k.kJ,(λx m=>nomatch m),k.jo,k.gl⟩
noncomputable def sp(g:G):G:={ g with ld:=[],ht:=true,br:=g.br+1,lk:=[] }
theorem Ay{L:List Int}{g:G}(P:Ph k L h g):B_ (gD g) []=some (.aC,gD (sp g))/\Sp k L h (sp g):=by
 have e:ic (zx g)=sp g:=by unfold ic;rw[N4 rfl];rfl
 exact⟨adL ((Nr (P.gd.reset true (g.br+1) g.lk) rfl).trans (congrArg (λx=>some (D.aC,gD x)) e)),P.gd.reset true (g.br+1) [],P.rl,P.gl,P.nt,P.ln,rfl,P.en,P.gw,P.tl,P.mo,rfl,rfl⟩
theorem P8{g:G}(k:Gd g)(h:g.R.length < 59):Gd (iM g r):=⟨k.w1,k.h1,by show(g.R++[r]).length < 60;rw[abe];show g.R.length + 1 < 60;omega,λx m=>by
 have:=k.row x m;refine⟨this.1,?_⟩;show x<=((g.R++[r]).length:Nat);rw[abe];omega,k.nd,k.kM,k.kJ,k.l8,k.jo,k.gl⟩
theorem VJ{L:List Int}{g:G}(S:Sp k L h g)(hk:k<=30):(∃d,yc (gD g) [.int 0,.lst [],.lst []]=some (d,gD (iM g 0)))/\Sp (k+1) L h (iM g 0):=by
 have kd:=P8 (r:=0) S.gd (by have:=S.rl;omega);have e:ic (iM g 0)=iM g 0:=by unfold ic;rw[N4 (g:=iM g 0) S.ld,<- S.lk];rfl
 refine⟨⟨_,MP (.inl rfl) S.gd.R6 (by rw[Nr kd S.ht,e])⟩,kd,?_,by have:=S.gl;show g.gr.length<=k+1;omega,S.nt,S.ln,S.ht,S.en,S.gw,S.tl,S.mo,S.ld,S.lk⟩;show(g.R++[0]).length<=13+(k+1);rw[abe];have:=S.rl;show g.R.length+1<=_;omega
def ag(w h:Int)(R:List Int)(gr:List (Key×D)):List (List Int):=
 let F:=jr R w.toNat [] ((bG 1 R.length).filter λx=>!(bI gr (Sum.inl x:Key)).isSome)
 (W F.length none [] h).map λp=>F.take p.toNat
def gone(g:G):G:=ic (fill { g with ht:=false })
theorem vt{L:List Int}{g:G}(S:Sp k L h g):G6 (gD g) []=some (.aC,gD (gone g))/\Ph k L h (gone g)/\(gone g).lk=ag g.w g.h g.R g.gr:=by
 have kd:Gd { g with ht:=false }:=⟨S.gd.w1,S.gd.h1,S.gd.R6,S.gd.row,S.gd.nd,S.gd.kM,S.gd.kJ,S.gd.l8,S.gd.jo,S.gd.gl⟩
 have c:calm { g with ht:=false }:=vN (h:=h) S.tl (by show bw (word g.n g.t h)=false;rw[S.mo];rfl);obtain⟨ex,h1,k1,_,_⟩:=sN kd;have ew:wl { g with ht:=false }=(bG 1 g.R.length).filter λx=>!(bI g.gr (Sum.inl x:Key)).isSome:=by
  unfold wl;refine List.filter_congr λx _=>?_
  show(!decide (x∈g.ln)&&(!decide (x∈g.ld)&&!qf g x))=_;rw[S.ln,S.ld];simp[qf]
 have ef:(fill { g with ht:=false }).ld=jr g.R g.w.toNat [] ((bG 1 g.R.length).filter λx=>!(bI g.gr (Sum.inl x:Key)).isSome):=by
  show jr g.R (g.w-g.ld.length).toNat g.ld (wl { g with ht:=false })=_;rw[ew,S.ld];show jr g.R (g.w-((0:Nat):Int)).toNat [] _=_;rw[show g.w-((0:Nat):Int)=g.w by omega]
 have el:nX (fill { g with ht:=false })=ag g.w g.h g.R g.gr:=by
  unfold nX uN kO;have ek:jB (fill { g with ht:=false })=[]:=List.filter_eq_nil_iff.mpr λx _=>by
   show ¬(decide (_∈g.lk)&&_)=true;rw[S.lk];simp
  rw[c.fill.bad,ek];unfold ag b7;rw[ef,show(fill { g with ht:=false }).ln=[] from S.ln];simp only[aei];rfl
 refine⟨Uj (vo kd c rfl),⟨⟨k1.w1,k1.h1,k1.R6,k1.row,k1.nd,k1.kM,k1.kJ,k1.l8,k1.jo,k1.gl⟩,S.rl,S.gl,S.nt,S.ln,rfl,S.en,S.gw,S.tl,S.mo,λl m=>?_⟩,el⟩;obtain⟨q,q1,q2,_,e⟩:=pC m;refine⟨q,q1,q2,?_⟩;rw[e];unfold b7;rw[show(fill { g with ht:=false }).ln=[] from S.ln,aei];rfl
theorem Ro{es:List (Key×D)}(h:j≠k):bI (putD es k d) j=bI es j:=by
 unfold bI putD
 congr 1
 split
 .rename_i hh;clear hh
  induction es with
  |nil=>rfl
  |cons a r ih=>
   rw[aaF]
   by_cases z:a.1=k
   .rw[if_pos z];have:¬a.1=j:=λe=>h (e.symm.trans z)
    rw[ad9 (by simpa using this),ad9 (by simpa using this)];exact ih
   .rw[abf z]
    by_cases y:a.1=j
    .rw[aeR (by simpa using y),aeR (by simpa using y)]
    .rw[ad9 (by simpa using y),ad9 (by simpa using y)];exact ih
 .rw[List.find?_append,ad9 (by simpa using λe:k=j=>h e.symm)];simp
theorem W_{k:Nat}{L:List Int}{h:List Str}{g:G}(P:Ph k L h g)(hk:k<=30)(hL:L∈g.lk)(hl:L.length<g.ld.length):∃r x g',g.ld=r++[x]/\NT (gD g) [.int x]=some (.aC,gD g')/\Ph (k+1) L h g'/\L∈g'.lk/\g'.n=g.n/\g'.t=g.t:=by
 obtain⟨r,x,ex⟩:∃r x,g.ld=r++[x]:=⟨_,_,(List.dropLast_concat_getLast (λe=>by rw[e] at hl;simp at hl)).symm⟩
 obtain⟨p,p1,p2,eL⟩:=P.lk L hL;have uy:L.length=p:=by rw[eL,adf];omega
 have lr:g.ld.length=r.length+1:=by rw[ex,abe];rfl
 have V6:L=r.take p:=by rw[eL,ex,aeQ (by omega)]
 have k0:=P.gd;have sub:∀y∈r,y∈g.ld:=λy m=>by rw[ex];exact aaR _ m
 have Ov:=(abL.mp k0.nd).2.1;have xr:x∉r:=λm=>by rw[ex] at Ov;exact(abL.mp Ov).2.2 x m x aax rfl
 have kd:Gd (lH g r x):=by
  refine⟨k0.w1,k0.h1,k0.R6,λy m=>k0.row y ((abb.mp m).elim (aaR _) λm=>aaE _ (sub y m)),?_,?_,k0.kJ,λy m=>?_,N7 k0.jo rfl,?_⟩
  .show(g.ln++r).Nodup;have:=k0.nd;rw[ex,<- List.append_assoc] at this;exact(abL.mp this).1
  .show((r.length:Nat):Int)<=g.w;have:=k0.kM;omega
  .have m:=m;show(bI (putD g.gr (Sum.inl x) _) (Sum.inl y)).isSome=false;rw[Ro (λe=>by injection e with e;rw[e] at m;exact xr m)];exact k0.l8 y (sub y m)
  .show(putD g.gr (Sum.inl x) _).length<=60;have:=BK (es:=g.gr) (k:=(Sum.inl x:Key)) (d:=.tup [.str "withdrawn"]);have:=P.gl;omega
 have tl:lS (lH g r x) L h:=P.tl;have c:=vN tl (by show bw (word g.n g.t h)=false;rw[P.mo];rfl);obtain⟨A2,h1,k1,_,_⟩:=sN kd;have h1:(fill (lH g r x)).ld=r++A2:=h1;have lp:∀q:Nat,b7 (fill (lH g r x)) q=(r++A2).take q:=λq=>by
  unfold b7;rw[h1,show(fill (lH g r x)).ln=[] from P.ln,aei]
 have ep:b7 (fill (lH g r x)) p=L:=by rw[lp,aeQ (by omega),V6]
 refine⟨r,x,ic (fill (lH g r x)),ex,UH k0 ex (vo kd c P.ht),⟨⟨k1.w1,k1.h1,k1.R6,k1.row,k1.nd,k1.kM,k1.kJ,k1.l8,k1.jo,k1.gl⟩,by have:=P.rl;show g.R.length<=_;omega,?_,P.nt,P.ln,P.ht,P.en,P.gw,P.tl,P.mo,λl m=>?_⟩,?_⟩
 .show(putD g.gr (Sum.inl x) _).length<=k+1;have:=BK (es:=g.gr) (k:=(Sum.inl x:Key)) (d:=.tup [.str "withdrawn"]);have:=P.gl;omega
 .obtain⟨q,q1,q2,_,e⟩:=pC m;exact⟨q,q1,q2,by rw[e,lp];show _=(fill _).ld.take q;rw[h1]⟩
 .have:=LW c.fill.bad p1 (by rw[h1,abe];omega) (by rw[ep];exact hL) (by
   rw[ep];show wd (lH g r x) L=_;rcases xY tl L with e|⟨e,_⟩
   .exact e
   .rw[e];exact P.mo)
  rw[ep] at this;exact⟨this,rfl,rfl⟩
def o8(G:List D->Option D):List D->Option D:=bV 2 2 (tU G)
section
variable{H:List D->Option D}
theorem Ja(u:Str):o8 H [.str u,.str u]=some (.bl true):=by
 have:o8 H [.str u,.str u]=some (.bl (u==u)):=rfl;rw[this,adH]
theorem R1(a:Int):o8 H [.int a,.int a]=some (.bl true):=by
 have:o8 H [.int a,.int a]=some (.bl (a==a)):=rfl;rw[this,adH]
theorem ab5(h1:0<=x)(h2:x<ds.length):∃d∈ds,cP ds x=some d:=by
 refine⟨ds[x.toNat]'(by omega),List.getElem_mem _,?_⟩;unfold cP iw;rw[if_pos h1,if_pos h2,ach,aa0 (by omega)]
theorem IX{w:List D->D}{ds:List D}(hlen:cX (w ds)=some (.int ds.length))(hix:∀x d,cP ds x=some d->aG d=true->cZ (w ds) (.int x)=some d)(hi:aP ds=true)(hl:ds.length<=900)(h:∀d∈ds,H [d,d]=some (.bl true)):
  e1 oS (gI [none,some 0,some 1] (lB (e1 cX (ah 1))) (gN 0) mw (cM H (aq (e2 cZ (ah 1) (ah 0)) (aq (e2 cZ (ah 2) (ah 0)) aA)))) [some (w ds,.sh []),some (w ds,.sh [])]=some (.bl true,.own):=by
 have hc:=adK (js:=[none,some 0,some 1]) (g:=gN 0) (te:=cM H (aq (e2 cZ (ah 1) (ah 0)) (aq (e2 cZ (ah 2) (ah 0)) aA))) (ρ:=[some (w ds,.sh []),some (w ds,.sh [])]) (Gb (e:=e1 cX (ah 1)) (dF (d:=w ds) rfl hlen) (by omega)) (by unfold bG;rw[aaf,acP];omega) (λx mx=>by
  have hx:=rG.mp mx;obtain⟨d,md,hd⟩:=ab5 (ds:=ds) hx.1 (by omega);have o:=hix x d hd (JE.mp hi d md);have e:∀i,ah i [some (.int x,.sh []),some (w ds,.sh []),some (w ds,.sh [])]=some (w ds,.sh [])->e2 cZ (ah i) (ah 0) [some (.int x,.sh []),some (w ds,.sh []),some (w ds,.sh [])]=some (d,.own):=λi hv=>bX hv (d2:=.int x) (t2:=.sh []) rfl o
  exact C6 (aJ:=[some (.int x,.sh []),some (w ds,.sh []),some (w ds,.sh [])]) rfl rfl (fJ (ps:=[(d,.own),(d,.own)]) (by rw[cJ,cJ,e 1 rfl,e 2 rfl];rfl) (h d md)))
 rw[hc,acA.mpr λ_ _=>rfl]
theorem Mt{w:List D->D}(hlen:cX (w ds)=some (.int ds.length)):tV (e2 jH (e1 cX (ah 0)) (e1 cX (ah 1))) [some (w ds,.sh []),some (w ds,.sh [])]=some false:=cT (bX (dF (d:=w ds) rfl hlen) (dF (d:=w ds) rfl hlen) (by rw[aaK,adH];rfl))
theorem MB{ds:List D}(hi:aP ds=true)(hl:ds.length<=900)(h:∀d∈ds,H [d,d]=some (.bl true)):o8 H [.tup ds,.tup ds]=some (.bl true):=
 dh rfl (qj rfl (kZ (cG ((wu (by rfl)).trans (Mt rfl)) (eY (IX rfl (λx d h1 h2=>R3 h1 h2) hi hl h)))))
theorem KW{ds:List D}(hi:aP ds=true)(hl:ds.length<=900)(h:∀d∈ds,H [d,d]=some (.bl true)):o8 H [.lst ds,.lst ds]=some (.bl true):=
 dh rfl (cG rfl (qj rfl (kZ (cG ((wu (by rfl)).trans (Mt rfl)) (eY (IX rfl (λx d h1 h2=>xB h1 h2) hi hl h))))))
end
theorem aaC(u:Str):j_ [.str u,.str u]=some (.bl true):=Ja u
theorem HN{H:List D->Option D}(l:List Int)(hl:l.length<=900):o8 (o8 H) [tD l,tD l]=some (.bl true):=MB (fH l) (by rw[aaf];exact hl) λd m=>by
 obtain⟨x,_,rfl⟩:=acs.mp m;exact R1 x
theorem Td(l:List Int)(hl:l.length<=900):j_ [tD l,tD l]=some (.bl true):=HN l hl
theorem qR(l:List Int):aG (tD l)=true:=fH l
theorem abE(l:List Int)(u:Str)(hl:l.length<=900):j_ [.lst [.tup [tD l,.str u]],.lst [.tup [tD l,.str u]]]=some (.bl true):=
 KW (by simp only[aG,aP,qR,aeq]) (by simp) λd m=>by
  cases aaH.mp m;refine MB (by simp only[aG,aP,qR,aeq]) (by simp) λd m=>?_
  simp only[aaM,acy,aeC] at m;rcases m with rfl|rfl
  .exact HN l hl
  .exact Ja u
theorem same_0:j_ [.lst [],.lst []]=some (.bl true):=KW rfl (by simp) λd m=>nomatch m
noncomputable def c3(a b c:Int):D:=.lst [.int a,.int b,.int c]
def cD(h:List Str):D:=c3 (bY "yes" h) (bY "no" h) (bY "unsure" h)
noncomputable def A5(a b c n t:Int):Str:=if(a==n)=true then "yes" else if(b==n)=true then "no" else if(a+(b+(c+0))==t)=true then "unsure" else "more"
abbrev XH:SF:=(aS (cH (tV (e2 oEq (e2 cZ (ah 0) (eC (.int 0))) (ah 2))) (k_ (eC (.str "yes"))) cz) (aS (cH (tV (e2 oEq (e2 cZ (ah 0) (eC (.int 1))) (ah 2))) (k_ (eC (.str "no"))) cz) (aS (cH (tV (e2 oEq (e1 yL (ah 0)) (ah 3))) (k_ (eC (.str "unsure"))) cz) (k_ (eC (.str "more"))))))
theorem TL(h:∀x∈[a,b,c],0<=x/\x<=100):XH [some (c3 a b c,.own),s1,some (.int n,.sh []),some (.int t,.sh []),s4]=some (.rt (.tup [.str (A5 a b c n t),c3 a b c])):=by
 have t1:tV (e2 oEq (e2 cZ (ah 0) (eC (.int 0))) (ah 2)) [some (c3 a b c,.own),s1,some (.int n,.sh []),some (.int t,.sh []),s4]=some (a == n):=rfl;have t2:tV (e2 oEq (e2 cZ (ah 0) (eC (.int 1))) (ah 2)) [some (c3 a b c,.own),s1,some (.int n,.sh []),some (.int t,.sh []),s4]=some (b == n):=rfl;have t3:tV (e2 oEq (e1 yL (ah 0)) (ah 3)) [some (c3 a b c,.own),s1,some (.int n,.sh []),some (.int t,.sh []),s4]=some (a + (b + (c + 0)) == t):=cT (bX (dF (d:=c3 a b c) rfl (by
  show(if[a,b,c].length<=1000/\∀n∈[a,b,c],-1000<=n/\n<=1000 then some (D.int [a,b,c].sum) else none)=_;rw[if_pos ⟨by simp,λx m=>by have:=h x m;omega⟩])) rfl rfl)
 unfold A5;cases e1:(a==n) with
 |true=>rw[e1] at t1;exact qj t1 (kZ rfl)
 |false=>
  rw[e1] at t1;refine cG t1 ?_;rw[abf aaN];cases e2:(b==n) with
  |true=>rw[e2] at t2;exact qj t2 (kZ rfl)
  |false=>
   rw[e2] at t2;refine cG t2 ?_;rw[abf aaN];cases e3:(a+(b+(c+0))==t) with
   |true=>rw[e3] at t3;exact qj t3 (kZ rfl)
   |false=>rw[e3] at t3;exact cG t3 rfl
noncomputable def kC:List Str:=["yes","no","unsure"]
theorem IJ:∀{h:List Str},(∀x∈h,x∈kC)->bY "yes" h+bY "no" h+bY "unsure" h=h.length
 |[],_=>rfl
 |x::h,hh=>by
  have ih:=IJ λy m=>hh y (aal _ m)
  have e:∀w:Str,bY w (x::h)=bY w h+(if(x==w)=true then 1 else 0):=λw=>by unfold bY;rw[List.countP_cons]
  rw[e,e,e,abj];have hx:=hh x aax;unfold kC at hx;simp only[aaM,acy,aeC] at hx;rcases hx with rfl|rfl|rfl
  .rw[if_pos (by decide +kernel),abf (by decide +kernel),abf (by decide +kernel)];omega
  .rw[abf (by decide +kernel),if_pos (by decide +kernel),abf (by decide +kernel)];omega
  .rw[abf (by decide +kernel),abf (by decide +kernel),if_pos (by decide +kernel)];omega
theorem abh(hm:word n t h="more")(hh:∀x∈h++[w],x∈kC):A5 (bY "yes" (h++[w])) (bY "no" (h++[w])) (bY "unsure" (h++[w])) n t=word n t (h++[w]):=by
 obtain⟨h1,h2,h3⟩:=BR hm;have s:=IJ hh;have l:(h++[w]).length=h.length+1:=by rw[abe];rfl
 have a1:=wW (h:=h) (w:="yes") (v:=w);have a2:=wW (h:=h) (w:="no") (v:=w);have b1:bY "yes" (h++[w])<=bY "yes" h+1:=by rw[a1];split<;>omega
 have b2:bY "no" (h++[w])<=bY "no" h+1:=by rw[a2];split<;>omega
 unfold A5 word;have e1:(((bY "yes" (h++[w]):Nat):Int)==n)=decide ((bY "yes" (h++[w]):Int) >= n):=by
  rw[aeL,aed,decide_eq_true_iff];omega
 have e2:(((bY "no" (h++[w]):Nat):Int)==n)=decide ((bY "no" (h++[w]):Int) >= n):=by
  rw[aeL,aed,decide_eq_true_iff];omega
 have e3:(((bY "yes" (h++[w]):Nat):Int)+(((bY "no" (h++[w]):Nat):Int)+(((bY "unsure" (h++[w]):Nat):Int)+0))==t)=decide (((h++[w]).length:Int) >= t):=by
  rw[aeL,aed,decide_eq_true_iff];omega
 rw[e1,e2,e3];simp only[decide_eq_true_eq]
theorem Q5(hw:w∈kC)(hm:word n t h="more")(hh:∀x∈h,x∈kC)(hl:h.length<=90):v7 (cD h) [.str w,.int n,.int t]=some (.str (word n t (h++[w])),cD (h++[w])):=by
 have K7:∀x∈h++[w],x∈kC:=λx m=>(abb.mp m).elim (hh x) λm=>by cases aaH.mp m;exact hw
 have l:(h++[w]).length=h.length+1:=by rw[abe];rfl
 have le:∀v,bY v (h++[w])<=(h++[w]).length:=λv=>aaJ
 have l1:=le "yes";have l2:=le "no";have l3:=le "unsure";rw[<- abh hm K7];have tail:=TL (a:=bY "yes" (h++[w])) (b:=bY "no" (h++[w])) (c:=bY "unsure" (h++[w])) (n:=n) (t:=t) (s1:=some (.str w,.sh [])) (s4:=some (.int (if(w == "yes")=true then 0 else if(w == "no")=true then 1 else 2),.own)) (λx m=>by
  simp only[aaM,acy,aeC] at m;rcases m with rfl|rfl|rfl<;>omega)
 refine gK rfl (sq (ρ':=[some (cD h,.own),some (.str w,.sh []),some (.int n,.sh []),some (.int t,.sh []),some (.int (if(w == "yes")=true then 0 else if(w == "no")=true then 1 else 2),.own)]) ?_ (sq (ρ':=[some (cD (h++[w]),.own),some (.str w,.sh []),some (.int n,.sh []),some (.int t,.sh []),some (.int (if(w == "yes")=true then 0 else if(w == "no")=true then 1 else 2),.own)]) ?_ tail))
 .unfold kC at hw;simp only[aaM,acy,aeC] at hw;rcases hw with rfl|rfl|rfl<;>rfl
 .unfold cD;rw[wW,wW,wW];unfold kC at hw;simp only[aaM,acy,aeC] at hw;rcases hw with rfl|rfl|rfl
  .rw[if_pos (show((("yes":Str) == "yes"))=true by decide +kernel),abf (show ¬(("yes":Str) == "no")=true by decide +kernel),abf (show ¬(("yes":Str) == "unsure")=true by decide +kernel)];rfl
  .rw[abf (show ¬((("no":Str) == "yes"))=true by decide +kernel),if_pos (show(("no":Str) == "no")=true by decide +kernel),abf (show ¬(("no":Str) == "unsure")=true by decide +kernel)];rfl
  .rw[abf (show ¬((("unsure":Str) == "yes"))=true by decide +kernel),abf (show ¬(("unsure":Str) == "no")=true by decide +kernel),if_pos (show(("unsure":Str) == "unsure")=true by decide +kernel)];rfl
theorem YE{g:G}{L:List Int}(h:g.lk=[]):KH [gD g,tD L]=some (.bl true):=by
 have hr:zO [gD g,tD L,.str "yes"]=some (.er ("NoLook",none)):=by
  have hb:Bu (pQ 5 [gD g,tD L,.str "yes"])=some (.er true ("NoLook",none) (pQ 5 [gD g,tD L,.str "yes"])):=R5 (kT (cT (bX (d1:=tD L) rfl (fl rfl) ((uJ true L g.lk).trans (by rw[h];rfl)))) rfl);show(if[gD g,tD L,D.str "yes"].length=3 then(match Bu (pQ 5 [gD g,tD L,.str "yes"]) with|some (.rt d)=>some (Rz.ok d)|some (.nx _)=>some (.ok .aC)|some (.er _ cn _)=>some (.er cn)|_=>none) else none)=_;rw[if_pos (show[gD g,tD L,D.str "yes"].length=3 from rfl),hb]
 have hm:AW (Ad "Gate" "answer" zO (ah 0) (aq (ah 1) (aq (eC (.str "yes")) aA))) [some (gD g,.sh []),some (tD L,.sh []),some (.tup [],.own),none,none]=some (.er false ("NoLook",none) [some (gD g,.sh []),some (tD L,.sh []),some (.tup [],.own),none,none]):=by
  have:Ad "Gate" "answer" zO (ah 0) (aq (ah 1) (aq (eC (.str "yes")) aA)) [some (gD g,.sh []),some (tD L,.sh []),some (.tup [],.own),none,none]=some (.er ("NoLook",none) [some (gD g,.sh []),some (tD L,.sh []),some (.tup [],.own),none,none]):=by
   show(if("Gate":Str)="Gate"/\(gF g).lookup ("answer":Str)=none then(match zO [gD g,tD L,.str "yes"] with|some (.ok d)=>some _|some (.er en)=>some _|none=>none) else none)=_;rw[if_pos ⟨rfl,rfl⟩,hr]
  unfold AW;rw[this]
 refine dh rfl (sq (ρ':=[some (gD g,.sh []),some (tD L,.sh []),some (.tup [],.own),none,none]) rfl (sq (ρ':=[some (gD g,.sh []),some (tD L,.sh []),some (.tup [.bl true,.bl true,.bl false],.sh [4]),none,some (.bl false,.own)]) ?_ (eY (bX (d1:=.tup [.bl true,.bl true,.bl false]) rfl rfl (by kernel_rfl)))));unfold F6;rw[hm];rfl
theorem Ll:∀L:List (List Int),aP (c8 L)=true
 |[]=>rfl
 |a::L=>by
  show(aG (.tup (a.map D.int))&&aP (c8 L))=true;rw[Ll L,show aG (.tup (a.map D.int))=true from fH a];rfl
theorem vm{g:G}:jL [gD g]=some (.lst (c8 g.lk)):=dh rfl (eY (dF (fl (g:=g) rfl) (by
 show(if aP (c8 g.lk)=true then some (D.lst (c8 g.lk)) else none)=_;rw[if_pos (Ll _)])))
theorem Bw{g:G}:yQ [gD g]=some (iL g.ld):=dh rfl (eY (dF (fl (g:=g) rfl) xW))
theorem JK{g:G}(h:aP g.en=true):Ac [gD g]=some (.lst g.en):=dh rfl (eY (dF (fl (g:=g) rfl) (by
 show(if aP g.en=true then some (D.lst g.en) else none)=_;rw[if_pos h])))
section
variable{g g':G}{ρ:aE}{d r d0:D}{t:Tag}{m:Str}{f f2:EF}{F:MF}{ga:AF}{ps:List (D×Tag)}
theorem NG(h0:ρ[i]? = some (some (gD g,.own)))(hg:ga ρ=some ps)(ha:apart i ps=true)(h:F (gD g) (ps.map (·.1))=some (r,gD g'))(hm:(gF g).lookup m=none:=by rfl):xO i "Gate" m F ga ρ=some (r,bJ ρ i (gD g')):=by
 unfold xO;rw[h0,hg];show(if("Gate":Str)="Gate"/\(gF g).lookup m=none/\apart i ps=true then(F (gD g) (ps.map (·.1))).map _ else none)=_;rw[if_pos ⟨rfl,hm,ha⟩,h];rfl
theorem vM(h0:ρ[i]? = some (some (gD g,.own)))(hg:ga ρ=some ps)(ha:apart i ps=true)(h:F (gD g) (ps.map (·.1))=some (r,gD g'))(hm:(gF g).lookup m=none:=by rfl):sZ (xO i "Gate" m F ga) ρ=some (.nx (bJ ρ i (gD g'))):=by
 unfold sZ;rw[NG h0 hg ha h hm];rfl
theorem ug(h:f ρ=some (r,t))(h0:ρ[0]? = some (some (d0,.own)))(hi:aG r=true):k_ f ρ=some (.rt (.tup [r,d0])):=by
 unfold k_;rw[h,h0];dsimp only;rw[if_pos hi]
theorem yN(h:f ρ=some (.bl true,t)):oX f f2 ρ=some (.bl true,.own):=by unfold oX;rw[h]
theorem oN(h:f ρ=some (.bl false,t)):oX f f2 ρ=f2 ρ:=by unfold oX;rw[h]
end
theorem Ph.mono{L:List Int}{g:G}(P:Ph k L h g):Ph (k+1) L h g:=⟨P.gd,by have:=P.rl;omega,by have:=P.gl;omega,P.nt,P.ln,P.ht,P.en,P.gw,P.tl,P.mo,P.lk⟩
def rB(g:G)(y:Int)(L:List Int):aE:=[some (gD g,.own),some (.int y,.sh []),some (tD L,.sh [])]
theorem Gn{g:G}{L:List Int}(h1:g.lk=[])(h2:g.ld=[]):nJ (tV (e2 mL (bu "Gate" "wanted" jL (ah 0) aA) (d_ aA))) (nJ (tV (e2 mL (bu "Gate" "laid" yQ (ah 0) aA) (d_ aA))) (iN (tV (cM KH (aq (ah 0) (aq (ah 2) aA)))))) (rB g y L)=some false:=by
 have e0:mL (.lst []) (.lst [])=some (.bl false):=by kernel_rfl
 refine(wu (cT (bX (gX rfl vm) rfl (by rw[h1];exact e0)))).trans ((wu (cT (bX (gX rfl Bw) rfl (by rw[h2];exact e0)))).trans ?_);exact kN (cT (fJ (ps:=[(gD g,.sh [0]),(tD L,.sh [])]) rfl (YE h1)))
theorem Cv{g:G}{L:List Int}(h:L∈g.lk):e2 (gV false) (ah 2) (bu "Gate" "wanted" jL (ah 0) aA) (rB g y L)=some (.bl true,.own):=
 bX (d1:=tD L) rfl (gX rfl vm) ((uJ false L g.lk).trans (by rw[aa1 h];rfl))
theorem acG{k:Nat}{L:List Int}{h:List Str}{g:G}{y:Int}(P:Ph k L h g)(hk:k<=25)(hL:L∈g.lk)(hy:0<=y/\y<4):∃g',wC (gD g) [.int y,tD L]=some (.bl true,gD g')/\Ph (k+1) L h g'/\(y<2->L∈ag g.w g.h g.R g.gr->L∈g'.lk/\L∈ag g'.w g'.h g'.R g'.gr)/\g'.n=g.n/\g'.t=g.t:=by
 obtain⟨p,p1,p2,eL⟩:=P.lk L hL;have uy:L.length=p:=by rw[eL,adf];omega
 have y4:y=0\/y=1\/y=2\/y=3:=by omega
 rcases y4 with rfl|rfl|rfl|rfl
 .exact⟨g,gK rfl (cG rfl (cG rfl (ug ((oN rfl).trans ((oN rfl).trans (Cv hL))) rfl rfl))),P.mono,λ_ a=>⟨hL,a⟩,rfl,rfl⟩
 .obtain⟨s1,S⟩:=Ay P;obtain⟨s2,P2,e2⟩:=vt S;refine⟨gone (sp g),gK rfl ?_,P2.mono,λ_ a=>⟨by rw[e2];exact a,a⟩,rfl,rfl⟩;exact sq (ρ':=rB (gone (sp g)) 1 L) (kT rfl (sq (ρ':=rB (sp g) 1 L) (lZ rfl s1) (cG (Gn S.lk S.ld) (cG rfl (lZ rfl s2))))) (cG rfl (ug (yN rfl) rfl rfl))
 .obtain⟨s1,S⟩:=Ay P;have lt:(e2 oLt (e1 cX (ah 2)) (eC (.int 16))) (rB (sp g) 2 L)=some (.bl (decide ((L.length:Int)<16)),.own):=bX (dF (d:=tD L) rfl (by show some (D.int (L.map D.int).length)=_;rw[aaf])) rfl rfl
  by_cases K6:(L.length:Int)<16
  .rw[aa1 K6] at lt;obtain⟨⟨d,s3⟩,S3⟩:=VJ S (by omega);obtain⟨s2,P2,_⟩:=vt S3;refine⟨gone (iM (sp g) 0),gK rfl ?_,P2,λz=>absurd z (by omega),rfl,rfl⟩;exact sq (ρ':=rB (gone (iM (sp g) 0)) 2 L) (kT rfl (sq (ρ':=rB (sp g) 2 L) (lZ rfl s1) (cG (Gn S.lk S.ld) (sq (ρ':=rB (iM (sp g) 0) 2 L) (kT ((oE rfl).trans (cT lt)) (iK (vM rfl rfl rfl s3))) (lZ rfl s2))))) (cG rfl (ug (ρ:=rB (gone (iM (sp g) 0)) 2 L) ((oN rfl).trans (yN rfl)) rfl rfl))
  .rw[abo K6] at lt;obtain⟨s2,P2,_⟩:=vt S;refine⟨gone (sp g),gK rfl ?_,P2.mono,λz=>absurd z (by omega),rfl,rfl⟩;exact sq (ρ':=rB (gone (sp g)) 2 L) (kT rfl (sq (ρ':=rB (sp g) 2 L) (lZ rfl s1) (cG (Gn S.lk S.ld) (cG ((oE rfl).trans (cT lt)) (lZ (ρ:=rB (sp g) 2 L) rfl s2))))) (cG rfl (ug ((oN rfl).trans (yN rfl)) rfl rfl))
 .have gt:tV (e2 wz (e1 cX (bu "Gate" "laid" yQ (ah 0) aA)) (e1 cX (ah 2))) (rB g 3 L)=some (decide ((L.length:Int)<g.ld.length)):=cT (bX (dF (gX rfl Bw) (by show some (D.int (g.ld.map D.int).length)=_;rw[aaf])) (dF (d:=tD L) rfl (by show some (D.int (L.map D.int).length)=_;rw[aaf])) rfl)
  by_cases hl:(L.length:Int)<g.ld.length
  .rw[aa1 hl] at gt;obtain⟨r,x,g',ex,s1,P2,hL2,en,et⟩:=W_ P (by omega) hL (by omega);have la:e2 cZ (bu "Gate" "laid" yQ (ah 0) aA) (e1 xX (eC (.int 1))) (rB g 3 L)=some (.int x,.own):=bX (d2:=.int (-1)) (gX (g:=g) rfl Bw) rfl (xB (by
    unfold cP iw;rw[ex,aaf,abe,aee,abf (by omega),if_pos (by omega),ach,show(-1+((r.length+1:Nat):Int)).toNat=r.length by omega,abW];simp) rfl)
   refine⟨g',gK rfl (cG rfl (sq (ρ':=rB g' 3 L) (kT ((oE rfl).trans gt) (iK (vM (ρ:=rB g 3 L) (ps:=[(.int x,.own)]) (g:=g) rfl (by rw[cJ,la];rfl) rfl s1))) (ug (ρ:=rB g' 3 L) ((oN rfl).trans ((oN rfl).trans (Cv hL2))) rfl rfl))),P2,λz=>absurd z (by omega),en,et⟩
  .rw[abo hl] at gt;exact⟨g,gK rfl (cG rfl (cG ((oE rfl).trans gt) (ug (ρ:=rB g 3 L) ((oN rfl).trans ((oN rfl).trans (Cv hL))) rfl rfl))),P.mono,λz=>absurd z (by omega),rfl,rfl⟩
theorem Mx{ga:gq}{s:D×Tag}(h0:ρ[i]? = some (some s))(h:aJ[i]? = some (some (iL l,.own)))(hm:0<m)(hg:ga ρ=some ([.int m],aJ)):∃v l',xM i gj ga ρ=some (.int v,bJ aJ i (iL l'))/\0<=v/\v<m:=by
 have e:∀w:D×List Int,gj l [.int m]=some w->xM i gj ga ρ=some (w.1,bJ aJ i (iL w.2)):=λw hw=>by
  unfold xM;rw[h0,hg];dsimp only;rw[h];show(match dB (l.map D.int) with|some ns=>(gj ns [.int m]).map λ(w:D×List Int)=>(w.1,bJ aJ i (.lst (w.2.map D.int)))|none=>none)=_;rw[uc];dsimp only;rw[hw];rfl
 by_cases hl:l=[]
 .exact⟨0,[],e (.int 0,[]) (by show(if l=[] then some (D.int 0,[]) else _)=_;rw[if_pos hl]),Int.le_refl _,hm⟩
 .exact⟨l.getLastD 0 % m,l.dropLast,e (.int (l.getLastD 0 % m),l.dropLast) (by show(if l=[] then _ else if 0<m then some (D.int (l.getLastD 0 % m),l.dropLast) else none)=_;rw[abf hl,if_pos hm]),Int.emod_nonneg _ (by omega),Int.emod_lt_of_pos _ hm⟩
theorem o7{ga:gq}(h:ρ[i]? = some (some (iL l,.own)))(hm:0<m)(hg:ga ρ=some ([.int m],ρ)):∃v l',xM i gj ga ρ=some (.int v,bJ ρ i (iL l'))/\0<=v/\v<m:=Mx h h hm hg
section
variable(n t:Int)(L:List Int)
def rA(l:List Int)(g:G)(h:List Str)(st:Bool)(u:Str)(s8 s9 bP bA:Slot):aE:=[some (iL l,.own),some (gD g,.own),some (tD L,.sh []),some (.int n,.sh []),some (.int t,.sh []),some (cD h,.own),some (.bl st,.own),some (.str u,.own),s8,s9,bP,bA]
end
def Fx(s:Slot):Prop:=∀i,fV i s=s
theorem Fx.none:Fx none:=λ_=>rfl
theorem Fx.own:Fx (some (d,.own)):=λ_=>rfl
theorem Fx.sh:Fx (some (d,.sh [])):=λ_=>rfl
section
variable{n t:Int}{L:List Int}{l l':List Int}{g g':G}{h h':List Str}{st:Bool}{u:Str}{s8 s9 bP bA:Slot}
theorem Mu(h8:Fx s8)(h9:Fx s9)(i8:Fx bP)(iH:Fx bA):bJ (rA n t L l g h st u s8 s9 bP bA) 0 (iL l')=rA n t L l' g h st u s8 s9 bP bA:=by
 show[some (iL l',.own),some (gD g,.own),some (tD L,.sh []),some (.int n,.sh []),some (.int t,.sh []),some (cD h,.own),some (.bl st,.own),some (.str u,.own),fV 0 s8,fV 0 s9,fV 0 bP,fV 0 bA]=_;rw[h8,h9,i8,iH];rfl
theorem IE(h8:Fx s8)(h9:Fx s9)(i8:Fx bP)(iH:Fx bA):bJ (rA n t L l g h st u s8 s9 bP bA) 1 (gD g')=rA n t L l g' h st u s8 s9 bP bA:=by
 show[some (iL l,.own),some (gD g',.own),some (tD L,.sh []),some (.int n,.sh []),some (.int t,.sh []),some (cD h,.own),some (.bl st,.own),some (.str u,.own),fV 1 s8,fV 1 s9,fV 1 bP,fV 1 bA]=_;rw[h8,h9,i8,iH];rfl
theorem Ri(h8:Fx s8)(h9:Fx s9)(i8:Fx bP)(iH:Fx bA):bJ (rA n t L l g h st u s8 s9 bP bA) 5 (cD h')=rA n t L l g h' st u s8 s9 bP bA:=by
 show[some (iL l,.own),some (gD g,.own),some (tD L,.sh []),some (.int n,.sh []),some (.int t,.sh []),some (cD h',.own),some (.bl st,.own),some (.str u,.own),fV 5 s8,fV 5 s9,fV 5 bP,fV 5 bA]=_;rw[h8,h9,i8,iH];rfl
theorem RO:e2 (gV false) (ah 2) (bu "Gate" "wanted" jL (ah 1) aA) (rA n t L l g h st u s8 s9 bP bA)=some (.bl (decide (L∈g.lk)),.own):=
 bX (d1:=tD L) rfl (gX rfl vm) (uJ false L g.lk)
theorem Jh:e2 (gV true) (ah 2) (bu "Gate" "wanted" jL (ah 1) aA) (rA n t L l g h st u s8 s9 bP bA)=some (.bl (!decide (L∈g.lk)),.own):=
 bX (d1:=tD L) rfl (gX rfl vm) (uJ true L g.lk)
abbrev EU:SF:=(aS (jW 9 (oH (bO (xP (eC (.str "yes"))) (bO (xP (eC (.str "no"))) (bO (xP (eC (.str "yes"))) (bO (xP (eC (.str "unsure"))) dG)))) (xM 0 gj (bO (xP (eC (.int 4))) dG)))) (aS (jW 7 (mT 5 v7 (aq (ah 9) (aq (ah 3) (aq (ah 4) aA))))) (aS (m6 (mV (sF j_ (bO (xO 1 "Gate" "answer" uE (aq (ah 2) (aq (ah 9) aA))) (bO (xP (ah 7)) dG)))) (dw (eC (.bl false))) cz) (aS (cj 10 (e2 pJ (d_ (aq (jq (aq (ah 2) (aq (ah 7) aA))) aA)) (e1 sC (e2 jH (ah 7) (eC (.str "more")))))) (aS (cH (iN (tV (cM j_ (aq (bu "Gate" "settled" Ac (ah 1) aA) (aq (ah 10) aA))))) (dw (eC (.bl false))) cz) (aS (jW 11 (xM 0 gj (bO (xP (eC (.int 4))) dG))) (aS (cj 6 (jM (ah 6) (e2 oLt (ah 11) (eC (.int 2))))) (m6 (mK (tV (e2 oEq (ah 7) (eC (.str "more")))) (mV (mT 1 wC (aq (ah 11) (aq (ah 2) aA))))) (dw (eC (.bl false))) cz))))))))
abbrev L5:SF:=(aS (cH (fN (tV (ah 6)) (fN (tV (e2 oEq (ah 7) (eC (.str "more")))) (tV (e2 (gV true) (ah 2) (bu "Gate" "wanted" jL (ah 1) aA))))) (dw (eC (.bl false))) cz) (cH (fN (tV (e2 oEq (ah 7) (eC (.str "more")))) (tV (e2 (gV false) (ah 2) (bu "Gate" "wanted" jL (ah 1) aA)))) EU cz))
def Jn(n t:Int)(L:List Int)(k:Nat)(g:G)(h:List Str)(st:Bool)(u:Str):Prop:=
 (u="more"/\Ph k L h g/\(st=true->L∈g.lk/\L∈ag g.w g.h g.R g.gr)/\(∀x∈h,x∈kC)/\g.n=n/\g.t=t)\/(u≠"more"/\L∉g.lk)
theorem oV(h:f ρ=some (d,ρ')):jW i f ρ=some (.nx (jf ρ' i d .own)):=by unfold jW;rw[h]
theorem Ei{c:aE->Option (Bool×aE)}(h:c ρ=some (false,ρ')):m6 c f f2 ρ=f2 ρ':=by unfold m6;rw[h]
theorem Kq(h:f ρ=some (.bl b,ρ')):mV f ρ=some (!b,ρ'):=by unfold mV;rw[h]
theorem M5{ps:List (D×Tag)}(h0:ρ[i]? = some (some (d0,.own)))(hg:ga ρ=some ps)(ha:apart i ps=true)(h:F d0 (ps.map (·.1))=some (r,d1))(hi:aG r=true):mT i F ga ρ=some (r,bJ ρ i d1):=by
 unfold mT;rw[h0,hg];dsimp only;rw[if_pos ha,h];dsimp only;rw[if_pos hi]
theorem Qu{F:List D->Option D}{ga:gq}(hg:ga ρ=some (ds,ρ'))(h:F ds=some d)(hi:aG d=true):sF F ga ρ=some (d,ρ'):=by
 unfold sF;rw[hg];dsimp only;rw[h];dsimp only;rw[if_pos hi]
theorem eq_str(h:(u==v)=e):oEq (.str u) (.str v)=some (.bl e):=by show some (D.bl (u==v))=_;rw[h]
theorem Za(P:Ph k L h g)(hk:k<=25)(hL:L∈g.lk)(hw:w∈kC):∃g',uE (gD g) [tD L,.str w]=some (.str (word g.n g.t (h++[w])),gD g')/\
  ((word g.n g.t (h++[w])="more"/\Ph k L (h++[w]) g'/\L∈g'.lk/\g'.w=g.w/\g'.h=g.h/\g'.R=g.R/\g'.gr=g.gr/\g'.n=g.n/\g'.t=g.t/\g'.en=[])\/(word g.n g.t (h++[w])≠"more"/\L∉g'.lk/\g'.en=[.tup [tD L,.str (word g.n g.t (h++[w]))]])):=by
 obtain⟨p,p1,p2,eL⟩:=P.lk L hL;have uy:L.length=p:=by rw[eL,adf];omega
 have nL:L≠[]:=λe=>by rw[e] at uy;simp at uy;omega
 have hh:=(BR P.mo).1;have base:∀{g3:G},jz (gD (jR g L h w)) []=some (.aC,gD g3)->uE (gD g) [tD L,.str w]=some (.str (word g.n g.t (h++[w])),gD g3):=λ{g3} hs=>
  ZX hL P.tl nL P.nt hw P.mo (by have:=P.nt;omega) P.en P.ln P.gw (by omega) hs
 have en:(word g.n g.t (h++[w]) == "more")=false->(dW g L h w).en=[.tup [tD L,.str (word g.n g.t (h++[w]))]]:=λe=>by
  show(if(word g.n g.t (h++[w]) == "more")=true then g.en else g.en++[.tup [tD L,.str (word g.n g.t (h++[w]))]])=_;rw[e,P.en];rfl
 have four:word g.n g.t (h++[w])="yes"\/bw (word g.n g.t (h++[w]))=true\/word g.n g.t (h++[w])="more":=by
  unfold word
  split
  .exact .inl rfl
  .split
   .exact .inr (.inl (by decide +kernel))
   .split
    .exact .inr (.inl (by decide +kernel))
    .exact .inr (.inr rfl)
 rcases four with e|e|e
 .obtain⟨g3,a,b,c⟩:=R9 P hL e;have ne:(word g.n g.t (h++[w]) == "more")=false:=by rw[e];decide +kernel
  exact⟨g3,base a,.inr ⟨by rw[e];decide +kernel,b,by rw[c];exact en ne⟩⟩
 .obtain⟨g3,a,b,c⟩:=adj P (by omega) hL e;have ne:word g.n g.t (h++[w])≠"more":=λz=>by rw[z] at e;exact absurd e (by decide +kernel)
  exact⟨g3,base a,.inr ⟨ne,b,by rw[c];exact en (ab0.mpr ne)⟩⟩
 .obtain⟨a,b,c⟩:=abN P hL e;exact⟨_,base a,.inl ⟨e,b,c,rfl,rfl,rfl,rfl,rfl,rfl,b.en⟩⟩
theorem zE(hb:(u==("more":Str))=b):tV (e2 oEq (ah 7) (eC (.str "more"))) (rA n t L l g h st u s8 s9 bP bA)=some b:=cT (bX (d1:=.str u) (d2:=.str "more") rfl rfl (eq_str hb))
theorem YZ(P:Ph k L h g)(hk:k<=25)(hL:L∈g.lk)(cN:st=true->L∈ag g.w g.h g.R g.gr)(hh:∀x∈h,x∈kC)(en:g.n=n)(et:g.t=t)(h9:Fx s9)(i8:Fx bP)(iH:Fx bA):
  ∃l' g' h' eF u' d9 JG JD,EU (rA n t L l g h st "more" (some (.int j,.sh [])) s9 bP bA)=some (.nx (rA n t L l' g' h' eF u' (some (.int j,.sh [])) (some (d9,.own)) (some (JG,.own)) (some (JD,.own))))/\Jn n t L (k+1) g' h' eF u':=by
 obtain⟨v,l1,x1,v0,v4⟩:=o7 (ρ:=rA n t L l g h st "more" (some (.int j,.sh [])) s9 bP bA) (i:=0) (l:=l) (ga:=bO (xP (eC (.int 4))) dG) rfl (by omega) rfl;rw[Mu Fx.sh h9 i8 iH] at x1;obtain⟨w,hw,ew⟩:∃w∈kC,oH (bO (xP (eC (.str "yes"))) (bO (xP (eC (.str "no"))) (bO (xP (eC (.str "yes"))) (bO (xP (eC (.str "unsure"))) dG)))) (xM 0 gj (bO (xP (eC (.int 4))) dG)) (rA n t L l g h st "more" (some (.int j,.sh [])) s9 bP bA)=some (.str w,rA n t L l1 g h st "more" (some (.int j,.sh [])) s9 bP bA):=by
  have y4:v=0\/v=1\/v=2\/v=3:=by omega
  rcases y4 with rfl|rfl|rfl|rfl
  .exact⟨"yes",by decide +kernel,tM rfl x1 rfl⟩
  .exact⟨"no",by decide +kernel,tM rfl x1 rfl⟩
  .exact⟨"yes",by decide +kernel,tM rfl x1 rfl⟩
  .exact⟨"unsure",by decide +kernel,tM (ds:=[.str "yes",.str "no",.str "yes",.str "unsure"]) rfl x1 rfl⟩
 obtain⟨g1,fa,fb⟩:=Za P hk hL hw;have ft:=Q5 (n:=n) (t:=t) hw (by rw[<- en,<- et];exact P.mo) hh (by have:=(BR P.mo).1;have:=P.nt;omega);rw[en,et] at fa fb;generalize eu:word n t (h++[w])=u at fa fb ft;have q1:=oV (i:=9) ew;have q2:jW 7 (mT 5 v7 (aq (ah 9) (aq (ah 3) (aq (ah 4) aA)))) (rA n t L l1 g h st "more" (some (.int j,.sh [])) (some (.str w,.own)) bP bA)=some (.nx (rA n t L l1 g (h++[w]) st u (some (.int j,.sh [])) (some (.str w,.own)) bP bA)):=by
  have:=M5 (i:=5) (F:=v7) (ga:=aq (ah 9) (aq (ah 3) (aq (ah 4) aA))) (ρ:=rA n t L l1 g h st "more" (some (.int j,.sh [])) (some (.str w,.own)) bP bA) (ps:=[(.str w,.sh [9]),(.int n,.sh []),(.int t,.sh [])]) rfl rfl rfl ft rfl;rw[Ri Fx.sh Fx.own i8 iH] at this;exact oV this
 have q3:m6 (mV (sF j_ (bO (xO 1 "Gate" "answer" uE (aq (ah 2) (aq (ah 9) aA))) (bO (xP (ah 7)) dG)))) (dw (eC (.bl false))) cz (rA n t L l1 g (h++[w]) st u (some (.int j,.sh [])) (some (.str w,.own)) bP bA)=some (.nx (rA n t L l1 g1 (h++[w]) st u (some (.int j,.sh [])) (some (.str w,.own)) bP bA)):=by
  have a:=NG (i:=1) (g:=g) (g':=g1) (m:="answer") (ga:=aq (ah 2) (aq (ah 9) aA)) (ρ:=rA n t L l1 g (h++[w]) st u (some (.int j,.sh [])) (some (.str w,.own)) bP bA) (ps:=[(tD L,.sh []),(.str w,.sh [9])]) rfl rfl rfl fa;rw[IE Fx.sh Fx.own i8 iH] at a;exact Ei (Kq (b:=true) (Qu (pK a (pK (pA rfl rfl) y9)) (aaC u) rfl))
 have Sm:L.length<=900:=by
  obtain⟨p,p1,p2,eL⟩:=P.lk L hL;rw[eL,adf];have:=P.gd.len;omega
 have im1:aG (.tup [tD L,.str u])=true:=by simp only[aG,aP,qR,aeq]
 obtain⟨lC,q4,q5⟩:∃lC,cj 10 (e2 pJ (d_ (aq (jq (aq (ah 2) (aq (ah 7) aA))) aA)) (e1 sC (e2 jH (ah 7) (eC (.str "more"))))) (rA n t L l1 g1 (h++[w]) st u (some (.int j,.sh [])) (some (.str w,.own)) bP bA)=some (.nx (rA n t L l1 g1 (h++[w]) st u (some (.int j,.sh [])) (some (.str w,.own)) (some (lC,.own)) bA))/\
   iN (tV (cM j_ (aq (bu "Gate" "settled" Ac (ah 1) aA) (aq (ah 10) aA)))) (rA n t L l1 g1 (h++[w]) st u (some (.int j,.sh [])) (some (.str w,.own)) (some (lC,.own)) bA)=some false:=by
  rcases fb with⟨z,_,_,_,_,_,_,_,_,e0⟩|⟨z,_,e0⟩
  .refine⟨.lst [],?_,?_⟩
   .have:e2 pJ (d_ (aq (jq (aq (ah 2) (aq (ah 7) aA))) aA)) (e1 sC (e2 jH (ah 7) (eC (.str "more")))) (rA n t L l1 g1 (h++[w]) st u (some (.int j,.sh [])) (some (.str w,.own)) bP bA)=some (.lst [],.own):=bX (d1:=.lst [.tup [tD L,.str u]]) (d2:=.int 0) rfl (dF (d:=.bl false) (bX (d1:=.str u) (d2:=.str "more") rfl rfl (by rw[z];rfl)) rfl) (by
     show(if(aP [.tup [tD L,.str u]]&&_&&_&&_)=true then _ else none)=_;have:aP [.tup [tD L,.str u]]=true:=by simp only[aG,aP,qR,aeq]
     rw[this];rfl)
    unfold cj;rw[this];rfl
   .exact kN (b:=true) (cT (fJ (ps:=[(.lst [],.own),(.lst [],.sh [10])]) (by rw[cJ,gX (g:=g1) (t:=.sh [1]) rfl (JK (by rw[e0];rfl)),e0];rfl) same_0))
  .have zb:=ab0.mpr z;refine⟨.lst [.tup [tD L,.str u]],?_,?_⟩
   .have:e2 pJ (d_ (aq (jq (aq (ah 2) (aq (ah 7) aA))) aA)) (e1 sC (e2 jH (ah 7) (eC (.str "more")))) (rA n t L l1 g1 (h++[w]) st u (some (.int j,.sh [])) (some (.str w,.own)) bP bA)=some (.lst [.tup [tD L,.str u]],.own):=bX (d1:=.lst [.tup [tD L,.str u]]) (d2:=.int 1) (t1:=.sh [7]) (t2:=.own) rfl (dF (d:=.bl true) (t:=.own) (bX (d1:=.str u) (d2:=.str "more") (t1:=.sh [7]) (t2:=.own) rfl rfl (by show some (D.bl (!(u == "more")))=_;rw[zb];rfl)) rfl) (by
     show(if(aP [.tup [tD L,.str u]]&&_&&_&&_)=true then _ else none)=_;have:aP [.tup [tD L,.str u]]=true:=by simp only[aG,aP,qR,aeq]
     rw[this];rfl)
    unfold cj;rw[this];rfl
   .exact kN (b:=true) (cT (fJ (ps:=[(.lst [.tup [tD L,.str u]],.own),(.lst [.tup [tD L,.str u]],.sh [10])]) (by rw[cJ,gX (g:=g1) (t:=.sh [1]) rfl (JK (by rw[e0];simp only[aG,aP,qR,aeq])),e0];rfl) (abE L u Sm)))
 obtain⟨y,l2,x2,y0,y4⟩:=o7 (ρ:=rA n t L l1 g1 (h++[w]) st u (some (.int j,.sh [])) (some (.str w,.own)) (some (lC,.own)) bA) (i:=0) (l:=l1) (m:=4) (ga:=bO (xP (eC (.int 4))) dG) rfl (by omega) rfl;rw[Mu Fx.sh Fx.own Fx.own iH] at x2;have q6:=oV (i:=11) x2;have q7:cj 6 (jM (ah 6) (e2 oLt (ah 11) (eC (.int 2)))) (rA n t L l2 g1 (h++[w]) st u (some (.int j,.sh [])) (some (.str w,.own)) (some (lC,.own)) (some (.int y,.own)))=some (.nx (rA n t L l2 g1 (h++[w]) (st&&decide (y<2)) u (some (.int j,.sh [])) (some (.str w,.own)) (some (lC,.own)) (some (.int y,.own)))):=by
  have:=yx (f:=ah 6) (f2:=e2 oLt (ah 11) (eC (.int 2))) (ρ:=rA n t L l2 g1 (h++[w]) st u (some (.int j,.sh [])) (some (.str w,.own)) (some (lC,.own)) (some (.int y,.own))) (a:=st) (b:=decide (y<2)) (t:=.sh [6]) rfl rfl;unfold cj;rw[this];rfl
 have pre:∀o,m6 (mK (tV (e2 oEq (ah 7) (eC (.str "more")))) (mV (mT 1 wC (aq (ah 11) (aq (ah 2) aA))))) (dw (eC (.bl false))) cz (rA n t L l2 g1 (h++[w]) (st&&decide (y<2)) u (some (.int j,.sh [])) (some (.str w,.own)) (some (lC,.own)) (some (.int y,.own)))=o->EU (rA n t L l g h st "more" (some (.int j,.sh [])) s9 bP bA)=o:=λo ho=>
  sq q1 (sq q2 (sq q3 (sq q4 (cG q5 (sq q6 (sq q7 ho))))))
 rcases fb with⟨z,P1,L1,e1,fY,e3,e4,e5,e6,_⟩|⟨z,nl,_⟩
 .obtain⟨g2,b1,P2,b3,b4,b5⟩:=acG (y:=y) P1 hk L1 ⟨y0,y4⟩;refine⟨l2,g2,h++[w],st&&decide (y<2),u,.str w,lC,.int y,pre _ ?_,.inl ⟨z,P2,λhs=>?_,λx m=>(abb.mp m).elim (hh x) λm=>by cases aaH.mp m;exact hw,by rw[b4,e5],by rw[b5,e6]⟩⟩
  .have a:=M5 (i:=1) (F:=wC) (ga:=aq (ah 11) (aq (ah 2) aA)) (ρ:=rA n t L l2 g1 (h++[w]) (st&&decide (y<2)) u (some (.int j,.sh [])) (some (.str w,.own)) (some (lC,.own)) (some (.int y,.own))) (ps:=[(.int y,.sh [11]),(tD L,.sh [])]) rfl rfl rfl b1 rfl;rw[IE Fx.sh Fx.own Fx.own Fx.own] at a;exact Ei ((KS (zE (by rw[z];rfl))).trans (Kq (b:=true) a))
  .obtain⟨s1,s2⟩:=(aaL _ _).mp hs;exact b3 (aa3 s2) (by rw[e1,fY,e3,e4];exact cN s1)
 .exact⟨l2,g1,h++[w],st&&decide (y<2),u,.str w,lC,.int y,pre _ (Ei (Iz (zE (ab0.mpr z)))),.inr ⟨z,nl⟩⟩
theorem acX(J:Jn n t L k g h st u)(hk:k<=25)(h9:Fx s9)(i8:Fx bP)(iH:Fx bA):
  ∃l' g' h' eF u' zV Bd yD,L5 (rA n t L l g h st u (some (.int j,.sh [])) s9 bP bA)=some (.nx (rA n t L l' g' h' eF u' (some (.int j,.sh [])) zV Bd yD))/\Jn n t L (k+1) g' h' eF u'/\Fx zV/\Fx Bd/\Fx yD:=by
 have t6:tV (ah 6) (rA n t L l g h st u (some (.int j,.sh [])) s9 bP bA)=some st:=rfl;rcases J with⟨rfl,P,hs,hh,en,et⟩|⟨z,nl⟩
 .have tm:=zE (n:=n) (t:=t) (L:=L) (l:=l) (g:=g) (h:=h) (st:=st) (u:="more") (s8:=some (.int j,.sh [])) (s9:=s9) (bP:=bP) (bA:=bA) (b:=true) (by decide +kernel);have c1:fN (tV (ah 6)) (fN (tV (e2 oEq (ah 7) (eC (.str "more")))) (tV (e2 (gV true) (ah 2) (bu "Gate" "wanted" jL (ah 1) aA)))) (rA n t L l g h st "more" (some (.int j,.sh [])) s9 bP bA)=some false:=by
   cases st with
   |false=>exact Au t6
   |true=>exact(oE t6).trans ((oE tm).trans ((cT Jh).trans (by rw[aa1 (hs rfl).1];rfl)))
  have c2:=J9 tm (cT (RO (n:=n) (h:=h) (st:=st) (bA:=bA)))
  by_cases hL:L∈g.lk
  .rw[aa1 hL] at c2;obtain⟨l',g',h',eF,u',d9,JG,JD,hb,J'⟩:=YZ (l:=l) (j:=j) P hk hL (λz=>(hs z).2) hh en et h9 i8 iH;exact⟨l',g',h',eF,u',_,_,_,cG c1 (kT c2 hb),J',Fx.own,Fx.own,Fx.own⟩
  .rw[abo hL] at c2;exact⟨l,g,h,st,"more",s9,bP,bA,cG c1 (by rw[gQ,c2];rfl),.inl ⟨rfl,P.mono,λz=>absurd (hs z).1 hL,hh,en,et⟩,h9,i8,iH⟩
 .have tm:=zE (n:=n) (t:=t) (L:=L) (l:=l) (g:=g) (h:=h) (st:=st) (u:=u) (s8:=some (.int j,.sh [])) (s9:=s9) (bP:=bP) (bA:=bA) (ab0.mpr z);have c1:fN (tV (ah 6)) (fN (tV (e2 oEq (ah 7) (eC (.str "more")))) (tV (e2 (gV true) (ah 2) (bu "Gate" "wanted" jL (ah 1) aA)))) (rA n t L l g h st u (some (.int j,.sh [])) s9 bP bA)=some false:=by
   cases st with
   |false=>exact Au t6
   |true=>exact(oE t6).trans (Au tm)
  exact⟨l,g,h,st,u,s9,bP,bA,cG c1 (by rw[gQ,Au tm];rfl),.inr ⟨z,nl⟩,h9,i8,iH⟩
theorem NJ:∀{js:List Int}{k:Nat}{l:List Int}{g:G}{h:List Str}{st:Bool}{u:Str}{s8 s9 bP bA:Slot},Jn n t L k g h st u->k+js.length<=25->Fx s9->Fx bP->Fx bA->
  ∃k' l' g' h' eF u' U5 zV Bd yD,fj (gN 8) (.sh []) L5 (js.map D.int) (rA n t L l g h st u s8 s9 bP bA)=some (.nx (rA n t L l' g' h' eF u' U5 zV Bd yD))/\Jn n t L k' g' h' eF u'
 |[],k,l,g,h,st,u,s8,s9,bP,bA,J,_,_,_,_=>⟨k,l,g,h,st,u,s8,s9,bP,bA,rfl,J⟩
 |j::js,k,l,g,h,st,u,s8,s9,bP,bA,J,hk,h9,i8,iH=>by
  rw[abj] at hk;obtain⟨l1,g1,h1,HX,u1,a9,a10,a11,e,J1,f9,Wl,U4⟩:=acX J (by omega) h9 i8 iH;obtain⟨k',l',g',h',eF,u',b8,b9,Br,A7,e',J'⟩:=NJ (js:=js) J1 (by omega) f9 Wl U4;exact⟨k',l',g',h',eF,u',b8,b9,Br,A7,(se rfl e).trans e',J'⟩
theorem abw(P:Ph k L [] g)(hk:k<=1)(h1:L∈g.lk)(h2:L∈ag g.w g.h g.R g.gr)(en:g.n=n)(et:g.t=t):Dz [iL l,gD g] [tD L,.int n,.int t]=some (.bl true):=by
 obtain⟨k',l',g',h',eF,u',b8,b9,Br,A7,e,J⟩:=NJ (n:=n) (t:=t) (L:=L) (js:=bG 0 20) (k:=k) (l:=l) (g:=g) (h:=[]) (st:=true) (u:="more") (s8:=none) (s9:=none) (.inl ⟨rfl,P,λ_=>⟨h1,h2⟩,(λx m=>nomatch m),en,et⟩) (by unfold bG;rw[aaf,acP];omega) Fx.none Fx.none Fx.none;have hi:lB (eC (.int 20)) (rA n t L l g [] true "more" none none none none)=some ((bG 0 20).map D.int,.own):=Gb rfl (by omega);have hb:GI [some (iL l,.own),some (gD g,.own),some (tD L,.sh []),some (.int n,.sh []),some (.int t,.sh []),none,none,none,none,none,none,none]=some (.rt (.bl true)):=by
  refine ku (d:=cD []) rfl (ku (d:=.bl true) rfl (ku (d:=.str "more") rfl (sq (ρ':=rA n t L l' g' h' eF u' b8 b9 Br A7) (tu hi e) ?_)));have hr:oX (e2 oEq (ah 7) (eC (.str "more"))) (e2 (gV true) (ah 2) (bu "Gate" "wanted" jL (ah 1) aA)) (rA n t L l' g' h' eF u' b8 b9 Br A7)=some (.bl true,.own):=by
   rcases J with⟨z,_⟩|⟨z,nl⟩
   .exact yN (bX (d1:=.str u') (d2:=.str "more") rfl rfl (eq_str (by rw[z];decide +kernel)))
   .exact(oN (bX (d1:=.str u') (d2:=.str "more") rfl rfl (eq_str (ab0.mpr z)))).trans (Jh.trans (by rw[abo nl];rfl))
  unfold dw;rw[hr];rfl
 show(match GI [some (iL l,.own),some (gD g,.own),some (tD L,.sh []),some (.int n,.sh []),some (.int t,.sh []),none,none,none,none,none,none,none] with|some (.rt d)=>some d|some (.nx _)=>some .aC|_=>none)=_;rw[hb]
end
noncomputable def g0(w h n t:Int):G:=⟨w,h,n,t,[],[],[],[],none,[],false,[],[],0,0⟩
theorem VM(hw:1<=w/\w<=16)(hh:1<=h/\h<=8)(hn:1<=n/\n<=t/\t<=20):LS (.ins "Gate" []) [.int w,.int h,.int n,.int t]=some (.aC,gD (g0 w h n t)):=by
 have q1:tV (cM n_ (aq (ah 1) (aq (eC (.int 1)) (aq (eC (.int 16)) aA)))) [some (.ins "Gate" [],.own),some (.int w,.sh []),some (.int h,.sh []),some (.int n,.sh []),some (.int t,.sh [])]=some true:=cT (fJ rfl (xS.trans (by rw[aa1 hw.1,aa1 hw.2];rfl)));have q2:tV (cM n_ (aq (ah 2) (aq (eC (.int 1)) (aq (eC (.int 8)) aA)))) [some (.ins "Gate" [],.own),some (.int w,.sh []),some (.int h,.sh []),some (.int n,.sh []),some (.int t,.sh [])]=some true:=cT (fJ rfl (xS.trans (by rw[aa1 hh.1,aa1 hh.2];rfl)));have q3:tV (cM uY (aq (ah 3) (aq (ah 4) aA))) [some (.ins "Gate" [],.own),some (.int w,.sh []),some (.int h,.sh []),some (.int n,.sh []),some (.int t,.sh [])]=some true:=cT (fJ rfl (OG hn.1 hn.2.1 hn.2.2));refine qe (ρ:=[some (gD (g0 w h n t),.own),some (.int w,.sh []),some (.int h,.sh []),some (.int n,.sh []),some (.int t,.sh [])]) rfl (cG (kN ((oE q1).trans ((oE q2).trans q3))) ?_) rfl
 kernel_rfl
theorem Wc(h:1<=n/\n<=t):word n t []="more":=by
 unfold word;rw[abf (by show ¬((0:Nat):Int) >= n;omega),abf (by show ¬((0:Nat):Int) >= n;omega),abf (by show ¬((0:Nat):Int) >= t;omega)]
structure Pa(w h n t:Int)(k:Nat)(g:G):Prop where
 ph:∀L,Ph 0 L [] g
 R:g.R=List.replicate k 9
 e:g.w=w/\g.h=h/\g.n=n/\g.t=t/\g.gr=[]
theorem pa0(hw:1<=w/\w<=16)(hh:1<=h/\h<=8)(hn:1<=n/\n<=t/\t<=20):Pa w h n t 0 (g0 w h n t):=
 ⟨λL=>⟨⟨hw,hh,by show 0<60;omega,(λx m=>nomatch m),.nil,by show((0:Nat):Int)<=w;omega,by show 0<=16;omega,(λx m=>nomatch m),rfl,by show 0<=60;omega⟩,by show 0<=13;omega,by show 0<=0;omega,hn,rfl,rfl,rfl,rfl,.inl ⟨rfl,rfl⟩,Wc ⟨hn.1,hn.2.1⟩,(λl m=>nomatch m)⟩,rfl,rfl,rfl,rfl,rfl,rfl⟩
theorem Z5{g:G}(P:Pa w h n t k g)(hk:k<12):∃d g',yc (gD g) [.int 9,.lst [],.lst []]=some (d,gD g')/\Pa w h n t (k+1) g':=by
 have P0:=P.ph [];have hR:g.R.length=k:=by rw[P.R,aeH]
 have kd:=P8 (r:=9) P0.gd (by omega);have tn:=P0.tl.elim (λh=>h.1) λh=>by
  have:=(P.ph [0]).tl;rcases this with a|a
  .exact a.1
  .rw[h] at a;cases a
 have c:=vN (L:=[]) (h:=[]) (.inl ⟨tn,rfl⟩) (by show bw (word g.n g.t [])=false;rw[P0.mo];rfl);obtain⟨ex,h1,k1,_,_⟩:=sN kd;refine⟨_,ic (fill (iM g 9)),MP (.inr rfl) P0.gd.R6 (vo kd c P0.ht),λL=>⟨⟨k1.w1,k1.h1,k1.R6,k1.row,k1.nd,k1.kM,k1.kJ,k1.l8,k1.jo,k1.gl⟩,?_,P0.gl,P0.nt,P0.ln,P0.ht,P0.en,P0.gw,.inl ⟨tn,rfl⟩,P0.mo,λl m=>?_⟩,?_,P.e⟩
 .show(g.R++[9]).length<=13+0;rw[abe,hR];show k+1<=13;omega
 .obtain⟨q,q1,q2,_,e⟩:=pC m;refine⟨q,q1,q2,?_⟩;rw[e];unfold b7;rw[show(fill (iM g 9)).ln=[] from P0.ln,aei];rfl
 .show g.R++[9]=_;rw[P.R,List.replicate_succ']
theorem LM(hR:R=List.replicate m 9):∀{k:Nat}{told left:List Int},Row R left->left.Pairwise (· < ·)->jr R k told left=told++left.take k
 |0,told,left,_,_=>by show told=_;rw[List.take_zero,abM]
 |k+1,told,left,hr,hp=>by
  have hs:g9 (pr R) left=left:=by
   have nd:=L8 hr (hp.imp λh=>by omega);refine(JA (.refl left) nd (hp.imp_of_mem λ{a b} ma mb lt=>?_)).symm;have ra:=hr a ma;have rb:=hr b mb;have k9:∀x:Int,1<=x->x<=R.length->rk R x=9:=λx h1 h2=>by
    have:=Mf h1 h2;rw[hR,List.getElem?_replicate] at this
    split at this
    .injection this with this;rw[hR];exact this.symm
    .cases this
   rw[yC ra.1 ra.2,yC rb.1 rb.2,k9 a ra.1 ra.2,k9 b rb.1 rb.2];exact aa1 (.inr ⟨rfl,lt⟩)
  unfold jr;rw[hs];cases left with
  |nil=>simp
  |cons x r=>
   dsimp only;obtain⟨_,uI⟩:=adV.mp hp;rw[List.erase_cons_head,LM hR (λy m=>hr y (aal _ m)) uI,List.take_succ_cons,List.append_assoc];rfl
theorem P_(m q:Nat)(h:q<=m):(bG 1 m).take q=bG 1 q:=by
 unfold bG;rw[<- List.map_take,List.take_range,Nat.min_eq_left h]
theorem aaq(hw:1<=w)(hh:1<=h)(hm:1<=m):ag w h (List.replicate m 9) []≠[]/\∀l∈ag w h (List.replicate m 9) [],l=bG 1 l.length/\l.length<=m:=by
 have e:jr (List.replicate m 9) w.toNat [] ((bG 1 (List.replicate m (9:Int)).length).filter λx=>!(bI ([]:List (Key×D)) (Sum.inl x:Key)).isSome)=bG 1 (min w.toNat m):=by
  have hf:(bG 1 (List.replicate m (9:Int)).length).filter (λx=>!(bI ([]:List (Key×D)) (Sum.inl x:Key)).isSome)=bG 1 (List.replicate m (9:Int)).length:=List.filter_eq_self.mpr λx _=>rfl
  rw[hf,aeH,LM rfl (λx mx=>by have:=rG.mp mx;rw[aeH];omega) (Fj 1 m),aei];rcases Nat.le_total w.toNat m with z|z
  .rw[P_ m _ z,Nat.min_eq_left z]
  .rw[List.take_of_length_le (by unfold bG;rw[aaf,acP];exact z),Nat.min_eq_right z]
 have el:(bG 1 (min w.toNat m)).length=min w.toNat m:=by unfold bG;rw[aaf,acP]
 unfold ag;rw[e];dsimp only;rw[el];obtain⟨a,_,c⟩:=Th (size:=(min w.toNat m:Nat)) (aW:=h) (bad:=none) ⟨.nil,(λx m=>nomatch m)⟩ hh (by show 2<=((min w.toNat m:Nat):Int)+1;omega);refine⟨λz=>c (List.map_eq_nil_iff.mp z),λl ml=>?_⟩;obtain⟨p,mp,rfl⟩:=acs.mp ml;have hp:=a.bd p mp;have uI:p<((min w.toNat m:Nat):Int)+1:=hp.2;rw[P_ _ _ (by omega)];have:(bG 1 p.toNat).length=p.toNat:=by unfold bG;rw[aaf,acP]
 rw[this];exact⟨rfl,by omega⟩
theorem zf(h:f ρ=some (.int v,ρ')):x2 jc (xP (eC (.int i))) f ρ=some (.int (i+v),ρ'):=B3 (pA rfl rfl) h rfl
theorem asks:∀{js:List Int}{k:Nat}{g:G}{s7:Slot},Pa w h n t k g->k+js.length<=12->Fx s7->∃g' yr,fj (gN 7) (.sh []) (sZ (xO 6 "Gate" "ask" yc (aq (eC (.int 9)) (aq (d_ aA) (aq (d_ aA) aA))))) (js.map D.int) [some (dI ns,.sh []),some (iL l,.own),some (.int w,.own),some (.int n,.own),some (.int t,.own),some (.int m,.own),some (gD g,.own),s7,none,none] =
  some (.nx [some (dI ns,.sh []),some (iL l,.own),some (.int w,.own),some (.int n,.own),some (.int t,.own),some (.int m,.own),some (gD g',.own),yr,none,none])/\Pa w h n t (k+js.length) g'/\Fx yr
 |[],k,g,s7,P,_,f7=>⟨g,s7,rfl,P,f7⟩
 |j::js,k,g,s7,P,hk,f7=>by
  rw[abj] at hk;obtain⟨d,g1,e,P1⟩:=Z5 P (by omega);obtain⟨g',yr,e',P',f'⟩:=asks (js:=js) P1 (by omega) Fx.sh;have st:sZ (xO 6 "Gate" "ask" yc (aq (eC (.int 9)) (aq (d_ aA) (aq (d_ aA) aA)))) [some (dI ns,.sh []),some (iL l,.own),some (.int w,.own),some (.int n,.own),some (.int t,.own),some (.int m,.own),some (gD g,.own),some (.int j,.sh []),none,none]=some (.nx [some (dI ns,.sh []),some (iL l,.own),some (.int w,.own),some (.int n,.own),some (.int t,.own),some (.int m,.own),some (gD g1,.own),some (.int j,.sh []),none,none]):=vM (g':=g1) rfl rfl rfl e;refine⟨g',yr,(se rfl st).trans e',?_,f'⟩;rw[abj,show k+(js.length+1)=k+1+js.length by omega];exact P'
def rL(ns l:List Int)(w n t m:Int)(g:G)(s7 s8 s9:Slot):aE:=[some (dI ns,.sh []),some (iL l,.own),some (.int w,.own),some (.int n,.own),some (.int t,.own),some (.int m,.own),some (gD g,.own),s7,s8,s9]
theorem HK{g g':G}(h7:Fx s7)(h8:Fx s8)(h9:Fx s9):bJ (rL ns l w n t m g s7 s8 s9) 6 (gD g')=rL ns l w n t m g' s7 s8 s9:=by
 show[some (dI ns,.sh []),some (iL l,.own),some (.int w,.own),some (.int n,.own),some (.int t,.own),some (.int m,.own),some (gD g',.own),fV 6 s7,fV 6 s8,fV 6 s9]=_;rw[h7,h8,h9];rfl
theorem abc{g:G}(h7:Fx s7)(h8:Fx s8)(h9:Fx s9):bJ (rL ns l w n t m g s7 s8 s9) 1 (iL l')=rL ns l' w n t m g s7 s8 s9:=by
 show[some (dI ns,.sh []),some (iL l',.own),some (.int w,.own),some (.int n,.own),some (.int t,.own),some (.int m,.own),some (gD g,.own),fV 1 s7,fV 1 s8,fV 1 s9]=_;rw[h7,h8,h9];rfl
theorem Zc(hl:ns.length<=63):za [dI ns]=some (.bl true):=by
 have q1:cj 1 (e1 JQ (e1 (oG none (some 200)) (ah 0))) [some (dI ns,.sh []),none,none,none,none,none,none,none,none,none]=some (.nx [some (dI ns,.sh []),some (iL ns.reverse,.own),none,none,none,none,none,none,none,none]):=by
  have v0:ah 0 [some (dI ns,.sh []),none,none,none,none,none,none,none,none,none]=some (dI ns,.sh []):=rfl;rw[xh,rK,rK,v0,Aj,YG hl];show v9 1 _ (Option.map _ (if aP (ns.map D.int)=true then some (D.lst (ns.map D.int).reverse) else none))=_;rw[if_pos (fH ns),<- List.map_reverse];rfl
 generalize ns.reverse=l0 at q1;obtain⟨w',l1,x1,w0,w1⟩:=o7 (ρ:=[some (dI ns,.sh []),some (iL l0,.own),none,none,none,none,none,none,none,none]) (i:=1) (l:=l0) (m:=16) (ga:=bO (xP (eC (.int 16))) dG) rfl (by omega) rfl;have q2:=oV (i:=2) (zf (i:=1) x1);obtain⟨w,hw,ew⟩:∃w,w=1+w'/\(1<=w/\w<=16):=⟨_,rfl,by omega⟩
 rw[<- hw] at q2;obtain⟨b,l2,Ii,b0,b1⟩:=o7 (ρ:=[some (dI ns,.sh []),some (iL l1,.own),some (.int w,.own),none,none,none,none,none,none,none]) (i:=1) (l:=l1) (m:=2) (ga:=bO (xP (eC (.int 2))) dG) rfl (by omega) rfl;obtain⟨M,hM,SI⟩:∃M:Int,(M=3\/M=19)/\oH (bO (xP (eC (.int 3))) (bO (xP (eC (.int 19))) dG)) (xM 1 gj (bO (xP (eC (.int 2))) dG)) [some (dI ns,.sh []),some (iL l1,.own),some (.int w,.own),none,none,none,none,none,none,none]=some (.int M,[some (dI ns,.sh []),some (iL l2,.own),some (.int w,.own),none,none,none,none,none,none,none]):=by
  have y2:b=0\/b=1:=by omega
  rcases y2 with rfl|rfl
  .exact⟨3,.inl rfl,tM (ds:=[.int 3,.int 19]) rfl Ii rfl⟩
  .exact⟨19,.inr rfl,tM (ds:=[.int 3,.int 19]) rfl Ii rfl⟩
 obtain⟨c,l3,x3,c0,c1⟩:∃c l3,xM 1 gj (bO (oH (bO (xP (eC (.int 3))) (bO (xP (eC (.int 19))) dG)) (xM 1 gj (bO (xP (eC (.int 2))) dG))) dG) [some (dI ns,.sh []),some (iL l1,.own),some (.int w,.own),none,none,none,none,none,none,none]=some (.int c,[some (dI ns,.sh []),some (iL l3,.own),some (.int w,.own),none,none,none,none,none,none,none])/\0<=c/\c<M:=by
  exact Mx (aJ:=[some (dI ns,.sh []),some (iL l2,.own),some (.int w,.own),none,none,none,none,none,none,none]) (l:=l2) rfl rfl (by omega) (pK SI y9)
 have q3:=oV (i:=3) (zf (i:=2) x3);obtain⟨n,hn,en⟩:∃n,n=2+c/\(2<=n/\n<=20):=⟨_,rfl,by omega⟩
 rw[<- hn] at q3;obtain⟨e,l4,x4,e0,Kf⟩:=o7 (ρ:=[some (dI ns,.sh []),some (iL l3,.own),some (.int w,.own),some (.int n,.own),none,none,none,none,none,none]) (i:=1) (l:=l3) (m:=19) (ga:=bO (xP (eC (.int 19))) dG) rfl (by omega) rfl;have q4:jW 4 (x2 rj (xP (eC (.int 20))) (x2 jc (xP (ah 3)) (xM 1 gj (bO (xP (eC (.int 19))) dG)))) [some (dI ns,.sh []),some (iL l3,.own),some (.int w,.own),some (.int n,.own),none,none,none,none,none,none]=some (.nx [some (dI ns,.sh []),some (iL l4,.own),some (.int w,.own),some (.int n,.own),some (.int (if n+e<20 then n+e else 20),.own),none,none,none,none,none]):=
  oV (B3 (pA (d:=.int 20) (t:=.own) rfl rfl) (B3 (pA (d:=.int n) (t:=.sh [3]) rfl rfl) x4 rfl) rfl)
 obtain⟨t,ht,et⟩:∃t,t=(if n+e<20 then n+e else 20)/\(n<=t/\t<=20):=⟨_,rfl,by split<;>omega⟩
 rw[<- ht] at q4;obtain⟨a,l5,x5,a0,a1⟩:=o7 (ρ:=[some (dI ns,.sh []),some (iL l4,.own),some (.int w,.own),some (.int n,.own),some (.int t,.own),none,none,none,none,none]) (i:=1) (l:=l4) (m:=12) (ga:=bO (xP (eC (.int 12))) dG) rfl (by omega) rfl;have q5:=oV (i:=5) (zf (i:=1) x5);obtain⟨m,hm,em⟩:∃m:Nat,(m:Int)=1+a/\(1<=m/\m<=12):=⟨(1+a).toNat,by omega,by omega⟩
 rw[<- hm] at q5;obtain⟨d,l6,x6,d0,d1⟩:=o7 (ρ:=[some (dI ns,.sh []),some (iL l5,.own),some (.int w,.own),some (.int n,.own),some (.int t,.own),some (.int m,.own),none,none,none,none]) (i:=1) (l:=l5) (m:=8) (ga:=bO (xP (eC (.int 8))) dG) rfl (by omega) rfl;obtain⟨h,hh,eh⟩:∃h,h=1+d/\(1<=h/\h<=8):=⟨_,rfl,by omega⟩
 have q6:zW 6 "Gate" LS (bO (xP (ah 2)) (bO (x2 jc (xP (eC (.int 1))) (xM 1 gj (bO (xP (eC (.int 8))) dG))) (bO (xP (ah 3)) (bO (xP (ah 4)) dG)))) [some (dI ns,.sh []),some (iL l5,.own),some (.int w,.own),some (.int n,.own),some (.int t,.own),some (.int m,.own),none,none,none,none]=some (.nx (rL ns l6 w n t m (g0 w h n t) none none none)):=by
  have hx:=pK (pA (f:=ah 2) (ρ:=[some (dI ns,.sh []),some (iL l5,.own),some (.int w,.own),some (.int n,.own),some (.int t,.own),some (.int m,.own),none,none,none,none]) (d:=.int w) (t:=.sh [2]) rfl rfl) (pK (zf (i:=1) x6) (pK (pA (f:=ah 3) (d:=.int n) (t:=.sh [3]) rfl rfl) (pK (pA (f:=ah 4) (d:=.int t) (t:=.sh [4]) rfl rfl) y9)));rw[<- hh] at hx;unfold zW;rw[hx];dsimp only;rw[VM ew eh ⟨by omega,et.1,et.2⟩];rfl
 obtain⟨g1,s7,q7,P1,f7⟩:=asks (ns:=ns) (l:=l6) (m:=m) (js:=bG 0 m) (s7:=none) (pa0 (w:=w) (h:=h) (n:=n) (t:=t) ew eh ⟨by omega,et.1,et.2⟩) (by unfold bG;rw[aaf,acP];omega) Fx.none;have hi:lB (ah 5) (rL ns l6 w n t m (g0 w h n t) none none none)=some ((bG 0 m).map D.int,.own):=Gb (n:=m) rfl (by omega);have lm:(bG 0 m).length=m:=by unfold bG;rw[aaf,acP]
 rw[lm,Nat.zero_add] at P1;obtain⟨s1,S⟩:=Ay (P1.ph []);have SL:∀L,Sp 0 L [] (sp g1):=λL=>(Ay (P1.ph L)).2
 obtain⟨s2,_,ye⟩:=vt S;have q8:sZ (xO 6 "Gate" "stop" B_ aA) (rL ns l6 w n t m g1 s7 none none)=some (.nx (rL ns l6 w n t m (sp g1) s7 none none)):=by
  rw[vM (i:=6) (g:=g1) (ps:=[]) rfl rfl rfl s1,HK f7 Fx.none Fx.none]
 have q9:sZ (xO 6 "Gate" "go" G6 aA) (rL ns l6 w n t m (sp g1) s7 none none)=some (.nx (rL ns l6 w n t m (gone (sp g1)) s7 none none)):=by
  rw[vM (i:=6) (g:=sp g1) (ps:=[]) rfl rfl rfl s2,HK f7 Fx.none Fx.none]
 have P2:∀L,Ph 0 L [] (gone (sp g1)):=λL=>(vt (SL L)).2.1
 have Oa:ag (sp g1).w (sp g1).h (sp g1).R (sp g1).gr=ag w h (List.replicate m 9) []:=by
  show ag g1.w g1.h g1.R g1.gr=_;rw[P1.e.1,P1.e.2.1,P1.R,P1.e.2.2.2.2]
 obtain⟨n1,n2⟩:=aaq (w:=w) (h:=h) (m:=m) ew.1 eh.1 em.1;rw[Oa] at ye;have JU:(gone (sp g1)).n=n:=P1.e.2.2.1;have KL:(gone (sp g1)).t=t:=P1.e.2.2.2.1;have Kg:ag (gone (sp g1)).w (gone (sp g1)).h (gone (sp g1)).R (gone (sp g1)).gr=ag w h (List.replicate m 9) []:=Oa;generalize gone (sp g1)=g2 at q9 P2 ye JU KL Kg;have Tu:cj 8 (bu "Gate" "wanted" jL (ah 6) aA) (rL ns l6 w n t m g2 s7 none none)=some (.nx (rL ns l6 w n t m g2 s7 (some (.lst (c8 g2.lk),.own)) none)):=by
  unfold cj;rw[gX (g:=g2) (t:=.sh [6]) rfl vm];rfl
 have iG:0<g2.lk.length:=by rw[ye];exact List.length_pos_iff.mpr n1
 obtain⟨v,l7,x7,v0,v1⟩:=o7 (ρ:=rL ns l6 w n t m g2 s7 (some (.lst (c8 g2.lk),.own)) none) (i:=1) (l:=l6) (m:=g2.lk.length) (ga:=bO (xP (e1 cX (ah 8))) dG) rfl (by omega) (pK (pA (t:=.own) (dF (d:=.lst (c8 g2.lk)) (t:=.sh [8]) rfl (by rw[Pq];unfold c8;rw[aaf])) rfl) y9);rw[abc f7 Fx.own Fx.none] at x7;obtain⟨L,hL,aL⟩:∃L∈g2.lk,cP (c8 g2.lk) v=some (tD L):=by
  refine⟨g2.lk[v.toNat]'(by omega),List.getElem_mem _,?_⟩;unfold cP iw c8;rw[aaf,if_pos v0,if_pos v1,ach,abW,aa0 (by omega)];rfl
 have SM:jW 9 (zC 8 (xM 1 gj (bO (xP (e1 cX (ah 8))) dG))) (rL ns l6 w n t m g2 s7 (some (.lst (c8 g2.lk),.own)) none)=some (.nx (rL ns l7 w n t m g2 s7 (some (.lst (c8 g2.lk),.own)) (some (tD L,.own)))):=by
  refine oV (ρ':=rL ns l7 w n t m g2 s7 (some (.lst (c8 g2.lk),.own)) none) ?_;unfold zC;rw[x7];show(match cP (c8 g2.lk) v with|some d=>if aG d=true then some (d,_) else none|none=>none)=_;rw[aL];dsimp only;rw[if_pos (qR L)]
 obtain⟨eL,lL⟩:=n2 L (by rw[<- ye];exact hL);have tup:vE (aq (eC (.int 1)) (aq (e2 jc (e1 cX (ah 9)) (eC (.int 1))) aA)) (rL ns l7 w n t m g2 s7 (some (.lst (c8 g2.lk),.own)) (some (tD L,.own)))=some (tD L,.own):=by
  unfold vE;rw[cJ,cJ,bX (d1:=.int L.length) (d2:=.int 1) (t1:=.own) (t2:=.own) (d:=.int (L.length+1)) (dF (d:=tD L) (t:=.sh [9]) rfl (by show some (D.int (L.map D.int).length)=_;rw[aaf])) rfl rfl];show(if -(2 ^ 20)<=(1:Int)/\(1:Int)<2 ^ 20/\-(2 ^ 20)<=(L.length:Int)+1/\(L.length:Int)+1<2 ^ 20 then some (D.tup ((List.range ((L.length:Int)+1-1).toNat).map λn:Nat=>D.int (1+n)),Tag.own) else none)=_;rw[if_pos (by omega),show((L.length:Int)+1-1).toNat=L.length by omega];have:tD L=.tup ((List.range L.length).map λn:Nat=>D.int (1+n)):=by
   conv=>lhs;rw[eL]
   unfold tD bG;rw[aea];rfl
  rw[this]
 have Ry:iN (tV (cM j_ (aq (ah 9) (aq (vE (aq (eC (.int 1)) (aq (e2 jc (e1 cX (ah 9)) (eC (.int 1))) aA))) aA)))) (rL ns l7 w n t m g2 s7 (some (.lst (c8 g2.lk),.own)) (some (tD L,.own)))=some false:=
  kN (b:=true) (cT (fJ (ps:=[(tD L,.sh [9]),(tD L,.own)]) (by rw[cJ,cJ,tup];rfl) (Td L (by omega))))
 have q13:HG 1 6 Dz (aq (ah 9) (aq (ah 3) (aq (ah 4) aA))) (rL ns l7 w n t m g2 s7 (some (.lst (c8 g2.lk),.own)) (some (tD L,.own)))=some (.rt (.bl true)):=by
  show(if(1:Nat)≠6/\apart 1 [(tD L,.sh [9]),(.int n,.sh [3]),(.int t,.sh [4])]=true/\apart 6 [(tD L,.sh [9]),(.int n,.sh [3]),(.int t,.sh [4])]=true then(Dz [iL l7,gD g2] [tD L,.int n,.int t]).map Out.rt else none)=_;rw[if_pos ⟨by decide,rfl,rfl⟩,abw (l:=l7) (P2 L) (by omega) hL (by rw[Kg,<- ye];exact hL) JU KL];rfl
 exact dh rfl (sq q1 (sq q2 (sq q3 (sq q4 (sq q5 (sq q6 (sq (tu hi q7) (sq q8 (sq q9 (sq Tu (sq SM (cG Ry q13))))))))))))
end K46
namespace HT
open PySem PySem.W PyProof.Rows
section
variable{p q:Program}{loose:List Str}{Xt:Shared->Bool}{N:Nat}{ann:Option Value}{K:Params->Frag}{as ts:List Addr}{e:∀P,as=(K P).map (·.1)}
end
end HT
namespace K46
open PySem L2 L2.Ev
local macro_rules | `(tactic| walk_at "ba")=>`(tactic| first | exact ba_n 1 rfl fun _ _ _ _ _ _ _=>rfl | exact ba_n 2 rfl fun _ _ _ _ _ _ _=>rfl | exact ba_n 3 rfl fun _ _ _ _ _ _ _=>rfl | exact ba_n 4 rfl fun _ _ _ _ _ _ _=>rfl | exact ba_n 5 rfl fun _ _ _ _ _ _ _=>rfl)
set_option maxHeartbeats 0 in
theorem all_mk{l:PySem.W.OpenLaw}{w:World}{K:PySem.W.Frag}{h:Heap}{mg:Str->Option Value}{fa:Addr}(X:K.In h)(G:h.Ns mainGlobals mg)(DV:mg "law"=some (.ref fa))(q:qB L K=true)(t:tab.map (look K)=tab.map want):
  ∃fd:FuncData,(∀(s:Shared) (v:Value),BindsTo s fd ⟨[v],[]⟩ [("_law_script",v)])/\∀base:Heap,K.In base->base.Ns mainGlobals mg->bN l.prog w K mg base cE 16 fa fd ["_law_script"] (bx K za):=by
 refine abQ (sp:=λ_=>bx K za) X G DV (Fw (s:=top 56) 23 t rfl) (λ_ _ _ _ _ _ _ _=>.of_eq rfl) λbase _ _ _ _ F=>?_
 have E:En L ⟨l.prog,w,K,mg,base⟩:=Zs X G q;have W0:=fU X G t 0 (Ql _ E);have W1:=fU X G t 1 (Df _ E);have W2:=fU X G t 2 (C9 _ ⟨E,W1⟩);have Ru:=CO t q 24 (L7 _ E);have Vb:=CO t q 33 (F0 _ ⟨E,W2,W1,Ru⟩);have W3:=fU X G t 3 (PB _ E);have F_:=dz t 25 (E7 _ E);have EC:=dz t 26 (Ef _ ⟨E,W1,F_⟩);have W4:=fU X G t 4 (MO _ ⟨E,W1,W3⟩);have W27:=dz t 27 (Fc _ ⟨E,W1,W3,EC,W4⟩);have Xg:=dz t 28 (BZ _ ⟨E,W27,F_⟩);have XG:=dz t 34 (D5 _ E);have E6:=dz t 35 (Eh _ ⟨E,F_,XG⟩);have Ge:=dz t 29 (EN _ ⟨E,EC⟩);have Lq:=dz t 30 (Eg _ ⟨E,Ge⟩);have W36:=dz t 36 (E_ _ ⟨E,E6,Lq⟩);have NY:=dz t 57 (Hl _ E);have Hw:=dz t 37 (Ea _ ⟨E,NY⟩);have C4:=dz t 38 (Gq _ E);have B9:=dz t 39 (G5 _ ⟨E,Hw,C4⟩);have W5:=fU X G t 5 (Dj _ E);have W6:=fU X G t 6 (LU _ E);have W7:=fU X G t 7 (HC _ ⟨E,W5,W6⟩);have AZ:=dz t 31 (Di _ ⟨E,Ge⟩);have W8:=fU X G t 8 (Du _ ⟨E,W7,AZ⟩);have W9:=fU X G t 9 (EH _ ⟨E,W8⟩);have Wd:=dz t 32 (Gk _ ⟨E,Ge⟩);have Uh:=fU X G t 10 (Gi _ ⟨E,Wd⟩);have W11:=fU X G t 11 (F7 _ ⟨E,W5,AZ⟩);have XD:=fU X G t 12 (Ca _ ⟨E,Uh,W11⟩);have Il:=fU X G t 13 (GH _ ⟨E,Lq⟩);have W14:=fU X G t 14 (GB _ ⟨E,W9,XD,Il,AZ⟩);have W40:=dz t 40 (Gv _ ⟨E,B9,C4,Hw⟩);have W41:=dz t 41 (Gw _ ⟨E,W8⟩);have W15:=fU X G t 15 (Ky _ ⟨E,W5⟩);have Ve:=dz t 42 (FU _ ⟨E,Il,E6,W41,W15,AZ⟩);have VX:=dz t 43 (DO _ ⟨E,B9,W14,E6,W40,Ve⟩);have W44:=dz t 44 (B0 _ ⟨E,Hw⟩);have Wo:=fU X G t 16 (EK _ E);have Vt:=fU X G t 17 (GZ _ ⟨E,Wo⟩);have W45:=dz t 45 (C1 _ ⟨E,W44,C4,Vt,B9⟩);have yo:=dz t 46 (CL _ ⟨E,W36,VX,W45⟩);have Ks:=dz t 47 (GJ _ ⟨E,Xg,yo⟩);have OW:=dz t 48 (EO _ ⟨E,yo⟩);have L6:=dz t 49 (GV _ ⟨E,yo⟩);have Gp:=dz t 50 (Dp _ E);have Mn:CG _:=UQ X G (Fw 18 t rfl) (λm k b F=>Tr E m k b F) (by walk_at "ba");have Vq:=fU X G t 19 (Dn _ E);have W58:=dz t 58 (DA _ ⟨E,NY⟩);have W59:=CO t q 59 (Gc _ ⟨E,W2⟩);have W51:=dz t 51 (G3 _ E);have Ws:=dz t 52 (BN _ ⟨E,W58,W59,W51,yo⟩);have Z7:=dz t 53 (DW _ E);have UW:=WL t 54 (Cm _ E);have W20:=fU X G t 20 (Gy _ ⟨E,UW⟩);have W55:=dz t 55 (HD _ E);have ZK:=dz t 56 (Ep _ ⟨E,EC,yo⟩);have U_:=fU X G t 21 (Et _ ⟨E,OW,W20,W55,Gp,Ks,L6,ZK⟩);have W22:=fU X G t 22 (Dt _ ⟨E,Gp,W0,Vq,Mn,Ws,Z7,U_⟩);exact o_law _ ⟨E,W0,Vb,Ks,OW,L6,Gp,Mn,W22⟩ _ _ F
theorem wk:Wk:=λhY hT hL hq ht xE hdn=>
 L2.Vf (n:=63) (k:=16) (x:="_law_script") (CX:=λ_=>cE) (sp:=λw=>bx (_:PySem.W.Frag) za) rfl (by decide) xE ⟨λ_=>rfl,by decide,by decide,rfl⟩ hY hT hL (λw mg fa h KX G vj=>all_mk KX G (hdn ▸ vj) (hq w) (ht w)) (λw H a ns hl hz=>by
  refine⟨[dI ns],[]++[],.bl true,.cons (.z9 hz (qP ns)) .nil,Zc hl,λH' v fG _ r _ _=>?_⟩;cases r;rfl) λ_ _ _ _ _ z=>z
open PySem PySem.W PyProof.Rows L2 L2.Ev
end K46
theorem PySem.Challenge.cw_linegate_k46_a_look_comes_again_holds : PySem.Challenge.rw_linegate_k46_a_look_comes_again.Holds := by
 exact K46.early K46.wk
