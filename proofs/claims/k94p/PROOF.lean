import PyProof.Rows.All
import Wide.All
import OpenK.AllK
import Wide.FinOn
import PySem.Challenge.RW_linegate_k94_whole_comes_to_an_end
set_option Elab.async false
set_option linter.all false
set_option maxRecDepth 100000
set_option hygiene false
local macro_rules|`(tactic|exists 20,$p)=>`(tactic|refine ⟨_,$p,@fun H0 S z aq ρ σ H Q d tg ok e q=>?_⟩)
local macro_rules|`(tactic|exists 21,$p)=>`(tactic|refine ⟨_,$p,@fun H0 S z aq ρ σ H Q d tg ok e k=>?_⟩)
local macro_rules|`(tactic|exists 22,$p)=>`(tactic|refine ⟨_,$p,@fun H0 S z aq ρ σ H Q c ok e k=>?_⟩)
local macro_rules|`(tactic|exists 23,$p)=>`(tactic|refine ⟨_,$p,@fun H0 S z aq ρ σ H E o ok e k=>?_⟩)
local macro_rules|`(tactic|exists 24,$p)=>`(tactic|refine ⟨_,$p,@fun H0 S z aq ρ σ H R ds tg ok e k=>?_⟩)
local macro_rules|`(tactic|exists 25,$p)=>`(tactic|refine ⟨_,$p,@fun H0 S z aq ρ σ H E o ok e q=>?_⟩)
set_option hygiene true
noncomputable section
abbrev aal:=@List.mem_cons_of_mem
abbrev aam:=@List.mem_cons_self
abbrev aao:=@PySem.Heap.get?_push_of_some
abbrev aas:=@List.map_cons
abbrev aat:=@List.mem_append_right
abbrev aaD:=@decide_eq_true
abbrev aaH:=@Bool.and_eq_true
abbrev aaK:=@of_decide_eq_true
abbrev aaQ:=@List.getElem?_eq_getElem
abbrev aaT:=@PySem.wpAny_bind
abbrev aaV:=@List.mem_cons
abbrev aaX:=@List.mem_singleton
abbrev aa9:=@Bool.false_ne_true
abbrev abb:=@List.mem_append_left
abbrev abf:=@List.getElem?_eq_some_iff
abbrev abh:=@PySem.Heap.lt_size
abbrev abo:=@List.mem_append
abbrev abq:=@List.length_append
abbrev abu:=@Nat.le_refl
abbrev abw:=@List.mem_map
abbrev aby:=@List.nodup_cons
abbrev abD:=@decide_eq_false
abbrev abG:=@List.size_toArray
abbrev abO:=@Option.some.inj
abbrev abQ:=@List.length_cons
abbrev ab2:=@PySem.Heap.get?_push_size
abbrev ab5:=@List.mem_filter
abbrev ab6:=@List.getElem?_map
abbrev ab8:=@Option.map_eq_some_iff
abbrev aco:=@List.nodup_nil
abbrev acC:=@Nat.ne_of_lt
abbrev acE:=@List.nodup_append
abbrev acH:=@List.append_nil
abbrev acI:=@PySem.wpAny_pure
abbrev acO:=@List.getElem?_set_ne
abbrev acQ:=@Option.bind_some
abbrev ac1:=@Nat.lt_of_lt_of_le
abbrev ac6:=@List.all_eq_true
abbrev ac7:=@List.map_map
abbrev ac8:=@List.getD_eq_getElem?_getD
abbrev ac9:=@List.find?_cons
abbrev ada:=@List.contains_iff_mem
abbrev adb:=@List.map_append
abbrev adf:=@List.pairwise_cons
abbrev adg:=@beq_eq_false_iff_ne
abbrev adi:=@List.getElem?_append_left
abbrev adj:=@List.any_eq_true
abbrev adl:=@PySem.Heap.get?_update_other
abbrev adm:=@List.lookup_cons
abbrev adn:=@List.length_singleton
abbrev ado:=@Nat.le_trans
abbrev adp:=@List.not_mem_nil
abbrev adq:=@Nat.zero_le
abbrev ads:=@List.getElem?_append_right
abbrev adv:=@List.filterMap_cons
abbrev adw:=@List.filter_sublist
abbrev adx:=@List.foldl_cons
abbrev ady:=@Classical.byContradiction
abbrev adA:=@List.mem_of_getElem?
abbrev adB:=@List.getElem?_set_self
abbrev adC:=@Nat.lt_irrefl
abbrev adD:=@List.filterMap_map
abbrev adE:=@Array.length_toList
abbrev adF:=@Array.getD_eq_getD_getElem?
abbrev adG:=@List.length_filter_le
abbrev adH:=@PySem.wpAny_mono
abbrev adI:=@PySem.wpAny_truthy_bool
abbrev adJ:=@List.append_assoc
abbrev adK:=@List.mem_of_find?_eq_some
abbrev adL:=@Int.mul_nonneg
abbrev adM:=@PySem.sizeLine_eq
abbrev adN:=@List.map_congr_left
abbrev adO:=@Nat.le_of_lt
abbrev adP:=@PySem.wpAny_Call_Name_kw
abbrev adQ:=@List.cons.injEq
abbrev adR:=@List.find?_eq_none
abbrev adS:=@PySem.Around.under_plainId
abbrev adT:=@List.exists_cons_of_ne_nil
abbrev adU:=@List.find?_cons_of_neg
abbrev adV:=@List.pairwise_map
abbrev adW:=@Ne.symm
abbrev adX:=@List.eq_nil_iff_forall_not_mem
abbrev adY:=@PySem.tupleKind_room_in1
abbrev adZ:=@List.eq_nil_of_length_eq_zero
abbrev ad0:=@Bool.and_self
abbrev ad1:=@Nat.ne_of_gt
abbrev ad2:=@beq_iff_eq
abbrev ad3:=@Bool.eq_false_iff
abbrev ad4:=@PySem.codeAny_builtin
abbrev ad5:=@PyProof.Rows.callWith_type1
abbrev ad6:=@PySem.Heap.get?_update_ne
abbrev ad7:=@List.filter_eq_nil_iff
abbrev ad8:=@Array.perm_iff_toList_perm
abbrev ad9:=@beq_self_eq_true
abbrev aea:=@PySem.F.plain_min_loop
abbrev aeb:=@PySem.wpAny_holding
abbrev aec:=@PySem.Heap.get?_update_self
abbrev aed:=@Nat.lt_of_le_of_lt
abbrev aee:=@Bool.false_eq_true
abbrev aef:=@PySem.wpAny_passesOwn
abbrev aeg:=@Option.isSome_iff_exists
abbrev aeh:=@Option.isSome_map
abbrev aei:=@List.any_map
abbrev aej:=@Int.mul_le_mul_of_nonneg_right
abbrev aek:=@List.getElem?_replicate
abbrev ael:=@List.any_cons
abbrev aem:=@PySem.plainId_quiet
abbrev aen:=@Nat.lt_succ_self
abbrev aeo:=@Option.getD_some
abbrev aep:=@decide_eq_decide
abbrev aeq:=@Int.mul_le_mul_of_nonneg_left
abbrev aer:=@PySem.Heap.size_push
abbrev aes:=@List.append_eq_nil_iff
abbrev aet:=@List.length_set
abbrev aeu:=@List.find?_some
abbrev aev:=@PySem.wpAny_newObj_type
abbrev aew:=@Bool.and_eq_true_iff
abbrev aex:=@PySem.Heap.get?_none_of_le
abbrev aey:=@List.getElem?_of_mem
abbrev aez:=@Classical.not_forall
abbrev aeA:=@PySem.wpAny_tryCatch
abbrev aeB:=@List.drop_eq_getElem_cons
abbrev aeC:=@List.pairwise_iff_getElem
abbrev aeD:=@List.length_take
abbrev aeE:=@List.filter_cons
abbrev aeF:=@List.all_map
abbrev aeG:=@List.mem_filterMap
abbrev aeH:=@Bool.eq_iff_iff
abbrev aeI:=@List.all_cons
abbrev aeJ:=@PySem.wpAny_updateSeq
abbrev aeK:=@Bool.or_eq_true
abbrev aeL:=@Int.emod_nonneg
abbrev aeM:=@Int.emod_lt_of_pos
abbrev aeN:=@Sum.inl.inj
abbrev aeO:=@Int.mul_one
abbrev aeP:=@Nat.lt_succ_of_lt
abbrev aeQ:=@List.length_range
abbrev aeR:=@Bool.not_eq_true'
abbrev aeS:=@List.mem_range
abbrev aeT:=@List.map_nil
abbrev aeU:=@Nat.zero_add
abbrev aeV:=@or_false
set_option autoImplicit true
namespace L2
open PySem PySem.Spec
open PySem PySem.Spec PyProof.Rows
noncomputable def uP(o:Obj):Option (Value×Str×Pos):=match o.data with
 |.func fd=>match fd.body with
  |.stmts [.Return (some (.Call _ _ [⟨_,.Lambda _ _ _ pos,_⟩] _)) _]=>some (fd.code,fd.qualname++".<locals>."++"<lambda>",pos)
  |_=>none
 |_=>none
def Bl(K:PySem.W.Frag)(p:Addr×Obj):Option (Addr×Addr×Str×Pos):=match uP p.2 with
 |some (.ref c,q,pos)=>match K.lookup c with
  |some ⟨_,_,.fields vs,_⟩=>match(vs[11]? : Option Value) with
   |some (.ref P)=>some (c,P,q,pos)
   |_=>none
  |_=>none
 |_=>none
def iG(K:PySem.W.Frag):List (Addr×Addr×Str×Pos):=K.filterMap (Bl K)
noncomputable def o8(K:PySem.W.Frag):Bool:=K.all λp=>match p.2.data with
 |.seq au _=>au.size==0||au.toList.any λv=>match v with|.int _ _=>false|_=>true
 |_=>true
def wW(K:PySem.W.Frag):Bool:=(o8 K&&K.all λp=>(uP p.2).isNone||(Bl K p).isSome)&&match iG K with
 |[]=>true
 |[r]=>PySem.W.codeHdIn K r.1 r.2.1&&(K.lookup r.2.1).isNone
 |_=>false
end L2
namespace L2
open PySem PySem.Spec PyProof.Rows
noncomputable def inClass(s:Stmt)(j:Nat):Stmt:=match s with
 |.ClassDef _ _ _ body _ _ _ _ _ _ _=>body.getD j (.Pass ⟨0,0,0,0⟩)
 |_=>.Pass ⟨0,0,0,0⟩
noncomputable def lF(s:Stmt):Arguments:=match s with
 |.FunctionDef _ a _ _ _ _ _ _ _ _=>a
 |_=>{ posonlyargs:=[],args:=[],vararg:=none,kwonlyargs:=[],kw_defaults:=[],kwarg:=none,defaults:=[] }
noncomputable def gH(s:Stmt):List Stmt:=match s with
 |.FunctionDef _ _ b _ _ _ _ _ _ _=>b
 |_=>[]
noncomputable def cB(s:Stmt):Scope:=match s with
 |.FunctionDef _ _ _ _ _ _ sc _ _ _=>sc
 |_=>{ kind:=.function,names:=[],isGenerator:=false,isCoroutine:=false }
end L2
namespace L2.Ev
open PySem PySem.W
noncomputable abbrev OW:List Value:=[.type "ValueError",.type "Exception",.type "BaseException",.type "object"]
end L2.Ev
namespace L2
open PySem PySem.Spec PyProof.Rows
theorem tabs_ok{K:Params->PySem.W.Frag}{e:∀P,as=(K P).map (·.1)}(h:∀w:World,(iG (K w.params)).map (·.2.1)=ts)(w:World)(hp:Heap)(Y:(PySem.W.kmHook K as e ts).says w hp):∀r∈iG (K w.params),hp.get? r.2.1=some (PySem.W.tabObj #[]):=
 λr m=>PySem.W.km_tabs_of Y _ (by rw[<- h w];exact List.mem_map_of_mem m)
end L2
namespace L2.Ev
open PySem PySem.Spec PySem.W PyProof.Rows
structure Ls where
 bt:List Str
 gi:List (Str×Int)
 tp:List (Str×List Str)
 cl:List Str
 na:List (Str×Str)
 ni:Bool
 ex:List Str
 xc:List Str
 ct:List (Str×List Str)
 kt:List (Str×List (Str×Bool))
 ki:List (Str×List Str×List (Str×Bool))
noncomputable def cA(K:Frag)(c:Str):Addr:=match nsIn K mainGlobals c with
 |some (some (.ref a))=>a
 |_=>0
def kv(K:Frag)(c:Str):Value:=if c == "ValueError" then .type "ValueError" else .ref (cA K c)
noncomputable def i7:Stmt->Str
 |.FunctionDef x ..=>x
 |_=>Str.empty
def jA(c:Str)(s:Stmt):Str:=if c==Str.empty then i7 s else c++"."++i7 s
noncomputable def strOf:Value->Option Str
 |.str s _=>some s
 |_=>none
def DI(K:Frag)(x:Str)(l:List Str):Bool:=match nsIn K mainGlobals x with
 | some (some (.ref a))=>(match K.lookup a with
  |some ⟨c,none,.seq au _,_⟩=>c == .type "tuple"&&decide (au.size<=sizeLine)&&au.toList.map strOf==l.map some
  |_=>false)
 |_=>false
noncomputable def LL(K:Frag)(x:Str)(n:Int):Bool:=match nsIn K mainGlobals x with
 |some (some (.int m _))=>m==n
 |_=>false
def ym(K:Frag)(c:Str):Bool:=nsIn K mainGlobals c==some (some (.ref (cA K c)))&&plainGet K (cA K c) Str.empty&&hasDictIn K (cA K c)&&plainOver K (cA K c)&&findIn K (.ref (cA K c)) "__setattr__" == some (some (.builtin "object.__setattr__"))&&makesIn K (cA K c)&&keepIn K (.ref (cA K c))
def ek(K:Frag)(r:Str):Bool:=findIn K (.ref (cA K r)) "__getattribute__" == some (some (.builtin "BaseException.__getattribute__"))&&findIn K (.ref (cA K r)) "__getattr__" == some none&&findIn K (.ref (cA K r)) "__class__" == some (some (.builtin "object.__class__"))&&specialIn K (.builtin "object.__class__") "__get__" == some (some (.builtin "getset_descriptor.__get__"))&&takesIn K (.builtin "object.__class__")==some true&&mroIn K (cA K r) (.type "object")==some true&&mroIn K (cA K r) (.type "BaseException")==some true
def P4(L:Ls)(K:Frag):Bool:=L.ex.all (λc=>nsIn K mainGlobals c==some (some (.ref (cA K c))))&&L.xc.all (λc=>excIn K (cA K c) OW "ValueError.__new__")&&L.ct.all (λp=>L.xc.contains p.1&&mroIn K (cA K p.1) (.type "BaseException")==some true&&p.2.all λr=>L.xc.contains r&&L.ex.contains r&&mroIn K (cA K r) (.ref (cA K p.1))==some true)&&L.kt.all (λp=>p.2.all λr=>L.ex.contains r.1&&ek K r.1&&kitOne K (.ref (cA K r.1)) (kv K p.1)==some r.2)&&L.ki.all (λp=>p.2.2.all λr=>L.ex.contains r.1&&ek K r.1&&kitAny K (.ref (cA K r.1)) ((p.2.1.map (cA K)).map Value.ref)==some r.2)
def r8(L:Ls)(K:Frag):Bool:=(!L.ni||o8 K)&&P4 L K&&L.bt.all (λx=>nsIn K mainGlobals x==some none)&&L.gi.all (λp=>LL K p.1 p.2)&&L.tp.all (λp=>DI K p.1 p.2)&&L.cl.all (ym K)&&L.na.all (λp=>findIn K (.ref (cA K p.1)) p.2==some none)
noncomputable def Ic(fd:FuncData):FuncData:={ fd with kwdefaults:=.none,doc:=.none,pyModule:=.none,annotations:=none,code:=.none,closureTuple:=.none }
def D5(K:Frag)(q:Str):Option (Option Value)->Option FuncData
 | some (some (.ref a))=>(match K.lookup a with
  |some ⟨_,_,.func fd,_⟩=>if(codeIn K fd.code q&&keepIn K (.ref a)&&isFn K (.ref a))=true then some (Ic fd) else none
  |_=>none)
 |_=>none
def look(K:Frag)(p:Str×Stmt):Option FuncData:=D5 K (jA p.1 p.2) (if p.1==Str.empty then nsIn K mainGlobals (i7 p.2) else findIn K (.ref (cA K p.1)) (i7 p.2))
def want(p:Str×Stmt):Option FuncData:=some (fnOf (i7 p.2) (jA p.1 p.2) (lF p.2) (gH p.2) (cB p.2) .none .none .none .none none .none .none)
end L2.Ev
namespace K94
open PySem L2 L2.Ev
noncomputable def top(i:Nat):Stmt:=PySem.Challenge.pw_linegate_k94_whole_comes_to_an_end.main.body.getD i (.Pass ⟨0,0,0,0⟩)
noncomputable def L:Ls:=⟨["all","bool","dict","int","isinstance","len","list","min","range","sorted","tuple","zip"],[("GREATEST_RANK",9),("GREATEST_SLOT",999),("GREATEST_VALUE",1000000000),("MOST_CHANGES",60),("MOST_EDITS",20),("MOST_HANDS",8),("MOST_TRIES",20),("MOST_WIDTH",16)],[("BAD_WORDS",["no","unsure"]),("WORDS",["yes","no","unsure"])],["Changes","Gate","Tally"],[("Changes","entries"),("Gate","answers"),("Gate","breaks"),("Gate","ended"),("Gate","grounds"),("Gate","grown"),("Gate","halted"),("Gate","known"),("Gate","laid_ones"),("Gate","looks"),("Gate","numbers"),("Gate","on_line"),("Gate","tallies"),("Tally","heard"),("Tally","need"),("Tally","tries")],true,[],[],[],[],[]⟩
end K94
namespace HT
open PySem PySem.W PyProof.Rows
noncomputable def HK:List Obj->List Obj
 |[]=>[]
 |[a]=>[a]
 |a::_::l=>a::HK l
def Gw:Nat->List Obj->BT
 |0,_=>.nil
 |_+1,[]=>.nil
 |k+1,o::l=>.node o (Gw k (HK l)) (Gw k (HK l.tail))
noncomputable def oG(tb:String->Option Builtin)(p:Program)(w:World)(ud:Nat)(ann:Option Value):Nat->SharedT->Thread->Option SharedT
 |0,_,_=>none
 |k+1,s,t=>match through t with
  |true=>some s
  |false=>match stepOk ud ann t with
   |false=>none
   |true=>match stepT (denote tb) p w s t with
    |none=>none
    |some (s',t')=>oG tb p w ud ann k s' t'
theorem M7{tb:String->Option Builtin}{p:Program}{w:World}{ud:Nat}{ann:Option Value}:∀{k:Nat}{s s':SharedT}{t:Thread},oG tb p w ud ann k s t=some s'->topRun tb p w ud ann k s.abs t=some s'.abs
 |0,_,_,_,h=>by cases h
 |k+1,s,s',t,h=>by
  unfold oG at h;unfold topRun;cases e:through t with
  |true=>rw[e] at h;cases h;rfl
  |false=>
   rw[e] at h;cases o:stepOk ud ann t with
   |false=>rw[o] at h;cases h
   |true=>
    rw[o] at h;cases g:stepT (denote tb) p w s t with
    |none=>rw[g] at h;cases h
    |some r=>obtain⟨s2,t2⟩:=r;rw[g] at h;rw[stepT_spec g];exact M7 h
def Dg(P:Params):BT:=Gw 12 (boot_heap P).objs.toList
noncomputable def lV:Nat:=11
theorem XD(P:Params):(boot_heap P).objs.size=lV:=by kernel_rfl
theorem boot_abs(P:Params):absHeap (Dg P) lV (boot_heap P).life=boot_heap P:=by kernel_rfl
def qH(P:Params)(os:OsState):SharedT:=⟨Dg P,lV,(boot_heap P).life,Array.mk [],boot_drawn,boot_toks,os⟩
theorem Wv{p q:Program}{loose:List Str}{Xt:Shared->Bool}{α:Type}{Yf:Shared->α}{Ya:World->α}{N:Nat}{ann:Option Value}
  (he:opening p=plainProg p.main.scope.names) (hf:∀s,fenceModules? p s=some s) (hN:Nat.ble 600 N=true)
  (hz:∀P:Params,((boot_heap P).isNs mainGlobals,(boot_heap P).nsMap mainGlobals "__annotations__")=(true,ann))
  (h:∀(w:World) (os:OsState),(oG treeTable p w lV ann N (qH w.params os) (topStub p)).map (λsT=>
    ((staticsOk (importedModules p.main.body) (boot_heap w.params) sT.abs.heap&&namesBound p sT.abs.heap&&gensDone sT.abs&&laidKept (boot_heap w.params) sT.abs.heap),openSeen q loose (importedModules p.main.body) Xt true sT.abs,Yf sT.abs))=some (true,openGood q loose,Ya w)) :
  LeftO p q loose Xt Yf Ya N:=λw=>by
 obtain⟨⟨hh,gs,d,k,os⟩,e,e'⟩:=ab8.mp (boot_open he hN hf w);obtain⟨rfl,rfl,rfl,rfl⟩:hh=boot_heap w.params/\gs=Array.mk []/\d=boot_drawn/\k=boot_toks:=by simpa using e'
 obtain⟨z1,z2⟩:_/\_:=by simpa only[Prod.mk.injEq] using hz w.params
 obtain⟨sT,r,l⟩:=ab8.mp (h w os);obtain⟨l1,l2,l3⟩:_/\_/\_:=by simpa only[Prod.mk.injEq] using l
 have r':=M7 r;have ab:(qH w.params os).abs=⟨boot_heap w.params,Array.mk [],boot_drawn,boot_toks,os⟩:=by
  show Shared.mk (absHeap (Dg w.params) lV (boot_heap w.params).life) _ _ _ _=_;rw[boot_abs];rfl
 rw[ab] at r';have t:topFrom treeTable p w N ⟨boot_heap w.params,Array.mk [],boot_drawn,boot_toks,os⟩=some sT.abs:=by
  unfold topFrom;dsimp only;rw[z1,z2,XD,r'];show(match staticsOk (importedModules p.main.body) (boot_heap w.params) sT.abs.heap&&namesBound p sT.abs.heap&&gensDone sT.abs&&laidKept (boot_heap w.params) sT.abs.heap with|true=>_|false=>_)=_;rw[l1]
 unfold openEnds;rw[e];show(topFrom treeTable p w N _).map _=_;rw[t];exact congrArg some (Prod.ext l2 l3)
theorem aaG{p q:Program}{loose:List Str}{Xt:Shared->Bool}{α:Type}{Yf:Shared->α}{Ya:World->α}{N:Nat}{ann:Option Value}
  (he:opening p=plainProg p.main.scope.names) (hf:∀s,fenceModules? p s=some s) (hN:Nat.ble 600 N=true)
  (hz:∀P:Params,((boot_heap P).isNs mainGlobals,(boot_heap P).nsMap mainGlobals "__annotations__")=(true,ann))
  (h1:∀(w:World) (os:OsState),(oG treeTable p w lV ann N (qH w.params os) (topStub p)).map (λsT=>((staticsOk (importedModules p.main.body) (boot_heap w.params) sT.abs.heap&&namesBound p sT.abs.heap&&gensDone sT.abs&&laidKept (boot_heap w.params) sT.abs.heap),openSeen q loose (importedModules p.main.body) Xt true sT.abs))=some (true,openGood q loose))
  (h3:∀(w:World) (os:OsState),(oG treeTable p w lV ann N (qH w.params os) (topStub p)).map (λsT=>Yf sT.abs)=some (Ya w)) :
  LeftO p q loose Xt Yf Ya N:=Wv he hf hN hz λw os=>by
 obtain⟨sT,r,e1⟩:=ab8.mp (h1 w os);have e3:=h3 w os;rw[r] at e3 ⊢;have e3:=abO e3;obtain⟨e1,e2⟩:_/\_:=by simpa only[Prod.mk.injEq] using e1
 show some (_,_,_)=some (true,openGood q loose,Ya w);rw[e1,<- e2,<- e3]
noncomputable def tg(s:SharedT)(a:Nat):Option Obj:=match Nat.blt a s.n with
 |true=>match s.tree.get a with
  |some o=>alive o
  |none=>none
 |false=>none
theorem Zn{s:SharedT}{a:Nat}{o:Obj}(h:tg s a=some o):s.abs.heap.get? a=some o:=by
 unfold tg at h;cases e:Nat.blt a s.n with
 |false=>rw[e] at h;cases h
 |true=>
  rw[e] at h;dsimp only at h;cases g:s.tree.get a with
  |none=>rw[g] at h;cases h
  |some o'=>
   rw[g] at h;have cQ:a<s.n:=by simpa using e
   exact(abs_get (life:=s.life) cQ g).trans h
theorem C3{s:SharedT}:∀{as:List Addr}{os:List Obj},as.map (tg s)=os.map some->as.map s.abs.heap.get? = os.map some
 |[],[],_=>rfl
 |[],_::_,h=>by cases h
 |_::_,[],h=>by cases h
 |a::as,o::os,h=>by
  rw[aas,aas] at h;injection h with h1 h2;rw[aas,aas,Zn h1,C3 h2]
end HT
namespace HT
open PySem PySem.W PyProof.Rows
variable{p q:Program}{loose:List Str}{Xt:Shared->Bool}{N:Nat}{ann:Option Value}{K:Params->Frag}{as ts:List Addr}{e:∀P,as=(K P).map (·.1)}
theorem left_Tkm(he:opening p=plainProg p.main.scope.names)(hf:∀s,fenceModules? p s=some s)(hN:Nat.ble 600 N=true)
  (hz:∀P:Params,((boot_heap P).isNs mainGlobals,(boot_heap P).nsMap mainGlobals "__annotations__")=(true,ann))
  (h1:∀(w:World) (os:OsState),(oG treeTable p w lV ann N (qH w.params os) (topStub p)).map (λsT=>((staticsOk (importedModules p.main.body) (boot_heap w.params) sT.abs.heap&&namesBound p sT.abs.heap&&gensDone sT.abs&&laidKept (boot_heap w.params) sT.abs.heap),openSeen q loose (importedModules p.main.body) Xt true sT.abs))=some (true,openGood q loose))
  (h3:∀(w:World) (os:OsState),(oG treeTable p w lV ann N (qH w.params os) (topStub p)).map (λsT=>(as.map (tg sT),ts.map (tg sT)))=some (((K w.params).map (·.2)).map some,(ts.map λ_=>tabObj #[]).map some)) :
  LeftO p q loose Xt (Hook.obs (kmHook K as e ts)) (Hook.val (kmHook K as e ts)) N:=aaG he hf hN hz h1 λw os=>by
 obtain⟨sT,r,e1⟩:=ab8.mp (h3 w os);obtain⟨e1,e2⟩:_/\_:=by simpa only[Prod.mk.injEq] using e1
 rw[r];show some (as.map sT.abs.heap.get?,ts.map sT.abs.heap.get?)=some ((K w.params).map λp=>some p.2,ts.map λ_=>some (tabObj #[]));rw[C3 e1,C3 e2,ac7,ac7];rfl
end HT
namespace K94
open PySem L2 L2.Ev
def tab:List (Str×Stmt):=[48,49,11,41,50,51,12,18,19,20,17,26,32,31,33,30,28,29,16,36,35,52,53,54,55].map (λi=>(Str.empty,top i))++[0,2,9,11,1,10,4,5,3].map (λi=>(("Changes":Str),inClass (top 25) i))++[0,19,8,24,21,20,11,26,13,27,25,29,28,23,1,7,12,5,10,22,3,2,4,6,9,14].map (λi=>(("Gate":Str),inClass (top 46) i))++[3,1,0].map (λi=>(("Tally":Str),inClass (top 40) i))
noncomputable def isNm:Stmt->Bool
 |.FunctionDef x ..=>!(x == "law")
 |_=>true
noncomputable def lo:List Str:=(["_wall","LinegateError","NoFit","NoChange","TooMany","NoRule","NoAnswer","NoLook","TooLate","within","rising","GREATEST_SLOT","GREATEST_VALUE","unfit","edited_in_turn","are_edits","misfit","sheet_of_values","MOST_CHANGES","MOST_EDITS","GREATEST_RANK","Changes","sheet_of","free","filled","first_fitting","in_turn","values_behind","fits","wanted_places","middle_of_gap","WORDS","MOST_TRIES","Tally","makes_tally","MOST_WIDTH","MOST_HANDS","BAD_WORDS","Gate","_law_draw","_law_settings","_law_edits","_law_spec","_law_word","_law_answered","_law_done"]:List String).map Str.ofString
def vw:Program:={ PySem.Challenge.pw_linegate_k94_whole_comes_to_an_end with main:={ (PySem.Challenge.pw_linegate_k94_whole_comes_to_an_end).main with body:=(PySem.Challenge.pw_linegate_k94_whole_comes_to_an_end).main.body.filter λs=>!isNm s } }
def Wk:Prop:=∀{YP:World->Heap->Prop}{K:Params->PySem.W.Frag}{d:DefRec},(∀(w:World) (h:Heap),YP w h->(K w.params).In h)->(∀(w:World) (h:Heap),YP w h->∀r∈iG (K w.params),h.get? r.2.1=some (PySem.W.tabObj #[]))->(∀w:World,wW (K w.params)=true)->(∀w:World,r8 L (K w.params)=true)->(∀w:World,tab.map (look (K w.params))=tab.map want)->d.params.defaults=[]->d.name="law"->PySem.W.WalkO vw lo (PySem.W.XL vw []) YP (PySem.W.OpenLaw.row PySem.Challenge.rw_linegate_k94_whole_comes_to_an_end).toRowW d [] (λf vs=>PySem.call f vs)
end K94
namespace K94
open PySem L2 L2.Ev
open PySem PySem.W PyProof.Rows L2 L2.Ev
def xt(s:Shared):Bool:=xlAt vw [] s&&recOk (RowW.records (OpenRow.toRowW (OpenLaw.row PySem.Challenge.rw_linegate_k94_whole_comes_to_an_end))) s
theorem xt1(s:Shared)(e:xt s=true):XL vw [] (s.heap.nsMap mainGlobals) s.heap:=xl_of s (aew.mp e).1
theorem rn(w:World)(os:OsState):(HT.oG treeTable PySem.Challenge.pw_linegate_k94_whole_comes_to_an_end w HT.lV (some (.ref 6)) 20000 (HT.qH w.params os) (topStub PySem.Challenge.pw_linegate_k94_whole_comes_to_an_end)).map (λsT=>((staticsOk (importedModules (PySem.Challenge.pw_linegate_k94_whole_comes_to_an_end).main.body) (boot_heap w.params) sT.abs.heap&&namesBound PySem.Challenge.pw_linegate_k94_whole_comes_to_an_end sT.abs.heap&&gensDone sT.abs&&laidKept (boot_heap w.params) sT.abs.heap),openSeen vw lo (importedModules (PySem.Challenge.pw_linegate_k94_whole_comes_to_an_end).main.body) xt true sT.abs))=some (true,openGood vw lo):=by kernel_rfl
theorem xt2(s:Shared)(e:xt s=true):RecFacts (RowW.records (OpenRow.toRowW (OpenLaw.row PySem.Challenge.rw_linegate_k94_whole_comes_to_an_end))) s.heap:=recFacts_of (aew.mp e).2
local macro_rules | `(tactic| o_head $H)=>`(tactic| (refine PySem.W.holds_open (q:=K94.vw) (loose:=K94.lo) (N:=20000) (Xt:=K94.xt) (XP:=XL K94.vw []) (Yf:=Hook.obs $H) (Ya:=Hook.val $H) (YP:=Hook.says $H) ?hl (Hook.of $H) (Hook.keeps $H) K94.xt1 XL.keeps (by rfl) (by rfl) (by rfl) K94.xt2 (by rfl) (by assumption) (by decide +kernel) ⟨rfl,rfl,rfl,rfl,rfl,by decide +kernel⟩ ?hw ?hc;(case hl=>exact HT.left_Tkm (ann:=some (.ref 6)) (by rfl) (fun _=>rfl) (by decide) (fun _=>by kernel_rfl) K94.rn fun w os=>by kernel_rfl);(case hw=>w_witness2)))
theorem Si:OpenLaw.wellSaid PySem.Challenge.rw_linegate_k94_whole_comes_to_an_end=true:=by kernel_rfl
set_option maxHeartbeats 0 in
theorem early(H:Wk):PySem.Challenge.rw_linegate_k94_whole_comes_to_an_end.Holds:=by
 w_on;refine holds_law Si λadk=>?_;k_head
 k_fill
 exact H (λw h Y=>PySem.W.km_in_of Y) (L2.tabs_ok λw=>by kernel_rfl) (λw=>by kernel_rfl) (λw=>by kernel_rfl) (λw=>by kernel_rfl) rfl rfl
end K94
local macro_rules | `(tactic| walk_at "va")=>`(tactic| exact ⟨rfl,by first | exact Or.inl rfl | exact Or.inr (Or.inl rfl) | exact Or.inr (Or.inr rfl),by decide,by decide⟩)
local macro_rules | `(tactic| exists $h:ident, $x, $w:ident, $e:ident) => `(tactic| (rcases $h:ident : $x:term with _ | $w:ident; (rw [$h:ident] at $e:ident; cases $e:ident); rw [$h:ident] at $e:ident))
local macro_rules | `(tactic| exists $h:ident, $x, $w:ident, $e:ident, 0) => `(tactic| (rcases $h:ident : $x:term with _ | $w:ident; (rw [$h:ident] at $e:ident; cases $e:ident)))
theorem ci{c:Prop}[Decidable c]{α:Type}{a:Option α}{y:α}(e:(if c then a else none)=some y):c/\a=some y:=by
 by_cases h:c
 .rw[if_pos h] at e;exact⟨h,e⟩
 .rw[if_neg h] at e;cases e
namespace L2
open PySem PySem.Spec
theorem Sf:entryFor table "proto.unchain"=some Builtin.«proto.unchain»:=entryFor_of_tree (by kernel_rfl)
theorem ab7{α:Type}{Q:α->Shared->Prop}(hh:A.handled=some (.ref h))(he:s.heap.get? e=some oe)(hd:oe.data=.fields ve)(h2:2<ve.size)
  (hx:s.heap.get? h=some oh) (C5:oh.data=.fields vh) (F3:vh[2]? = some .none) (ne:h≠e) (q:E (.ref e) { s with heap:=s.heap.update e (Obj.mapFields (·.setIfInBounds 2 (.ref h))) }):wpAny (model prog w) A (raiseNew (.ref e):Sem α) Q E s:=by
 unfold raiseNew;refine aaT (wpAny_handled ?_);rw[hh];dsimp only;rw[if_pos (by simpa using ne)];refine aaT (aeb (wpAny_runValue (ad4 Sf ?_)));unfold Builtin.«proto.unchain»;refine aaT (wpAny_field hx C5 F3 ?_);rw[if_pos (by rfl)];refine acI ?_;refine aaT ?_;unfold updateField;refine aaT (wpAny_load he ?_);rw[hd];dsimp only;rw[if_pos h2];exact wpAny_update' he (wpAny_throw q)
theorem acX{prog:Program}{w:World}{A:Around}{E:Value->Shared->Prop}{s:Shared}{it h:Addr}{x left step:Int}{oh:Obj}{vh:Array Value}{Q:Option Value->Shared->Prop}(hh:A.handled=some (.ref h))(hx:s.heap.get? h=some oh)(C5:oh.data=.fields vh)(F3:vh[2]? = some .none)(hit:IsRangeIter s.heap it x left step)(Vz:left<=0)
  (hQ:∀h',Heap.ExtBut it s.heap h'->Q none { s with heap:=h' }):wpAny (model prog w) A (pyNext (.ref it)) Q E s:=by
 have hT:s.TypeIs (.ref it) "range_iterator":=⟨_,hit,rfl⟩
 unfold pyNext;refine aaT (wpAny_attempt (wpAny_callSpecial?_slot (name:=Str.ofString "__next__") hT F.slot_range_iterator_next
  (wpAny_call_entry F.slot_range_iterator_next hT F.entry_range_iterator_next ?_ (F.args_range_iterator_next_1 _))))
 show wpAny _ _ (field (.ref it) 0 >>= _) _ _ s;refine aaT (wpAny_field hit rfl (x:=rawInt x) rfl ?_);show wpAny _ _ (field (.ref it) 1 >>= _) _ _ s;refine aaT (wpAny_field hit rfl (x:=rawInt left) rfl ?_);show wpAny _ _ (field (.ref it) 2 >>= _) _ _ s;refine aaT (wpAny_field hit rfl (x:=rawInt step) rfl ?_);show wpAny _ _ (if left<=0 then _ else _) _ _ s;rw[if_pos Vz];refine aaT (wpAny_rule ?_);refine aaT ?_;show wpAny _ _ (newExc (.type "StopIteration") [] >>= _) _ _ _;refine aaT ?_;simp only[newExc,newTuple];refine aaT (aev ?_ (by size_fits));refine aaT (m:=firstArgMember _ _) (wpAny_of_eq (a:=Value.none) (by first|rfl|(simp only[firstArgMember];rfl)) ?_);refine aev ?_ (by size_fits);have hn:h≠(s.heap.push { cls:=.type "tuple",dict:=none,data:=.seq ([]:List Value).toArray }).objs.size:=acC (abh (aao _ hx));refine ab7 (h:=h) (by first|exact hh|(show A.in1.handled=_;exact hh)) (ab2 _ rfl) rfl (by simp<;>lia) (aao _ (aao _ hx)) C5 F3 hn ?_;refine aaT (wpAny_isInstance (T:="StopIteration") (b:=true) ⟨_,aec _ (ab2 _ rfl) rfl,rfl⟩ isSubtype_stop ?_);refine acI (hQ _ λb o hb e=>?_);rw[adl _ _ (adW (acC (abh (aao _ e))))];exact aao _ (aao _ e)
open PySem PySem.Spec PyProof.Rows
noncomputable abbrev Key:=Sum Int Str
noncomputable def qQ:Key->Value->Bool
 |.inl k,v=>Value.isInt k v
 |.inr x,v=>Value.isStrOf x v
noncomputable def ab0(w:World):Key->Int
 |.inl k=>hashInt k
 |.inr x=>hashStr w x
theorem mD:∀{k:Key}{v:Value},qQ k v=true->(∃i t,k=Sum.inl i/\v=Value.int i t)\/(∃x t,k=Sum.inr x/\v=Value.str x t)
 |.inl i,v,h=>by
  obtain⟨t,e⟩:=Value.isInt_shape h;exact .inl ⟨i,t,rfl,e⟩
 |.inr x,v,h=>by
  obtain⟨t,e⟩:=Value.isStrOf_shape h;exact .inr ⟨x,t,rfl,e⟩
theorem SK(i:Int)(t:Tok):qQ (.inl i) (.int i t)=true:=by simp[qQ,Value.isInt]
theorem QI(x:Str)(t:Tok):qQ (.inr x) (.str x t)=true:=by simp[qQ,Value.isStrOf]
theorem Ye(a b:Int):decide ((Sum.inl a:Key)=Sum.inl b)=(a==b):=by
 by_cases e:a=b
 .subst e;simp
 .have h:¬(Sum.inl a:Key)=Sum.inl b:=λq=>e (aeN q)
  rw[abD h];exact(adg.mpr e).symm
theorem aa7(a b:Str):decide ((Sum.inr a:Key)=Sum.inr b)=decide (a=b):=by
 by_cases e:a=b
 .subst e;simp
 .have h:¬(Sum.inr a:Key)=Sum.inr b:=λq=>e (Sum.inr.inj q)
  rw[abD h,abD e]
theorem aad(a:Int)(b:Str):decide ((Sum.inl a:Key)=Sum.inr b)=false:=abD (λq=>nomatch q)
theorem TM(a:Str)(b:Int):decide ((Sum.inr a:Key)=Sum.inl b)=false:=abD (λq=>nomatch q)
def fN(prog:Program)(w:World):PySem.KeyKind prog w Key where
 is:=qQ
 hash:=ab0 w
 inj:=λv a b ha hb=>by
  rcases mD ha with⟨i,t,rfl,rfl⟩|⟨x,t,rfl,rfl⟩
  .rcases mD hb with⟨j,u,rfl,e⟩|⟨y,u,rfl,e⟩
   .injection e with e1 _;rw[e1]
   .exact nomatch e
  .rcases mD hb with⟨j,u,rfl,e⟩|⟨y,u,rfl,e⟩
   .exact nomatch e
   .injection e with e1 _;rw[e1]
 byValue:=λk v h=>by
  rcases mD h with⟨i,t,rfl,rfl⟩|⟨x,t,rfl,rfl⟩<;>rfl
 pyHash:=λhv h=>by
  rcases mD hv with⟨i,t,rfl,rfl⟩|⟨x,t,rfl,rfl⟩
  .exact wpAny_pyHash_int h
  .exact wpAny_pyHash_str h
 eqBool:=λhu hv h=>by
  rcases mD hu with⟨i,t,rfl,rfl⟩|⟨x,t,rfl,rfl⟩
  .rcases mD hv with⟨j,u,rfl,rfl⟩|⟨y,u,rfl,rfl⟩
   .rw[Ye] at h;exact wpAny_eqBool_int h
   .rw[aad] at h;exact SeqAt.EqAt.int_str i t y u _ _ _ _ h
  .rcases mD hv with⟨j,u,rfl,rfl⟩|⟨y,u,rfl,rfl⟩
   .rw[TM] at h;exact SeqAt.EqAt.str_int x t j u _ _ _ _ h
   .rw[aa7] at h;exact wpAny_eqBool_str h
 «strs»:=λk x t v h=>by
  rcases mD h with⟨i,u,rfl,e⟩|⟨y,u,rfl,e⟩
  .exact nomatch e
  .injection e with e1 _;subst e1;cases v<;>rfl
theorem UD(prog:Program)(w:World)(i:Int)(t:Tok):(fN prog w).is (.inl i) (.int i t)=true:=SK i t
theorem U_(prog:Program)(w:World)(x:Str)(t:Tok):(fN prog w).is (.inr x) (.str x t)=true:=QI x t
inductive V where
 |aA|bl (b:Bool)|int (i:Int)|str (x:Str)|jF (b:Array UInt8)|rQ (b:UInt64)|ref (a:Addr)|ty (n:String)
 deriving DecidableEq
def RelV:V->Value->Prop
 |.aA,u=>u=Value.none
 |.bl b,u=>u=Value.bool b
 |.int i,u=>∃t,u=Value.int i t
 |.str x,u=>∃t,u=Value.str x t
 |.jF b,u=>∃t,u=Value.bytes b t
 |.rQ b,u=>∃t,u=Value.float b t
 |.ref a,u=>u=Value.ref a
 |.ty n,u=>u=Value.type n
noncomputable abbrev aQ:List V->List Value->Prop:=Paired RelV
theorem aQ.length{xs:List V}{us:List Value}(r:aQ xs us):xs.length=us.length:=Paired.length r
theorem aQ.get:∀{xs:List V}{us:List Value}{i:Nat}{x:V},aQ xs us->xs[i]? = some x->∃u,us[i]? = some u/\RelV x u
 |_,_,_,_,.nil,e=>by simp at e
 |_,_,0,_,.cons r _,e=>by simp at e;subst e;exact⟨_,rfl,r⟩
 |_,_,i+1,x,.cons _ t,e=>by
  obtain⟨u,h1,h2⟩:=aQ.get t (by simpa using e);exact⟨u,by simpa using h1,h2⟩
theorem aQ.append:∀{xs ys:List V}{us ws:List Value},aQ xs us->aQ ys ws->aQ (xs++ys) (us++ws)
 |_,_,_,_,.nil,s=>s
 |_,_,_,_,.cons r t,s=>.cons r (aQ.append t s)
theorem aQ.take:∀{xs:List V}{us:List Value} (n:Nat),aQ xs us->aQ (xs.take n) (us.take n)
 |_,_,0,_=>.nil
 |_,_,_+1,.nil=>.nil
 |_,_,n+1,.cons r t=>.cons r (aQ.take n t)
theorem aQ.drop:∀{xs:List V}{us:List Value} (n:Nat),aQ xs us->aQ (xs.drop n) (us.drop n)
 |_,_,0,r=>r
 |_,_,_+1,.nil=>.nil
 |_,_,n+1,.cons _ t=>aQ.drop n t
def gm:Option V->Option Value->Prop
 |some v,some u=>RelV v u
 |none,none=>True
 |_,_=>False
def KV{κ:Type}:List (κ×V)->List (κ×Value)->Prop:=Paired λ(p:κ×V) (q:κ×Value)=>p.1=q.1/\RelV p.2 q.2
noncomputable def kV:Key->V
 |.inl i=>.int i
 |.inr x=>.str x
def nY(h:Heap)(a:Addr)(items:Array Value):Prop:=∃o,h.get? a=some o/\o.cls=.type "tuple"/\o.dict=none/\∃n,o.data=.seq items n
theorem nY.isTup(x:nY h a items):IsTup h a items:=let⟨o,e,c,_,d⟩:=x;⟨o,e,c,d⟩
theorem nY.lt(x:nY h a items):a<h.objs.size:=let⟨_,e,_⟩:=x;abh e
theorem nY.new(h:Heap)(items:Array Value):nY (h.push { cls:=.type "tuple",data:=.seq items }) h.objs.size items:=⟨_,ab2 _ rfl,rfl,rfl,_,rfl⟩
inductive HO where
 |lst (xs:List V)
 |tup (xs:List V)
 |dK (ak:List (Key×V))|dT (ak:List (List Key×V))
 |set (S:Int->Bool) (n:Nat)
 |ins (C dx:Addr) (fs:List (Str×V))
 |own (x:Addr)
 |xd (fs:List (Str×V))
 |met (f x:Addr)
 |aX (lo hi:Int)
 |d_ (o:Obj) (u:HO)
 |rm (ps:Array Value)
 |ie (q:Str) (pos:Pos)|jb (q:Str)
 |ext (φ:Heap->Prop)
noncomputable abbrev Hp:=Addr->Option HO
inductive kP where
 |tup (xs:List V)|uG (o:Obj) (xs:List V)|ie (q:Str) (pos:Pos)|jb (q:Str)
noncomputable def kP.ho:kP->HO
 |.tup xs=>.tup xs
 |.uG o xs=>.d_ o (.tup xs)
 |.ie q p=>.ie q p
 |.jb q=>.jb q
noncomputable def kP.tp:kP->Option (List V)
 |.tup xs=>some xs
 |.uG _ xs=>some xs
 |_=>none
def Tk(H:Hp)(b:Addr)(xs:List V):Prop:=∃t:kP,t.tp=some xs/\H b=some t.ho
noncomputable def upd(H:Hp)(a:Addr)(o:HO):Hp:=λb=>if b=a then some o else H b
theorem cG{H:Hp}{a:Addr}{o:HO}:upd H a o a=some o:=by unfold upd;rw[if_pos rfl]
theorem aO{H:Hp}{a b:Addr}{o:HO}(h:b≠a):upd H a o b=H b:=by unfold upd;rw[if_neg h]
theorem VT{H:Hp}{o u:HO}(h:H a=some o)(h':H b=some u)(d:o≠u):a≠b:=by
 intro e;subst e;rw[h] at h';exact d (abO h')
theorem cK{H:Hp}{o:HO}(h:H a=some o)(h':H b=none):a≠b:=by
 intro e;subst e;rw[h] at h';cases h'
section
variable(P:Program)(w:World)
def cZ(H:Hp)(h:Heap)(a:Addr):HO->Prop
 |.lst xs=>xs.length<=sizeLine/\∃(au:List Value) (n:Nat),aQ xs au/\h.get? a=some { cls:=.type "list",data:=.seq au.toArray n }
 |.tup xs=>xs.length<=sizeLine/\∃au:List Value,aQ xs au/\nY h a au.toArray
 |.dK ak=>ak.length<=sizeLine/\(a==sysModules)=false/\∃vs,KV ak vs/\h.DictOf (fN P w) a vs
 |.dT ak=>ak.length<=sizeLine/\(a==sysModules)=false/\∃xs:List (List Key×Addr×Value),
   Paired (λ(p:List Key×V) (q:List Key×Addr×Value)=>p.1=q.1/\Tk H q.2.1 (p.1.map kV)/\RelV p.2 q.2.2) ak xs/\
   ∃o es ep,h.get? a=some o/\o.ExactDict/\o.data=.dict es ep/\es.toList=xs.map (entryOfKey (tupleKind (fN P w)))/\(xs.map (·.1)).Nodup
 |.set S n=>h.SetOf (intKind P w) a S n
 |.ins C dx fs=>H dx=some (.own a)/\fs.length<=1000/\dx≠a/\h.get? a=some (PySem.W.instObj C dx)/\
   ∃mA,h.Ns1 dx mA/\(∀f,gm (fs.lookup f) (mA f))/\PySem.Within mA (fs.map (·.1))
 |.own _=>∃o,h.get? a=some o
 |.xd fs=>∃mA,h.Ns1 a mA/\∀f,gm (fs.lookup f) (mA f)
 |.aX lo hi=>∃t u v,h.get? a=some { cls:=.type "range",data:=.fields #[.int lo t,.int hi u,.int 1 v] }
 |.d_ o u=>h.get? a=some o/\cZ H h a u
 |.rm ps=>h.get? a=some { cls:=.none,data:=.fields ps }
 |.ie q pos=>∃ps:Array Value,h.get? a=some { cls:=.none,data:=.fields ps }/\(ps=#[]\/∃c,ps=#[rawInt pos.line,rawInt pos.col,.ref c]/\H c=some (.jb q))
 |.jb q=>h.CodeRec (.ref a) q
 |.met f x=>h.get? a=some (PySem.W.methodObj (.ref f) (.ref x))
 |.ext φ=>φ h/\(∃o,h.get? a=some o)/\∀h1 h2:Heap,φ h1->(∀o,h1.get? a=some o->h2.get? a=some o)->φ h2
def dh(H:Hp)(h:Heap):Prop:=∀a o,H a=some o->cZ P w H h a o
end
section
variable{P:Program}{w:World}{H H':Hp}{h h':Heap}{a:Addr}{o:HO}
theorem cZ.lt(x:cZ P w H h a o):a<h.objs.size:=by
 cases o with
 |lst xs=>obtain⟨_,_,_,_,e⟩:=x;exact abh e
 |tup xs=>obtain⟨_,_,_,p⟩:=x;exact p.lt
 |dK ak=>obtain⟨_,_,_,_,o,_,_,e,_⟩:=x;exact abh e
 |dT ak=>obtain⟨_,_,_,_,o,_,_,e,_⟩:=x;exact abh e
 |set S n=>obtain⟨o,_,_,_,e,_⟩:=x;exact abh e
 |ins C dx fs=>obtain⟨_,_,_,e,_⟩:=x;exact abh e
 |own y=>obtain⟨_,e⟩:=x;exact abh e
 |xd fs=>obtain⟨_,⟨_,_,_,e,_⟩,_⟩:=x;exact abh e
 |aX lo hi=>obtain⟨_,_,_,e⟩:=x;exact abh e
 |d_ ob u=>obtain⟨e,_⟩:=x;exact abh e
 |rm ps=>exact abh (show h.get? a=some _ from x)
 |ie q pos=>obtain⟨_,e,_⟩:=x;exact abh e
 |jb q=>obtain⟨_,_,_,_,e,g,_⟩:=x;cases e;exact abh g
 |met f y=>exact abh (show h.get? a=some _ from x)
 |ext φ=>obtain⟨_,⟨_,e⟩,_⟩:=x;exact abh e
theorem Paired.y9{α β:Type}{F G:α->β->Prop}:∀{PL:List α}{LB:List β},Paired F PL LB->(∀a b,F a b->G a b)->Paired G PL LB
 |_,_,.nil,_=>.nil
 |_,_,.cons r t,f=>.cons (f _ _ r) (Paired.y9 t f)
theorem cZ.lQ(x:cZ P w H h a o)(k:∀b u,(b=a\/H b=some (.own a))->h.get? b=some u->h'.get? b=some u)
  (ho:∀b,H b=some (.own a)->H' b=some (.own a)) (ht:∀b (t:kP),H b=some t.ho->H' b=some t.ho):cZ P w H' h' a o:=by
 induction o with
 |lst xs=>obtain⟨z,au,n,r,e⟩:=x;exact⟨z,au,n,r,k _ _ (.inl rfl) e⟩
 |tup xs=>obtain⟨z,au,r,ob,e,c⟩:=x;exact⟨z,au,r,ob,k _ _ (.inl rfl) e,c⟩
 |dK ak=>obtain⟨z,y,vs,r,ob,es,ep,e,c⟩:=x;exact⟨z,y,vs,r,ob,es,ep,k _ _ (.inl rfl) e,c⟩
 |dT ak=>
  obtain⟨z,y,xs,r,ob,es,ep,e,c⟩:=x;exact⟨z,y,xs,Paired.y9 r λp q z=>⟨z.1,let⟨t,e,g⟩:=z.2.1;⟨t,e,ht _ t g⟩,z.2.2⟩,ob,es,ep,k _ _ (.inl rfl) e,c⟩
 |set S n=>obtain⟨ob,es,ep,t,e,c⟩:=x;exact⟨ob,es,ep,t,k _ _ (.inl rfl) e,c⟩
 |ins C dx fs=>
  obtain⟨d,z,ne,e,mA,⟨od,es,ep,e2,c⟩,r⟩:=x;exact⟨ho _ d,z,ne,k _ _ (.inl rfl) e,mA,⟨od,es,ep,k _ _ (.inr d) e2,c⟩,r⟩
 |own y=>obtain⟨ob,e⟩:=x;exact⟨ob,k _ _ (.inl rfl) e⟩
 |xd fs=>obtain⟨mA,⟨od,es,ep,e,c⟩,r⟩:=x;exact⟨mA,⟨od,es,ep,k _ _ (.inl rfl) e,c⟩,r⟩
 |aX lo hi=>obtain⟨t,u,v,e⟩:=x;exact⟨t,u,v,k _ _ (.inl rfl) e⟩
 |d_ ob u ih=>obtain⟨e,q⟩:=x;exact⟨k _ _ (.inl rfl) e,ih q⟩
 |ie q pos=>obtain⟨ps,e,g⟩:=x;exact⟨ps,k _ _ (.inl rfl) e,g.imp id λ⟨c,e1,e2⟩=>⟨c,e1,ht c (.jb q) e2⟩⟩
 |jb q=>obtain⟨_,o,vs,t,e,g,r⟩:=x;cases e;exact⟨_,o,vs,t,rfl,k _ _ (.inl rfl) g,r⟩
 |rm ps=>
  have e:=x;exact k a _ (.inl rfl) e
 |met f y=>
  have e:=x;exact k a _ (.inl rfl) e
 |ext φ=>obtain⟨p,⟨o,e⟩,st⟩:=x;exact⟨st _ _ p λo q=>k _ _ (.inl rfl) q,⟨o,k _ _ (.inl rfl) e⟩,st⟩
theorem dh.lt(x:dh P w H h)(e:H a=some o):a<h.objs.size:=(x a o e).lt
theorem dh.fresh(x:dh P w H h)(e:h.objs.size<=a):H a=none:=by
 cases q:H a with
 |none=>rfl
 |some u=>exact absurd (ac1 (x.lt q) e) (adC _)
theorem dh.kept(x:dh P w H h)(k:∀b u,h.get? b=some u->h'.get? b=some u):dh P w H h':=λa o e=>
 (x a o e).lQ (λb u _ q=>k b u q) (λ_ q=>q) λ_ _ q=>q
theorem dh.laid(x:dh P w H h)(k:∀b u,h.get? b=some u->h'.get? b=some u)(hp:h.objs.size<=a)(new:cZ P w (upd H a o) h' a o):dh P w (upd H a o) h':=λb u e=>by
 have hn:=x.fresh hp
 by_cases hb:b=a
 .subst hb;rw[cG] at e;cases e;exact new
 .rw[aO hb] at e;exact(x b u e).lQ (λc v _ q=>k c v q) (λc q=>by rw[aO (cK q hn)];exact q) λc xs q=>by rw[aO (cK q hn)];exact q
end
def Rd(H:Hp)(a:Addr)(u:HO):Prop:=H a=some u\/∃o,H a=some (.d_ o u)
theorem Rd.ok{P:Program}{w:World}{H:Hp}{h:Heap}{a:Addr}{u:HO}(r:Rd H a u)(x:dh P w H h):cZ P w H h a u:=by
 rcases r with r|⟨o,r⟩
 .exact x a u r
 .obtain⟨_,q⟩:=x a _ r;exact q
def vo:Option HO->Prop
 |some (.lst _)=>True
 |some (.dK _)=>True
 |some (.dT _)=>True
 |some (.set _ _)=>True
 |some (.ins _ _ _)=>True
 |some (.ext _)=>True
 |_=>False
section
variable{P:Program}{w:World}{H:Hp}{h h':Heap}{x e:Addr}{o':HO}
theorem dh.write(ok:dh P w H h)(mu:vo (H x))(he:e=x\/H e=some (.own x))(k:∀b u,b≠e->h.get? b=some u->h'.get? b=some u)(tW:∃u,h'.get? e=some u)
  (new:cZ P w (upd H x o') h' x o'):dh P w (upd H x o') h':=λb u q=>by
 have Ph:∀c y,H c=some (.own y)->c≠x:=λc y r z=>by subst z;rw[r] at mu;exact mu
 have ZH:∀c (t:kP),H c=some t.ho->c≠x:=λc t r z=>by subst z;rw[r] at mu;cases t<;>exact mu
 by_cases hb:b=x
 .subst hb;rw[cG] at q;cases q;exact new
 .rw[aO hb] at q
  by_cases qR:b=e
  .have q':H b=some (.own x):=by
    rcases he with z|z
    .exact absurd (qR.trans z) hb
    .rw[qR];exact z
   rw[q] at q';cases q';obtain⟨v,hv⟩:=tW;exact⟨v,by rw[qR];exact hv⟩
  .refine(ok b u q).lQ (λc v hc r=>k c v ?_ r) (λc r=>by rw[aO (Ph c b r)];exact r) λc xs r=>by rw[aO (ZH c xs r)];exact r
   rcases hc with rfl|hc
   .exact qR
   .rintro rfl
    rcases he with z|z
    .exact Ph c b hc z
    .rw[hc] at z;cases z;exact hb rfl
end
structure Un(fs ex:List Addr)(H H':Hp)(h h':Heap):Prop where
 keep:∀b o,h.get? b=some o->H b=none->b∉fs->b∉ex->h'.get? b=some o
 slot:∀b o,h.get? b=some o->H b=none->b∈fs->b∉ex->∃sl,h'.get? b=some { o with slots:=sl }
 free:∀b o,h.get? b=some o->H b=none->b∉ex->H' b=none
 there:∀b o,h.get? b=some o->b∉ex->∃o',h'.get? b=some o'
 kO:∀b (t:kP),H b=some t.ho->H' b=some t.ho
 kC:∀b o u,H b=some (.d_ o u)->H' b=some (.d_ o u)
 lN:∀b ps,H b=some (.rm ps)->∃more,H' b=some (.rm (ps++more))
section
variable{fs pU ex ex':List Addr}{H H1 H2:Hp}{h h1 h2 h':Heap}{a x e:Addr}{o:HO}
theorem Un.any(u:Un fs ex H H1 h h1){b:Addr}{ob:Obj}(q:h.get? b=some ob)(n:H b=none)(hx:b∉ex):∃sl,h1.get? b=some { ob with slots:=sl }:=by
 by_cases hb:b∈fs
 .exact u.slot b ob q n hb hx
 .exact⟨ob.slots,u.keep b ob q n hb hx⟩
theorem Un.kept(k:∀b u,h.get? b=some u->h'.get? b=some u):Un fs ex H H h h':=
 ⟨λb ob q _ _ _=>k b ob q,λb ob q _ _ _=>⟨ob.slots,k b ob q⟩,λ_ _ _ n _=>n,λb ob q _=>⟨ob,k b ob q⟩,λ_ _ q=>q,λ_ _ _ q=>q,λ_ ps q=>⟨#[],by rw[q];simp⟩⟩
theorem Un.refl:Un fs ex H H h h:=Un.kept λ_ _ q=>q
theorem Un.laid(k:∀b u,h.get? b=some u->h'.get? b=some u)(hp:h.objs.size<=a)(hn:H a=none):Un fs ex H (upd H a o) h h' where
 keep:=λb u q _ _ _=>k b u q
 slot:=λb u q _ _ _=>⟨u.slots,k b u q⟩
 free:=λb u q n _=>by rw[aO (acC (ac1 (abh q) hp))];exact n
 there:=λb u q _=>⟨u,k b u q⟩
 kO:=λb xs q=>by rw[aO (cK q hn)];exact q
 kC:=λb u xs q=>by rw[aO (cK q hn)];exact q
 lN:=λb ps q=>⟨#[],by rw[aO (cK q hn),q];simp⟩
theorem Un.write(mu:vo (H x))(he:e=x\/H e=some (.own x))(k:∀b u,b≠e->h.get? b=some u->h'.get? b=some u)(tW:∃u,h'.get? e=some u):Un fs ex H (upd H x o) h h':=by
 have hx:∀b,H b=none->b≠x:=λb n z=>by subst z;rw[n] at mu;exact mu
 have hb:∀b,H b=none->b≠e:=λb n z=>by
  subst z;rcases he with r|r
  .exact hx b n r
  .rw[n] at r;cases r
 have hm:∀b u,H b=some u->¬vo (some u)->b≠x:=λb u q nm z=>by subst z;rw[q] at mu;exact nm mu
 refine⟨λb u q n _ _=>k b u (hb b n) q,λb u q n _ _=>⟨u.slots,k b u (hb b n) q⟩,λb u q n _=>by rw[aO (hx b n)];exact n,λb u q _=>?_,
  λb xs q=>by rw[aO (hm b _ q (by cases xs<;>exact λz=>z))];exact q,λb u xs q=>by rw[aO (hm b _ q λz=>z)];exact q,λb ps q=>⟨#[],by rw[aO (hm b _ q λz=>z),q];simp⟩⟩
 by_cases qR:b=e
 .subst qR;exact tW
 .exact⟨u,k b u qR q⟩
end
noncomputable def A5(h:Heap)(H:Hp):List Addr:=(List.range h.objs.size).filter λa=>(H a).isSome
def pF(h:Heap)(H:Hp):Heap:=PySem.W.hideAll h (A5 h H)
theorem VX(h:Heap)(H:Hp):(pF h H).objs.size=h.objs.size:=PySem.W.hideAll_size _ _
theorem B8(e:h.get? b=some o)(n:H b=none):(pF h H).get? b=some o:=
 PySem.W.hideAll_get _ e λhm=>by
  have q:=(ab5.mp hm).2;rw[n] at q;simp at q
theorem Vp(e:(pF h H).get? b=some o):h.get? b=some o/\H b=none:=by
 have e':=PySem.W.of_hideAll (A5 h H) e;refine⟨e',?_⟩;cases q:H b with
 |none=>rfl
 |some x=>
  have hm:b∈A5 h H:=ab5.mpr ⟨aeS.mpr (abh e'),by simp[q]⟩;have z:(pF h H).get? b=none:=PySem.W.hideAll_none (A5 h H) hm;rw[z] at e;cases e
def Xe(g h:Heap)(L:Addr):List (Addr×Obj):=(List.range h.objs.size).filterMap λa=>if a=L\/(g.get? a).isSome=true then none else(h.get? a).map λo=>(a,o)
def rest(g h:Heap)(L d:Addr):List (Addr×Obj):=(Xe g h L).filter λp=>decide (p.1≠d)
structure Mod(K:PySem.W.Frag)(mg:Str->Option Value)(base:Heap):Prop where
 wR:K.In base
 glob:base.Ns mainGlobals mg
 blt:∃mb,base.Ns builtinsNs mb/\∀x:Str,x≠"__name__"->mb x=bootBuiltins x
 nolimit:base.NoLimit
 bmn:∃bm ob,mg "__builtins__"=some (.ref bm)/\bm≠builtinsNs/\base.get? bm=some ob/\ob.cls=.type "module"/\ob.dict=some builtinsNs/\ob.data=.plain
structure Cx where
 prog:Program
 w:World
 K:PySem.W.Frag
 mg:Str->Option Value
 base:Heap
 A:Around
 N:List Str
 dQ:Shared
 sC:Hp
 env:Env
 outer:List Env
 stack:List Env
 ex:List Addr
 fn:Str->Bool
 calm:Bool
 pn:List (Addr×Obj)
 xe:Value->Shared->Prop
noncomputable def cP(l:List Env):List Addr:=l.filterMap (·.frame)
abbrev Cx.fs(X:Cx):List Addr:=cP X.outer
def D4(sc:Scope)(x:Str):Prop:=sc.names.lookup x=some .local\/sc.names.lookup x=some .cell\/sc.names.lookup x=some .free
def Loc(sc:Scope)(x:Str):Prop:=sc.names.lookup x=some .local\/sc.names.lookup x=some .cell
def Look(env:Env)(h:Heap)(m:Str->Option Value)(x:Str)(u:Value):Prop:=
 (env.kindOf x=some .local/\m x=some u)\/((env.kindOf x=some .cell\/env.kindOf x=some .free)/\∃c,env.cells.lookup x=some c/\h.IsCell c (some u))
structure Cx.Ok(X:Cx):Prop where
 mod:Mod X.K X.mg X.base
 kind:X.env.scope.kind=.function
 glob:X.env.globals=mainGlobals
 blt:X.env.builtins=builtinsNs
 above:X.dQ.heap.objs.size<=X.env.locals
 inj:∀x y c,X.env.cells.lookup x=some c->X.env.cells.lookup y=some c->x=y
 has:∀x,(X.env.kindOf x=some .cell\/X.env.kindOf x=some .free)->∃c,X.env.cells.lookup x=some c
 sU:∀x c,X.fn x=true->X.env.cells.lookup x=some c->X.dQ.heap.objs.size<=c
 hd:X.calm=true->X.A.handled=none
 frames:X.A.frames=some X.stack
 wC:X.stack=X.outer\/(X.stack=X.env::X.outer/\X.env.frame=some X.env.locals)
 Br:∀b∈X.ex,b≠X.env.locals/\∀x c,X.env.cells.lookup x=some c->c≠b
 bs:∀b o,X.base.get? b=some o->X.dQ.heap.get? b=some o/\X.sC b=none
 jP:X.base.objs.size<=X.dQ.heap.objs.size
 tF:∀b o,X.base.get? b=some o->b∉X.ex
 ux:∀b∈X.ex,b∉X.fs
 jX:X.dQ.heap.FunFrames X.base X.outer
 qq:∀b∈X.fs,X.sC b=none
def vv(A:Around)(H:Hp):Prop:=A.handled=none\/∃(a:Addr) (ob:Obj) (u:HO) (vs:Array Value),A.handled=some (.ref a)/\H a=some (.d_ ob u)/\ob.data=.fields vs/\vs[2]? = some .none
theorem vv.mono{A:Around}{H H':Hp}(h:vv A H)(f:∀b o u,H b=some (.d_ o u)->H' b=some (.d_ o u)):vv A H':=h.elim .inl λ⟨a,ob,u,vs,h1,h2,h3⟩=>.inr ⟨a,ob,u,vs,h1,f _ _ _ h2,h3⟩
structure Hq(K:PySem.W.Frag)(A:Around)(H:Hp):Prop where
 hd:vv A H
 ok:wW K=true
 lm:∀r∈iG K,H r.2.1=some (.ie r.2.2.1 r.2.2.2)
theorem Hq.mono{K:PySem.W.Frag}(h:Hq K A H)(f:∀b o u,H b=some (.d_ o u)->H' b=some (.d_ o u))(g:∀b (t:kP),H b=some t.ho->H' b=some t.ho):Hq K A H':=
 ⟨h.hd.mono f,h.ok,λr m=>g _ (.ie _ _) (h.lm r m)⟩
structure Inv(X:Cx)(af:List (Addr×Obj))(σ:List (Option V))(H:Hp)(s:Shared):Prop where
 ok:X.Ok
 os:s.os=X.dQ.os
 bare:AllBare s.gens
 base:Un X.fs X.ex X.sC H X.dQ.heap s.heap
 loc:∃m,s.heap.Ns X.env.locals m/\∀(i:Nat) (x:Str) (v:V),X.N[i]? = some x->σ[i]? = some (some v)->D4 X.env.scope x->∃u,RelV v u/\Look X.env s.heap m x u
 cell:∀x c,X.env.cells.lookup x=some c->∃v,s.heap.IsCell c v
 free:H X.env.locals=none
 jq:∀x c,X.env.cells.lookup x=some c->H c=none
 pin:∀p∈X.pn++af,s.heap.get? p.1=some p.2/\H p.1=none/\p.1≠X.env.locals/\p.1∉X.fs/\∀v,p.2.data≠.cell v
 aH:dh X.prog X.w H s.heap
 len:σ.length=X.N.length
 hq:Hq X.K X.A H
section
variable{X:Cx}{af:List (Addr×Obj)}{σ:List (Option V)}{H H':Hp}{s:Shared}{h':Heap}
theorem Cx.Ok.R6(ok:X.Ok)(e:X.base.get? b=some o):b∉X.fs:=λhb=>by
 have:=(ok.jX.mem hb).1;rw[e] at this;cases this
theorem Inv.bs(I:Inv X af σ H s):∀b o,X.base.get? b=some o->s.heap.get? b=some o/\H b=none:=λb o e=>
 ⟨I.base.keep b o (I.ok.bs b o e).1 (I.ok.bs b o e).2 (I.ok.R6 e) (I.ok.tF b o e),I.base.free b o (I.ok.bs b o e).1 (I.ok.bs b o e).2 (I.ok.tF b o e)⟩
theorem Inv.bk(I:Inv X af σ H s):∀b o,X.base.get? b=some o->s.heap.get? b=some o:=λb o e=>(I.bs b o e).1
theorem Inv.mod(I:Inv X af σ H s):Mod X.K X.mg X.base:=I.ok.mod
theorem Inv.dR(I:Inv X af σ H s):X.K.In s.heap:=I.ok.mod.wR.keeps I.bk
theorem Inv.lt(I:Inv X af σ H s):X.env.locals<s.heap.objs.size:=let⟨_,hn,_⟩:=I.loc;hn.lt
theorem Inv.sz(I:Inv X af σ H s):X.dQ.heap.objs.size<=s.heap.objs.size:=ado I.ok.above (adO I.lt)
theorem Inv.Iz(I:Inv X af σ H s)(h:s.heap.objs.size<=a):a∉X.fs:=λhb=>by
 obtain⟨_,o,ho,_⟩:=I.ok.jX.mem hb;exact absurd (ac1 (abh ho) (ado I.sz h)) (adC _)
theorem Inv.lO(I:Inv X af σ H s):∀x c,X.env.cells.lookup x=some c->c≠X.env.locals:=λx c e z=>by
 obtain⟨v,o,ho,hd⟩:=I.cell x c e;obtain⟨m,⟨o',es,ep,ly,HB,_⟩,_⟩:=I.loc;rw[z,ly] at ho;cases ho;rw[HB] at hd;cases hd
theorem Inv.jX(I:Inv X af σ H s):s.heap.FunFrames X.base X.outer:=by
 have all:∀(l:List Env),(∀b∈cP l,b∈X.fs)->X.dQ.heap.FunFrames X.base l->s.heap.FunFrames X.base l:=by
  intro l
  induction l with
  |nil=>intro _ _;trivial
  |cons env r ih=>
   intro hs hl;obtain⟨hk,⟨L,o,hf,hn,ho,hd⟩,hr⟩:=hl;have hL:=hs L (by unfold cP;rw[adv,hf];exact aam);obtain⟨sl,e⟩:=I.base.slot L o ho (I.ok.qq L hL) hL λz=>I.ok.ux L z hL
   exact⟨hk,⟨L,_,hf,hn,e,hd⟩,ih (λb hb=>hs b (by unfold cP;rw[adv,hf];exact aal _ hb)) hr⟩
 exact all X.outer (λ_ hb=>hb) I.ok.jX
theorem Inv.stack(I:Inv X af σ H s):s.heap.FunFrames X.base X.stack:=by
 rcases I.ok.wC with e|⟨e,hf⟩
 .rw[e];exact I.jX
 .rw[e];obtain⟨m,hn,_⟩:=I.loc;refine .cons (by rw[I.ok.kind];decide) hf hn ?_ I.jX;exact aex (ado I.ok.jP I.ok.above)
theorem Inv.Ef(I:Inv X af σ H s):∀b∈cP X.stack,b∈X.env.locals::X.fs:=λb hb=>by
 rcases I.ok.wC with e|⟨e,hf⟩
 .rw[e] at hb;exact aal _ hb
 .rw[e] at hb;unfold cP at hb;rw[adv,hf] at hb;exact hb
theorem Inv.BU(I:Inv X af σ H s):∀b∈cP X.stack,H b=none:=λb hb=>by
 rcases aaV.mp (I.Ef b hb) with e|hb
 .rw[e];exact I.free
 .obtain⟨_,o,ho,_⟩:=I.ok.jX.mem hb;exact I.base.free b o ho (I.ok.qq b hb) λz=>I.ok.ux b z hb
theorem Inv.step{g':Array GenState}{d':Drawn}{ch:List Addr}(I:Inv X af σ H s)
  (mJ:∀b∈ch,(b∈X.ex\/X.dQ.heap.objs.size<=b)/\b≠X.env.locals/\(∀x c,X.env.cells.lookup x=some c->c≠b)/\∀p∈X.pn++af,p.1≠b)
  (keep:∀b o,b≠X.env.locals->b∉X.fs->b∉ch->s.heap.get? b=some o->H b=none->h'.get? b=some o)
  (slot:∀b o,b≠X.env.locals->b∈X.fs->b∉ch->s.heap.get? b=some o->H b=none->∃sl,h'.get? b=some { o with slots:=sl }) (free:∀b o,b∉ch->s.heap.get? b=some o->H b=none->H' b=none)
  (there:∀b o,b∉ch->s.heap.get? b=some o->∃o',h'.get? b=some o')
  (kO:∀b (t:kP),H b=some t.ho->H' b=some t.ho) (kC:∀b o u,H b=some (.d_ o u)->H' b=some (.d_ o u)) (lN:∀b ps,H b=some (.rm ps)->∃more,H' b=some (.rm (ps++more)))
  (ns:∀m,s.heap.Ns X.env.locals m->h'.Ns X.env.locals m) (aH:dh X.prog X.w H' h') (hg:AllBare g') :
  Inv X af σ H' { s with heap:=h',gens:=g',drawn:=d',toks:=t' }:=by
 have J4:∀b o,X.dQ.heap.get? b=some o->b≠X.env.locals:=λb o e=>acC (ac1 (abh e) I.ok.above)
 have AR:∀b o,X.dQ.heap.get? b=some o->b∉X.ex->b∉ch:=λb o e hx hb=>by
  rcases(mJ b hb).1 with z|z
  .exact hx z
  .exact absurd (ac1 (abh e) z) (adC _)
 have cellK:∀x c,X.env.cells.lookup x=some c->∀v,s.heap.IsCell c v->h'.IsCell c v:=λx c e v ⟨o,ho,hd⟩=>by
  have k9:c∉ch:=λz=>(mJ c z).2.2.1 x c e rfl
  by_cases hc:c∈X.fs
  .obtain⟨sl,q⟩:=slot c o (I.lO x c e) hc k9 ho (I.jq x c e);exact⟨_,q,hd⟩
  .exact⟨o,keep c o (I.lO x c e) hc k9 ho (I.jq x c e),hd⟩
 refine⟨I.ok,I.os,hg,⟨λb o e n hb hx=>?_,λb o e n hb hx=>?_,λb o e n hx=>?_,λb o e hx=>?_,λb xs e=>kO b xs (I.base.kO b xs e),λb o xs e=>kC b o xs (I.base.kC b o xs e),λb ps e=>?_⟩,?_,λx c e=>?_,?_,λx c e=>?_,λp hp=>?_,aH,I.len,I.hq.mono kC kO⟩
 .exact keep b o (J4 b o e) hb (AR b o e hx) (I.base.keep b o e n hb hx) (I.base.free b o e n hx)
 .obtain⟨sl,e1⟩:=I.base.slot b o e n hb hx;obtain⟨WM,e2⟩:=slot b _ (J4 b o e) hb (AR b o e hx) e1 (I.base.free b o e n hx);exact⟨WM,e2⟩
 .obtain⟨o',e1⟩:=I.base.there b o e hx;exact free b o' (AR b o e hx) e1 (I.base.free b o e n hx)
 .obtain⟨o',e1⟩:=I.base.there b o e hx;exact there b o' (AR b o e hx) e1
 .obtain⟨m1,e1⟩:=I.base.lN b ps e;obtain⟨m2,e2⟩:=lN b _ e1;exact⟨m1++m2,by rw[e2,Array.append_assoc]⟩
 .obtain⟨m,hn,hl⟩:=I.loc;refine⟨m,ns m hn,λi x v e1 e2 e3=>?_⟩;obtain⟨u,r,l⟩:=hl i x v e1 e2 e3;refine⟨u,r,?_⟩;rcases l with l|⟨k,c,e,z⟩
  .exact .inl l
  .exact .inr ⟨k,c,e,cellK x c e _ z⟩
 .obtain⟨v,z⟩:=I.cell x c e;exact⟨v,cellK x c e v z⟩
 .obtain⟨m,⟨o,_,_,ho,_⟩,_⟩:=I.loc;exact free _ o (λz=>(mJ _ z).2.1 rfl) ho I.free
 .obtain⟨v,o,ho,hd⟩:=I.cell x c e;exact free c o (λz=>(mJ c z).2.2.1 x c e rfl) ho (I.jq x c e)
 .obtain⟨e,n,ne,nf,d⟩:=I.pin p hp;have k9:p.1∉ch:=λz=>(mJ p.1 z).2.2.2 p hp rfl
  exact⟨keep p.1 p.2 ne nf k9 e n,free p.1 p.2 k9 e n,ne,nf,d⟩
theorem Inv.un(I:Inv X af σ H s)(u:Un X.fs [] H H' s.heap h')(aH:dh X.prog X.w H' h'):Inv X af σ H' { s with heap:=h',toks:=t' }:=by
 obtain⟨m,⟨o,es,ep,ho,r⟩,_⟩:=id I.loc;obtain⟨sl,hL⟩:=u.any ho I.free (by simp);exact I.step (g':=s.gens) (d':=s.drawn) (ch:=[]) (λ_ z=>nomatch z) (λb o _ hb _ e n=>u.keep b o e n hb (by simp)) (λb o _ hb _ e n=>u.slot b o e n hb (by simp)) (λb o _ e n=>u.free b o e n (by simp)) (λb o _ e=>u.there b o e (by simp)) u.kO u.kC u.lN (λm' hm=>by
  obtain⟨o',qf,v7,ly,r'⟩:=hm;rw[ho] at ly;cases ly;exact⟨_,qf,v7,hL,r'⟩) aH I.bare
theorem Inv.call{g':Array GenState}{d':Drawn}(I:Inv X af σ H s)(u:Un (cP X.stack) ch H H' s.heap h')(aH:dh X.prog X.w H' h')(hg:AllBare g')
  (mJ:∀b∈ch,(b∈X.ex\/X.dQ.heap.objs.size<=b)/\b≠X.env.locals/\(∀x c,X.env.cells.lookup x=some c->c≠b)/\∀p∈X.pn++af,p.1≠b) :
  Inv X af σ H' { s with heap:=h',gens:=g',drawn:=d',toks:=t' }:=by
 obtain⟨m,⟨o,es,ep,ho,r⟩,_⟩:=id I.loc;obtain⟨sl,hL⟩:=u.any ho I.free λz=>(mJ _ z).2.1 rfl
 exact I.step (ch:=ch) mJ (λb o hL hb hc e n=>u.keep b o e n (λz=>(aaV.mp (I.Ef b z)).elim hL hb) hc) (λb o _ _ hc e n=>u.any e n hc) (λb o hc e n=>u.free b o e n hc) (λb o hc e=>u.there b o e hc) u.kO u.kC u.lN (λm' hm=>by
  obtain⟨o',qf,v7,ly,r'⟩:=hm;rw[ho] at ly;cases ly;exact⟨_,qf,v7,hL,r'⟩) aH hg
theorem Inv.turned(I:Inv X af σ H s)(k:∀b o,b≠it->s.heap.get? b=some o->h'.get? b=some o)(hn:H it=none)(hL:it≠X.env.locals)
  (h1:it∈X.ex\/X.dQ.heap.objs.size<=it) (h2:∀x c,X.env.cells.lookup x=some c->c≠it) (h3:∀p∈X.pn++af,p.1≠it):Inv X af σ H { s with heap:=h',toks:=t' }:=by
 have NH:∀b u,H b=some u->b≠it:=λb u e z=>by rw[z,hn] at e;cases e
 refine I.step (g':=s.gens) (d':=s.drawn) (ch:=[it]) (λb hb=>?_) (λb o _ _ hc e _=>k b o (λz=>hc (by simp[z])) e) (λb o _ _ hc e _=>⟨o.slots,k b o (λz=>hc (by simp[z])) e⟩) (λ_ _ _ _ n=>n)
  (λb o hc e=>⟨o,k b o (λz=>hc (by simp[z])) e⟩) (λ_ _ e=>e) (λ_ _ _ e=>e) (λb ps e=>⟨#[],by rw[e];simp⟩) (λm hm=>?_) (λb u e=>?_) I.bare
 .have e:b=it:=by simpa using hb
  subst e;exact⟨h1,hL,h2,h3⟩
 .obtain⟨o,es,ep,ho,r⟩:=hm;exact⟨o,es,ep,k _ o (adW hL) ho,r⟩
 .refine(I.aH b u e).lQ (λc v hc q=>k c v ?_ q) (λ_ q=>q) λ_ _ q=>q
  rcases hc with z|z
  .rw[z];exact NH b u e
  .exact NH c _ z
theorem Inv.tok(I:Inv X af σ H s)(t:Nat):Inv X af σ H { s with toks:=t }:=I.un Un.refl I.aH
theorem Inv.kept(I:Inv X af σ H s)(k:∀b u,s.heap.get? b=some u->h'.get? b=some u):Inv X af σ H { s with heap:=h',toks:=t' }:=I.un (Un.kept k) (I.aH.kept k)
theorem Inv.laid{o:HO}(I:Inv X af σ H s)(k:∀b u,s.heap.get? b=some u->h'.get? b=some u)(hp:s.heap.objs.size<=a)(new:cZ X.prog X.w (upd H a o) h' a o):
  Inv X af σ (upd H a o) { s with heap:=h',toks:=t' }:=I.un (Un.laid k hp (I.aH.fresh hp)) (I.aH.laid k hp new)
theorem Inv.write{o:HO}(I:Inv X af σ H s)(mu:vo (H x))(he:e=x\/H e=some (.own x))(k:∀b u,b≠e->s.heap.get? b=some u->h'.get? b=some u)(tW:∃u,h'.get? e=some u)
  (new:cZ X.prog X.w (upd H x o) h' x o):Inv X af σ (upd H x o) { s with heap:=h',toks:=t' }:=I.un (Un.write mu he k tW) (I.aH.write mu he k tW new)
theorem Inv.r9(I:Inv X af σ H s)(h:∀p∈MB,s.heap.get? p.1=some p.2/\H p.1=none/\p.1≠X.env.locals/\p.1∉X.fs/\∀v,p.2.data≠.cell v):Inv X MB σ H s:=
 ⟨I.ok,I.os,I.bare,I.base,I.loc,I.cell,I.free,I.jq,λp hp=>(abo.mp hp).elim (λz=>I.pin p (abb _ z)) (h p),I.aH,I.len,I.hq⟩
theorem IK{N:List Str}(hN:N.Nodup){i j:Nat}(a:N[i]? = some x)(b:N[j]? = some x):i=j:=by
 obtain⟨h1,e1⟩:=abf.mp a;obtain⟨h2,e2⟩:=abf.mp b;exact(List.getElem_inj hN).mp (e1.trans e2.symm)
theorem ID{Q:Unit->Shared->Prop}(I:Inv X af σ H s)(hN:X.N.Nodup)(hi:X.N[i]? = some x)(hx:Loc X.env.scope x)(r:RelV v u)
  (h:∀s',Inv X af (σ.set i (some v)) H s'->(∃a,Heap.SameBut a s.heap s'.heap/\(a=X.env.locals\/X.env.cells.lookup x=some a))->Q () s') (hf:X.fn x=true\/X.env.scope.names.lookup x=some .local:=by first|exact .inl rfl|exact .inr rfl|assumption):wpAny M A (storeName X.env x u) Q E s:=by
 obtain⟨m,hn,hl⟩:=id I.loc;have abH:(X.env.scope.kind == .class||(X.env.scope.kind == .module&&X.env.locals != X.env.globals))=false:=by rw[I.ok.kind];rfl
 have PB:i<σ.length:=by rw[I.len];exact(abf.mp hi).1
 have lO:=I.lO;have tracked:∀{a:Addr}{h':Heap},(∃o,s.heap.get? a=some o/\H a=none)->Heap.SameBut a s.heap h'->dh X.prog X.w H h':=λ{a h'} ha hs b ob e=>by
  obtain⟨_,_,Jc⟩:=ha;refine(I.aH b ob e).lQ (λc w' hc q=>(hs.2 c ?_).trans q) (λ_ q=>q) λ_ _ q=>q
  rintro rfl
  rcases hc with rfl|hc
  .rw[Jc] at e;cases e
  .rw[Jc] at hc;cases hc
 rcases hx with hk|hk
 .refine wpAny_storeName_local hk hn (λh' Xb hs=>?_) abH;obtain⟨oL,_,_,Ah,_⟩:=id hn;refine h _ ⟨I.ok,I.os,I.bare,⟨λb o e n hb hx=>?_,λb o e n hb hx=>?_,I.base.free,λb o e hx=>?_,I.base.kO,I.base.kC,I.base.lN⟩,⟨_,Xb,λj y v' e1 e2 e3=>?_⟩,λy c e=>?_,I.free,I.jq,λp hp=>?_,tracked ⟨oL,Ah,I.free⟩ hs,by simpa using I.len,I.hq⟩ ⟨_,hs,.inl rfl⟩
  .exact(hs.2 b (acC (ac1 (abh e) I.ok.above))).trans (I.base.keep b o e n hb hx)
  .obtain⟨sl,e1⟩:=I.base.slot b o e n hb hx;exact⟨sl,(hs.2 b (acC (ac1 (abh e) I.ok.above))).trans e1⟩
  .obtain⟨o',e1⟩:=I.base.there b o e hx;exact⟨o',(hs.2 b (acC (ac1 (abh e) I.ok.above))).trans e1⟩
  .by_cases hj:j=i
   .subst hj;rw[hi] at e1;cases e1;rw[adB PB] at e2;cases e2;exact⟨u,r,.inl ⟨hk,by simp⟩⟩
   .rw[acO (adW hj)] at e2;obtain⟨u',r',q⟩:=hl j y v' e1 e2 e3;refine⟨u',r',?_⟩;rcases q with⟨k,e⟩|⟨k,c,e,z⟩
    .refine .inl ⟨k,?_⟩;have:y≠x:=λe=>hj (IK hN e1 (e ▸ hi))
     simp[this,e]
    .exact .inr ⟨k,c,e,z.sameBut hs (lO y c e)⟩
  .obtain⟨w',z⟩:=I.cell y c e;exact⟨w',z.sameBut hs (lO y c e)⟩
  .obtain⟨e,n,ne,nf,d⟩:=I.pin p hp;exact⟨(hs.2 p.1 ne).trans e,n,ne,nf,d⟩
 .have Di:X.fn x=true:=by
   rcases hf with z|z
   .exact z
   .rw[z] at hk;cases hk
  obtain⟨c,hc⟩:=I.ok.has x (.inl hk);obtain⟨w',z⟩:=I.cell x c hc;refine wpAny_storeName_cell I.ok.kind hk hc z (λh' qM hs=>?_);obtain⟨oc,kg,T3⟩:=id z;refine h { s with heap:=h' } ⟨I.ok,I.os,I.bare,⟨λb o e n hb hx=>?_,λb o e n hb hx=>?_,I.base.free,λb o e hx=>?_,I.base.kO,I.base.kC,I.base.lN⟩,⟨m,hn.sameBut hs (adW (lO x c hc)),λj y v' e1 e2 e3=>?_⟩,λy c' e=>?_,I.free,I.jq,λp hp=>?_,tracked ⟨oc,kg,I.jq x c hc⟩ hs,by simpa using I.len,I.hq⟩ ⟨c,hs,.inr hc⟩
  .exact(hs.2 b (acC (ac1 (abh e) (I.ok.sU x c Di hc)))).trans (I.base.keep b o e n hb hx)
  .obtain⟨sl,e1⟩:=I.base.slot b o e n hb hx;exact⟨sl,(hs.2 b (acC (ac1 (abh e) (I.ok.sU x c Di hc)))).trans e1⟩
  .obtain⟨o',e1⟩:=I.base.there b o e hx;exact⟨o',(hs.2 b (acC (ac1 (abh e) (I.ok.sU x c Di hc)))).trans e1⟩
  .by_cases hj:j=i
   .subst hj;rw[hi] at e1;cases e1;rw[adB PB] at e2;cases e2;exact⟨u,r,.inr ⟨.inl hk,c,hc,qM⟩⟩
   .rw[acO (adW hj)] at e2;obtain⟨u',r',q⟩:=hl j y v' e1 e2 e3;refine⟨u',r',?_⟩;rcases q with q|⟨k,c',e,z'⟩
    .exact .inl q
    .refine .inr ⟨k,c',e,z'.sameBut hs ?_⟩
     rintro rfl
     exact hj (IK hN e1 (I.ok.inj _ _ _ e hc ▸ hi))
  .by_cases PK:c'=c
   .subst PK;exact⟨_,qM⟩
   .obtain⟨w2,z2⟩:=I.cell y c' e;exact⟨w2,z2.sameBut hs PK⟩
  .obtain⟨e,n,ne,nf,d⟩:=I.pin p hp;refine⟨(hs.2 p.1 ?_).trans e,n,ne,nf,d⟩;intro q;rw[q,kg] at e;have q':=abO e;exact d w' (by rw[<- q'];exact T3)
theorem Ey{Q:Unit->Shared->Prop}(I:Inv X af σ H s)(hN:X.N.Nodup)(hi:X.N[i]? = some x)(hx:Loc X.env.scope x)(r:RelV v u)
  (h:∀s',Inv X af (σ.set i (some v)) H s'->Q () s') (hf:X.fn x=true\/X.env.scope.names.lookup x=some .local:=by first|exact .inl rfl|exact .inr rfl|assumption):wpAny M A (storeName X.env x u) Q E s:=
 ID I hN hi hx r (λs' I' _=>h s' I') hf
theorem Inv.Vm(I:Inv X af σ H s)(ho:s'.os=s.os)(u:Un (cP X.stack) ch H H' s.heap s'.heap)(aH:dh X.prog X.w H' s'.heap)(hg:AllBare s'.gens)
  (mJ:∀b∈ch,(b∈X.ex\/X.dQ.heap.objs.size<=b)/\b≠X.env.locals/\(∀x c,X.env.cells.lookup x=some c->c≠b)/\∀p∈X.pn++af,p.1≠b):Inv X af σ H' s':=by
 obtain⟨h',g',d',t',o'⟩:=s';have e:=ho;subst e;exact I.call (g':=g') (d':=d') u aH hg mJ
end
abbrev XK:=Value->Option Addr->Hp->Prop
noncomputable abbrev St:=List (Option V)
abbrev VK:=V->Hp->Prop
abbrev TE:=St->Hp->VK->Prop
abbrev TT:=St->Hp->(Bool->Hp->Prop)->Prop
abbrev TA:=St->Hp->(List V->Hp->Prop)->Prop
structure Ends where
 nx:St->Hp->Prop
 rt:VK
 bk:St->Hp->Prop:=λ_ _=>False
 ct:St->Hp->Prop:=λ_ _=>False
abbrev TS:=Ends->St->Hp->Prop
def EP(X:Cx)(af:List (Addr×Obj))(σ:St)(Q:VK)(u:Value)(s':Shared):Prop:=∃v H',Inv X af σ H' s'/\RelV v u/\Q v H'
def TP(X:Cx)(af:List (Addr×Obj))(σ:St)(Q:Bool->Hp->Prop)(b:Bool)(s':Shared):Prop:=∃H',Inv X af σ H' s'/\Q b H'
def AP(X:Cx)(af:List (Addr×Obj))(σ:St)(Q:List V->Hp->Prop)(us:List Value)(s':Shared):Prop:=∃vs H',Inv X af σ H' s'/\aQ vs us/\Q vs H'
def SP(X:Cx)(af:List (Addr×Obj))(D:Ends)(f:Flow)(s':Shared):Prop:=
 match f with
 |.next=>∃aC H',Inv X af aC H' s'/\D.nx aC H'
 |.brk=>∃aC H',Inv X af aC H' s'/\D.bk aC H'
 |.cont=>∃aC H',Inv X af aC H' s'/\D.ct aC H'
 |.ret u=>∃v aC H',Inv X af aC H' s'/\RelV v u/\D.rt v H'
def PE(X:Cx)(e:Expr)(t:TE):Prop:=
 ∀(af:List (Addr×Obj)) (s:Shared) (σ:St) (H:Hp) (Q:VK),Inv X af σ H s->t σ H Q->wpAny (model X.prog X.w) X.A (eval e X.env) (EP X af σ Q) X.xe s
def PT(X:Cx)(e:Expr)(t:TT):Prop:=
 ∀(af:List (Addr×Obj)) (s:Shared) (σ:St) (H:Hp) (Q:Bool->Hp->Prop),Inv X af σ H s->t σ H Q->wpAny (model X.prog X.w) X.A (isTrue e X.env (eval e X.env)) (TP X af σ Q) X.xe s
def PW(X:Cx)(e:Expr)(t:TT):Prop:=
 ∀(whole:Sem Value) (af:List (Addr×Obj)) (s:Shared) (σ:St) (H:Hp) (Q:Bool->Hp->Prop),Inv X af σ H s->t σ H Q->wpAny (model X.prog X.w) X.A (isTrue e X.env whole) (TP X af σ Q) X.xe s
theorem PW.pt{t:TT}(h:PW X e t):PT X e t:=h _
def PA(X:Cx)(es:List Expr)(t:TA):Prop:=
 ∀(pos:Pos) (af:List (Addr×Obj)) (s:Shared) (σ:St) (H:Hp) (Q:List V->Hp->Prop),Inv X af σ H s->t σ H Q->wpAny (model X.prog X.w) X.A (spliced (backTo pos (starEach es X.env))) (AP X af σ Q) X.xe s
def PS(X:Cx)(st:Stmt)(t:TS):Prop:=
 ∀(af:List (Addr×Obj)) (s:Shared) (σ:St) (H:Hp) (D:Ends),Inv X af σ H s->t D σ H->wpAny (model X.prog X.w) X.A (exec st X.env) (SP X af D) X.xe s
def gJ(X:Cx)(st:List Stmt)(t:TS):Prop:=
 ∀(af:List (Addr×Obj)) (s:Shared) (σ:St) (H:Hp) (D:Ends),Inv X af σ H s->t D σ H->wpAny (model X.prog X.w) X.A (execs st X.env) (SP X af D) X.xe s
theorem aL{α:Type}{t:Sem α}{Q Q':α->Shared->Prop}(h:wpAny M A t Q E s)(hQ:∀a s,Q a s->Q' a s):wpAny M A t Q' E s:=adH h hQ λ_ _ x=>x
section
variable{X:Cx}
def Ck(i:Nat):TE:=λσ H Q=>∃v,σ[i]? = some (some v)/\Q v H
def tC(v:V):TE:=λ_ H Q=>Q v H
theorem Uk(hN:X.N[i]? = some x)(hv:D4 X.env.scope x)(hd:(x==("__debug__":Str))=false:=by decide)(mW:(x==("__classdict__":Str))=false:=by decide):PE X (.Name x pos) (Ck i):=by
 intro af s σ H Q I h;obtain⟨v,e,h⟩:=h;obtain⟨m,hn,hl⟩:=I.loc;obtain⟨u,r,l⟩:=hl i x v hN e hv;have fin:EP X af σ Q u s:=⟨v,H,I,r,h⟩
 rcases l with⟨hk,hm⟩|⟨hk,c,hc,Km⟩
 .exact wpAny_Name (wpAny_loadName_local I.ok.kind hk hn hm fin) hd
 .rcases hk with hk|hk
  .exact wpAny_Name (wpAny_loadName_cell I.ok.kind hk hc Km fin) hd
  .exact wpAny_Name (wpAny_loadName_free I.ok.kind hk hc Km fin mW) hd
theorem OE{i j pos}:PE X (.Constant (.int i) j pos) (tC (.int i)):=λ_ _ _ H _ I h=>wpAny_Constant_int ⟨.int i,H,I.tok _,⟨_,rfl⟩,h⟩
theorem Rf{b j pos}:PE X (.Constant (.bool b) j pos) (tC (.bl b)):=λ_ _ _ H _ I h=>Constant_bool ⟨.bl b,H,I,rfl,h⟩
theorem Ul{j pos}:PE X (.Constant .none j pos) (tC .aA):=λ_ _ _ H _ I h=>Constant_none ⟨.aA,H,I,rfl,h⟩
theorem ZW{x j pos}:PE X (.Constant (.str x) j pos) (tC (.str x)):=λ_ _ _ H _ I h=>Calls.Constant_str ⟨.str x,H,I.tok _,⟨_,rfl⟩,h⟩
def Gl(X:Cx)(x:Str):Prop:=X.env.kindOf x=some .globalImplicit
theorem yy(I:Inv X af σ H s)(hg:Gl X x)(hm:X.mg x=some u)(h:Q u s)
  (hd:(x==("__debug__":Str))=false:=by decide):wpAny (model X.prog X.w) X.A (eval (.Name x pos) X.env) Q E s:=
 Calls.Name_function_global I.ok.kind hg (Calls.loadGlobal_global (by rw[I.ok.glob];exact I.mod.glob.keeps I.bk) hm h) hd
theorem qu(I:Inv X af σ H s)(hg:Gl X x)(hm:X.mg x=none)(hv:bootBuiltins x=some u)(h:Q u s)
  (hn:x≠"__name__":=by decide) (hd:(x==("__debug__":Str))=false:=by decide):wpAny (model X.prog X.w) X.A (eval (.Name x pos) X.env) Q E s:=by
 obtain⟨mb,h1,h2⟩:=I.mod.blt;exact Calls.Name_function_global I.ok.kind hg (Calls.loadGlobal_builtin (by rw[I.ok.glob];exact I.mod.glob.keeps I.bk) hm (by rw[I.ok.blt];exact h1.keeps I.bk) ((h2 x hn).trans hv) h) hd
theorem KZ(hg:Gl X x)(hm:X.mg x=some u)(r:RelV v u)(hd:(x==("__debug__":Str))=false:=by decide):PE X (.Name x pos) (tC v):=
 λ_ _ _ H _ I h=>yy I hg hm ⟨v,H,I,r,h⟩ hd
theorem Xm{x:Str}{v:V}{u:Value}{pos:Pos}(hg:Gl X x)(hm:X.mg x=none)(hv:bootBuiltins x=some u)(r:RelV v u)(hn:x≠"__name__":=by decide)(hd:(x==("__debug__":Str))=false:=by decide):PE X (.Name x pos) (tC v):=
 λ_ _ _ H _ I h=>qu I hg hm hv ⟨v,H,I,r,h⟩ hn hd
variable{a b:Expr}{ta tb:TE}{pos:Pos}
def PC(X:Cx)(op:CmpOp)(a b:Expr)(t:TE):Prop:=
 ∀(af:List (Addr×Obj)) (s:Shared) (σ:St) (H:Hp) (Q:VK),Inv X af σ H s->t σ H Q->
  wpAny (model X.prog X.w) X.A (eval a X.env) (λv bI=>wpAny (model X.prog X.w) X.A (eval b X.env) (λu oZ=>wpAny (model X.prog X.w) X.A (compareOp op v u) (EP X af σ Q) X.xe oZ) X.xe bI) X.xe s
def tB(t:TE):TT:=λσ H Q=>t σ H λx H1=>∃c,x=.bl c/\Q c H1
theorem KL{op:CmpOp}(h:PC X op a b t)(h1:behindInMarks op b=false:=by first|exact SQ _ (by decide) (by decide)|rfl):PE X (.Compare a [op] [b] pos) t:=λaf s σ H Q I hw=>wpAny_Compare1 (h af s σ H Q I hw) h1
theorem YQ{op:CmpOp}{t:TE}(h:PC X op a b t)(h1:behindInMarks op b=false:=by first|exact SQ _ (by decide) (by decide)|rfl):PT X (.Compare a [op] [b] pos) (tB t):=by
 intro af s σ H Q I hw;refine wpAny_isTrue_Compare1 (aL (h af s σ H _ I hw) λv s1 h1=>aL h1 λu s2 h2=>aL h2 λc s3 ⟨x,H1,I1,r1,q1⟩=>?_) h1;obtain⟨d,rfl,q⟩:=q1;cases r1;exact adI ⟨H1,I1,q⟩
theorem Jy(h:PE X e t)(he:∀whole,isTrue e X.env whole=(do let v <- whole;standAt e.pos;holding [v] (truthy v)):=by intro _;rfl):PT X e (tB t):=by
 intro af s σ H Q I hw;refine isTrue_plain (aL (h af s σ H _ I hw) λv s1 ⟨x,H1,I1,r1,q1⟩=>?_) (he _);obtain⟨d,rfl,q⟩:=q1;cases r1;exact adI ⟨H1,I1,q⟩
variable{tA A_:TT}{rest:List Expr}
def abF(t u:TT):TT:=λσ H Q=>t σ H λc H1=>if c=true then u σ H1 Q else Q false H1
def UA(t u:TT):TT:=λσ H Q=>t σ H λc H1=>if c=true then Q true H1 else u σ H1 Q
def ack(t:TT):TT:=λσ H Q=>t σ H λc H1=>Q (!c) H1
theorem Iq(ha:PT X a tA):PW X (.BoolOp .And [a] pos) tA:=by
 intro wh af s σ H Q I h;refine isTrue_and (aL (ha af s σ H Q I h) λc s1 e=>?_);cases c with
 |true=>exact isTrue_and_nil e
 |false=>exact e
theorem aa3(ha:PT X a tA):PW X (.BoolOp .Or [a] pos) tA:=by
 intro wh af s σ H Q I h;refine isTrue_or (aL (ha af s σ H Q I h) λc s1 e=>?_);cases c with
 |false=>exact isTrue_or_nil e
 |true=>exact e
theorem NQ(ha:PT X a tA)(hb:PW X (.BoolOp .And (b::rest) pos) A_):PW X (.BoolOp .And (a::b::rest) pos) (abF tA A_):=by
 intro wh af s σ H Q I h;refine isTrue_and (aL (ha af s σ H _ I h) λc s1 ⟨H1,I1,q1⟩=>?_);cases c with
 |true=>exact hb wh af s1 σ H1 Q I1 q1
 |false=>exact⟨H1,I1,q1⟩
theorem Za(ha:PT X a tA)(hb:PW X (.BoolOp .Or (b::rest) pos) A_):PW X (.BoolOp .Or (a::b::rest) pos) (UA tA A_):=by
 intro wh af s σ H Q I h;refine isTrue_or (aL (ha af s σ H _ I h) λc s1 ⟨H1,I1,q1⟩=>?_);cases c with
 |true=>exact⟨H1,I1,q1⟩
 |false=>exact hb wh af s1 σ H1 Q I1 q1
theorem T8(ha:PT X a tA):PT X (.UnaryOp .Not a pos) (ack tA):=by
 intro af s σ H Q I h;exact isTrue_not (ha af s σ H (λc H1=>Q (!c) H1) I h)
def Wp(ta tb:TE):TE:=λσ H Q=>ta σ H λx H1=>∃c,x=.bl c/\if c=true then tb σ H1 Q else Q (.bl false) H1
def V6(ta tb:TE):TE:=λσ H Q=>ta σ H λx H1=>∃c,x=.bl c/\if c=true then Q (.bl true) H1 else tb σ H1 Q
def VU(ta:TE):TE:=λσ H Q=>ta σ H λx H1=>∃c,x=.bl c/\Q (.bl (!c)) H1
theorem MC{op}(h:PE X a t):PE X (.BoolOp op [a] pos) t:=λaf s σ H Q I hw=>BoolOp_one (h af s σ H Q I hw)
theorem Rb(ha:PE X a ta)(hb:PE X (.BoolOp .And (b::rest) pos) tb):PE X (.BoolOp .And (a::b::rest) pos) (Wp ta tb):=by
 intro af s σ H Q I h;refine BoolOp_and (aL (ha af s σ H _ I h) λv s1 ⟨x,H1,I1,r1,q1⟩=>?_);obtain⟨c,rfl,q1⟩:=q1;cases r1;refine adI ?_;cases c with
 |true=>exact hb af s1 σ H1 Q I1 q1
 |false=>exact⟨.bl false,H1,I1,rfl,q1⟩
theorem Sl(ha:PE X a ta)(hb:PE X (.BoolOp .Or (b::rest) pos) tb):PE X (.BoolOp .Or (a::b::rest) pos) (V6 ta tb):=by
 intro af s σ H Q I h;refine BoolOp_or (aL (ha af s σ H _ I h) λv s1 ⟨x,H1,I1,r1,q1⟩=>?_);obtain⟨c,rfl,q1⟩:=q1;cases r1;refine adI ?_;cases c with
 |false=>exact hb af s1 σ H1 Q I1 q1
 |true=>exact⟨.bl true,H1,I1,rfl,q1⟩
theorem VZ(ha:PE X a ta):PE X (.UnaryOp .Not a pos) (VU ta):=by
 intro af s σ H Q I h;refine UnaryOp_ (aL (ha af s σ H _ I h) λv s1 ⟨x,H1,I1,r1,q1⟩=>?_);obtain⟨c,rfl,q1⟩:=q1;cases r1;exact not_of (adI ⟨.bl (!c),H1,I1,rfl,q1⟩)
def tIf(t:TT)(ta tb:TE):TE:=λσ H Q=>t σ H λc H1=>if c=true then ta σ H1 Q else tb σ H1 Q
theorem aaa{c:Expr}(hc:PT X c tA)(ha:PE X a ta)(hb:PE X b tb):PE X (.IfExp c a b pos) (tIf tA ta tb):=by
 intro af s σ H Q I h;refine wpAny_IfExp (aL (hc af s σ H _ I h) λd s1 ⟨H1,I1,q1⟩=>?_);cases d with
 |true=>exact ha af s1 σ H1 Q I1 q1
 |false=>exact hb af s1 σ H1 Q I1 q1
end
def bR(K:PySem.W.Frag)(H:Hp)(a:Addr)(xs:List V):Prop:=
 Rd H a (.lst xs)\/
  ∃(o:Obj) (au:Array Value) (n:Nat),K.lookup a=some o/\o.cls=.type "list"/\o.dict=none/\o.data=.seq au n/\au.size<=sizeLine/\aQ xs au.toList
def bZ(K:PySem.W.Frag)(H:Hp)(a:Addr)(xs:List V):Prop:=
 Rd H a (.tup xs)\/
  ∃(o:Obj) (au:Array Value) (n:Nat),K.lookup a=some o/\o.cls=.type "tuple"/\o.dict=none/\o.data=.seq au n/\au.size<=sizeLine/\aQ xs au.toList
noncomputable def abW:Value->Option V
 |.none=>some .aA
 |.bool b=>some (.bl b)
 |.int i _=>some (.int i)
 |.str x _=>some (.str x)
 |.bytes b _=>some (.jF b)
 |.float b _=>some (.rQ b)
 |.ref a=>some (.ref a)
 |.type n=>some (.ty n)
 |_=>none
theorem RelV.abs(r:RelV x u):abW u=some x:=by
 cases x with
 |aA=>cases r;rfl
 |bl _=>cases r;rfl
 |int _=>obtain⟨t,rfl⟩:=r;rfl
 |str _=>obtain⟨t,rfl⟩:=r;rfl
 |jF _=>obtain⟨t,rfl⟩:=r;rfl
 |rQ _=>obtain⟨t,rfl⟩:=r;rfl
 |ref _=>cases r;rfl
 |ty _=>cases r;rfl
theorem RelV.inj(r:RelV x u)(q:RelV y u):x=y:=abO (r.abs.symm.trans q.abs)
theorem aQ.inj:∀{xs ys:List V}{us:List Value},aQ xs us->aQ ys us->xs=ys
 |_,_,_,.nil,.nil=>rfl
 |_,_,_,.cons r t,.cons r' t'=>by rw[r.inj r',aQ.inj t t']
section
variable{X:Cx}{af:List (Addr×Obj)}{σ:St}{H:Hp}{s:Shared}{a:Addr}{xs ys:List V}
theorem bR.of{K:PySem.W.Frag}(h:H a=some (.lst xs)):bR K H a xs:=.inl (.inl h)
theorem bZ.of{K:PySem.W.Frag}(h:H a=some (.tup xs)):bZ K H a xs:=.inl (.inl h)
theorem Inv.list(I:Inv X af σ H s)(h:bR X.K H a xs):∃au:List Value,aQ xs au/\PlainL s.heap a au.toArray/\xs.length<=sizeLine:=by
 rcases h with h|⟨o,au,n,hk,hc,hd,hs,hz,r⟩
 .obtain⟨z,au,n,r,e⟩:=h.ok I.aH;exact⟨au,r,⟨_,n,e,rfl,rfl,rfl⟩,z⟩
 .refine⟨au.toList,r,⟨o,n,I.dR a o hk,hc,hd,by simpa using hs⟩,?_⟩;have e:=r.length;simp only[adE] at e;omega
theorem Inv.KC(I:Inv X af σ H s)(h:bZ X.K H a xs):∃au:List Value,aQ xs au/\nY s.heap a au.toArray/\xs.length<=sizeLine:=by
 rcases h with h|⟨o,au,n,hk,hc,hd,hs,hz,r⟩
 .obtain⟨z,au,r,p⟩:=h.ok I.aH;exact⟨au,r,p,z⟩
 .refine⟨au.toList,r,⟨o,I.dR a o hk,hc,hd,n,by simpa using hs⟩,?_⟩;have e:=r.length;simp only[adE] at e;omega
theorem Inv.tuple(I:Inv X af σ H s)(h:bZ X.K H a xs):∃au:List Value,aQ xs au/\IsTup s.heap a au.toArray/\xs.length<=sizeLine:=by
 rcases h with h|⟨o,au,n,hk,hc,hd,hs,hz,r⟩
 .obtain⟨z,au,r,p⟩:=h.ok I.aH;exact⟨au,r,p.isTup,z⟩
 .refine⟨au.toList,r,⟨o,I.dR a o hk,hc,n,by simpa using hs⟩,?_⟩;have e:=r.length;simp only[adE] at e;omega
theorem Inv.Cw(I:Inv X af σ H s)(h:bR X.K H a xs)(h':bR X.K H a ys):xs=ys:=by
 obtain⟨au,r,⟨o,n,e,_,_,d⟩,_⟩:=I.list h;obtain⟨its',r',⟨o',n',e',_,_,d'⟩,_⟩:=I.list h';rw[e] at e';cases e';rw[d] at d';injection d' with d1 _;have:au=its':=by simpa using congrArg Array.toList d1
 subst this;exact r.inj r'
theorem Inv.QE(I:Inv X af σ H s)(h:bZ X.K H a xs)(h':bZ X.K H a ys):xs=ys:=by
 obtain⟨au,r,⟨o,e,_,n,d⟩,_⟩:=I.tuple h;obtain⟨its',r',⟨o',e',_,n',d'⟩,_⟩:=I.tuple h';rw[e] at e';cases e';rw[d] at d';injection d' with d1 _;have:au=its':=by simpa using congrArg Array.toList d1
 subst this;exact r.inj r'
end
noncomputable abbrev Cx.lu(X:Cx)(E:Value->Shared->Prop):Cx:={ X with xe:=E }
abbrev Cx.fX(X:Cx):Cx:=X.lu λ_ _=>False
theorem Cx.Ok.lu{X:Cx}(ok:X.Ok)(E:Value->Shared->Prop):(X.lu E).Ok:=
 ⟨ok.mod,ok.kind,ok.glob,ok.blt,ok.above,ok.inj,ok.has,ok.sU,ok.hd,ok.frames,ok.wC,ok.Br,ok.bs,ok.jP,ok.tF,ok.ux,ok.jX,ok.qq⟩
theorem Cx.Ok.oj{X:Cx}{E:Value->Shared->Prop}(ok:(X.lu E).Ok):X.Ok:=
 ⟨ok.mod,ok.kind,ok.glob,ok.blt,ok.above,ok.inj,ok.has,ok.sU,ok.hd,ok.frames,ok.wC,ok.Br,ok.bs,ok.jP,ok.tF,ok.ux,ok.jX,ok.qq⟩
section
variable{X:Cx}{af:List (Addr×Obj)}{σ:St}{H:Hp}{s:Shared}{E:Value->Shared->Prop}
theorem Inv.lu(I:Inv X af σ H s)(E:Value->Shared->Prop):Inv (X.lu E) af σ H s:=⟨I.ok.lu E,I.os,I.bare,I.base,I.loc,I.cell,I.free,I.jq,I.pin,I.aH,I.len,I.hq⟩
theorem Inv.oj(I:Inv (X.lu E) af σ H s):Inv X af σ H s:=⟨I.ok.oj,I.os,I.bare,I.base,I.loc,I.cell,I.free,I.jq,I.pin,I.aH,I.len,I.hq⟩
theorem SP.oj{D:Ends}{f:Flow}(h:SP (X.lu E) af D f s'):SP X af D f s':=by
 cases f with
 |next=>obtain⟨aC,H',I,q⟩:=h;exact⟨aC,H',I.oj,q⟩
 |brk=>obtain⟨aC,H',I,q⟩:=h;exact⟨aC,H',I.oj,q⟩
 |cont=>obtain⟨aC,H',I,q⟩:=h;exact⟨aC,H',I.oj,q⟩
 |ret u=>obtain⟨v,aC,H',I,r,q⟩:=h;exact⟨v,aC,H',I.oj,r,q⟩
theorem gJ.fX{st:List Stmt}(h:gJ X.fX st t):gJ X st t:=λaf s σ H D I hw=>
 adH (h af s σ H D (I.lu _) hw) (λ_ _ q=>q.oj) λ_ _ z=>False.elim z
end
section
variable{X:Cx}{st:Stmt}{rest:List Stmt}{t u:TS}{e:Expr}{te:TE}{pos:Pos}
def WC:TS:=λD σ H=>D.nx σ H
def aaM(t u:TS):TS:=λD σ H=>t { D with nx:=u D } σ H
theorem Il:gJ X [] WC:=λ_ _ σ H _ I h=>wpAny_execs_nil ⟨σ,H,I,h⟩
theorem xx(h1:PS X st t)(h2:gJ X rest u):gJ X (st::rest) (aaM t u):=by
 intro af s σ H D I h;refine wpAny_execs_cons (aL (h1 af s σ H { D with nx:=u D } I h) λf s1 q=>?_);cases f with
 |next=>
  obtain⟨aC,H',I',q⟩:=q;exact h2 af s1 aC H' D I' q
 |ret v=>exact q
 |brk=>exact q
 |cont=>exact q
theorem K6(h1:PS X st t):gJ X [st] t:=by
 intro af s σ H D I h;refine wpAny_execs_cons (aL (h1 af s σ H D I h) λf s1 q=>?_);cases f with
 |next=>exact wpAny_execs_nil q
 |ret v=>exact q
 |brk=>exact q
 |cont=>exact q
theorem Inv.quiet(I:Inv X af σ H s):interactive X.env=false:=by simp[interactive,I.ok.kind]
def YK(te:TE):TS:=λD σ H=>te σ H λ_ H1=>D.nx σ H1
theorem zE(he:PE X e te)(hs:swapsWith e none pos.line X.env=pure false:=by rfl):PS X (.Expr e pos) (YK te):=by
 intro af s σ H D I h;exact wpAny_Expr_any (aL (he af s σ H _ I h) λv s1 ⟨x,H1,I1,r1,q1⟩=>⟨σ,H1,I1,q1⟩) I.quiet hs
def abe(te:TE):TS:=λD σ H=>te σ H D.rt
theorem vY(he:PE X e te):PS X (.Return (some e) pos) (abe te):=by
 intro af s σ H D I h;exact wpAny_Return_some (aL (he af s σ H _ I h) λv s1 ⟨x,H1,I1,r1,q1⟩=>⟨x,σ,H1,I1,r1,q1⟩)
def WW(c:TT)(t u:TS):TS:=λD σ H=>c σ H λb H1=>if b=true then t D σ H1 else u D σ H1
theorem Lj{tc:TT}(hc:PT X c tc)(ha:gJ X a t)(hb:gJ X b u):PS X (.If c a b pos) (WW tc t u):=by
 intro af s σ H D I h;refine wpAny_If (aL (hc af s σ H _ I h) λd s1 ⟨H1,I1,q1⟩=>?_);cases d with
 |true=>exact ha af s1 σ H1 D I1 q1
 |false=>exact hb af s1 σ H1 D I1 q1
def UR:TS:=λ_ _ _=>False
theorem M3:PS X st UR:=λ_ _ _ _ _ _ h=>h.elim
end
abbrev TG:=V->St->Hp->(St->Hp->Prop)->Prop
abbrev rY:=List V->St->Hp->(St->Hp->Prop)->Prop
def PG(X:Cx)(target:Expr)(t:TG):Prop:=
 ∀(af:List (Addr×Obj)) (s:Shared) (σ:St) (H:Hp) (v:V) (u:Value) (Q:St->Hp->Prop),Inv X af σ H s->RelV v u->t v σ H Q->
  wpAny (model X.prog X.w) X.A (assign target X.env u) (λ_ s'=>∃aC H',Inv X af aC H' s'/\Q aC H') X.xe s
def vB(X:Cx)(ts:List Expr)(t:rY):Prop:=
 ∀(af:List (Addr×Obj)) (s:Shared) (σ:St) (H:Hp) (vs:List V) (us:List Value) (Q:St->Hp->Prop),Inv X af σ H s->aQ vs us->t vs σ H Q->
  wpAny (model X.prog X.w) X.A (assignInOrder ((assignEach ts X.env).map (·.2)) us) (λ_ s'=>∃aC H',Inv X af aC H' s'/\Q aC H') X.xe s
section
variable{X:Cx}{pos:Pos}
def yH(i:Nat):TG:=λv σ H Q=>Q (σ.set i (some v)) H
theorem RB(hN:X.N.Nodup)(hi:X.N[i]? = some x)(hx:Loc X.env.scope x)(hf:X.fn x=true\/X.env.scope.names.lookup x=some .local:=by first|exact .inl rfl|exact .inr rfl|assumption):PG X (.Name x pos) (yH i):=by
 intro af s σ H v u Q I r h;exact wpAny_assign_Name (Ey I hN hi hx r (λs' I'=>⟨_,H,I',h⟩) hf)
def aa5:rY:=λvs σ H Q=>vs=[]/\Q σ H
def YX(t:TG)(u:rY):rY:=λvs σ H Q=>∃v r,vs=v::r/\t v σ H λaC H'=>u r aC H' Q
theorem RN:vB X [] aa5:=by
 intro af s σ H vs us Q I r h;obtain⟨e,h⟩:=h;subst e;cases r;exact assignInOrder_nil ⟨σ,H,I,h⟩
theorem ac0{u:rY}(h1:PG X e t)(h2:vB X es u)
  (hs:(assignEach (e::es) X.env).map (·.2)=assign e X.env::(assignEach es X.env).map (·.2):=by rfl):vB X (e::es) (YX t u):=by
 intro af s σ H vs us Q I r h;obtain⟨v,vr,e1,h⟩:=h;subst e1;cases r with
 |cons r rr=>
  rw[hs];refine assignInOrder_cons (aL (h1 af s σ H _ _ _ I r h) λ_ s1 ⟨l6,H1,I1,q1⟩=>?_);exact h2 af s1 l6 H1 _ _ Q I1 rr q1
def Q2(K:PySem.W.Frag)(n:Nat)(t:rY):TG:=λv σ H Q=>∃a xs,v=.ref a/\bZ K H a xs/\xs.length=n/\t xs σ H Q
theorem Zd{t:rY}(hc:X.calm=true)(h:vB X es t)
  (hn:(assignEach es X.env).length=n:=by rfl) (iw:(assignEach es X.env).findIdx? (·.1)=none:=by rfl):PG X (.Tuple es k pos) (Q2 X.K n t):=by
 intro af s σ H v u Q I r hw;obtain⟨a,xs,e1,hq,hl,hw⟩:=hw;subst e1;cases r;obtain⟨au,rv,ht,hz⟩:=I.tuple hq;refine assign_Tuple_tuple (I.ok.hd hc) ht (by simp[hn,<- hl,rv.length]) iw λh' hx=>?_
 have I1:=I.kept (t':=s.toks) λb o e=>hx b o (acC (abh e)) e
 exact h af _ σ H xs _ Q I1 (by simpa using rv) hw
def L1(te:TE)(g:TG):TS:=λD σ H=>te σ H λx H1=>g x σ H1 D.nx
theorem zT(hN:X.N.Nodup)(hi:X.N[i]? = some x)(hx:Loc X.env.scope x)(he:PE X e te)(hs:swapsWith e (some (.Name x pos')) pos.line X.env=pure false:=by rfl)(hf:X.fn x=true\/X.env.scope.names.lookup x=some .local:=by first|exact .inl rfl|exact .inr rfl|assumption):
  PS X (.Assign [.Name x pos'] e pos) (L1 te (yH i)):=by
 intro af s σ H D I h;refine wpAny_Assign_Name (aL (he af s σ H _ I h) λv s1 ⟨y,H1,I1,r1,q1⟩=>?_) hs;exact Ey I1 hN hi hx r1 (λs2 I2=>⟨_,H1,I2,q1⟩) hf
def Xd(c:TT)(tb:TS):TS:=λD σ H=>∃W:Nat->St->Hp->Prop,(∃m,W m σ H)/\∀m σ H,W m σ H->
 c σ H λb H1=>if b=true then ∃N:St->Hp->Prop,(∀aC H',N aC H'->∃m',m'<m/\W m' aC H')/\tb { D with nx:=N,ct:=N,bk:=D.nx } σ H1 else D.nx σ H1
theorem OR{c:Expr}{body:List Stmt}{tc:TT}{tb:TS}(hp:PassesOwn (model X.prog X.w) X.A X.env X.xe)(hc:PT X c tc)(hb:gJ X body tb):PS X (.While c body [] pos) (Xd tc tb):=by
 intro af s σ H D I h;obtain⟨W,⟨m0,w0⟩,turn⟩:=h;refine wpAny_While (codeAny_whileLoop (λn s'=>∃aC H',Inv X af aC H' s'/\W n aC H') ?_ m0 ⟨σ,H,I,w0⟩)
 rintro n s1 ⟨l6,H1,I1,w1⟩
 refine aef hp (aL (hc af s1 l6 H1 _ I1 (turn n l6 H1 w1)) λb s2 ⟨H2,I2,q2⟩=>?_);cases b with
 |true=>
  obtain⟨N,hN,q2⟩:=q2;rw[if_pos rfl];refine aef hp (aL (hb af s2 l6 H2 _ I2 q2) λf s3 q3=>?_);cases f with
  |next=>
   obtain⟨cE,H3,I3,n3⟩:=q3;obtain⟨m',hm,w3⟩:=hN cE H3 n3;exact⟨m',hm,cE,H3,I3,w3⟩
  |cont=>
   obtain⟨cE,H3,I3,n3⟩:=q3;obtain⟨m',hm,w3⟩:=hN cE H3 n3;exact⟨m',hm,cE,H3,I3,w3⟩
  |brk=>exact q3
  |ret v=>exact q3
 |false=>
  rw[if_neg aa9];exact wpAny_execs_nil ⟨l6,H2,I2,q2⟩
end
structure It where
 go:Nat->Hp->Prop
 xw:Nat->Hp->V->Hp->Prop
 stop:Nat->Hp->Prop
 rg:Bool
def h_(X:Cx)(af:List (Addr×Obj))(H:Hp)(b:Addr):Prop:=
 H b=none/\b≠X.env.locals/\b∉X.fs/\(b∈X.ex\/X.dQ.heap.objs.size<=b)/\(∀x c,X.env.cells.lookup x=some c->c≠b)/\∀p∈X.pn++af,p.1≠b
theorem Inv.rC(I:Inv X af σ H s)(hb:s.heap.objs.size<=b)(hn:H' b=none):h_ X af H' b:=by
 refine⟨hn,ad1 (ac1 I.lt hb),I.Iz hb,.inr (ado I.sz hb),λx c e z=>?_,λp hp z=>?_⟩
 .obtain⟨v,q⟩:=I.cell x c e;exact absurd (ac1 q.lt (by rw[z];exact hb)) (adC _)
 .exact absurd (ac1 (abh (I.pin p hp).1) (by rw[z];exact hb)) (adC _)
structure Turn(P:Program)(w:World)(K:PySem.W.Frag)(tg:Expr)(J:It)(fp:List Addr)(it:Addr)(tn:Nat->Heap->Prop):Prop where
 mem:it∈fp
 obj:∀i h,tn i h->∀b∈fp,∃o,h.get? b=some o/\∀v,o.data≠.cell v
 keep:∀i h h',tn i h->(∀b∈fp,∀o,h.get? b=some o->h'.get? b=some o)->tn i h'
 item:∀(X:Cx),X.prog=P->X.w=w->X.K=K->(X.calm=true\/J.rg=true)->∀(i:Nat) (af:List (Addr×Obj)) (s:Shared) (σ:St) (H:Hp) (E:Value->Shared->Prop),Inv X af σ H s->(∀b∈fp,h_ X af H b)->tn i s.heap->J.go i H->
  wpAny (model P w) X.A (pyNext (.ref it)) (λr s1=>∃u,r=some u/\
   wpAny (model P w) X.A (letOwnedTupleGo tg (.ref it) u) (λ_ s2=>∃x H',Inv X af σ H' s2/\RelV x u/\J.xw i H x H'/\tn (i+1) s2.heap/\∀b∈fp,H' b=none) E s1) E s
 done:∀(X:Cx),X.prog=P->X.w=w->X.K=K->(X.calm=true\/J.rg=true)->∀(i:Nat) (af:List (Addr×Obj)) (s:Shared) (σ:St) (H:Hp) (E:Value->Shared->Prop),Inv X af σ H s->(∀b∈fp,h_ X af H b)->tn i s.heap->J.stop i H->
  wpAny (model P w) X.A (pyNext (.ref it)) (λr s1=>r=none/\Inv X af σ H s1) E s
 self:∀(A:Around) (i:Nat) (s:Shared) (Q:Value->Shared->Prop) (E:Value->Shared->Prop),tn i s.heap->Q (.ref it) s->wpAny (model P w) A (pyIter (.ref it)) Q E s
abbrev TI:=St->Hp->(It->Hp->Prop)->Prop
def Oi(X:Cx)(af:List (Addr×Obj))(σ:St)(tg:Expr)(R:It->Hp->Prop)(zo:Value)(s2:Shared):Prop:=
 ∃(it:Addr) (fp:List Addr) (tn:Nat->Heap->Prop) (J:It) (H':Hp),zo=.ref it/\Inv X af σ H' s2/\Turn X.prog X.w X.K tg J fp it tn/\tn 0 s2.heap/\(∀b∈fp,h_ X af H' b)/\R J H'
def PI(X:Cx)(tg iter:Expr)(wi:TI):Prop:=
 ∀(af:List (Addr×Obj)) (s:Shared) (σ:St) (H:Hp) (R:It->Hp->Prop),Inv X af σ H s->wi σ H R->
  wpAny (model X.prog X.w) X.A (eval iter X.env) (λv s1=>wpAny (model X.prog X.w) X.A (pyIter v) (Oi X af σ tg R) X.xe s1) X.xe s
theorem F1{n:String}{Q:Unit->Shared->Prop}(ho:s.heap.get? it=some o)(hc:o.cls=.type n)(hd:o.data=.fields vs)
    (hn:["enumerate","zip","dict_itemiterator","dict_reverseitemiterator","odict_iterator","itertools.zip_longest","itertools.pairwise"].contains n=false) (hQ:Q () s):wpAny M A (letOwnedTupleGo tg (.ref it) u) Q E s:=by
  unfold letOwnedTupleGo;cases tg<;>first
    |exact acI hQ
    | (cases u <;> first
        |exact acI hQ
        | (refine aaT (wpAny_load ho ?_)
           rw[hc,hd];show wpAny M A (if(["enumerate","zip","dict_itemiterator","dict_reverseitemiterator","odict_iterator","itertools.zip_longest","itertools.pairwise"].contains n&&vs[0]?==some (rawInt _))=true then _ else _) Q E s;rw[if_neg (by intro h;rw[hn,Bool.false_and] at h;cases h)];exact acI hQ))
noncomputable def BC(K:PySem.W.Frag)(a:Addr):It:=
 ⟨λi H=>∃xs x,bR K H a xs/\xs[i]? = some x,λi H x H'=>H'=H/\∀xs,bR K H a xs->xs[i]? = some x,λi H=>∃xs,bR K H a xs/\xs.length<=i,false⟩
noncomputable def Cg(K:PySem.W.Frag)(a:Addr):It:=
 ⟨λi H=>∃xs x,bZ K H a xs/\xs[i]? = some x,λi H x H'=>H'=H/\∀xs,bZ K H a xs->xs[i]? = some x,λi H=>∃xs,bZ K H a xs/\xs.length<=i,false⟩
def yk(lo:Int)(n:Nat):It:=⟨λi _=>i<n,λi H x H'=>H'=H/\x=.int (lo+i),λi _=>n<=i,true⟩
theorem abR{K:PySem.W.Frag}(a it:Addr):Turn P w K tg (BC K a) [it] it (λi h=>h.IsListIter it a i) where
 mem:=by simp
 obj:=λi h st b hb=>by
  have e:b=it:=by simpa using hb
  subst e;obtain⟨o,e,c,d⟩:=st;exact⟨o,e,λv z=>by rw[d] at z;cases z⟩
 keep:=λi h h' st k=>st.at λo e=>k it (by simp) o e
 item:=by
  intro X hP hw hK hc i af s σ H E I hf st hg;subst hP hw hK;obtain⟨xs,x,hq,hx⟩:=hg;obtain⟨au,rv,p,hz⟩:=I.list hq;obtain⟨u,hu,ru⟩:=rv.get hx;obtain⟨f0,f1,f2,f3,f4,f5⟩:=hf it (by simp);refine wpAny_pyNext_list_item st p.isList (by simpa using hu) λh' l_ sb=>?_
  have I1:Inv X af σ H { s with heap:=h' }:=I.turned (λb o hb e=>(sb.2 b hb).trans e) f0 f1 f3 f4 f5;obtain⟨o,e,c,d⟩:=id l_;exact⟨u,rfl,F1 e c d (by decide) ⟨x,H,I1,ru,⟨rfl,λys hy=>by rw[I.Cw hy hq];exact hx⟩,l_,λb hb=>(hf b hb).1⟩⟩
 done:=by
  intro X hP hw hK hc i af s σ H E I hf st hg;subst hP hw hK;obtain⟨xs,hq,hx⟩:=hg;obtain⟨au,rv,p,hz⟩:=I.list hq;obtain⟨f0,f1,f2,f3,f4,f5⟩:=hf it (by simp);have hl:=rv.length;exact wpAny_pyNext_list_end (I.ok.hd (hc.resolve_right λz=>aa9 z)) st p.isList (by simp;omega) λh' eb=>⟨rfl,I.turned (λb o hb e=>eb b o hb e) f0 f1 f3 f4 f5⟩
 self:=λ_ _ _ _ _ st h=>wpAny_pyIter_listiter st h
theorem abr{K:PySem.W.Frag}(a it:Addr):Turn P w K tg (Cg K a) [it] it (λi h=>h.IsTupleIter it a i) where
 mem:=by simp
 obj:=λi h st b hb=>by
  have e:b=it:=by simpa using hb
  subst e;obtain⟨o,e,c,d⟩:=st;exact⟨o,e,λv z=>by rw[d] at z;cases z⟩
 keep:=λi h h' st k=>st.at λo e=>k it (by simp) o e
 item:=by
  intro X hP hw hK hc i af s σ H E I hf st hg;subst hP hw hK;obtain⟨xs,x,hq,hx⟩:=hg;obtain⟨au,rv,p,hz⟩:=I.tuple hq;obtain⟨u,hu,ru⟩:=rv.get hx;obtain⟨f0,f1,f2,f3,f4,f5⟩:=hf it (by simp);refine wpAny_pyNext_tuple_item st (show s.heap.IsTuple a au.toArray from p) (by simpa using hu) λh' l_ sb=>?_
  have I1:Inv X af σ H { s with heap:=h' }:=I.turned (λb o hb e=>(sb.2 b hb).trans e) f0 f1 f3 f4 f5;obtain⟨o,e,c,d⟩:=id l_;exact⟨u,rfl,F1 e c d (by decide) ⟨x,H,I1,ru,⟨rfl,λys hy=>by rw[I.QE hy hq];exact hx⟩,l_,λb hb=>(hf b hb).1⟩⟩
 done:=by
  intro X hP hw hK hc i af s σ H E I hf st hg;subst hP hw hK;obtain⟨xs,hq,hx⟩:=hg;obtain⟨au,rv,p,hz⟩:=I.tuple hq;obtain⟨f0,f1,f2,f3,f4,f5⟩:=hf it (by simp);have hl:=rv.length;exact wpAny_pyNext_tuple_end (I.ok.hd (hc.resolve_right λz=>aa9 z)) st (show s.heap.IsTuple a au.toArray from p) (by simp;omega) λh' eb=>⟨rfl,I.turned (λb o hb e=>eb b o hb e) f0 f1 f3 f4 f5⟩
 self:=λ_ _ _ _ _ st h=>wpAny_pyIter_tupleiter st h
theorem RG{K:PySem.W.Frag}(it:Addr)(lo:Int)(n:Nat):Turn P w K tg (yk lo n) [it] it (λi h=>IsRangeIter h it (lo+(i:Nat)*1) ((n:Int)-(i:Nat)) 1) where
 mem:=by simp
 obj:=λi h st b hb=>by
  have e:b=it:=by simpa using hb
  subst e;exact⟨_,st,λv z=>by
   have z':Data.fields _=Data.cell v:=z;cases z'⟩
 keep:=λi h h' st k=>k it (by simp) _ st
 item:=by
  intro X hP hw hK hc i af s σ H E I hf st hg;subst hP hw hK;obtain⟨f0,f1,f2,f3,f4,f5⟩:=hf it (by simp);refine wpAny_pyNext_range_item st (by have:i<n:=hg;omega) λh' l_ sb=>?_
  have I1:Inv X af σ H { s with heap:=h',toks:=s.toks+1 }:=I.turned (λb o hb e=>(sb.2 b hb).trans e) f0 f1 f3 f4 f5;have e1:lo+((i+1:Nat):Int)*1=lo+(i:Int)*1+1:=by omega
  have e2:(n:Int)-((i+1:Nat):Int)=(n:Int)-(i:Int)-1:=by omega
  refine⟨_,rfl,F1 l_ rfl rfl (by decide) ⟨.int (lo+i),H,I1,⟨s.toks,?_⟩,⟨rfl,rfl⟩,by rw[e1,e2];exact l_,λb hb=>(hf b hb).1⟩⟩;rw[aeO]
 done:=by
  intro X hP hw hK hc i af s σ H E I hf st hg;subst hP hw hK;obtain⟨f0,f1,f2,f3,f4,f5⟩:=hf it (by simp);rcases I.hq.hd with h0|⟨a',ob,u,vs,h0,h1,h2,h3⟩
  .exact wpAny_pyNext_range_end h0 st (by have:n<=i:=hg;omega) λh' eb=>⟨rfl,I.turned (λb o hb e=>eb b o hb e) f0 f1 f3 f4 f5⟩
  .exact acX h0 (I.aH a' _ h1).1 h2 h3 st (by have:n<=i:=hg;omega) λh' eb=>⟨rfl,I.turned (λb o hb e=>eb b o hb e) f0 f1 f3 f4 f5⟩
 self:=λ_ _ _ _ _ st h=>wpAny_pyIter_rangeiter st h
section
variable{X:Cx}{tg:Expr}
theorem KP{R:It->Hp->Prop}{lo hi:Int}{t u v:Tok}{tk:Nat}(I:Inv X af σ H s)(h1:-(2 ^ 62)<=lo)(h2:lo<2 ^ 62)(h3:-(2 ^ 62)<=hi)(h4:hi<2 ^ 62)
  (q:R (yk lo (hi-lo).toNat) H):wpAny (model X.prog X.w) X.A (pyIter (.ref s.heap.objs.size)) (Oi X af σ tg R) E { s with heap:=s.heap.push { cls:=.type "range",data:=.fields #[.int lo t,.int hi u,.int 1 v] },toks:=tk }:=by
 refine wpAny_pyIter_range (IsRange.new ..) (small_one h1 h2 h3 h4) ?_;have I1:Inv X af σ H { s with heap:=s.heap.push { cls:=.type "range",data:=.fields #[.int lo t,.int hi u,.int 1 v] },toks:=tk }:=I.kept λb o e=>aao _ e
 refine⟨(s.heap.push { cls:=.type "range",data:=.fields #[.int lo t,.int hi u,.int 1 v] }).objs.size,[(s.heap.push { cls:=.type "range",data:=.fields #[.int lo t,.int hi u,.int 1 v] }).objs.size],_,_,H,rfl,
  I1.kept λb o e=>aao _ e,RG _ lo (hi-lo).toNat,?_,λb hb=>?_,q⟩
 .have e1:lo+((0:Nat):Int)*1=lo:=by simp
  have e2:(((hi-lo).toNat:Nat):Int)-((0:Nat):Int)=Builtin.Range.rangeSize lo hi 1:=by rw[rangeSize_one];split<;>omega
  rw[e1,e2];exact ab2 _ rfl
 .have e:b=(s.heap.push { cls:=.type "range",data:=.fields #[.int lo t,.int hi u,.int 1 v] }).objs.size:=by simpa using hb
  subst e;exact I1.rC (abu _) (I1.aH.fresh (abu _))
def acN(ta:TA):TI:=λσ H R=>ta σ H λvs H1=>∃j:Int,vs=[.int j]/\-(2 ^ 62)<=j/\j<2 ^ 62/\R (yk 0 j.toNat) H1
def Tr(ta:TA):TI:=λσ H R=>ta σ H λvs H1=>∃i j:Int,vs=[.int i,.int j]/\(-(2 ^ 62)<=i/\i<2 ^ 62/\-(2 ^ 62)<=j/\j<2 ^ 62)/\R (yk i (j-i).toNat) H1
theorem Qu{ta:TA}(hg:Gl X "range")(hm:X.mg "range"=none)(ha:PA X [a] ta)(hs:starEach [a] X.env=[(false,eval a X.env)]:=by rfl):PI X tg (.Call (.Name "range" p) [a] [] pos) (acN ta):=by
 intro af s σ H R I h;refine Call_ (qu I hg hm boot_range (ad5 (aL (ha pos af s σ H _ I h) λus s1 ⟨vs,H1,I1,r1,q1⟩=>?_) hs rfl));obtain⟨j,e,q1,q2,q⟩:=q1;subst e;cases r1 with
 |cons r rr=>
  cases rr;obtain⟨t,rfl⟩:=r;exact call_range_1 (KP I1 (by omega) (by omega) q1 q2 (by simpa using q))
theorem U8{ta:TA}(hg:Gl X "range")(hm:X.mg "range"=none)(ha:PA X [a,b] ta)(hs:starEach [a,b] X.env=[(false,eval a X.env),(false,eval b X.env)]:=by rfl)(dG:starEach [b] X.env=[(false,eval b X.env)]:=by rfl):
  PI X tg (.Call (.Name "range" p) [a,b] [] pos) (Tr ta):=by
 intro af s σ H R I h;refine Call_ (qu I hg hm boot_range (ad5 (aL (ha pos af s σ H _ I h) λus s1 ⟨vs,H1,I1,r1,q1⟩=>?_) (by rw[hs,dG]) (by rw[dG];rfl)));obtain⟨i,j,e,⟨q1,q2,q3,q4⟩,q⟩:=q1;subst e;cases r1 with
 |cons r rr=>
  cases rr with
  |cons r' rr=>
   cases rr;obtain⟨t,rfl⟩:=r;obtain⟨t',rfl⟩:=r';exact call_range_2 (KP I1 q1 q2 q3 q4 q)
def V8(wi:TI)(g:TG)(tb:TS):TS:=λD σ H=>wi σ H λJ H1=>∃W:Nat->Nat->St->Hp->Prop,(∃m,W 0 m σ H1)/\∀i m σ H,W i m σ H->
 (J.stop i H/\D.nx σ H)\/(J.go i H/\∃N:St->Hp->Prop,(∀aC H',N aC H'->∃m',m'<m/\W (i+1) m' aC H')/\∀x H',J.xw i H x H'->g x σ H' λgj H2=>tb { D with nx:=N,ct:=N,bk:=D.nx } gj H2)
noncomputable def uZ(fp:List Addr)(h:Heap):List (Addr×Obj):=fp.filterMap λb=>(h.get? b).map λo=>(b,o)
theorem Ae(hb:b∈fp)(e:h.get? b=some o):(b,o)∈uZ fp h:=aeG.mpr ⟨b,hb,by rw[e];rfl⟩
theorem acq{p:Addr×Obj}(hp:p∈uZ fp h):p.1∈fp/\h.get? p.1=some p.2:=by
 obtain⟨b,hb,e⟩:=aeG.mp hp;exists q,h.get? b,o,e;have e':=abO e;subst e';exact⟨hb,q⟩
theorem Inv.pinned(I:Inv X af σ H s)(hf:∀b∈fp,h_ X af H b)(ho:∀b∈fp,∃o,s.heap.get? b=some o/\∀v,o.data≠.cell v):Inv X (af++uZ fp s.heap) σ H s:=
 I.r9 λp hp=>(abo.mp hp).elim (λz=>I.pin p (aat _ z)) λz=>by
  obtain⟨hb,e⟩:=acq z;obtain⟨f0,f1,f2,_⟩:=hf p.1 hb;obtain⟨o,e',d⟩:=ho p.1 hb;rw[e] at e';cases e';exact⟨e,f0,f1,f2,d⟩
theorem Inv.yd(I:Inv X (af++pl) σ H s):Inv X af σ H s:=I.r9 λp hp=>I.pin p (aat _ (abb _ hp))
theorem Vu(hp:PassesOwn (model X.prog X.w) X.A X.env X.xe)(hc:X.calm=true)(hi:PI X tg iter wi)(hg:PG X tg g)(hb:gJ X body tb)
  (hs:∀x,foldedSetIterable iter X.env x=pure x:=by intro _;rfl):PS X (.For tg iter body [] pos) (V8 wi g tb):=by
 intro af s σ H D I h;refine wpAny_For (aL (hi af s σ H _ I h) λv s1 h1=>aL h1 λzo s2 h2=>?_) hs;obtain⟨it,fp,tn,J,H2,e,I2,T,rK,f2,W,⟨m0,w0⟩,turn⟩:=h2;subst e;have qG:∀{H':Hp},(∀b∈fp,H' b=none)->∀b∈fp,h_ X af H' b:=λhn b hb=>⟨hn b hb,(f2 b hb).2⟩
 refine codeAny_forLoop_any (λn s'=>∃i aC H',Inv X af aC H' s'/\tn i s'.heap/\(∀b∈fp,H' b=none)/\W i n aC H') ?_ m0 ⟨0,σ,H2,I2,rK,λb hb=>(f2 b hb).1,w0⟩
 rintro n s3 ⟨i,cE,H3,I3,Jz,IT,w3⟩
 rcases turn i n cE H3 w3 with⟨stop,qn⟩|⟨go,N,hN,step⟩
 .refine aef hp (aL (T.done X rfl rfl rfl (.inl hc) i af s3 cE H3 X.xe I3 (qG IT) Jz stop) λr s4 ⟨hr,I4⟩=>?_);subst hr;exact wpAny_execs_nil ⟨cE,H3,I4,qn⟩
 .refine aef hp (aL (T.item X rfl rfl rfl (.inl hc) i af s3 cE H3 X.xe I3 (qG IT) Jz go) λr s4 ⟨u,hr,h4⟩=>?_);subst hr;refine aef hp (aL h4 λ_ s5 ⟨x,H5,I5,r5,y5,uq,lC⟩=>?_);have Wn:=I5.pinned (qG lC) (T.obj _ _ uq);refine aef hp (aL (hg _ s5 cE H5 x u _ Wn r5 (step x H5 y5)) λ_ s6 ⟨σ6,H6,I6,q6⟩=>?_);refine aef hp (aL (hb _ s6 σ6 H6 _ I6 q6) λf s7 q7=>?_);have again:∀{kR:St}{H7:Hp},Inv X (af++uZ fp s5.heap) kR H7 s7->N kR H7->∃m,m<n/\∃i aC H',Inv X af aC H' s7/\tn i s7.heap/\(∀b∈fp,H' b=none)/\W i m aC H':=λ{kR H7} I7 n7=>by
   obtain⟨m',hm,w7⟩:=hN kR H7 n7;refine⟨m',hm,i+1,kR,H7,I7.yd,T.keep _ _ _ uq λb hb o e=>(I7.pin (b,o) (aat _ (aat _ (Ae hb e)))).1,λb hb=>?_,w7⟩;obtain⟨o,e,d⟩:=T.obj _ _ uq b hb;exact(I7.pin (b,o) (aat _ (aat _ (Ae hb e)))).2.1
  cases f with
  |next=>obtain⟨kR,H7,I7,n7⟩:=q7;exact again I7 n7
  |cont=>obtain⟨kR,H7,I7,n7⟩:=q7;exact again I7 n7
  |brk=>obtain⟨kR,H7,I7,q7⟩:=q7;exact⟨kR,H7,I7.yd,q7⟩
  |ret v=>obtain⟨x7,kR,H7,I7,r7,q7⟩:=q7;exact⟨x7,kR,H7,I7.yd,r7,q7⟩
end
abbrev R2:=V->V->Hp->VK->Prop
def cO(X:Cx)(f:Value->Value->Sem Value)(r:R2):Prop:=
 ∀(af:List (Addr×Obj)) (s:Shared) (σ:St) (H:Hp) (x y:V) (v u:Value) (Q:VK),Inv X af σ H s->RelV x v->RelV y u->r x y H Q->
  wpAny (model X.prog X.w) X.A (f v u) (EP X af σ Q) X.xe s
def Gv(X:Cx)(f:Value->Sem Value)(r:V->Hp->VK->Prop):Prop:=
 ∀(af:List (Addr×Obj)) (s:Shared) (σ:St) (H:Hp) (x:V) (v:Value) (Q:VK),Inv X af σ H s->RelV x v->r x H Q->
  wpAny (model X.prog X.w) X.A (f v) (EP X af σ Q) X.xe s
def g_(X:Cx)(f:Value)(r:List V->Hp->VK->Prop):Prop:=
 ∀(af:List (Addr×Obj)) (s:Shared) (σ:St) (H:Hp) (xs:List V) (us:List Value) (Q:VK),Inv X af σ H s->aQ xs us->r xs H Q->
  wpAny (model X.prog X.w) X.A (call f us) (EP X af σ Q) X.xe s
def TH(X:Cx)(r:V->Hp->(Bool->Hp->Prop)->Prop):Prop:=
 ∀(af:List (Addr×Obj)) (s:Shared) (σ:St) (H:Hp) (x:V) (v:Value) (Q:Bool->Hp->Prop),Inv X af σ H s->RelV x v->r x H Q->
  wpAny (model X.prog X.w) X.A (truthy v) (TP X af σ Q) X.xe s
def rR(r:R2)(ta tb:TE):TE:=λσ H Q=>ta σ H λx H1=>tb σ H1 λy H2=>r x y H2 Q
def YA(r:V->Hp->VK->Prop)(ta:TE):TE:=λσ H Q=>ta σ H λx H1=>r x H1 Q
def rI(C:Int->Int->Prop)(g:Int->Int->V):R2:=λx y H Q=>∃i j,x=.int i/\y=.int j/\C i j/\Q (g i j) H
def lP(g:Int->Int->V):R2:=λx y H Q=>∃i j,x=.int i/\y=.int j/\Q (g i j) H
def rU(g:Int->V):V->Hp->VK->Prop:=λx H Q=>∃i,x=.int i/\Q (g i) H
section
variable{X:Cx}{a b c:Expr}{ta tb tc:TE}{pos:Pos}
theorem Eu(ha:PE X a ta)(hb:PE X b tb){R:V->V->Hp->Prop}(I:Inv X af σ H s)
  (h:ta σ H λx H1=>tb σ H1 λy H2=>R x y H2){f:Value->Value->Sem Value}
  (hf:∀v u s2 x y H2,Inv X af σ H2 s2->RelV x v->RelV y u->R x y H2->wpAny (model X.prog X.w) X.A (f v u) Q X.xe s2) :
  wpAny (model X.prog X.w) X.A (eval a X.env) (λv bI=>wpAny (model X.prog X.w) X.A (eval b X.env) (λu oZ=>wpAny (model X.prog X.w) X.A (f v u) Q X.xe oZ) X.xe bI) X.xe s:=by
 refine aL (ha af s σ H _ I h) λv s1 ⟨x,H1,I1,r1,q1⟩=>?_
 refine aL (hb af s1 σ H1 _ I1 q1) λu s2 ⟨y,H2,I2,r2,q2⟩=>?_
 exact hf v u s2 x y H2 I2 r1 r2 q2
theorem LR{op:Operator}{r:R2}(ho:cO X (binaryOp op) r)(ha:PE X a ta)(hb:PE X b tb):PE X (.BinOp a op b pos) (rR r ta tb):=by
 intro af s σ H Q I h;exact wpAny_BinOp (Eu ha hb I h λv u s2 x y H2 I2 rx ry q=>ho af s2 σ H2 x y v u Q I2 rx ry q)
theorem acT{op:UnaryOp}{r:V->Hp->VK->Prop}(ho:Gv X (unaryOp op) r)(ha:PE X a ta):PE X (.UnaryOp op a pos) (YA r ta):=by
 intro af s σ H Q I h;exact UnaryOp_ (aL (ha af s σ H _ I h) λv s1 ⟨x,H1,I1,r1,q1⟩=>ho af s1 σ H1 x v Q I1 r1 q1)
theorem D0{f:Value->Value->Sem Value}{C:Int->Int->Prop}{g:Int->Int->Int}
  (rule:∀(i j:Int) (t u:Tok) (s:Shared) (Q:Value->Shared->Prop) (E:Value->Shared->Prop),C i j->Q (.int (g i j) s.toks) { s with toks:=s.toks+1 }->wpAny (model X.prog X.w) X.A (f (.int i t) (.int j u)) Q E s) :
  cO X f (rI C λi j=>.int (g i j)):=by
 intro af s σ H x y v u Q I rx ry h;obtain⟨i,j,rfl,rfl,hc,q⟩:=h;obtain⟨t,rfl⟩:=rx;obtain⟨t',rfl⟩:=ry;exact rule i j t t' s _ _ hc ⟨.int (g i j),H,I.tok _,⟨_,rfl⟩,q⟩
theorem Qj{f:Value->Value->Sem Value}{g:Int->Int->Int}
  (rule:∀(i j:Int) (t u:Tok) (s:Shared) (Q:Value->Shared->Prop) (E:Value->Shared->Prop),Q (.int (g i j) s.toks) { s with toks:=s.toks+1 }->wpAny (model X.prog X.w) X.A (f (.int i t) (.int j u)) Q E s) :
  cO X f (lP λi j=>.int (g i j)):=by
 intro af s σ H x y v u Q I rx ry h;obtain⟨i,j,rfl,rfl,q⟩:=h;obtain⟨t,rfl⟩:=rx;obtain⟨t',rfl⟩:=ry;exact rule i j t t' s _ _ ⟨.int (g i j),H,I.tok _,⟨_,rfl⟩,q⟩
theorem zf{f:Value->Value->Sem Value}{g:Int->Int->Bool}
  (rule:∀(i j:Int) (t u:Tok) (s:Shared) (Q:Value->Shared->Prop) (E:Value->Shared->Prop),Q (.bool (g i j)) s->wpAny (model X.prog X.w) X.A (f (.int i t) (.int j u)) Q E s) :
  cO X f (lP λi j=>.bl (g i j)):=by
 intro af s σ H x y v u Q I rx ry h;obtain⟨i,j,rfl,rfl,q⟩:=h;obtain⟨t,rfl⟩:=rx;obtain⟨t',rfl⟩:=ry;exact rule i j t t' s _ _ ⟨.bl (g i j),H,I,rfl,q⟩
def aaU(i j:Int):Prop:=0<j/\j<1073741824
def vd(i j:Int):Prop:=(-(2 ^ 64)<i/\i<2 ^ 64)\/(-(2 ^ 64)<j/\j<2 ^ 64)
theorem vd.ok{i j:Int}(h:vd i j):IntMulOk i j:=by
 rcases h with⟨h1,h2⟩|⟨h1,h2⟩
 .exact .of_left (intBits_le_64 h1 h2)
 .exact .of_right (intBits_le_64 h1 h2)
theorem U1:cO X (binaryOp .Add) (lP λi j=>.int (i+j)):=Qj λ_ _ _ _ _ _ _ q=>add_int q
theorem Xk:cO X (binaryOp .Sub) (lP λi j=>.int (i-j)):=Qj λ_ _ _ _ _ _ _ q=>sub_int q
theorem WL:cO X (binaryOp .Mult) (rI vd λi j=>.int (i*j)):=D0 λ_ _ _ _ _ _ _ hc q=>mul_int q hc.ok
theorem Uy:cO X (binaryOp .FloorDiv) (rI aaU λi j=>.int (i / j)):=D0 λi j _ _ _ _ _ hc q=>by
 have h1:(0:Int)<j:=hc.1;have h2:j<1073741824:=hc.2;exact floordiv_int (by omega) (by rw[Int.fdiv_eq_ediv_of_nonneg i (by omega)];exact q) (.inl (PyProof.noPylong_small (by omega)))
theorem Vq:cO X (binaryOp .Mod) (rI (λ_ j=>0<j) λi j=>.int (i % j)):=D0 λi j _ _ _ _ _ hc q=>by
 have h1:=hc;exact mod_int' (by omega) (by rw[Int.fmod_eq_emod_of_nonneg i (by omega)];exact q)
theorem Ws{f:Value->Sem Value}{g:Int->Int}
  (rule:∀(i:Int) (t:Tok) (s:Shared) (Q:Value->Shared->Prop) (E:Value->Shared->Prop),Q (.int (g i) s.toks) { s with toks:=s.toks+1 }->wpAny (model X.prog X.w) X.A (f (.int i t)) Q E s) :
  Gv X f (rU λi=>.int (g i)):=by
 intro af s σ H x v Q I rx h;obtain⟨i,rfl,q⟩:=h;obtain⟨t,rfl⟩:=rx;exact rule i t s _ _ ⟨.int (g i),H,I.tok _,⟨_,rfl⟩,q⟩
theorem SX:Gv X (unaryOp .USub) (rU λi=>.int (-i)):=Ws λ_ _ _ _ _ q=>neg_int q
end
noncomputable def K0:V->V->Bool
 |.aA,.aA=>true|.aA,.int _=>true|.int _,.aA=>true|.aA,.bl _=>true|.bl _,.aA=>true|.aA,.str _=>true|.str _,.aA=>true
 |.int _,.int _=>true|.bl _,.bl _=>true|.str _,.str _=>true|.jF _,.jF _=>true
 |.int _,.str _=>true|.str _,.int _=>true|.bl _,.str _=>true|.str _,.bl _=>true
 |_,_=>false
def Lc:R2:=λx y H Q=>K0 x y=true/\Q (.bl (decide (x=y))) H
def Oe:R2:=λx y H Q=>K0 x y=true/\Q (.bl (!decide (x=y))) H
theorem zM:decide (V.int i=V.int j)=(i==j):=by
 rw[aeH];simp
theorem yV:decide (V.bl i=V.bl j)=(i==j):=by
 rw[aeH];simp
theorem Bo:decide (V.str i=V.str j)=(i==j):=by
 rw[aeH];simp
theorem Lh{i j:Array UInt8}:decide (V.jF i=V.jF j)=(i.toList==j.toList):=by
 rw[aeH];cases i;cases j;simp
section
variable{X:Cx}{a b c:Expr}{ta tb tc:TE}{pos:Pos}
theorem cV(I:Inv X af σ H s)(q:Q (.bl k) H)(e:k=k'):EP X af σ Q (.bool k') s:=by
 subst e;exact⟨.bl k,H,I,rfl,q⟩
theorem Jf:cO X (compareOp .Eq) Lc:=by
 intro af s σ H x y v u Q I rx ry h;obtain⟨hs,q⟩:=h;cases x with
 |aA=>
  cases rx;cases y with
  |aA=>cases ry;exact PySem.EqNone.eq_none_none (cV I q (by simp))
  |bl j=>cases ry;exact PySem.EqNone.eq_none_bool (cV I q (by simp))
  |int j=>obtain⟨t',rfl⟩:=ry;exact PySem.EqNone.eq_none_int (cV I q (by simp))
  |str j=>obtain⟨t',rfl⟩:=ry;exact PySem.EqNone.eq_none_str (cV I q (by simp))
  |_=>exact absurd (show false=true from hs) aa9
 |bl i=>
  cases rx;cases y with
  |aA=>cases ry;exact PySem.EqNone.eq_bool_none (cV I q (by simp))
  |bl j=>cases ry;exact eq_bool (cV I q yV)
  |str j=>obtain⟨t',rfl⟩:=ry;exact PySem.EqMixed.eq_bool_str (cV I q (by simp))
  |_=>exact absurd (show false=true from hs) aa9
 |int i=>
  obtain⟨t,rfl⟩:=rx;cases y with
  |aA=>cases ry;exact PySem.EqNone.eq_int_none (cV I q (by simp))
  |int j=>obtain⟨t',rfl⟩:=ry;exact eq_int (cV I q zM)
  |str j=>obtain⟨t',rfl⟩:=ry;exact PySem.EqMixed.eq_int_str (cV I q (by simp))
  |_=>exact absurd (show false=true from hs) aa9
 |str i=>
  obtain⟨t,rfl⟩:=rx;cases y with
  |aA=>cases ry;exact PySem.EqNone.eq_str_none (cV I q (by simp))
  |bl j=>cases ry;exact PySem.EqMixed.eq_str_bool (cV I q (by simp))
  |int j=>obtain⟨t',rfl⟩:=ry;exact PySem.EqMixed.eq_str_int (cV I q (by simp))
  |str j=>obtain⟨t',rfl⟩:=ry;exact eq_str (cV I q Bo)
  |_=>exact absurd (show false=true from hs) aa9
 |jF i=>
  obtain⟨t,rfl⟩:=rx;cases y with
  |jF j=>obtain⟨t',rfl⟩:=ry;exact PySem.W.eq_bytes (cV I q Lh)
  |_=>exact absurd (show false=true from hs) aa9
 |_=>cases y<;>exact absurd (show false=true from hs) aa9
theorem aaW:cO X (compareOp .NotEq) Oe:=by
 intro af s σ H x y v u Q I rx ry h;obtain⟨hs,q⟩:=h;cases x with
 |aA=>
  cases rx;cases y with
  |aA=>cases ry;exact PySem.EqNone.ne_none_none (cV I q (by simp))
  |bl j=>cases ry;exact PySem.EqNone.ne_none_bool (cV I q (by simp))
  |int j=>obtain⟨t',rfl⟩:=ry;exact PySem.EqNone.ne_none_int (cV I q (by simp))
  |str j=>obtain⟨t',rfl⟩:=ry;exact PySem.EqNone.ne_none_str (cV I q (by simp))
  |_=>exact absurd (show false=true from hs) aa9
 |bl i=>
  cases rx;cases y with
  |aA=>cases ry;exact PySem.EqNone.ne_bool_none (cV I q (by simp))
  |bl j=>cases ry;exact ne_bool (cV I q (congrArg not yV))
  |str j=>obtain⟨t',rfl⟩:=ry;exact PySem.EqMixed.ne_bool_str (cV I q (by simp))
  |_=>exact absurd (show false=true from hs) aa9
 |int i=>
  obtain⟨t,rfl⟩:=rx;cases y with
  |aA=>cases ry;exact PySem.EqNone.ne_int_none (cV I q (by simp))
  |int j=>obtain⟨t',rfl⟩:=ry;exact ne_int (cV I q (congrArg not zM))
  |str j=>obtain⟨t',rfl⟩:=ry;exact PySem.EqMixed.ne_int_str (cV I q (by simp))
  |_=>exact absurd (show false=true from hs) aa9
 |str i=>
  obtain⟨t,rfl⟩:=rx;cases y with
  |aA=>cases ry;exact PySem.EqNone.ne_str_none (cV I q (by simp))
  |bl j=>cases ry;exact PySem.EqMixed.ne_str_bool (cV I q (by simp))
  |int j=>obtain⟨t',rfl⟩:=ry;exact PySem.EqMixed.ne_str_int (cV I q (by simp))
  |str j=>obtain⟨t',rfl⟩:=ry;exact ne_str (cV I q (congrArg not Bo))
  |_=>exact absurd (show false=true from hs) aa9
 |jF i=>
  obtain⟨t,rfl⟩:=rx;cases y with
  |jF j=>obtain⟨t',rfl⟩:=ry;exact PySem.W.ne_bytes (cV I q (congrArg not Lh))
  |_=>exact absurd (show false=true from hs) aa9
 |_=>cases y<;>exact absurd (show false=true from hs) aa9
theorem Mg:cO X (compareOp .Lt) (lP λi j=>.bl (decide (i<j))):=zf λ_ _ _ _ _ _ _ q=>lt_int q
theorem yF:cO X (compareOp .LtE) (lP λi j=>.bl (decide (i<=j))):=zf λ_ _ _ _ _ _ _ q=>le_int q
theorem YV:cO X (compareOp .Gt) (lP λi j=>.bl (decide (j<i))):=zf λ_ _ _ _ _ _ _ q=>gt_int q
theorem Ud:cO X (compareOp .GtE) (lP λi j=>.bl (decide (j<=i))):=zf λ_ _ _ _ _ _ _ q=>ge_int q
theorem OH:cO X (compareOp .Is) (λx y H Q=>y=.aA/\Q (.bl (decide (x=.aA))) H):=by
 intro af s σ H x y v u Q I rx ry h;obtain⟨rfl,q⟩:=h;cases ry;refine is_none_gen (cV I q ?_);cases x<;>first
  |(cases rx;rfl)
  |(obtain⟨t,rfl⟩:=rx;rfl)
theorem Wm:cO X (compareOp .IsNot) (λx y H Q=>y=.aA/\Q (.bl (!decide (x=.aA))) H):=by
 intro af s σ H x y v u Q I rx ry h;obtain⟨rfl,q⟩:=h;cases ry;refine isnot_none_gen (cV I q ?_);cases x<;>first
  |(cases rx;rfl)
  |(obtain⟨t,rfl⟩:=rx;rfl)
theorem iY(b:Expr){op:CmpOp}(h:op≠.In:=by decide)(h2:op≠.NotIn:=by decide):behindInMarks op b=false:=by
 have e1:(op==CmpOp.In)=false:=by cases op<;>first|rfl|exact absurd rfl h
 have e2:(op==CmpOp.NotIn)=false:=by cases op<;>first|rfl|exact absurd rfl h2
 cases b<;>simp[behindInMarks,e1,e2]
theorem ZL{op:CmpOp}{r:R2}(ho:cO X (compareOp op) r)(ha:PE X a ta)(hb:PE X b tb)(hm:behindInMarks op b=false):PE X (.Compare a [op] [b] pos) (rR r ta tb):=by
 intro af s σ H Q I h;exact wpAny_Compare1 (Eu ha hb I h λv u s2 x y H2 I2 rx ry q=>ho af s2 σ H2 x y v u Q I2 rx ry q) hm
def acK(t:TE):TT:=λσ H Q=>t σ H λx H'=>∃k,x=.bl k/\Q k H'
theorem XQ{op:CmpOp}{r:R2}(ho:cO X (compareOp op) r)(ha:PE X a ta)(hb:PE X b tb)(hm:behindInMarks op b=false):PT X (.Compare a [op] [b] pos) (acK (rR r ta tb)):=by
 intro af s σ H Q I h;refine wpAny_isTrue_Compare1 (aL (ha af s σ H _ I h) λv s1 ⟨x,H1,I1,r1,q1⟩=>aL (hb af s1 σ H1 _ I1 q1) λu s2 ⟨y,H2,I2,r2,q2⟩=>
  aL (ho af s2 σ H2 x y v u _ I2 r1 r2 q2) λc s3 ⟨z,H3,I3,r3,k,e,q3⟩=>?_) hm
 subst e;cases r3;exact adI ⟨H3,I3,q3⟩
def ab9(r r':R2)(ta tb tc:TE):TE:=λσ H Q=>ta σ H λx H1=>tb σ H1 λy H2=>r x y H2 λz H3=>∃k,z=.bl k/\
 (if k=true then tc σ H3 λw' H4=>r' y w' H4 Q else Q (.bl false) H3)
theorem ab3{op qv:CmpOp}{r r':R2}(ho:cO X (compareOp op) r)(ly:cO X (compareOp qv) r')(ha:PE X a ta)(hb:PE X b tb)(hc:PE X c tc)
  (hm:lastMarks [op,qv] [b,c]=false:=by with_unfolding_all rfl):PE X (.Compare a [op,qv] [b,c] pos) (ab9 r r' ta tb tc):=by
 intro af s σ H Q I h;refine Compare_chain (aL (ha af s σ H _ I h) λv s1 ⟨x,H1,I1,r1,q1⟩=>chain_link (aL (hb af s1 σ H1 _ I1 q1) λu s2 ⟨y,H2,I2,r2,q2⟩=>
  aL (ho af s2 σ H2 x y v u _ I2 r1 r2 q2) λd s3 ⟨z,H3,I3,r3,k,e,q3⟩=>?_)) hm
 subst e;cases r3;refine adI ?_;cases k with
 |false=>exact ite_ff ⟨.bl false,H3,I3,rfl,q3⟩
 |true=>exact ite_tt (chain_last (aL (hc af s3 σ H3 _ I3 q3) λw' s4 ⟨z',H4,I4,r4,q4⟩=>ly af s4 σ H4 y z' u w' Q I4 r2 r4 q4))
def Ir(K:PySem.W.Frag)(x:V)(H:Hp)(k:Bool):Prop:=
 match x with
 |.aA=>k=false
 |.bl b=>k=b
 |.int i=>k=(i != 0)
 |.str y=>y.length<=sizeLine/\k=((y.length:Int) != 0)
 |.jF y=>y.size<=sizeLine/\k=((y.size:Int) != 0)
 |.ref p=>(∃xs,bR K H p xs/\k=!xs.isEmpty)\/(∃xs,bZ K H p xs/\k=!xs.isEmpty)\/∃ak,H p=some (.dK ak)/\k=!ak.isEmpty
 |_=>False
theorem Vi{κ:Type}{ak:List (κ×V)}{vs:List (κ×Value)}(r:KV ak vs):(!vs.isEmpty)=!ak.isEmpty:=by
 cases r<;>rfl
theorem Lm{xs:List V}{au:List Value}(r:aQ xs au):(!au.toArray.isEmpty)=!xs.isEmpty:=by
 cases r<;>simp
theorem ye:(sizeLine:Nat)<2 ^ 63:=by rw[adM];decide
theorem aaA:TH X (λx H Q=>∃k,Ir X.K x H k/\Q k H):=by
 intro af s σ H x v Q I rx h;obtain⟨k,e,q⟩:=h;have hl:=ye;have hs:sizeLine=16777216:=adM;cases x with
 |aA=>
  cases rx;have e':k=false:=e;subst e';exact truthy_none ⟨H,I,q⟩
 |bl b=>
  cases rx;have e':k=b:=e;subst e';exact adI ⟨H,I,q⟩
 |int i=>
  obtain⟨t,rfl⟩:=rx;have e':k=(i != 0):=e;subst e';exact PySem.P.truthy_int ⟨H,I,q⟩
 |str y=>
  obtain⟨t,rfl⟩:=rx;obtain⟨hy,e'⟩:y.length<=sizeLine/\k=((y.length:Int) != 0):=e;subst e';exact PySem.P.truthy_str (by omega) ⟨H,I.tok _,q⟩
 |jF y=>
  obtain⟨t,rfl⟩:=rx;obtain⟨hy,e'⟩:y.size<=sizeLine/\k=((y.size:Int) != 0):=e;subst e';exact PySem.W.truthy_bytes (by omega) ⟨H,I.tok _,q⟩
 |ref p=>
  cases rx;have e':(∃xs,bR X.K H p xs/\k=!xs.isEmpty)\/(∃xs,bZ X.K H p xs/\k=!xs.isEmpty)\/∃ak,H p=some (.dK ak)/\k=!ak.isEmpty:=e;rcases e' with⟨xs,hx,e'⟩|⟨xs,hx,e'⟩|⟨ak,hx,e'⟩
  .subst e';obtain⟨au,r,pl,hz⟩:=I.list hx;have hlen:=r.length;exact wpAny_truthy_list pl.isList (by simp only[abG];omega) ⟨H,I.tok _,by rw[Lm r];exact q⟩
  .subst e';obtain⟨au,r,pl,hz⟩:=I.tuple hx;have hlen:=r.length;exact truthy_tuple pl (by simp only[abG];omega) ⟨H,I.tok _,by rw[Lm r];exact q⟩
  .subst e';obtain⟨hz,hS,vs,r,m⟩:ak.length<=sizeLine/\(p==sysModules)=false/\∃vs,KV ak vs/\s.heap.DictOf (fN X.prog X.w) p vs:=I.aH p _ hx;have hlen:ak.length=vs.length:=Paired.length r;exact wpAny_truthy_dict hS m (by omega) ⟨H,I.tok _,by rw[Vi r];exact q⟩
 |_=>exact(show False from e).elim
theorem Us(ha:PE X a ta)(he:∀whole,isTrue a X.env whole=(do let v <- whole;standAt a.pos;holding [v] (truthy v))):
  PT X a (λσ H Q=>ta σ H λx H'=>∃k,Ir X.K x H' k/\Q k H'):=by
 intro af s σ H Q I h;exact isTrue_plain (aL (ha af s σ H _ I h) λv s1 ⟨x,H1,I1,r1,q1⟩=>aaA af s1 σ H1 x v Q I1 r1 q1) (he _)
theorem vals1(r:aQ [x] us):∃u,us=[u]/\RelV x u:=by
 cases r with
 |cons r1 r2=>cases r2;exact⟨_,rfl,r1⟩
theorem vals2(r:aQ [x,y] us):∃u w',us=[u,w']/\RelV x u/\RelV y w':=by
 cases r with
 |cons r1 r2=>
  cases r2 with
  |cons r3 r4=>cases r4;exact⟨_,_,rfl,r1,r3⟩
theorem QM(hc:X.calm=true):g_ X (.builtin "min") (λxs H Q=>∃i j,xs=[.int i,.int j]/\Q (.int (if j<i then j else i)) H):=by
 intro af s σ H xs us Q I r h;obtain⟨i,j,rfl,q⟩:=h;obtain⟨u,w',rfl,⟨t,rfl⟩,⟨t',rfl⟩⟩:=vals2 r;refine min_two_ints (I.ok.hd hc) λh' tk k=>⟨_,H,I.kept k,?_,q⟩
 by_cases hj:j<i
 .rw[if_pos hj,if_pos hj];exact⟨_,rfl⟩
 .rw[if_neg hj,if_neg hj];exact⟨_,rfl⟩
end
structure rA(h:Heap)(x dx C:Addr)(mA:Str->Option Value):Prop where
 obj:h.get? x=some (PySem.W.instObj C dx)
 ns:h.Ns1 dx mA
 ne:dx≠x
theorem WY{h:Heap}{dx:Addr}{mA:Str->Option Value}(n:h.Ns1 dx mA):∃od,h.get? dx=some od/\∀name,PySem.W.lookIn name od=some (mA name):=by
 obtain⟨o,es,ep,ho,hd,hk,_,hm⟩:=n;refine⟨o,ho,λname=>?_⟩;have e:=hm name;unfold nsFind findBy at e;rw[<- Array.find?_toList] at e;unfold PySem.W.lookIn;rw[hd];dsimp only
 split
 .rename_i y q;rw[q] at e;exact congrArg some e
 .rename_i q;rw[q] at e;have a:es.toList.any (·.refKey)=false:=by
   rw[List.any_eq_false];intro y hy;obtain⟨z,t,wL⟩:=hk y (Array.mem_toList_iff.mp hy);simp[DictEntry.refKey,wL]
  have a':¬es.toList.any (·.refKey)=true:=by rw[a];exact aa9
  rw[if_neg a'];exact congrArg some e
theorem rA.look(I:rA h x dx C mA):∃od,PySem.W.InstAt h x (PySem.W.instObj C dx) C (some od)/\∀name,PySem.W.lookIn name od=some (mA name):=
 let⟨od,ho,hl⟩:=WY I.ns
 ⟨od,⟨I.obj,rfl,rfl,ho⟩,hl⟩
section
variable{prog:Program}{w:World}{A:Around}{E:Value->Shared->Prop}{s:Shared}{K:PySem.W.Frag}{x dx C f:Addr}{mA:Str->Option Value}{name:Str}{v:Value}
theorem get_map(X:K.In s.heap)(I:rA s.heap x dx C mA)(hg:PySem.W.plainGet K C name=true)(hh:PySem.W.hasDictIn K C=true)
  (ha:PySem.W.findIn K (.ref C) name=some none) (hv:mA name=some v) (jD:PySem.W.handedIn v=true) (h:Q v { s with toks:=s.toks+1 }) :
  wpAny (model prog w) A (getAttr (.ref x) name expr) Q E s:=by
 obtain⟨od,J,hl⟩:=I.look;exact PySem.W.get_value X J (PySem.W.plainGet_of hg).1 (PySem.W.findObj_own hh ha rfl (by rw[hl,hv])) jD h
theorem Z9{pl:Sem Bool}{Q:Value×List Value->Shared->Prop}(X:K.In s.heap)(I:rA s.heap x dx C mA)(hg:PySem.W.plainGet K C name=true)
  (hf:PySem.W.findIn K (.ref C) name=some (some (.ref f))) (ht:PySem.W.isFn K (.ref f)=true) (hv:mA name=none) (h:Q (.ref f,[.ref x]) s) :
  wpAny (model prog w) A (getMethod (.ref x) name pl) Q E s:=by
 obtain⟨od,J,hl⟩:=I.look;exact PySem.W.method_fn X J (PySem.W.plainGet_of hg).1 (PySem.W.plainGet_of hg).2 hf (ad2.mp ht) (by show(PySem.W.lookIn name od).map (·.isSome)=some false;rw[hl,hv];rfl) h
theorem Yb{Q:Unit->Shared->Prop}(X:K.In s.heap)(I:rA s.heap x dx C mA)
  (hs:PySem.W.findIn K (.ref C) "__setattr__"=some (some (.builtin "object.__setattr__"))) (hp:PySem.W.plainOver K C=true) (ht:PySem.W.takerIn K C name=some none) (hh:PySem.W.hasDictIn K C=true)
  (hw:PySem.Within mA ns) (hsz:ns.length<=sizeLine)
  (h:∀h',rA h' x dx C (λy=>if y=name then some v else mA y)->Heap.SameBut dx s.heap h'->Q () { s with heap:=h',toks:=s.toks+2 }) :
  wpAny (model prog w) A (setAttr (.ref x) name v) Q E s:=by
 obtain⟨od,J,hl⟩:=I.look;refine PySem.W.set_plain X J hs (PySem.W.osa_open (r:=none) X J hp ht λb=>?_);obtain⟨cd,hc,HB⟩:=PySem.W.any_some hh;have hx:=I.obj;refine aaT (acI (aaT (aaT (wpAny_loadPart hx (aaT (PySem.W.Looks.here (PySem.W.looks_clsIn X hc) ?_))))));rw[HB];refine acI (aaT (acI (aaT ?_)));refine wpAny_nsSet1 I.ns λh' Av dG=>?_
 obtain⟨oD,esD,epD,DK,hdD,Ww⟩:=Av.count (PySem.Within.cons name v hw);refine aaT (wpAny_lookBehind DK (by rw[hdD];exact pastItsLine_dict (ado Ww (by rw[abQ];omega))) ?_);exact acI (h _ ⟨(dG.2 _ (adW I.ne)).trans I.obj,Av,I.ne⟩ dG)
theorem Wy{R:Result->Shared->Prop}{kw:List (Str×Value)}(X:K.In s.heap)(hm:PySem.W.makesIn K C=true)
  (hi:PySem.W.findIn K (.ref C) "__init__"=some (some (.ref f))) (hf:PySem.W.typeIn K (.ref f)=some (.type "function"))
  (h:codeAny (model prog w) (A.under (.builtin "type.__call__" ⟨.ref C::vs,kw⟩)) (.call (.ref f) ⟨.ref (s.heap.objs.size + 1)::vs,kw⟩) (PySem.W.InitBack (s.heap.objs.size + 1) R)
   { s with heap:=(s.heap.push PySem.W.emptyDict).push (PySem.W.instObj C s.heap.objs.size) }) :
  codeAny (model prog w) A (.call (.ref C) ⟨vs,kw⟩) R s:=by
 obtain⟨hh,g,d,t,os⟩:=s;exact PySem.W.make_core (PySem.W.makes_of X hm) (PySem.W.looks_findIn X hi) (λself=>PySem.W.bind_fn X self hf) (.inl rfl) h
end
noncomputable def d9(f:Str)(v:V):List (Str×V)->List (Str×V)
 |[]=>[(f,v)]
 |(g,x)::r=>if g=f then(g,v)::r else(g,x)::d9 f v r
theorem OX(f g:Str)(v:V):∀fs:List (Str×V),(d9 f v fs).lookup g=if g=f then some v else fs.lookup g
 |[]=>by
  show List.lookup g [(f,v)]=_
  by_cases h:g=f
  .have hb:=ad2.mpr h;simp only[List.lookup,hb,if_pos h]
  .have hb:=adg.mpr h;simp only[List.lookup,hb,if_neg h]
 |(k,x)::r=>by
  have ih:=OX f g v r;rw[show d9 f v ((k,x)::r)=(if k=f then(k,v)::r else(k,x)::d9 f v r) from rfl]
  by_cases hk:k=f
  .rw[if_pos hk]
   by_cases h:g=k
   .have hb:=ad2.mpr h;simp only[List.lookup,hb,if_pos (h.trans hk)]
   .have hb:=adg.mpr h;simp only[List.lookup,hb,if_neg (λe:g=f=>h (e.trans hk.symm))]
  .rw[if_neg hk]
   by_cases h:g=k
   .have hb:=ad2.mpr h;simp only[List.lookup,hb,if_neg (λe:g=f=>hk (h.symm.trans e))]
   .have hb:=adg.mpr h;simp only[List.lookup,hb];exact ih
theorem Cu(f:Str)(v:V):∀fs:List (Str×V),f∈(d9 f v fs).map (·.1)/\∀g,g∈fs.map (·.1)->g∈(d9 f v fs).map (·.1)
 |[]=>⟨by simp[d9],λg h=>by simp at h⟩
 |(k,x)::r=>by
  obtain⟨i1,i2⟩:=Cu f v r;rw[show d9 f v ((k,x)::r)=(if k=f then(k,v)::r else(k,x)::d9 f v r) from rfl]
  by_cases hk:k=f
  .rw[if_pos hk];subst hk;exact⟨by simp,λg h=>by simpa using h⟩
  .rw[if_neg hk];refine⟨?_,λg h=>?_⟩
   .rw[aas];exact aal _ i1
   .rw[aas] at h ⊢;rcases aaV.mp h with e|e
    .exact aaV.mpr (.inl e)
    .exact aal _ (i2 g e)
theorem KW(f:Str)(v:V):∀fs:List (Str×V),(d9 f v fs).length<=fs.length+1
 |[]=>by simp[d9]
 |(k,x)::r=>by
  have ih:=KW f v r;rw[show d9 f v ((k,x)::r)=(if k=f then(k,v)::r else(k,x)::d9 f v r) from rfl]
  by_cases hk:k=f
  .rw[if_pos hk,abQ,abQ];omega
  .rw[if_neg hk,abQ,abQ];omega
theorem gm.some_of{o:Option Value}(r:gm (some v) o):∃u,o=some u/\RelV v u:=by
 cases o with
 |none=>exact(show False from r).elim
 |some u=>exact⟨u,rfl,r⟩
theorem gm.none_of{o:Option Value}(r:gm none o):o=none:=by
 cases o with
 |none=>rfl
 |some u=>exact(show False from r).elim
theorem VC(r:RelV v u):PySem.W.handedIn u=true:=by
 cases v with
 |aA=>cases(show u=Value.none from r);rfl
 |bl b=>cases(show u=Value.bool b from r);rfl
 |int i=>obtain⟨t,e⟩:=(show ∃t,u=Value.int i t from r);cases e;rfl
 |str x=>obtain⟨t,e⟩:=(show ∃t,u=Value.str x t from r);cases e;rfl
 |jF b=>obtain⟨t,e⟩:=(show ∃t,u=Value.bytes b t from r);cases e;rfl
 |rQ b=>obtain⟨t,e⟩:=(show ∃t,u=Value.float b t from r);cases e;rfl
 |ref a=>cases(show u=Value.ref a from r);rfl
 |ty n=>cases(show u=Value.type n from r);rfl
section
variable{P:Program}{w:World}{H H':Hp}{h h':Heap}{a C dx:Addr}{fs pU:List (Str×V)}
theorem BB(aH:dh P w H h)(e:H a=some (.ins C dx fs)):∃mA,rA h a dx C mA/\(∀f,gm (fs.lookup f) (mA f))/\PySem.Within mA (fs.map (·.1))/\fs.length<=1000/\H dx=some (.own a):=by
 obtain⟨d,z,ne,ob,mA,n,r,q⟩:=(show cZ P w H h a (.ins C dx fs) from aH a _ e)
 exact⟨mA,⟨ob,n,ne⟩,r,q,z,d⟩
end
structure kF(K:PySem.W.Frag)(C:Addr):Prop where
 pg:PySem.W.plainGet K C Str.empty=true
 hd:PySem.W.hasDictIn K C=true
 po:PySem.W.plainOver K C=true
 sa:PySem.W.findIn K (.ref C) "__setattr__"=some (some (.builtin "object.__setattr__"))
theorem kF.get{K:PySem.W.Frag}(c:kF K C)(f:Str):PySem.W.plainGet K C f=true:=c.pg
def ji(K:PySem.W.Frag)(C:Addr)(f:Str):Prop:=PySem.W.findIn K (.ref C) f=some none
theorem ji.acp{K:PySem.W.Frag}(n:ji K C f):PySem.W.takerIn K C f=some none:=by
 unfold PySem.W.takerIn;rw[show PySem.W.findIn K (.ref C) f=some none from n];rfl
structure lD(K:PySem.W.Frag)(C:Addr)(m:Str)(f:Addr):Prop where
 at_:PySem.W.findIn K (.ref C) m=some (some (.ref f))
 fn:PySem.W.isFn K (.ref f)=true
 kp:PySem.W.keepIn K (.ref f)=true
section
variable{X:Cx}{af:List (Addr×Obj)}{σ:St}{H:Hp}{s:Shared}{a C dx:Addr}{fs:List (Str×V)}{f:Str}{v:V}{A:Around}{E:Value->Shared->Prop}
theorem MS(I:Inv X af σ H s)(e:H a=some (.ins C dx fs))(c:kF X.K C)(n:ji X.K C f)(l:fs.lookup f=some v)
  (h:∀u s',Inv X af σ H s'->RelV v u->Q u s'):wpAny (model X.prog X.w) A (getAttr (.ref a) f b) Q E s:=by
 obtain⟨mA,O,r,_,_,_⟩:=BB I.aH e;obtain⟨u,hu,ru⟩:=gm.some_of (by rw[<- l];exact r f);exact get_map I.dR O (c.get f) c.hd n hu (VC ru) (h u _ (I.tok _) ru)
theorem NL{pl:Sem Bool}{Q:Value×List Value->Shared->Prop}(I:Inv X af σ H s)(e:H a=some (.ins C dx fs))(c:kF X.K C)(k:lD X.K C m g)(l:fs.lookup m=none)
  (h:Q (.ref g,[.ref a]) s):wpAny (model X.prog X.w) A (getMethod (.ref a) m pl) Q E s:=by
 obtain⟨mA,O,r,_,_,_⟩:=BB I.aH e;have hn:=gm.none_of (by rw[<- l];exact r m);exact Z9 I.dR O (c.get m) k.at_ k.fn hn h
theorem Od{Q:Unit->Shared->Prop}(I:Inv X af σ H s)(e:H a=some (.ins C dx fs))(c:kF X.K C)(n:ji X.K C f)(hl:fs.length<1000)(ry:RelV y u)
  (h:∀s',Inv X af σ (upd H a (.ins C dx (d9 f y fs))) s'->Q () s'):wpAny (model X.prog X.w) A (setAttr (.ref a) f u) Q E s:=by
 obtain⟨mA,O,r,wi,_,ho⟩:=BB I.aH e;have hz:(fs.map (·.1)).length<=sizeLine:=by rw[List.length_map,adM];omega
 refine Yb I.dR O c.sa c.po n.acp c.hd wi hz λh' O' sb=>h _ ?_
 have hd:∃o,h'.get? dx=some o:=let⟨o,_,_,e',_⟩:=O'.ns;⟨o,e'⟩
 refine I.write (by rw[e];exact True.intro) (.inr ho) (λb q hb z=>(sb.2 b hb).trans z) hd ?_;refine⟨by rw[aO O.ne];exact ho,?_,O.ne,O'.obj,_,O'.ns,λg=>?_,λg hg=>?_⟩
 .have:=KW f y fs;omega
 .show gm ((d9 f y fs).lookup g) (if g=f then some u else mA g);rw[OX]
  by_cases q:g=f
  .rw[if_pos q,if_pos q];exact ry
  .rw[if_neg q,if_neg q];exact r g
 .by_cases q:g=f
  .rw[q];exact(Cu f y fs).1
  .refine(Cu f y fs).2 g (wi g λz=>hg ?_);show(if g=f then some u else mA g)=none;rw[if_neg q];exact z
theorem Inv.made(I:Inv X af σ H s):Inv X af σ (upd (upd H s.heap.objs.size (.own (s.heap.objs.size+1))) (s.heap.objs.size+1) (.ins C s.heap.objs.size []))
  { s with heap:=(s.heap.push PySem.W.emptyDict).push (PySem.W.instObj C s.heap.objs.size) }:=by
 have e1:(s.heap.push PySem.W.emptyDict).get? s.heap.objs.size=some PySem.W.emptyDict:=ab2 s.heap rfl;have e2:((s.heap.push PySem.W.emptyDict).push (PySem.W.instObj C s.heap.objs.size)).get? (s.heap.objs.size+1)=some (PySem.W.instObj C s.heap.objs.size):=by
  have:=ab2 (s.heap.push PySem.W.emptyDict) (o:=PySem.W.instObj C s.heap.objs.size) rfl
  rwa [aer] at this
 have e3:(s.heap.push PySem.W.emptyDict).Ns s.heap.objs.size (λ_=>none):=⟨PySem.W.emptyDict,#[],_,e1,rfl,(λe he=>absurd he (by simp)),λ_=>rfl⟩
 have I1:=I.laid (o:=.own (s.heap.objs.size+1)) (t':=s.toks) (λb u q=>aao _ q) (abu _) ⟨_,e1⟩;refine I1.laid (λb u q=>aao _ q) (Nat.le_of_eq (aer _ _)) ?_;have ne:s.heap.objs.size≠s.heap.objs.size+1:=acC (aen _);refine⟨by rw[aO ne,cG],adq _,ne,e2,λ_=>none,(Heap.Ns1.of_empty e3).at λo q=>aao _ q,λ_=>True.intro,λy hy=>absurd rfl hy⟩
theorem Yc{env:Env}(hb:attributeBase e f env (eval e env)=eval e env)
  (h:wpAny (model prog w) A (eval e env) (λo bI=>wpAny (model prog w) A (getAttr o f true) Q E bI) E s):wpAny (model prog w) A (eval (.Attribute e f pos) env) Q E s:=
 Attribute_any_ h (by rw[arm_eval_Attribute,hb])
end
def SR(K:PySem.W.Frag)(ta:TE)(f:Str):TE:=λσ H Q=>ta σ H λx H1=>∃a C dx fs v,x=.ref a/\H1 a=some (.ins C dx fs)/\kF K C/\ji K C f/\fs.lookup f=some v/\Q v H1
def Q3(K:PySem.W.Frag)(ta tv:TE)(f:Str):TS:=λD σ H=>tv σ H λy H1=>ta σ H1 λx H2=>∃a C dx fs,x=.ref a/\H2 a=some (.ins C dx fs)/\kF K C/\ji K C f/\fs.length<1000/\
 D.nx σ (upd H2 a (.ins C dx (d9 f y fs)))
def JK(X:Cx)(op:Operator)(rd:V->V->Hp->VK->Prop):Prop:=
 ∀(af:List (Addr×Obj)) (s:Shared) (σ:St) (H:Hp) (x y:V) (u v:Value) (Q:VK),Inv X af σ H s->RelV x u->RelV y v->rd x y H Q->wpAny (model X.prog X.w) X.A (inplaceOp op u v) (EP X af σ Q) X.xe s
def UB(K:PySem.W.Frag)(ta tv:TE)(rd:V->V->Hp->VK->Prop)(f:Str):TS:=λD σ H=>ta σ H λx H1=>∃a C dx fs v,x=.ref a/\H1 a=some (.ins C dx fs)/\kF K C/\ji K C f/\fs.lookup f=some v/\
 tv σ H1 λy H2=>rd v y H2 λz H3=>∃vm pU,H3 a=some (.ins C vm pU)/\pU.length<1000/\D.nx σ (upd H3 a (.ins C vm (d9 f z pU)))
section
variable{X:Cx}{o e value:Expr}{f:Str}{pos pos' PN:Pos}{ta tv:TE}
theorem sN(he:PE X e ta)(hb:attributeBase e f X.env (eval e X.env)=eval e X.env):PE X (.Attribute e f pos) (SR X.K ta f):=by
 intro af s σ H Q I h;refine Yc hb (aL (he af s σ H _ I h) λu s1 ⟨x,H1,I1,rx,a,C,dx,fs,v,ex,ea,c,n,l,q⟩=>?_);subst ex;obtain rfl:u=Value.ref a:=rx;exact MS I1 ea c n l λu' s2 I2 ru=>⟨v,H1,I2,ru,q⟩
theorem XJ(ha:PE X o ta)(hv:PE X value tv)(hs:swapsWith value (some (.Attribute o f pos')) pos.line X.env=pure false):PS X (.Assign [.Attribute o f pos'] value pos) (Q3 X.K ta tv f):=by
 intro af s σ H D I h;refine plainObj_wpAny_Assign_Attribute (aL (hv af s σ H _ I h) λu s1 ⟨y,H1,I1,ry,q⟩=>aL (ha af s1 σ H1 _ I1 q) λov s2 ⟨x,H2,I2,rx,a,C,dx,fs,ex,ea,c,n,l,q2⟩=>?_) hs;subst ex;obtain rfl:ov=Value.ref a:=rx;exact Od I2 ea c n l ry λs3 I3=>⟨σ,_,I3,q2⟩
theorem V_{op:Operator}{rd:V->V->Hp->VK->Prop}(ha:PE X o ta)(hv:PE X value tv)(hop:JK X op rd):PS X (.AugAssign (.Attribute o f PN) op value pos) (UB X.K ta tv rd f):=by
 intro af s σ H D I h;refine wpAny_AugAssign_AttributeAny (aL (ha af s σ H _ I h) λov s1 ⟨x,H1,I1,rx,a,C,dx,fs,v,ex,ea,c,n,l,q⟩=>?_);subst ex;obtain rfl:ov=Value.ref a:=rx;refine MS I1 ea c n l λu s2 I2 ru=>aL (hv af s2 σ H1 _ I2 q) λw3 s3 ⟨y,H2,I3,ry,q3⟩=>aL (hop af s3 σ H2 v y u w3 _ I3 ru ry q3) λw4 s4 ⟨z,H3,I4,rz,vm,pU,ea',l',q4⟩=>?_
 exact Od I4 ea' c n l' rz λs5 I5=>⟨σ,_,I5,q4⟩
def Ux:V->V->Hp->VK->Prop:=λx y H Q=>∃i j,x=.int i/\y=.int j/\Q (.int (i+j)) H
theorem QB:JK X .Add Ux:=by
 rintro af s σ H x y u v Q I rx ry ⟨i,j,rfl,rfl,q⟩
 obtain⟨t,rfl⟩:=(show ∃t,u=Value.int i t from rx)
 obtain⟨t',rfl⟩:=(show ∃t',v=Value.int j t' from ry)
 exact PyProof.Rows.iadd_int ⟨.int (i+j),H,I.tok _,⟨_,rfl⟩,q⟩
end
section
variable{X:Cx}{af:List (Addr×Obj)}{σ:St}{H:Hp}{s:Shared}{A:Around}{E:Value->Shared->Prop}{Q:Value->Shared->Prop}{c:Value}{b:Bool}
inductive jz(K:PySem.W.Frag)(H:Hp):V->Value->Prop where
 |aA:jz K H .aA (.type "NoneType")
 |bl (x:Bool):jz K H (.bl x) (.type "bool")
 |int (i:Int):jz K H (.int i) (.type "int")
 |str (x:Str):jz K H (.str x) (.type "str")
 |rQ (x:UInt64):jz K H (.rQ x) (.type "float")
 |lst {a:Addr}{xs:List V} (e:H a=some (.lst xs)):jz K H (.ref a) (.type "list")
 |d_ {a:Addr}{o:Obj}{xs:List V} (e:H a=some (.d_ o (.lst xs))):jz K H (.ref a) (.type "list")
 |tup {a:Addr}{xs:List V} (e:H a=some (.tup xs)):jz K H (.ref a) (.type "tuple")
 |dK {a:Addr}{ak:List (Key×V)} (e:H a=some (.dK ak)):jz K H (.ref a) (.type "dict")
 |dT {a:Addr}{ak:List (List Key×V)} (e:H a=some (.dT ak)):jz K H (.ref a) (.type "dict")
 |ins {a C dx:Addr}{fs:List (Str×V)} (e:H a=some (.ins C dx fs)) (cl:kF K C) (ha:PySem.W.findIn K (.ref C) "__class__"=some (some (.builtin "object.__class__")))
   (hn:PySem.W.specialIn K (.builtin "object.__class__") "__get__"=some (some (.builtin "getset_descriptor.__get__"))) (PF:PySem.W.takesIn K (.builtin "object.__class__")=some true)
   (hm:PySem.W.mroIn K C (.type "object")=some true):jz K H (.ref a) (.ref C)
theorem U3(I:Inv X af σ H s)(rx:RelV x u)(ty:jz X.K H x t)(e:PySem.W.kitOne X.K t c=some b)(h:∀tk,Q (.bool b) { s with toks:=tk }):
  wpAny (model X.prog X.w) A (call (.builtin "isinstance") [u,c]) Q E s:=by
 cases ty with
 |aA=>cases(show u=Value.none from rx);exact PySem.W.kia_one PySem.W.kitx_none I.dR True.intro e (λz=>nomatch z) h
 |bl y=>cases(show u=Value.bool y from rx);exact PySem.W.kia_one PySem.W.kitx_bool I.dR True.intro e (λz=>nomatch z) h
 |int i=>obtain⟨t,q⟩:=(show ∃t,u=Value.int i t from rx);cases q;exact PySem.W.kia_one PySem.W.kitx_int I.dR True.intro e (λz=>nomatch z) h
 |str y=>obtain⟨t,q⟩:=(show ∃t,u=Value.str y t from rx);cases q;exact PySem.W.kia_one PySem.W.kitx_str I.dR True.intro e (λz=>nomatch z) h
 |rQ y=>obtain⟨t,q⟩:=(show ∃t,u=Value.float y t from rx);cases q;exact PySem.W.kia_one PySem.W.kitx_float I.dR True.intro e (λz=>nomatch z) h
 | @lst a xs ea=>
  cases(show u=Value.ref a from rx);obtain⟨_,_,n,_,h1⟩:=(show cZ X.prog X.w H s.heap a (.lst xs) from I.aH a _ ea)
  exact PySem.W.kia_one PySem.W.kitx_list I.dR ⟨_,h1,rfl⟩ e (λz=>nomatch z) h
 | @d_ a ob xs ea=>
  cases(show u=Value.ref a from rx);obtain⟨_,_,_,n,_,h1⟩:=(show cZ X.prog X.w H s.heap a (.d_ ob (.lst xs)) from I.aH a _ ea)
  exact PySem.W.kia_one PySem.W.kitx_list I.dR ⟨_,h1,rfl⟩ e (λz=>nomatch z) h
 | @tup a xs ea=>
  cases(show u=Value.ref a from rx);obtain⟨_,_,_,p⟩:=(show cZ X.prog X.w H s.heap a (.tup xs) from I.aH a _ ea)
  obtain⟨o,h1,h2,_⟩:=p;exact PySem.W.kia_one PySem.W.kitx_tuple I.dR ⟨o,h1,h2⟩ e (λz=>nomatch z) h
 | @dK a ak ea=>
  cases(show u=Value.ref a from rx);obtain⟨_,_,vs,_,p⟩:=(show cZ X.prog X.w H s.heap a (.dK ak) from I.aH a _ ea)
  obtain⟨o,es,ep,h1,h2,_⟩:=p;exact PySem.W.kia_one PySem.W.kitx_dict I.dR ⟨o,h1,h2.1⟩ e (λz=>nomatch z) h
 | @dT a ak ea=>
  cases(show u=Value.ref a from rx);obtain⟨_,_,xs,_,o,es,ep,h1,h2,_⟩:=(show cZ X.prog X.w H s.heap a (.dT ak) from I.aH a _ ea)
  exact PySem.W.kia_one PySem.W.kitx_dict I.dR ⟨o,h1,h2.1⟩ e (λz=>nomatch z) h
 | @ins a C dx fs ea cl ha hn PF hm=>
  cases(show u=Value.ref a from rx);obtain⟨mA,O,_⟩:=BB I.aH ea;obtain⟨od,J,_⟩:=O.look;exact PySem.W.kia_one (PySem.W.kitx_own (cl.get _) cl.hd ha hn PF hm) I.dR J e (λz=>nomatch z) h
end
structure bq(k:Nat)(A:Around)(cm:Bool:=true):Prop where
 hd:cm=true->A.handled=none
 dp:A.depth+3*k+5<recursionLimit
 un:A.units+16*k+200<cLine
 gd:A.guards=some []
theorem bq.mono{j k:Nat}{A:Around}{cm:Bool}(r:bq k A cm)(h:j<=k):bq j A cm:=⟨r.hd,by have:=r.dp;omega,by have:=r.un;omega,r.gd⟩
theorem bq.deeper{k:Nat}{A:Around}{cm:Bool}(r:bq (k+1) A cm)(env:Env):bq k (A.deeper env) cm:=
 ⟨r.hd,by have:=r.dp;show A.depth+1+3*k+5<_;omega,by have:=r.un;show A.units+3+16*k+200<_;omega,r.gd⟩
theorem bq.in1{k:Nat}{A:Around}{cm:Bool}(r:bq (k+1) A cm):bq k A.in1 cm:=
 ⟨r.hd,by have:=r.dp;show A.depth+3*k+5<_;omega,by have:=r.un;show A.units+1+16*k+200<_;omega,r.gd⟩
theorem RD{A:Around}{C:Addr}{us:List Value}{kw:List (Str×Value)}:(A.under (.builtin "type.__call__" ⟨.ref C::us,kw⟩)).depth=A.depth+1:=by
 first|rfl|simp[Around.under,Code.weight,Code.isCreation,Code.isGuard,Code.isCaller,Code.frames,Code.isFrame,guardIds]
theorem Zy{A:Around}{C:Addr}{us:List Value}{kw:List (Str×Value)}:(A.under (.builtin "type.__call__" ⟨.ref C::us,kw⟩)).units=A.units+1:=by
 first|rfl|simp[Around.under,Code.cUnits,Code.frames,Code.isFrame]
theorem bq.make(r:bq (k+1) A cm)(C:Addr)(us:List Value)(kw:List (Str×Value)):bq k (A.under (.builtin "type.__call__" ⟨.ref C::us,kw⟩)) cm:=
 ⟨r.hd,by have:=r.dp;rw[RD];omega,by have:=r.un;rw[Zy];omega,by first|exact r.gd|(simp[Around.under,Code.guards,Code.isGuard,guardIds,pushGuards];exact r.gd)⟩
theorem bq.depth{k:Nat}{A:Around}{cm:Bool}(r:bq k A cm):A.depth<recursionLimit:=by have:=r.dp;omega
theorem bq.units{k:Nat}{A:Around}{cm:Bool}(r:bq k A cm):A.units+64<cLine:=by have:=r.un;omega
def r6:TA:=λ_ H Q=>Q [] H
def Ka(ta:TE)(tr:TA):TA:=λσ H Q=>ta σ H λx H1=>tr σ H1 λxs H2=>Q (x::xs) H2
section
variable{X:Cx}{e:Expr}{es:List Expr}{te:TE}{t:TA}{pos:Pos}
theorem fU:PA X [] r6:=λ_ _ _ _ H Q I h=>Calls.spliced_nil ⟨[],H,I,.nil,h⟩
theorem dY(ha:PE X e te)(hr:PA X es t)(hs:starEach (e::es) X.env=(false,eval e X.env)::starEach es X.env:=by rfl):PA X (e::es) (Ka te t):=by
 intro pos af s σ H Q I h;rw[hs];refine Calls.spliced_cons (aL (ha af s σ H _ I h) λu s1 ⟨x,H1,I1,r1,q1⟩=>?_);exact aL (hr pos af s1 σ H1 _ I1 q1) λus s2 ⟨xs,H2,I2,r2,q2⟩=>⟨x::xs,H2,I2,.cons r1 r2,q2⟩
def VM(t:TA):TE:=λσ H Q=>t σ H λxs H1=>xs.length<=sizeLine/\∀p,H1 p=none->Q (.ref p) (upd H1 p (.tup xs))
def qK(t:TA):TE:=λσ H Q=>t σ H λxs H1=>xs.length<=sizeLine/\∀p,H1 p=none->Q (.ref p) (upd H1 p (.lst xs))
theorem Ql{x1}(h:PA X es t):PE X (.Tuple es x1 pos) (VM t):=by
 intro af s σ H Q I hq;refine wpAny_Tuple_spliced (aL (h pos af s σ H _ I hq) λus s1 ⟨xs,H1,I1,r,z,q⟩=>⟨by rw[<- r.length];exact z,?_⟩);have hf:=I1.aH.fresh (abu _);refine⟨.ref s1.heap.objs.size,upd H1 s1.heap.objs.size (.tup xs),I1.laid (λb u e=>aao _ e) (abu _) ?_,rfl,q _ hf⟩;exact⟨z,us,r,⟨_,ab2 _ rfl,rfl,rfl,_,rfl⟩⟩
theorem VP(h:PA X es t):PE X (.List es pos) (qK t):=by
 intro af s σ H Q I hq;refine wpAny_List_spliced (aL (h pos af s σ H _ I hq) λus s1 ⟨xs,H1,I1,r,z,q⟩=>⟨by rw[<- r.length];exact z,?_⟩);have hf:=I1.aH.fresh (abu _);refine⟨.ref s1.heap.objs.size,upd H1 s1.heap.objs.size (.lst xs),I1.laid (λb u e=>aao _ e) (abu _) ?_,rfl,q _ hf⟩;exact⟨z,us,0,r,ab2 _ rfl⟩
end
abbrev Sp:=List V->Hp->VK->XK->Prop
abbrev jU:=List Env->Hp->Shared->XK->Value->Shared->Prop
structure rV(P:Program)(w:World)(K:PySem.W.Frag)(mg:Str->Option Value)(base:Heap)(A:Around)(outer:List Env)(s:Shared)(H:Hp):Prop where
 frames:A.frames=some outer
 mod:Mod K mg base
 bs:∀b o,base.get? b=some o->s.heap.get? b=some o/\H b=none
 jP:base.objs.size<=s.heap.objs.size
 jX:s.heap.FunFrames base outer
 qq:∀b∈cP outer,H b=none
 aH:dh P w H s.heap
 bare:AllBare s.gens
 hq:Hq K A H
def CE(outer:List Env)(P:Program)(w:World)(H:Hp)(s:Shared)(Q:VK)(u:Value)(s':Shared):Prop:=
 ∃v H',s'.os=s.os/\AllBare s'.gens/\Un (cP outer) [] H H' s.heap s'.heap/\dh P w H' s'.heap/\RelV v u/\Q v H'
def CR(CX:jU)(outer:List Env)(P:Program)(w:World)(H:Hp)(s:Shared)(Q:VK)(E:XK)(r:Result)(s':Shared):Prop:=
 match r with
 |.ok (.ret u)=>CE outer P w H s Q u s'
 |.ok _=>False
 |.error e=>CX outer H s E e s'
structure b_(P:Program)(w:World)(K:PySem.W.Frag)(mg:Str->Option Value)(base:Heap)(CX:jU)(k:Nat)(f:Addr)(fd:FuncData)(ps:List Str)(sp:Sp)(cm:Bool:=true):Prop where
 len:∀vs H Q E,sp vs H Q E->vs.length=ps.length
 run:∀(A:Around) (outer:List Env) (s:Shared) (H:Hp) (args:Args) (us:List Value) (vs:List V) (Q:VK) (E:XK),bq k A cm->rV P w K mg base A outer s H->BindsTo s fd args (ps.zip us)->aQ vs us->sp vs H Q E->
  codeAny (model P w) A (.call (.ref f) args) (CR CX outer P w H s Q E) s
theorem b_.imp{K:PySem.W.Frag}{sp MO:Sp}(F:b_ P w K mg base CX k f fd ps sp cm)
  (h:∀vs H Q E,MO vs H Q E->sp vs H Q E):b_ P w K mg base CX k f fd ps MO cm:=
 ⟨λvs H Q E q=>F.len vs H Q E (h _ _ _ _ q),λA outer s H args us vs Q E hr he hb hv hs=>F.run A outer s H args us vs Q E hr he hb hv (h _ _ _ _ hs)⟩
theorem rV.make{K:PySem.W.Frag}{outer:List Env}(e:rV P w K mg base A outer s H)(C:Addr)(us:List Value)(kw:List (Str×Value)):
  rV P w K mg base (A.under (.builtin "type.__call__" ⟨.ref C::us,kw⟩)) outer s H:=⟨by first|exact e.frames|(simpa[Around.under,Code.envs,Code.isFrame,pushEnvs] using e.frames),e.mod,e.bs,e.jP,e.jX,e.qq,e.aH,e.bare,⟨e.hq.hd,e.hq.ok,e.hq.lm⟩⟩
section
variable{X:Cx}{af:List (Addr×Obj)}{σ:St}{H:Hp}{s s':Shared}
theorem Inv.Mm(I:Inv X af σ H s):rV X.prog X.w X.K X.mg X.base X.A X.stack s H:=
 ⟨I.ok.frames,I.ok.mod,I.bs,ado I.ok.jP I.sz,I.stack,I.BU,I.aH,I.bare,I.hq⟩
theorem Inv.after(I:Inv X af σ H s)(h:CE X.stack X.prog X.w H s Q u s'):EP X af σ Q u s':=by
 obtain⟨v,H',os,bare,un,aH,r,q⟩:=h;obtain⟨hh,g,d,t,Yd⟩:=s';obtain rfl:Yd=s.os:=os;exact⟨v,H',I.call (g':=g) (d':=d) (ch:=[]) un aH bare (λb z=>absurd z (by simp)),r,q⟩
end
def Ys(sp:Sp)(fH:List V)(E:XK)(t:TA):TE:=λσ H Q=>t σ H λvs H1=>sp (vs++fH) H1 Q E
def BE(C:Addr)(m:Str)(sp:Sp)(fH:List V)(E:XK)(ta:TE)(t:TA):TE:=λσ H Q=>ta σ H λx H1=>∃a dx fs,x=.ref a/\H1 a=some (.ins C dx fs)/\fs.lookup m=none/\
 t σ H1 λvs H2=>sp (x::(vs++fH)) H2 Q E
def Ct(C:Addr)(sp:Sp)(fH:List V)(E:XK)(t:TA):TE:=λσ H Q=>t σ H λvs H1=>∀x dx,H1 x=none->H1 dx=none->dx≠x->
 sp (.ref x::(vs++fH)) (upd (upd H1 dx (.own x)) x (.ins C dx [])) (λv H2=>v=.aA/\Q (.ref x) H2) E
def Binds(K:PySem.W.Frag)(fd:FuncData)(ps:List Str)(ds:List Value):Prop:=
 ∀(s:Shared) (us:List Value),K.In s.heap->(us++ds).length=ps.length->BindsTo s fd ⟨us,[]⟩ (ps.zip (us++ds))
theorem Binds.all{K:PySem.W.Frag}(h:∀us:List Value,us.length=ps.length->bindArgs fd ⟨us,[]⟩=pure (ps.zip us)):Binds K fd ps []:=λs us _ hl=>by
 rw[acH] at hl ⊢;exact .of_eq (h us hl)
def Passes(CX:jU)(X:Cx)(E:XK):Prop:=∀(af:List (Addr×Obj)) (σ:St) (H:Hp) (s:Shared) (e:Value) (s':Shared),Inv X af σ H s->CX X.stack H s E e s'->X.xe e s'
section
variable{X:Cx}{CX:jU}{k:Nat}{f C:Addr}{fd:FuncData}{ps:List Str}{sp:Sp}{fH:List V}{ds:List Value}{E:XK}{x m:Str}{p pos apos:Pos}{e o:Expr}{es:List Expr}{ta:TE}{t:TA}
variable{cm:Bool}
theorem BX(F:b_ X.prog X.w X.K X.mg X.base CX k f fd ps sp cm)(hr:bq k X.A cm)(hb:Binds X.K fd ps ds)(hd:aQ fH ds)(hx:Passes CX X E)
  (I:Inv X af σ H s) (r:aQ vs us) (h:sp (vs++fH) H Q E):wpAny (model X.prog X.w) X.A (call (.ref f) us) (EP X af σ Q) X.xe s:=by
 have r2:=r.append hd;have hl:(us++ds).length=ps.length:=by rw[<- r2.length];exact F.len _ _ _ _ h
 refine wpAny_call (codeAny_mono (F.run X.A X.stack s H ⟨us,[]⟩ (us++ds) (vs++fH) Q E hr I.Mm (hb s us I.dR hl) r2 h) λr s' hq=>?_);cases r with
 |error e=>exact hx af σ H s e s' I hq
 |ok fl=>
  cases fl with
  |ret u=>exact I.after hq
  |next=>exact False.elim hq
  |brk=>exact False.elim hq
  |cont=>exact False.elim hq
theorem M9(F:b_ X.prog X.w X.K X.mg X.base CX k f fd ps sp cm)(hr:bq k X.A cm)(hg:Gl X x)(hm:X.mg x=some (.ref f))(hk:PySem.W.keepIn X.K (.ref f)=true)(hb:Binds X.K fd ps ds)(hd:aQ fH ds)(hx:Passes CX X E)
  (ha:PA X (e::es) t) (lE:(x==("__debug__":Str))=false:=by decide) (he:starEach (e::es) X.env=(false,eval e X.env)::starEach es X.env:=by rfl) (hpl:(backTo pos (starEach es X.env)).any (·.1)=false:=by rfl) :
  PE X (.Call (.Name x p) (e::es) [] pos) (Ys sp fH E t):=by
 intro af s σ H Q I h;refine adP (yy I hg hm ?_ lE);refine PySem.W.callWith_K (h₀:=X.base) I.ok.mod.wR hk (aL (ha pos af s σ H _ I h) λus s1 ⟨vs,H1,I1,r,q⟩=>⟨I1.dR,?_⟩) he hpl;exact BX F hr hb hd hx I1 r q
theorem yP{pl:Sem Bool}(he:PE X o ta)(c:kF X.K C)(hm:lD X.K C m f)(F:b_ X.prog X.w X.K X.mg X.base CX k f fd ps sp cm)(hr:bq k X.A cm)(hb:Binds X.K fd ps ds)(hd:aQ fH ds)(hx:Passes CX X E)(ha:PA X (e::es) t)
  (iw:starEach (e::es) X.env=(false,eval e X.env)::starEach es X.env:=by rfl) (hpl:(backTo pos (starEach es X.env)).any (·.1)=false:=by rfl)
  (ht:eval (.Call (.Attribute o m apos) (e::es) [] pos) X.env=(do
   let ov <- eval o X.env
   standAt apos.atName
   let(f,first) <- holding [ov] (getMethod ov m pl)
   callWith pos f first (backTo pos (starEach (e::es) X.env)) (backToKw pos (keywordEach [] X.env))):=by rfl) :
  PE X (.Call (.Attribute o m apos) (e::es) [] pos) (BE C m sp fH E ta t):=by
 intro af s σ H Q I h;refine PySem.W.methodCall_KW (pl:=pl) (aL (he af s σ H _ I h) λu s1 ⟨x,H1,I1,rx,a,dx,fs,ex,ea,l,q⟩=>?_) ht;subst ex;obtain rfl:u=Value.ref a:=rx;refine NL I1 ea c hm l ?_;refine PySem.W.callWith_K (first:=[.ref a]) (h₀:=X.base) I.ok.mod.wR hm.kp (aL (ha pos af s1 σ H1 _ I1 q) λus s2 ⟨vs,H2,I2,r,q2⟩=>⟨I2.dR,?_⟩) iw hpl;exact BX (us:=.ref a::us) (vs:=.ref a::vs) F hr hb hd hx I2 (.cons rfl r) q2
theorem My{pl:Sem Bool}(he:PE X o ta)(c:kF X.K C)(hm:lD X.K C m f)(F:b_ X.prog X.w X.K X.mg X.base CX k f fd ps sp cm)(hr:bq k X.A cm)(hb:Binds X.K fd ps ds)(hd:aQ fH ds)(hx:Passes CX X E)
  (ht:eval (.Call (.Attribute o m apos) [] [] pos) X.env=(do
   let ov <- eval o X.env
   standAt apos.atName
   let(f,first) <- holding [ov] (getMethod ov m pl)
   callWith pos f first (backTo pos (starEach [] X.env)) (backToKw pos (keywordEach [] X.env))):=by rfl) :
  PE X (.Call (.Attribute o m apos) [] [] pos) (BE C m sp fH E ta r6):=by
 intro af s σ H Q I h;refine PySem.W.methodCall_KW (pl:=pl) (aL (he af s σ H _ I h) λu s1 ⟨x,H1,I1,rx,a,dx,fs,ex,ea,l,q⟩=>?_) ht;subst ex;obtain rfl:u=Value.ref a:=rx;refine NL I1 ea c hm l ?_;exact PySem.W.callWith_K0 (first:=[.ref a]) I1.dR hm.kp (BX (us:=[.ref a]) (vs:=[.ref a]) F hr hb hd hx I1 (.cons rfl .nil) q)
structure Mk(K:PySem.W.Frag)(C f:Addr):Prop where
 makes:PySem.W.makesIn K C=true
 init:PySem.W.findIn K (.ref C) "__init__"=some (some (.ref f))
 fn:PySem.W.isFn K (.ref f)=true
 kp:PySem.W.keepIn K (.ref C)=true
theorem Pe(M:Mk X.K C f)(F:b_ X.prog X.w X.K X.mg X.base CX k f fd ps sp cm)(hr:bq (k+1) X.A cm)(hb:Binds X.K fd ps ds)(hd:aQ fH ds)
  (hx:Passes CX X E) (I:Inv X af σ H s) (r:aQ vs us)
  (h:∀x dx,H x=none->H dx=none->dx≠x->sp (.ref x::(vs++fH)) (upd (upd H dx (.own x)) x (.ins C dx [])) (λv H2=>v=.aA/\Q (.ref x) H2) E) :
  wpAny (model X.prog X.w) X.A (call (.ref C) us) (EP X af σ Q) X.xe s:=by
 have hq:=h (s.heap.objs.size+1) s.heap.objs.size (I.aH.fresh (Nat.le_succ _)) (I.aH.fresh (abu _)) (acC (aen _));have I2:=Inv.made (C:=C) I;have r2:aQ (V.ref (s.heap.objs.size+1)::(vs++fH)) (Value.ref (s.heap.objs.size+1)::(us++ds)):=.cons rfl (r.append hd);have hl:(Value.ref (s.heap.objs.size+1)::us++ds).length=ps.length:=by
  have e:=r2.length;rw[F.len _ _ _ _ hq] at e;exact e.symm
 refine wpAny_call (Wy I.dR M.makes M.init (ad2.mp M.fn) (codeAny_mono (F.run _ X.stack _ _ ⟨Value.ref (s.heap.objs.size + 1)::us,[]⟩ (Value.ref (s.heap.objs.size + 1)::(us++ds)) _ _ E (hr.make C us [])
  (I2.Mm.make C us []) (hb _ (Value.ref (s.heap.objs.size+1)::us) I2.dR hl) r2 hq) λr s' oz=>?_))
 cases r with
 |error e=>exact hx af σ _ _ e s' I2 oz
 |ok fl=>
  cases fl with
  |ret u=>
   obtain⟨v,H',I3,rv,ev,q3⟩:=I2.after oz;subst ev;exact⟨rv,⟨V.ref (s.heap.objs.size+1),H',I3,rfl,q3⟩⟩
  |next=>exact False.elim oz
  |brk=>exact False.elim oz
  |cont=>exact False.elim oz
theorem YG(M:Mk X.K C f)(F:b_ X.prog X.w X.K X.mg X.base CX k f fd ps sp cm)(hr:bq (k+1) X.A cm)(hg:Gl X x)(hm:X.mg x=some (.ref C))(hb:Binds X.K fd ps ds)(hd:aQ fH ds)(hx:Passes CX X E)
  (ha:PA X (e::es) t) (lE:(x==("__debug__":Str))=false:=by decide) (he:starEach (e::es) X.env=(false,eval e X.env)::starEach es X.env:=by rfl) (hpl:(backTo pos (starEach es X.env)).any (·.1)=false:=by rfl) :
  PE X (.Call (.Name x p) (e::es) [] pos) (Ct C sp fH E t):=by
 intro af s σ H Q I h;refine adP (yy I hg hm ?_ lE);refine PySem.W.callWith_K (h₀:=X.base) I.ok.mod.wR M.kp (aL (ha pos af s σ H _ I h) λus s1 ⟨vs,H1,I1,r,q⟩=>⟨I1.dR,?_⟩) he hpl;exact Pe M F hr hb hd hx I1 r q
theorem Vf(M:Mk X.K C f)(F:b_ X.prog X.w X.K X.mg X.base CX k f fd ps sp cm)(hr:bq (k+1) X.A cm)(hg:Gl X x)(hm:X.mg x=some (.ref C))(hb:Binds X.K fd ps ds)(hd:aQ fH ds)(hx:Passes CX X E)
  (lE:(x==("__debug__":Str))=false:=by decide):PE X (.Call (.Name x p) [] [] pos) (Ct C sp fH E r6):=by
 intro af s σ H Q I h;refine adP (yy I hg hm ?_ lE);exact PySem.W.callWith_K0 I.dR M.kp (Pe (us:=[]) M F hr hb hd hx I .nil h)
end
structure pO(N P:List Str)(sc:Scope):Prop where
 kind:sc.kind=.function
 co:sc.isCoroutine=false
 gen:sc.isGenerator=false
 nd:N.Nodup
 pre:N.take P.length=P
 par:∀x∈P,sc.names.lookup x=some .local\/sc.names.lookup x=some .cell
 acW:∀y∈sc.names,y.2≠.free
theorem O1{kindOf:Str->Option NameKind}:∀{binds:List (Str×Value)}{m:Str->Option Value},(∀v,(x,v)∉binds)->bindL kindOf binds m x=m x
 |[],_,_=>rfl
 |(n,v)::r,m,h=>by
  unfold bindL;rw[O1 λw hw=>h w (aal _ hw)]
  split
  .have:x≠n:=by rintro rfl;exact h v aam
   simp[this]
  .rfl
theorem KY{kindOf:Str->Option NameKind}:∀{binds:List (Str×Value)}{m:Str->Option Value},(∀v,(x,v)∉binds)->bindC kindOf binds m x=m x
 |[],_,_=>rfl
 |(n,v)::r,m,h=>by
  unfold bindC;rw[KY λw hw=>h w (aal _ hw)]
  split
  .rfl
  .have:x≠n:=by rintro rfl;exact h v aam
   simp[this]
theorem JM{kindOf:Str->Option NameKind}:∀{P:List Str}{vs:List Value}{i:Nat}{m:Str->Option Value},P.Nodup->P[i]? = some x->vs[i]? = some v->kindOf x=some .local->
  bindL kindOf (P.zip vs) m x=some v
 |[],_,_,_,_,h,_,_=>by simp at h
 |_::_,[],_,_,_,_,h,_=>by simp at h
 |p::P,w::vs,0,m,nd,h1,h2,hk=>by
  simp at h1 h2;subst h1;subst h2;show bindL kindOf ((p,w)::P.zip vs) m p=_;unfold bindL;rw[O1 λv hv=>(aby.mp nd).1 (List.of_mem_zip hv).1,if_pos hk];simp
 |p::P,w::vs,i+1,m,nd,h1,h2,hk=>by
  unfold bindL;exact JM (aby.mp nd).2 (by simpa using h1) (by simpa using h2) hk
theorem PR{kindOf:Str->Option NameKind}:∀{P:List Str}{vs:List Value}{i:Nat}{m:Str->Option Value},P.Nodup->P[i]? = some x->vs[i]? = some v->kindOf x≠some .local->
  bindC kindOf (P.zip vs) m x=some v
 |[],_,_,_,_,h,_,_=>by simp at h
 |_::_,[],_,_,_,_,h,_=>by simp at h
 |p::P,w::vs,0,m,nd,h1,h2,hk=>by
  simp at h1 h2;subst h1;subst h2;show bindC kindOf ((p,w)::P.zip vs) m p=_;unfold bindC;rw[KY λv hv=>(aby.mp nd).1 (List.of_mem_zip hv).1,if_neg hk];simp
 |p::P,w::vs,i+1,m,nd,h1,h2,hk=>by
  unfold bindC;exact PR (aby.mp nd).2 (by simpa using h1) (by simpa using h2) hk
noncomputable def start(N:List Str)(vs:List V):St:=vs.map some++List.replicate (N.length-vs.length) none
noncomputable def iQ(CX:jU)(P:Program)(w:World)(K:PySem.W.Frag)(mg:Str->Option Value)(base:Heap)(N:List Str)(qual:Str)(scope:Scope)(f:Addr)(cd:Value)(A:Around)(outer:List Env)(s:Shared)(H:Hp)(E:XK)(cm:Bool:=true):Cx where
 prog:=P
 w:=w
 K:=K
 mg:=mg
 base:=base
 A:=A.deeper (envOfC qual scope s.heap.objs.size f cd)
 N:=N
 dQ:=s
 sC:=H
 env:=envOfC qual scope s.heap.objs.size f cd
 outer:=outer
 stack:=envOfC qual scope s.heap.objs.size f cd::outer
 ex:=[]
 calm:=cm
 fn:=λ_=>true
 pn:=[]
 xe:=λe s'=>wpAny (model P w) (A.deeper (envOfC qual scope s.heap.objs.size f cd)) (leaving (envOfC qual scope s.heap.objs.size f cd) e) (λ_ o9=>CX outer H s E e o9) (λe' o9=>CX outer H s E e' o9) s'
theorem MK{sc:Scope}{n:Nat}{x:Str}(h:sc.names.lookup x=some .cell):∃c,(cellsFrom n sc.names []).lookup x=some c:=by
 have q:=PySem.W.cellsFrom_some sc.names n [] (.inl h);exact aeg.mp q
theorem Xw{CX:jU}{P:Program}{w:World}{K:PySem.W.Frag}{mg:Str->Option Value}{base:Heap}{N ps:List Str}{qual:Str}{scope:Scope}{outer:List Env}
  (S:pO N ps scope) (hd:cm=true->A.handled=none) (e0:rV P w K mg base A outer s H) (hl:vs.length=ps.length) (r:aQ vs us)
  (x:InCallC s s.heap.objs.size (bindL (envOfC qual scope s.heap.objs.size f cd).kindOf (ps.zip us) λ_=>none) (cellsFrom (s.heap.objs.size+1) scope.names []) (bindC (envOfC qual scope s.heap.objs.size f cd).kindOf (ps.zip us) λ_=>none) s1) :
  Inv (iQ CX P w K mg base N qual scope f cd A outer s H E cm) [] (start N vs) H s1:=by
 have hpl:ps.length<=N.length:=by have:=congrArg List.length S.pre;rw[aeD] at this;omega
 obtain⟨h1,tk,rfl,hk⟩:=x.done;have qF:∀b:Addr,b∉(iQ CX P w K mg base N qual scope f cd A outer s H E cm).ex:=λb z=>absurd (show b∈([]:List Addr) from z) (by simp)
 refine⟨⟨e0.mod,S.kind,rfl,rfl,abu _,λy z c h1 h2=>?_,λy hy=>?_,λy c _ h=>?_,hd,Around.frames_deeper e0.frames,.inr ⟨rfl,rfl⟩,λb z=>absurd z (qF b),e0.bs,e0.jP,λb _ _=>qF b,λb z=>absurd z (qF b),e0.jX,e0.qq⟩,
  rfl,e0.bare,Un.kept hk,⟨_,x.toInCall.ns,λi y v h1 h2 h3=>?_⟩,λy c h=>⟨_,x.cell y c h⟩,e0.aH.fresh (abu _),λy c h=>?_,λp hp=>absurd (show p∈([]:List (Addr×Obj)) from hp) (by simp),e0.aH.kept hk,?_,⟨e0.hq.hd,e0.hq.ok,e0.hq.lm⟩⟩
 .exact name_of_addr x.apart (PySem.mem_of_lookup h1) (PySem.mem_of_lookup h2)
 .have hy:=hy;rcases hy with hy|hy
  .exact MK hy
  .exact absurd rfl (S.acW _ (PySem.mem_of_lookup hy))
 .exact adO (x.above y c (PySem.mem_of_lookup h))
 .have hi:i<vs.length:=by
   unfold start at h2
   by_cases hi:i<vs.length
   .exact hi
   .rw[ads (by simpa using hi)] at h2;rw[aek] at h2
    split at h2<;>cases h2
  have ha:vs[i]? = some v:=by
   unfold start at h2;rw[adi (by simpa using hi),ab6] at h2;exists e,vs[i]?,a,h2;cases h2;rfl
  obtain⟨u,hu,rv⟩:=r.get ha;have hp:ps[i]? = some y:=by
   rw[<- S.pre,List.getElem?_take_of_lt (by omega)];exact h1
  have Oq:ps.Nodup:=by rw[<- S.pre];exact S.nd.sublist (List.take_sublist _ _)
  refine⟨u,rv,?_⟩;rcases S.par y (adA hp) with k|k
  .exact .inl ⟨k,JM Oq hp hu k⟩
  .obtain⟨c,e⟩:=MK k;refine .inr ⟨.inl k,c,e,?_⟩;have q:=x.cell y c e;rw[PR Oq hp hu (by show scope.names.lookup y≠_;rw[k];decide)] at q;exact q
 .exact e0.aH.fresh (adO (x.above y c (PySem.mem_of_lookup h)))
 .unfold start;show _=N.length;rw[abq,List.length_map,List.length_replicate];omega
theorem RY{CX:jU}{P:Program}{w:World}{K:PySem.W.Frag}{mg:Str->Option Value}{base:Heap}{k:Nat}{f:Addr}{name qual:Str}{params:Arguments}{body:List Stmt}{scope:Scope}{dV kV doc pm aR ct oc:Value}{an od:Option Addr}
  {nW:Array (Option Value)}{N ps:List Str}{sp:Sp}{cm:Bool} (lk:K.lookup f=some ⟨oc,od,.func (PySem.W.fnOf name qual params body scope dV kV doc pm an aR ct),nW⟩) (mW:PySem.W.codeIn K aR qual=true) (S:pO N ps scope)
  (len:∀vs H Q E,sp vs H Q E->vs.length=ps.length)
  (BY:∀(A:Around) (outer:List Env) (s:Shared) (H:Hp) (vs:List V) (Q:VK) (E:XK),bq k (A.deeper (envOfC qual scope s.heap.objs.size f aR)) cm->sp vs H Q E->
   ∃t,gJ (iQ CX P w K mg base N qual scope f aR A outer s H E cm) body t/\t { nx:=λ_ H'=>Q .aA H',rt:=Q } (start N vs) H) :
  b_ P w K mg base CX (k+1) f (PySem.W.fnOf name qual params body scope dV kV doc pm an aR ct) ps sp cm:=by
 refine⟨len,λA outer s H args us vs Q E hr e0 hb r qt=>?_⟩;have hl:=len _ _ _ _ qt;have KX:K.In s.heap:=e0.mod.wR.keeps λb o e=>(e0.bs b o e).1
 have lim:s.heap.NoLimit:=e0.mod.nolimit.keeps λb o e=>(e0.bs b o e).1
 have Vw:∀y∈ps.zip us,scope.names.lookup y.1=some .local\/(scope.names.lookup y.1=some .cell/\((cellsFrom (s.heap.objs.size+1) scope.names []).lookup y.1).isSome=true):=λ⟨n,v⟩ hy=>by
  rcases S.par n (List.of_mem_zip hy).1 with q|q
  .exact .inl q
  .exact .inr ⟨q,PySem.W.cellsFrom_some _ _ _ (.inl q)⟩
 refine codeAny_call_function hr.depth (KX _ _ lk) rfl S.co S.gen rfl (PySem.W.codeRec_of KX mW) (hb _ _ _ _ ?_);refine wpAny_newFunctionEnv_cells S.kind Vw λenv he s1 x=>?_
 subst he;refine⟨lim.keeps x.toInCall.keep,codeAny_func ?_⟩;obtain⟨t,ht,hq⟩:=BY A outer s H vs Q E (hr.deeper _) qt;have I:Inv (iQ CX P w K mg base N qual scope f aR A outer s H E cm) [] (start N vs) H s1:=Xw S hr.hd e0 hl r x;refine adH (ht [] s1 (start N vs) H _ I hq) (λfl s' hs=>?_) λe s' hs=>hs
 have fin:∀{aC:St}{H':Hp}{v:V}{u:Value},Inv (iQ CX P w K mg base N qual scope f aR A outer s H E cm) [] aC H' s'->RelV v u->Q v H'->CE outer P w H s Q u s':=
  λ{aC H' v u} J rv q=>⟨v,H',J.os,J.bare,J.base,J.aH,rv,q⟩
 cases fl with
 |ret u=>
  obtain⟨v,aC,H',J,rv,q⟩:=hs;exact fin J rv q
 |next=>
  obtain⟨aC,H',J,q⟩:=hs;exact fin (v:=V.aA) (u:=Value.none) J rfl q
 |brk=>
  obtain⟨_,_,_,q⟩:=hs;exact False.elim q
 |cont=>
  obtain⟨_,_,_,q⟩:=hs;exact False.elim q
section
variable{X:Cx}{x:Str}{p pos:Pos}{e:Expr}{es:List Expr}{t:TA}{id T:String}{r:List V->Hp->VK->Prop}
def FH(r:List V->Hp->VK->Prop)(t:TA):TE:=λσ H Q=>t σ H λvs H1=>r vs H1 Q
theorem wj(hc:g_ X (.builtin id) r)(hg:Gl X x)(hm:X.mg x=none)(hv:bootBuiltins x=some (.builtin id))(ha:PA X (e::es) t)(hn:x≠"__name__":=by decide)(lE:(x==("__debug__":Str))=false:=by decide)
  (he:starEach (e::es) X.env=(false,eval e X.env)::starEach es X.env:=by rfl) (hpl:(backTo pos (starEach es X.env)).any (·.1)=false:=by rfl):PE X (.Call (.Name x p) (e::es) [] pos) (FH r t):=by
 intro af s σ H Q I h;refine adP (qu I hg hm hv ?_ hn lE);exact PyProof.Rows.callWith_builtin1 (aL (ha pos af s σ H _ I h) λus s1 ⟨vs,H1,I1,r1,q1⟩=>hc af s1 σ H1 vs us Q I1 r1 q1) he hpl
theorem DH(hc:g_ X (.type T) r)(hg:Gl X x)(hm:X.mg x=none)(hv:bootBuiltins x=some (.type T))(ha:PA X (e::es) t)(hn:x≠"__name__":=by decide)(lE:(x==("__debug__":Str))=false:=by decide)
  (he:starEach (e::es) X.env=(false,eval e X.env)::starEach es X.env:=by rfl) (hpl:(backTo pos (starEach es X.env)).any (·.1)=false:=by rfl):PE X (.Call (.Name x p) (e::es) [] pos) (FH r t):=by
 intro af s σ H Q I h;refine adP (qu I hg hm hv ?_ hn lE);exact ad5 (aL (ha pos af s σ H _ I h) λus s1 ⟨vs,H1,I1,r1,q1⟩=>hc af s1 σ H1 vs us Q I1 r1 q1) he hpl
end
end L2
namespace HT
open PySem PyProof.Rows
section
variable{prog:Program}{w:World}{A:Around}{E:Value->Shared->Prop}{s:Shared}
noncomputable def fR(n d:Nat):Option Int->Nat
 |none=>d
 |some v=>if v<0 then(v+(n:Int)).toNat else min v.toNat n
theorem EV(n d:Nat):fR n d none=d:=rfl
theorem Fk(n d k:Nat):fR n d (some (k:Int))=min k n:=by
 show(if(k:Int)<0 then((k:Int)+(n:Int)).toNat else min (k:Int).toNat n)=min k n;rw[if_neg (by omega),Int.toNat_natCast]
end
end HT
namespace L2
open PySem PySem.Spec PyProof.Rows
abbrev TO:=St->Hp->(Option Int->Hp->Prop)->Prop
def PO(X:Cx)(e:Option Expr)(t:TO):Prop:=
 ∀(af:List (Addr×Obj)) (s:Shared) (σ:St) (H:Hp) (Q:Option Int->Hp->Prop),Inv X af σ H s->t σ H Q->
  wpAny (model X.prog X.w) X.A (evalPart e X.env) (λu s'=>∃o H',Inv X af σ H' s'/\IsPart u o/\Q o H') X.xe s
noncomputable def acz:TO:=λ_ H Q=>Q none H
noncomputable def X7(t:TE):TO:=λσ H Q=>t σ H λx H1=>∃i,x=.int i/\Q (some i) H1
theorem intsAre_of:∀{us:List Value},aQ (ns.map V.int) us->IntsAre us ns:=by
 induction ns with
 |nil=>intro us r;rw[aeT] at r;cases r;exact .nil
 |cons n ns ih=>
  intro us r;rw[aas] at r;cases r with
  |cons r1 r2=>
   obtain⟨t,e⟩:=r1;subst e;exact .cons n t (ih r2)
section
variable{X:Cx}{e:Expr}{te:TE}{lo hi:Option Expr}{tl th:TO}{pos p2:Pos}
theorem Fg:PO X none acz:=by
 intro af s σ H Q I h;rw[evalPart_none];exact acI ⟨none,H,I,.none,h⟩
theorem C9(h:PE X e te):PO X (some e) (X7 te):=by
 intro af s σ H Q I hw;rw[evalPart_some];refine aL (h af s σ H _ I hw) λu s1 ⟨x,H1,I1,r1,q1⟩=>?_
 obtain⟨i,rfl,q⟩:=q1;obtain⟨t,rfl⟩:=r1;exact⟨some i,H1,I1,.int i t,q⟩
def OU(X:Cx)(r:V->Option Int->Option Int->Hp->VK->Prop):Prop:=
 ∀(af:List (Addr×Obj)) (s:Shared) (σ:St) (H:Hp) (x:V) (v vl vu:Value) (lo hi:Option Int) (sl:Addr) (Q:VK),Inv X af σ H s->RelV x v->s.heap.IsSliceOf sl vl vu .none->IsPart vl lo->IsPart vu hi->r x lo hi H Q->
  ∃T id,typeLookup (.type T) "__getitem__"=pure (some (.builtin id))/\s.TypeIs v T/\wpAny (model X.prog X.w) X.A (getItem v (.ref sl)) (EP X af σ Q) X.xe s
def Ri(r:V->Option Int->Option Int->Hp->VK->Prop)(te:TE)(tl th:TO):TE:=λσ H Q=>te σ H λx H1=>tl σ H1 λl H2=>th σ H2 λu H3=>r x l u H3 Q
theorem CT{r:V->Option Int->Option Int->Hp->VK->Prop}(hr:OU X r)(he:PE X e te)(hl:PO X lo tl)(hu:PO X hi th):PE X (.Subscript e (.Slice lo hi none p2) pos) (Ri r te tl th):=by
 intro af s σ H Q I h;refine Subscript_ (aL (he af s σ H _ I h) λv s1 ⟨x,H1,I1,r1,q1⟩=>?_);refine wpAny_Slice (aL (hl af s1 σ H1 _ I1 q1) λvl s2 ⟨l,H2,I2,pl,q2⟩=>aL (hu af s2 σ H2 _ I2 q2) λvu s3 ⟨u,H3,I3,pu,q3⟩=>?_);rw[evalPart_none];refine acI ?_;have I4:Inv X af σ H3 { s3 with heap:=s3.heap.push { cls:=.type "slice",data:=.fields #[vl,vu,.none] } }:=I3.kept λb ob q=>aao _ q
 obtain⟨T,id,hT,ht,hg⟩:=hr af { s3 with heap:=s3.heap.push { cls:=.type "slice",data:=.fields #[vl,vu,.none] } } σ H3 x v vl vu l u s3.heap.objs.size Q I4 r1 (Heap.IsSliceOf.new ..) pl pu q3;exact tail_any (ops:=[.ref s3.heap.objs.size,v]) ht hT hg (by with_unfolding_all rfl)
def kK(xs:List V)(lo hi:Option Int):List V:=(xs.drop (HT.fR xs.length 0 lo)).take (HT.fR xs.length xs.length hi-HT.fR xs.length 0 lo)
theorem UN(xs:List V)(lo hi:Option Int):(kK xs lo hi).length<=xs.length:=by
 unfold kK;rw[aeD,List.length_drop];omega
end
noncomputable def j6(n:Nat)(i:Int):Option Nat:=if 0<=i then(if i<n then some i.toNat else none) else if -(n:Int)<=i then some (i+n).toNat else none
def dU{α:Type}(xs:List α)(i:Int):Option α:=(j6 xs.length i).bind λj=>xs[j]?
theorem Tg(h:j6 n i=some j):seqIndex? i n=some j/\j<n/\-(n:Int)<=i/\i<n:=by
 unfold j6 at h
 by_cases h0:0<=i
 .rw[if_pos h0] at h;obtain⟨h1,h⟩:=ci h;have e:=abO h;exact⟨by rw[seqIndex_of h0 h1,e],by omega,by omega,h1⟩
 .rw[if_neg h0] at h;obtain⟨h1,h⟩:=ci h;have e:=abO h;exact⟨by rw[seqIndex_neg (by omega) h1,e],by omega,h1,by omega⟩
theorem DT{α:Type}{xs:List α}{v:α}(h:dU xs i=some v):∃j,seqIndex? i xs.length=some j/\xs[j]? = some v/\j<xs.length/\-(xs.length:Int)<=i/\i<xs.length:=by
 unfold dU at h;exists e,j6 xs.length i,j,h;obtain⟨h1,h2,h3,h4⟩:=Tg e;exact⟨j,h1,h,h2,h3,h4⟩
def Eh(b:Expr):Prop:=∀o i,subscripted b false o i=operate [o,i] (getItem o i)
def nX(X:Cx)(r:R2):Prop:=
 ∀(value slice:Expr) (af:List (Addr×Obj)) (s:Shared) (σ:St) (H:Hp) (x y:V) (v u:Value) (Q:VK),Inv X af σ H s->RelV x v->RelV y u->r x y H Q->
  subscripted slice false v u=operate [v,u] (getItem v u)->wpAny (model X.prog X.w) X.A (subscriptTail value slice v u) (EP X af σ Q) X.xe s
def Gh(X:Cx)(id:String)(r:V->List V->Hp->VK->Prop):Prop:=
 ∀(af:List (Addr×Obj)) (s:Shared) (σ:St) (H:Hp) (x:V) (xs:List V) (v:Value) (us:List Value) (Q:VK),Inv X af σ H s->RelV x v->aQ xs us->r x xs H Q->
  wpAny (model X.prog X.w) X.A (call (.builtin id) (v::us)) (EP X af σ Q) X.xe s
section
variable{X:Cx}{a b:Expr}{ta tb:TE}{pos:Pos}
theorem nX.or{r r':R2}(h:nX X r)(h':nX X r'):nX X (λx y H Q=>r x y H Q\/r' x y H Q):=by
 intro value slice af s σ H x y v u Q I rx ry q hs;rcases q with q|q
 .exact h value slice af s σ H x y v u Q I rx ry q hs
 .exact h' value slice af s σ H x y v u Q I rx ry q hs
theorem LW{r:R2}(hr:nX X r)(ha:PE X a ta)(hb:PE X b tb)(hs:Eh b):PE X (.Subscript a b pos) (rR r ta tb):=by
 intro af s σ H Q I h;exact Subscript_ (Eu ha hb I h λv u s2 x y H2 I2 rx ry q=>hr a b af s2 σ H2 x y v u Q I2 rx ry q (hs _ _))
def EB(K:PySem.W.Frag):R2:=λx y H Q=>∃p xs i v,x=.ref p/\y=.int i/\bR K H p xs/\dU xs i=some v/\Q v H
def DO(K:PySem.W.Frag):R2:=λx y H Q=>∃p xs i v,x=.ref p/\y=.int i/\bZ K H p xs/\dU xs i=some v/\Q v H
def DP:R2:=λx y H Q=>∃z i c,x=.str z/\y=.int i/\z.length<=sizeLine/\dU z.cps.toList i=some c/\Q (.str ⟨#[c]⟩) H
theorem RQ:nX X (EB X.K):=by
 intro value slice af s σ H x y v u Q I rx ry h hs;obtain⟨p,xs,i,z,rfl,rfl,hq,he,q⟩:=h;cases rx;obtain⟨t,rfl⟩:=ry;obtain⟨au,r,pl,hz⟩:=I.list hq;obtain⟨j,h1,h2,h3,h4,h5⟩:=DT he;obtain⟨w,ew,fQ⟩:=r.get h2;have hl:=r.length;have hn:=ye;have fin:EP X af σ Q w s:=⟨z,H,I,fQ,q⟩
 by_cases h0:0<=i
 .have hj:i.toNat=j:=by
   rw[seqIndex_of h0 h5] at h1;exact abO h1
  exact item_listR pl.isList h0 (by omega) (by rw[hj];simpa using ew) fin hs
 .have hj:(i+(au.toArray.size:Int)).toNat=j:=by
   rw[seqIndex_neg (by omega) h4] at h1;rw[abG,<- hl];exact abO h1
  exact subscriptTail_builtinR pl.isList.typeIs slot_list_getitem.lookup
   (wpAny_getItem_list_neg pl.isList (by omega) (by rw[abG]<;>omega) (by omega) (by rw[hj];simpa using ew) ⟨rfl,fin⟩) hs
theorem abE:nX X (DO X.K):=by
 intro value slice af s σ H x y v u Q I rx ry h hs;obtain⟨p,xs,i,z,rfl,rfl,hq,he,q⟩:=h;cases rx;obtain⟨t,rfl⟩:=ry;obtain⟨au,r,pl,hz⟩:=I.tuple hq;obtain⟨j,h1,h2,h3,h4,h5⟩:=DT he;obtain⟨w,ew,fQ⟩:=r.get h2;have hl:=r.length;have hn:=ye;have fin:EP X af σ Q w s:=⟨z,H,I,fQ,q⟩
 exact subscriptTail_builtinR pl.typeIs slot_tuple_getitem.lookup
  (getItem_tuple pl (by omega) (by omega) (by rw[abG,<- hl];exact h1) (by simpa using ew) ⟨rfl,fin⟩) hs
theorem Wz:nX X DP:=by
 intro value slice af s σ H x y v u Q I rx ry h hs;obtain⟨z,i,c,rfl,rfl,hz,he,q⟩:=h;obtain⟨t,rfl⟩:=rx;obtain⟨t',rfl⟩:=ry;obtain⟨j,h1,h2,h3,h4,h5⟩:=DT he;have hl:z.cps.toList.length=z.length:=by simp[Str.length]
 rw[hl] at h1 h4 h5;have hn:=ye;exact tail_any (typeIs_str s z t) slot_str_getitem.lookup (getItem_str (by
  have e1:decide (i < -(2 ^ 63:Int))=false:=abD (by omega);have e2:decide (i >= 2 ^ 63)=false:=abD (by omega);rw[e1,e2,Bool.or_false]) (by rw[h1];simpa using h2) ⟨.str ⟨#[c]⟩,H,I.tok _,⟨_,rfl⟩,q⟩) hs
def Z3(K:PySem.W.Frag):R2:=λx y H Q=>EB K x y H Q\/DO K x y H Q\/DP x y H Q
theorem Lu:nX X (Z3 X.K):=RQ.or (abE.or Wz)
theorem acP(lo hi:Option Int)(n:Nat):(sliceBounds lo hi none n).1=((HT.fR n 0 lo:Nat):Int)/\(sliceBounds lo hi none n).2.1=((HT.fR n n hi:Nat):Int)/\(sliceBounds lo hi none n).2.2=1:=by
 refine⟨?_,?_,rfl⟩
 .cases lo with
  |none=>simp[sliceBounds,HT.fR]
  |some i=>
   simp only[sliceBounds,HT.fR,Option.getD_none,show(1:Int) > 0 by decide,if_true]
   by_cases h:i<0
   .simp only[h,if_true]<;>omega
   .simp only[h,if_false]<;>omega
 .cases hi with
  |none=>simp[sliceBounds,HT.fR]
  |some i=>
   simp only[sliceBounds,HT.fR,Option.getD_none,show(1:Int) > 0 by decide,if_true]
   by_cases h:i<0
   .simp only[h,if_true]<;>omega
   .simp only[h,if_false]<;>omega
theorem ZE(au:List Value)(lo hi:Option Int):slicePick au.toArray lo hi none=((au.drop (HT.fR au.length 0 lo)).take (HT.fR au.length au.length hi-HT.fR au.length 0 lo)).toArray:=by
 obtain⟨h1,h2,h3⟩:=acP lo hi au.toArray.size;unfold slicePick;rw[h1,h2,h3];simp only[sliceRange_one,pick_run,abG]<;>rfl
def N1(K:PySem.W.Frag):V->Option Int->Option Int->Hp->VK->Prop:=λx lo hi H Q=>∃a xs,x=.ref a/\bR K H a xs/\∀p,H p=none->Q (.ref p) (upd H p (.lst (kK xs lo hi)))
theorem Ga:OU X (N1 X.K):=by
 intro af s σ H x v vl vu lo hi sl Q I rx hs pl pu h;obtain⟨a,xs,rfl,hx,q⟩:=h;cases rx;obtain⟨au,r,ht,hz⟩:=I.list hx;have hlen:=r.length;refine⟨"list",_,slot_list_getitem.lookup,ht.isList.typeIs,?_⟩;refine wpAny_getItem_list_slice ht.isList hs pl pu .none (by simp) ?_ (by rw[abG]<;>omega);rw[ZE,<- hlen];refine⟨.ref s.heap.objs.size,_,I.laid (λb ob q=>aao _ q) (abu _) ?_,rfl,q _ (I.aH.fresh (abu _))⟩;exact⟨ado (UN xs lo hi) hz,_,0,(r.drop (HT.fR xs.length 0 lo)).take (HT.fR xs.length xs.length hi-HT.fR xs.length 0 lo),ab2 _ rfl⟩
noncomputable def lY:V->Bool
 |.aA=>true
 |.bl _=>true
 |.int _=>true
 |.str _=>true
 |_=>false
noncomputable def pH:V->V->Bool
 |.aA,.aA=>true
 |.bl a,.bl b=>a==b
 |.bl a,.int b=>(if a then 1 else 0)==b
 |.int a,.bl b=>a==(if b then 1 else 0)
 |.int a,.int b=>a==b
 |.str a,.str b=>a==b
 |_,_=>false
theorem R_(ry:RelV y u)(rx:RelV x v)(fy:lY y=true)(fx:lY x=true):SeqAt.EqAt A s u v (pH y x):=by
 cases y with
 |aA=>
  cases ry;cases x with
  |aA=>cases rx;exact SeqAt.EqAt.same _
  |bl b=>cases rx;exact SeqAt.EqAt.none_bool b
  |int b=>obtain⟨t,rfl⟩:=rx;exact SeqAt.EqAt.none_int b t
  |str b=>obtain⟨t,rfl⟩:=rx;exact SeqAt.EqAt.none_str b t
  |_=>exact absurd (show false=true from fx) aa9
 |bl a=>
  cases ry;cases x with
  |aA=>cases rx;exact SeqAt.EqAt.bool_none a
  |bl b=>cases rx;exact SeqAt.EqAt.bool_bool a b
  |int b=>obtain⟨t,rfl⟩:=rx;exact SeqAt.EqAt.bool_int a b t
  |str b=>obtain⟨t,rfl⟩:=rx;exact SeqAt.EqAt.bool_str a b t
  |_=>exact absurd (show false=true from fx) aa9
 |int a=>
  obtain⟨t',rfl⟩:=ry;cases x with
  |aA=>cases rx;exact SeqAt.EqAt.int_none a t'
  |bl b=>cases rx;exact SeqAt.EqAt.int_bool a t' b
  |int b=>obtain⟨t,rfl⟩:=rx;exact SeqAt.EqAt.int_int a t' b t
  |str b=>obtain⟨t,rfl⟩:=rx;exact SeqAt.EqAt.int_str a t' b t
  |_=>exact absurd (show false=true from fx) aa9
 |str a=>
  obtain⟨t',rfl⟩:=ry;cases x with
  |aA=>cases rx;exact SeqAt.EqAt.str_none a t'
  |bl b=>cases rx;exact SeqAt.EqAt.str_bool a t' b
  |int b=>obtain⟨t,rfl⟩:=rx;exact SeqAt.EqAt.str_int a t' b t
  |str b=>obtain⟨t,rfl⟩:=rx;exact SeqAt.EqAt.str_str a t' b t
  |_=>exact absurd (show false=true from fx) aa9
 |_=>exact absurd (show false=true from fy) aa9
def iy(x:V)(u:Value):Bool:=match u with
 |.none=>pH .aA x
 |.bool b=>pH (.bl b) x
 |.int i _=>pH (.int i) x
 |.str z _=>pH (.str z) x
 |_=>false
theorem Qg(r:RelV y u)(f:lY y=true):iy x u=pH y x:=by
 cases y with
 |aA=>cases r;rfl
 |bl b=>cases r;rfl
 |int i=>obtain⟨t,rfl⟩:=r;rfl
 |str z=>obtain⟨t,rfl⟩:=r;rfl
 |_=>exact absurd (show false=true from f) aa9
theorem u9:∀{xs:List V}{us:List Value},aQ xs us->xs.all lY=true->us.any (iy x)=xs.any λy=>pH y x
 |_,_,.nil,_=>rfl
 |y::xs,u::us,.cons r t,f=>by
  rw[aeI,aaH] at f;rw[ael,ael,Qg r f.1,u9 t f.2]
theorem tO(rx:RelV x v)(fx:lY x=true):∀{xs:List V}{us:List Value},aQ xs us->xs.all lY=true->∀u∈us,SeqAt.EqAt A s u v (iy x u)
 |_,_,.nil,_=>λu hu=>by cases hu
 |y::xs,u::us,.cons r t,f=>λu' hu=>by
  rw[aeI,aaH] at f;rcases aaV.mp hu with rfl|hu
  .rw[Qg r f.1];exact R_ r rx f.1 fx
  .exact tO rx fx t f.2 u' hu
def sI(x:V)(xs:List V):Bool:=xs.any λy=>pH y x
def Bp(K:PySem.W.Frag)(neg:Bool):R2:=λx y H Q=>∃p xs,y=.ref p/\(bR K H p xs\/bZ K H p xs)/\lY x=true/\xs.all lY=true/\Q (.bl (if neg then !sI x xs else sI x xs)) H
theorem Ln:cO X (compareOp .In) (Bp X.K false):=by
 intro af s σ H x y v u Q I rx ry h;obtain⟨p,xs,rfl,hq,fx,fs,q⟩:=h;cases ry;rcases hq with hq|hq
 .obtain⟨au,r,pl,hz⟩:=I.list hq;refine SeqAt.in_listAt (iy x) pl.isList (λw hw=>tO rx fx r fs w (by simpa using hw)) ⟨.bl _,H,I,rfl,?_⟩;rw[show au.toArray.any (iy x)=au.any (iy x) by simp,u9 r fs];exact q
 .obtain⟨au,r,pl,hz⟩:=I.tuple hq;refine SeqAt.in_tupleAt (iy x) pl (λw hw=>tO rx fx r fs w (by simpa using hw)) ⟨.bl _,H,I,rfl,?_⟩;rw[show au.toArray.any (iy x)=au.any (iy x) by simp,u9 r fs];exact q
theorem DU:cO X (compareOp .NotIn) (Bp X.K true):=by
 intro af s σ H x y v u Q I rx ry h;obtain⟨p,xs,rfl,hq,fx,fs,q⟩:=h;cases ry;rcases hq with hq|hq
 .obtain⟨au,r,pl,hz⟩:=I.list hq;refine SeqAt.notIn_listAt (iy x) pl.isList (λw hw=>tO rx fx r fs w (by simpa using hw)) ⟨.bl _,H,I,rfl,?_⟩;rw[show au.toArray.any (iy x)=au.any (iy x) by simp,u9 r fs];exact q
 .obtain⟨au,r,pl,hz⟩:=I.tuple hq;refine SeqAt.notIn_tupleAt (iy x) pl (λw hw=>tO rx fx r fs w (by simpa using hw)) ⟨.bl _,H,I,rfl,?_⟩;rw[show au.toArray.any (iy x)=au.any (iy x) by simp,u9 r fs];exact q
theorem aae:g_ X (.builtin "len") (λxs H Q=>∃p ys,xs=[.ref p]/\(bR X.K H p ys\/bZ X.K H p ys)/\Q (.int ys.length) H):=by
 intro af s σ H xs us Q I r h;obtain⟨p,ys,rfl,hq,q⟩:=h;obtain⟨u,rfl,rx⟩:=vals1 r;cases rx;have hn:=ye;rcases hq with hq|hq
 .obtain⟨au,r',pl,hz⟩:=I.list hq;have hlen:=r'.length;exact Calls.call_len_list pl.isList (by simp only[abG]<;>omega) ⟨.int ys.length,H,I.tok _,⟨s.toks+1,by rw[abG,hlen]⟩,q⟩
 .obtain⟨au,r',pl,hz⟩:=I.tuple hq;have hlen:=r'.length;exact len_tuple pl (by simp only[abG]<;>omega) ⟨.int ys.length,H,I.tok _,⟨s.toks+1,by rw[abG,hlen]⟩,q⟩
theorem YW:g_ X (.type "list") (λxs H Q=>∃p ys,xs=[.ref p]/\(bR X.K H p ys\/bZ X.K H p ys)/\∀l,H l=none->Q (.ref l) (upd H l (.lst ys))):=by
 intro af s σ H xs us Q I r h;obtain⟨p,ys,rfl,hq,q⟩:=h;obtain⟨u,rfl,rx⟩:=vals1 r;cases rx;have fin:∀(au:List Value),aQ ys au->ys.length<=sizeLine->∀(h':Heap) (c':Nat),(∀b o',s.heap.get? b=some o'->h'.get? b=some o')->
   h'.get? s.heap.objs.size=some { cls:=.type "list",dict:=none,data:=.seq au.toArray c',slots:=#[] }->EP X af σ Q (.ref s.heap.objs.size) { s with heap:=h' }:=λau r' hz h' c' kp e=>
  ⟨.ref s.heap.objs.size,_,I.laid kp (abu _) (show cZ X.prog X.w _ h' _ (.lst ys) from⟨hz,au,c',r',e⟩),rfl,q _ (I.aH.fresh (abu _))⟩
 rcases hq with hq|hq
 .obtain⟨au,r',pl,hz⟩:=I.list hq;have hlen:=r'.length;obtain⟨o,ho,hc,n,hd⟩:=pl.isList;exact call_list_seq p (.inl rfl) ho hc hd (λh' c' kp e=>fin au r' hz h' c' kp e) (by simp only[abG]<;>omega)
 .obtain⟨au,r',pl,hz⟩:=I.tuple hq;have hlen:=r'.length;obtain⟨o,ho,hc,n,hd⟩:=pl;exact call_list_seq p (.inr rfl) ho hc hd (λh' c' kp e=>fin au r' hz h' c' kp e) (by simp only[abG]<;>omega)
theorem S9:g_ X (.type "tuple") (λxs H Q=>∃p ys,xs=[.ref p]/\((bR X.K H p ys/\∀l,H l=none->Q (.ref l) (upd H l (.tup ys)))\/(bZ X.K H p ys/\Q (.ref p) H))):=by
 intro af s σ H xs us Q I r h;obtain⟨p,ys,rfl,h⟩:=h;obtain⟨u,rfl,rx⟩:=vals1 r;cases rx;rcases h with⟨hq,q⟩|⟨hq,q⟩
 .obtain⟨au,r',pl,hz⟩:=I.list hq;have hlen:=r'.length;refine call_tuple_list pl.isList (λh' kp=>?_) (by simp only[abG]<;>omega);have I1:=I.kept (t':=s.toks) kp;have I2:Inv X af σ (upd H h'.objs.size (.tup ys)) { s with heap:=h'.push { cls:=.type "tuple",data:=.seq au.toArray } }:=
   I1.laid (λb o e=>aao _ e) (abu _) (show cZ X.prog X.w _ _ _ (.tup ys) from⟨hz,au,r',nY.new _ _⟩)
  exact⟨.ref h'.objs.size,_,I2,rfl,q _ (I1.aH.fresh (abu _))⟩
 .obtain⟨au,r',pl,hz⟩:=I.tuple hq;exact call_tuple_same pl ⟨.ref p,H,I,rfl,q⟩
def OI(K:PySem.W.Frag)(T:String)(x:V)(H:Hp):Prop:=match x with
 |.str _=>T="str"
 |.int _=>T="int"
 |.ref p=>(T="list"/\∃xs,bR K H p xs)\/(T="tuple"/\∃o,K.lookup p=some o/\o.cls=.type "tuple"/\o.dict=none)\/
   (T="dict"/\((∃ak,H p=some (.dK ak))\/∃ak,H p=some (.dT ak)))\/(T="set"/\∃S n,H p=some (.set S n))
 |_=>False
theorem S_{T:String}(I:Inv X af σ H s)(r:RelV x v)(ty:OI X.K T x H):
  s.TypeIs v T/\∀a,v=.ref a->∃ob,s.heap.get? a=some ob/\ob.dict=none:=by
 cases x with
 |str z=>
  obtain⟨t,rfl⟩:=r;cases(show T="str" from ty);exact⟨typeIs_str s z t,λ_ e=>nomatch e⟩
 |int i=>
  obtain⟨t,rfl⟩:=r;cases(show T="int" from ty);exact⟨typeIs_int s i t,λ_ e=>nomatch e⟩
 |ref p=>
  cases r;rcases ty with⟨rfl,xs,hq⟩|⟨rfl,o,hk,hc,hd⟩|⟨rfl,hk⟩|⟨rfl,S,n,hk⟩
  .obtain⟨au,_,pl,_⟩:=I.list hq;refine⟨pl.isList.typeIs,λa e=>?_⟩;cases e;obtain⟨o,n,e,c,hd,_⟩:=pl;exact⟨o,e,hd⟩
  .refine⟨⟨o,I.dR p o hk,hc⟩,λa e=>?_⟩;cases e;exact⟨o,I.dR _ o hk,hd⟩
  .have z:∃o,s.heap.get? p=some o/\o.ExactDict:=by
    rcases hk with⟨ak,hk⟩|⟨ak,hk⟩
    .obtain⟨_,_,_,_,o,_,_,e,ex,_⟩:=I.aH p _ hk;exact⟨o,e,ex⟩
    .obtain⟨_,_,_,_,o,_,_,e,ex,_⟩:=I.aH p _ hk;exact⟨o,e,ex⟩
   obtain⟨o,e,ex⟩:=z;refine⟨⟨o,e,ex.1⟩,λa e2=>?_⟩;cases e2;exact⟨o,e,ex.2.1⟩
  .obtain⟨o,_,_,_,e,ex,_⟩:=I.aH p _ hk;refine⟨⟨o,e,ex.1⟩,λa e2=>?_⟩;cases e2;exact⟨o,e,ex.2.1⟩
 |_=>exact False.elim ty
def Vo(K:PySem.W.Frag)(T:String)(r:V->List V->Hp->VK->Prop)(to:TE)(t:TA):TE:=λσ H Q=>to σ H λx H1=>OI K T x H1/\t σ H1 λxs H2=>r x xs H2 Q
variable{o e:Expr}{es:List Expr}{to:TE}{t:TA}{name:Str}{apos fS:Pos}{T id:String}{r:V->List V->Hp->VK->Prop}
theorem x6(pa:PlainAttrs T)(slot:Slot T name id)(BG:typeOf (.builtin id)=pure (.type "method_descriptor"))(hm:Gh X id r)(ho:PE X o to)(ha:PA X (e::es) t)
  (k7:attributeBase o name X.env (eval o X.env)=eval o X.env:=by rfl)
  (kY:((backTo fS (starEach (e::es) X.env)).all (λx=>!x.1)&&(backToKw fS (keywordEach [] X.env)).all (λx=>x.1.isSome)
   && decide ((e::es).length+([]:List Keyword).length+(if([]:List Keyword).isEmpty then 0 else 1)<30))=true:=by rfl)
  (kT:(apos.endLine==fS.line)=true:=by rfl) (hs:starEach (e::es) X.env=(false,eval e X.env)::starEach es X.env:=by rfl) (YC:(backTo fS (starEach es X.env)).any (·.1)=false:=by rfl) :
  PE X (.Call (.Attribute o name apos) (e::es) [] fS) (Vo X.K T r to t):=by
 intro af s σ H Q I h;refine wpAny_Call_method_late k7 kY kT rfl (aL (ho af s σ H _ I h) λv s1 ⟨x,H1,I1,r1,ty,q1⟩=>?_);obtain⟨h1,h2⟩:=S_ I1 r1 ty;refine⟨T,id,pa,slot,BG,h1,h2,?_⟩;have hA:=ha fS af s1 σ H1 _ I1 q1;rw[hs] at hA ⊢;refine Calls.callWith_builtin (by show(false||(backTo fS (starEach es X.env)).any (·.1))=false;rw[YC]<;>rfl) (Calls.evalArgs_plain ?_);exact aL hA λus s2 ⟨vs,H2,I2,r2,q2⟩=>hm af s2 σ H2 x vs v us Q I2 r1 r2 q2
end
def Ox(X:Cx)(id:String)(r:V->List V->Hp->VK->Prop):Prop:=
 ∀(af:List (Addr×Obj)) (s:Shared) (σ:St) (H:Hp) (x:V) (xs:List V) (v:Value) (us:List Value) (Q:VK),Inv X af σ H s->RelV x v->aQ xs us->r x xs H Q->
  wpAny (model X.prog X.w) X.A (call (.builtin id) (v::us)) (EP X af σ Q) X.xe s
theorem aQ.one:∀{x:V}{us:List Value},aQ [x] us->∃u,us=[u]/\RelV x u
 |_,_,.cons r .nil=>⟨_,rfl,r⟩
theorem aQ.eraseIdx:∀{xs:List V}{us:List Value} (i:Nat),aQ xs us->aQ (xs.eraseIdx i) (us.eraseIdx i)
 |_,_,_,.nil=>.nil
 |_,_,0,.cons _ t=>t
 |_,_,i+1,.cons r t=>.cons r (aQ.eraseIdx i t)
section
variable{X:Cx}{af:List (Addr×Obj)}{σ:St}{H:Hp}{s:Shared}{l b:Addr}{xs ys zs:List V}
theorem Inv.N8{au its':List Value}{n:Nat}{f:Array Value->Array Value}{t':Nat}(I:Inv X af σ H s)(hH:H l=some (.lst xs))
  (e:s.heap.get? l=some { cls:=.type "list",data:=.seq au.toArray n }) (hf:f au.toArray=its'.toArray) (hv:aQ ys its') (hz:ys.length<=sizeLine) :
  Inv X af σ (upd H l (.lst ys)) { s with heap:=s.heap.update l (Obj.mapSeq f),toks:=t' }:=by
 have q:=PySem.IsL.update e f;rw[hf] at q;refine I.write (by rw[hH];exact trivial) (.inl rfl) (λb' u hb hu=>(adl s.heap (Obj.mapSeq f) (adW hb)).trans hu) ⟨_,q⟩ ?_;exact⟨hz,its',_,hv,q⟩
theorem Inv.YM(I:Inv X af σ H s)(hv:aQ ys au)(hz:ys.length<=sizeLine):
  Inv X af σ (upd H s.heap.objs.size (.lst ys)) { s with heap:=s.heap.push { cls:=.type "list",data:=.seq au.toArray },toks:=t' }:=
 I.laid (λ_ _ q=>aao _ q) (abu _) ⟨hz,au,0,hv,ab2 _ rfl⟩
theorem Inv.fresh(I:Inv X af σ H s):H s.heap.objs.size=none:=I.aH.fresh (abu _)
theorem Inv.A9(I:Inv X af σ H s)(hH:H l=some (.lst xs)):xs.length<=sizeLine/\∃(au:List Value) (n:Nat),aQ xs au/\xs.length=au.length/\s.heap.get? l=some { cls:=.type "list",data:=.seq au.toArray n }:=by
 obtain⟨z,au,n,r,e⟩:=I.aH l _ hH;exact⟨z,au,n,r,r.length,e⟩
end
section
variable{X:Cx}
def abM:V->List V->Hp->VK->Prop:=λx vs H Q=>∃l xs y,x=.ref l/\vs=[y]/\H l=some (.lst xs)/\xs.length<sizeLine/\Q .aA (upd H l (.lst (xs++[y])))
theorem Dr:Ox X "list.append" abM:=by
 intro af s σ H x vs v us Q I rx rv h;obtain⟨l,xs,y,rfl,rfl,hH,hz,q⟩:=h;cases rx;obtain⟨u,rfl,ru⟩:=rv.one;obtain⟨z,au,n,r,hl,e⟩:=I.A9 hH;refine call_meets F.slot_list_append ⟨_,e,rfl⟩ F.entry_list_append (F.args_list_append_2 _ _) (PySem.list_append l au.toArray n u (by rw[abG];omega)) ⟨e,?_⟩;refine⟨.aA,_,I.N8 (its':=au++[u]) hH e (by simp) (r.append (.cons ru .nil)) ?_,rfl,q⟩;rw[abq,adn];omega
def X8:R2:=λx y H Q=>∃l b xs zs,x=.ref l/\y=.ref b/\H l=some (.lst xs)/\H b=some (.lst zs)/\xs.length+zs.length<=sizeLine/\∀p,H p=none->Q (.ref p) (upd H p (.lst (xs++zs)))
theorem Q4:cO X (binaryOp .Add) X8:=by
 intro af s σ H x y v u Q I rx ry h;obtain⟨l,b,xs,zs,rfl,rfl,hH,hB,hz,q⟩:=h;cases rx;cases ry;obtain⟨z,au,n,r,hl,e⟩:=I.A9 hH;obtain⟨z2,HR,n2,r2,rO,e2⟩:=I.A9 hB;refine PySem.P.add_list e e2 ?_ (by rw[abG,abG];omega);have ea:au.toArray++HR.toArray=(au++HR).toArray:=by simp
 rw[ea];exact⟨.ref _,_,I.YM (r.append r2) (by rw[abq];omega),rfl,q _ I.fresh⟩
end
section
variable{κ:Type}[DecidableEq κ]
def dz(ak:List (κ×V))(k:κ):Option V:=(ak.find? λkv=>decide (kv.1=k)).map (·.2)
def putK(ak:List (κ×V))(k:κ)(v:V):List (κ×V):=
 if(ak.any λkv=>decide (kv.1=k))=true then ak.map (λkv=>if kv.1=k then(kv.1,v) else kv) else ak++[(k,v)]
theorem wA{p:κ×V}{r:List (κ×V)}{k:κ}(e:p.1=k):dz (p::r) k=some p.2:=by simp[dz,ac9,e]
theorem vE{p:κ×V}{r:List (κ×V)}{k:κ}(e:¬p.1=k):dz (p::r) k=dz r k:=by simp[dz,ac9,e]
theorem Cf(k:κ):∀ak:List (κ×V),(ak.any λkv=>decide (kv.1=k))=(dz ak k).isSome
 |[]=>rfl
 |p::r=>by
  rw[ael]
  by_cases e:p.1=k
  .simp only[wA e,aaD e,Bool.true_or,Option.isSome_some]
  .rw[vE e,abD e,Bool.false_or];exact Cf k r
theorem Hr(ak:List (κ×V))(k:κ)(v:V):(putK ak k v).length<=ak.length+1:=by
 unfold putK
 split
 .rw[List.length_map];omega
 .rw[abq,abQ,List.length_nil];omega
theorem gm.uD{o:Option V}{u:Option Value}(r:gm o u):o.isSome=u.isSome:=by
 cases o with
 |none=>cases u with
  |none=>rfl
  |some _=>exact(show False from r).elim
 |some _=>cases u with
  |none=>exact(show False from r).elim
  |some _=>rfl
theorem gm.getD{o:Option V}{u:Option Value}{d:V}{d':Value}(r:gm o u)(rd:RelV d d'):RelV (o.getD d) (u.getD d'):=by
 cases o with
 |none=>cases u with
  |none=>exact rd
  |some _=>exact(show False from r).elim
 |some _=>cases u with
  |none=>exact(show False from r).elim
  |some _=>exact r
theorem KV.val{ak:List (κ×V)}{vs:List (κ×Value)}(r:KV ak vs)(k:κ):gm (dz ak k) (valueAt vs k):=by
 unfold KV at r
 induction r with
 |nil=>exact True.intro
 | @cons p q ps qs h t ih=>
  obtain⟨h1,h2⟩:=h
  by_cases e:p.1=k
  .have e':=h1.symm.trans e;have b:valueAt (q::qs) k=some q.2:=by simp[valueAt,ac9,e']
   rw[wA e,b];exact h2
  .have e':¬q.1=k:=λz=>e (h1.trans z)
   have b:valueAt (q::qs) k=valueAt qs k:=by simp[valueAt,ac9,e']
   rw[vE e,b];exact ih
theorem KV.any{ak:List (κ×V)}{vs:List (κ×Value)}(r:KV ak vs)(k:κ):(ak.any λkv=>decide (kv.1=k))=vs.any λkv=>decide (kv.1=k):=by
 unfold KV at r
 induction r with
 |nil=>rfl
 |cons h t ih=>rw[ael,ael,ih,h.1]
theorem KV.EJ{ak:List (κ×V)}{vs:List (κ×Value)}(r:KV ak vs)(k:κ)(ry:RelV y u):
  KV (ak.map λkv=>if kv.1=k then(kv.1,y) else kv) (vs.map λkv=>if kv.1=k then(kv.1,u) else kv):=by
 unfold KV at r ⊢
 induction r with
 |nil=>exact .nil
 | @cons p q ps qs h t ih=>
  rw[aas,aas];refine .cons ?_ ih;obtain⟨h1,h2⟩:=h
  by_cases e:p.1=k
  .rw[if_pos e,if_pos (h1.symm.trans e)];exact⟨h1,ry⟩
  .rw[if_neg e,if_neg (λz=>e (h1.trans z))];exact⟨h1,h2⟩
theorem KV.put{ak:List (κ×V)}{vs:List (κ×Value)}(r:KV ak vs)(k:κ){y:V}{u:Value}(ry:RelV y u):KV (putK ak k y) (stored vs k u):=by
 unfold putK stored;rw[r.any k]
 by_cases e:(vs.any λkv=>decide (kv.1=k))=true
 .rw[if_pos e,if_pos e];exact r.EJ k ry
 .rw[if_neg e,if_neg e];exact Paired.snoc r ⟨rfl,ry⟩
theorem KV.keys{ak:List (κ×V)}{vs:List (κ×Value)}(r:KV ak vs):ak.map (·.1)=vs.map (·.1):=by
 unfold KV at r
 induction r with
 |nil=>rfl
 |cons h t ih=>rw[aas,aas,ih,h.1]
theorem KV.length{ak:List (κ×V)}{vs:List (κ×Value)}(r:KV ak vs):ak.length=vs.length:=Paired.length r
end
theorem qA(r:RelV (kV k) u):(fN P w).is k u=true:=by
 cases k with
 |inl i=>obtain⟨t,e⟩:=(show ∃t,u=Value.int i t from r);subst e;exact UD P w i t
 |inr x=>obtain⟨t,e⟩:=(show ∃t,u=Value.str x t from r);subst e;exact U_ P w x t
theorem Cr:∀{ks:List Key}{us:List Value},aQ (ks.map kV) us->ItemsAre (fN P w) ks us
 |[],_,r=>by rw[aeT] at r;cases r;exact .nil
 |k::ks,_,r=>by
  rw[aas] at r;cases r with
  |cons h t=>exact .cons (qA h) (Cr t)
abbrev KT(H:Hp):List (List Key×V)->List (List Key×Addr×Value)->Prop:=Paired λp q=>p.1=q.1/\Tk H q.2.1 (p.1.map kV)/\RelV p.2 q.2.2
theorem KT.val{ak:List (List Key×V)}{xs:List (List Key×Addr×Value)}(r:KT H ak xs)(k:List Key):gm (dz ak k) ((atKey xs k).map (·.2)):=by
 induction r with
 |nil=>exact True.intro
 | @cons p q ps qs h t ih=>
  obtain⟨h1,_,h2⟩:=h
  by_cases e:p.1=k
  .have e':=h1.symm.trans e;have b:atKey (q::qs) k=some q.2:=by simp[atKey,ac9,e']
   rw[wA e,b];exact h2
  .have e':¬q.1=k:=λz=>e (h1.trans z)
   have b:atKey (q::qs) k=atKey qs k:=by simp[atKey,ac9,e']
   rw[vE e,b];exact ih
theorem KT.EJ{ak:List (List Key×V)}{xs:List (List Key×Addr×Value)}(r:KT H ak xs)(k:List Key)(ry:RelV y u):
  KT H (ak.map λkv=>if kv.1=k then(kv.1,y) else kv) (xs.map (putAt k u)):=by
 induction r with
 |nil=>exact .nil
 | @cons p q ps qs h t ih=>
  rw[aas,aas];refine .cons ?_ ih;obtain⟨h1,h2,h3⟩:=h;unfold putAt
  by_cases e:p.1=k
  .rw[if_pos e,if_pos (h1.symm.trans e)];exact⟨h1,h2,ry⟩
  .rw[if_neg e,if_neg (λz=>e (h1.trans z))];exact⟨h1,h2,h3⟩
theorem KT.put{H:Hp}{ak:List (List Key×V)}{xs:List (List Key×Addr×Value)}(r:KT H ak xs)(k:List Key){b:Addr}{y:V}{u:Value}(hb:Tk H b (k.map kV))(ry:RelV y u):
  KT H (putK ak k y) (storedH xs k b u):=by
 have e:(ak.any λkv=>decide (kv.1=k))=(atKey xs k).isSome:=by
  rw[Cf,(r.val k).uD,aeh]
 unfold putK storedH;rw[e]
 by_cases q:(atKey xs k).isSome=true
 .rw[if_pos q,if_pos q];exact r.EJ k ry
 .rw[if_neg q,if_neg q];exact Paired.snoc r ⟨rfl,hb,ry⟩
theorem KT.keeps{ak:List (List Key×V)}{xs:List (List Key×Addr×Value)}(r:KT H ak xs)(ht:∀b (t:kP),H b=some t.ho->H' b=some t.ho):KT H' ak xs:=
 Paired.y9 r λ_ _ z=>⟨z.1,let⟨t,e,g⟩:=z.2.1;⟨t,e,ht _ t g⟩,z.2.2⟩
section
variable{P:Program}{w:World}{H:Hp}{h:Heap}{a:Addr}
theorem L7{u:HO}(ok:dh P w H h)(e:Rd H a u):cZ P w H h a u:=e.ok ok
theorem nh{ak:List (Key×V)}(ok:dh P w H h)(e:Rd H a (.dK ak)):ak.length<=sizeLine/\(a==sysModules)=false/\∃vs,KV ak vs/\h.DictOf (fN P w) a vs:=
 show cZ P w H h a (.dK ak) from L7 ok e
theorem IE{ak:List (Key×V)}(ok:dh P w H h)(e:H a=some (.dK ak)):ak.length<=sizeLine/\(a==sysModules)=false/\∃vs,KV ak vs/\h.DictOf (fN P w) a vs:=nh ok (.inl e)
theorem tS{ks:List Key}(ok:dh P w H h)(e:Tk H a (ks.map kV)):(tupleKind (fN P w)).is h ks a:=by
 have q:cZ P w H h a (.tup (ks.map kV)):=by
  obtain⟨t,e1,e2⟩:=e;cases t with
  |tup xs=>cases e1;exact ok a _ e2
  |uG o xs=>cases e1;exact(ok a _ e2).2
  |ie _ _=>cases e1
  |jb _=>cases e1
 obtain⟨_,au,r,o,h1,h2,_,n,h3⟩:=q;exact⟨o,au.toArray,n,h1,h2,h3,by simpa using Cr r⟩
theorem nH{ak:List (List Key×V)}(ok:dh P w H h)(e:Rd H a (.dT ak)):ak.length<=sizeLine/\(a==sysModules)=false/\
  ∃xs,KT H ak xs/\h.DictOfH (tupleKind (fN P w)) a xs:=by
 obtain⟨z,y,xs,r,o,es,ep,h1,h2,h3,h4,h5⟩:=(show cZ P w H h a (.dT ak) from L7 ok e)
 refine⟨z,y,xs,r,o,es,ep,h1,h2,h3,h4,λx hx=>?_,h5⟩;have all:∀{l:List (List Key×V)}{m:List (List Key×Addr×Value)},KT H l m->∀x∈m,(tupleKind (fN P w)).is h x.1 x.2.1:=by
  intro l m q
  induction q with
  |nil=>intro x hx;exact nomatch hx
  | @cons p q ps qs hq t ih=>
   intro x hx;rcases aaV.mp hx with e|hx
   .subst e;exact tS ok (by rw[<- hq.1];exact hq.2.1)
   .exact ih x hx
 exact all r x hx
theorem ZO{ak:List (List Key×V)}(ok:dh P w H h)(e:H a=some (.dT ak)):ak.length<=sizeLine/\(a==sysModules)=false/\
  ∃xs,KT H ak xs/\h.DictOfH (tupleKind (fN P w)) a xs:=nH ok (.inl e)
end
def gq(H:Hp)(a:Addr)(y:V)(r:Option V):Prop:=
 (∃ak k,Rd H a (.dK ak)/\y=kV k/\r=dz ak k)\/∃ak k b,Rd H a (.dT ak)/\y=.ref b/\Tk H b (k.map kV)/\r=dz ak k
def oA(H:Hp)(a:Addr)(y v:V)(H':Hp):Prop:=
 (∃ak k,H a=some (.dK ak)/\y=kV k/\ak.length<sizeLine/\H'=upd H a (.dK (putK ak k v)))\/
 ∃ak k b,H a=some (.dT ak)/\y=.ref b/\Tk H b (k.map kV)/\ak.length<sizeLine/\H'=upd H a (.dT (putK ak k v))
theorem gq.k{H:Hp}{a:Addr}{ak:List (Key×V)}{k:Key}(e:H a=some (.dK ak)):gq H a (kV k) (dz ak k):=.inl ⟨ak,k,.inl e,rfl,rfl⟩
theorem gq.t{H:Hp}{a b:Addr}{ak:List (List Key×V)}{k:List Key}(e:H a=some (.dT ak))(eb:Tk H b (k.map kV)):gq H a (.ref b) (dz ak k):=.inr ⟨ak,k,b,.inl e,rfl,eb,rfl⟩
theorem oA.k{H:Hp}{a:Addr}{ak:List (Key×V)}{k:Key}{v:V}(e:H a=some (.dK ak))(hl:ak.length<sizeLine):oA H a (kV k) v (upd H a (.dK (putK ak k v))):=.inl ⟨ak,k,e,rfl,hl,rfl⟩
theorem oA.t{H:Hp}{a b:Addr}{ak:List (List Key×V)}{k:List Key}{v:V}(e:H a=some (.dT ak))(eb:Tk H b (k.map kV))(hl:ak.length<sizeLine):
  oA H a (.ref b) v (upd H a (.dT (putK ak k v))):=.inr ⟨ak,k,b,e,rfl,eb,hl,rfl⟩
section
variable{X:Cx}{af:List (Addr×Obj)}{σ:St}{H:Hp}{s:Shared}{a:Addr}{y v:V}{u r:Value}{o:Option V}{A:Around}{E:Value->Shared->Prop}
theorem Inv.big(I:Inv X af σ H s):sysModules<s.heap.objs.size:=by
 have h:=(I.mod.glob.keeps I.bk).lt;exact Nat.lt_trans (by decide) h
theorem abB(hu:A.units+1<cLine)(I:Inv X af σ H s)(g:gq H a y (some v))(ry:RelV y u)(h:∀w' s',Inv X af σ H s'->RelV v w'->Q w' s'):
  wpAny (model X.prog X.w) A (getItem (.ref a) u) Q E s:=by
 rcases g with⟨ak,k,e,ey,l⟩|⟨ak,k,b,e,ey,eb,l⟩
 .subst ey;obtain⟨z,hd,vs,rel,dd⟩:=nh I.aH e;obtain⟨w',hw,fQ⟩:=gm.some_of (by rw[l];exact rel.val k);exact wpAny_getItem_of (qA ry) dd.mapOf hw (h w' _ (I.tok _) fQ)
 .subst ey;cases(show u=Value.ref b from ry);obtain⟨z,hd,xs,rel,dd⟩:=nH I.aH e;obtain⟨w',hw,fQ⟩:=gm.some_of (by rw[l];exact rel.val k);obtain⟨p,hp,w6⟩:=ab8.mp hw;refine wpAny_getItem_heap (adY hu) (tS I.aH eb) dd hp ?_;rw[w6];exact h w' _ (I.tok _) fQ
theorem Sq(hu:A.units+1<cLine)(I:Inv X af σ H s)(g:gq H a y o)(ry:RelV y u)(h:∀s',Inv X af σ H s'->Q (.bool o.isSome) s'):
  wpAny (model X.prog X.w) A (compareOp .In u (.ref a)) Q E s:=by
 rcases g with⟨ak,k,e,ey,l⟩|⟨ak,k,b,e,ey,eb,l⟩
 .subst ey;obtain⟨z,hd,vs,rel,dd⟩:=nh I.aH e;refine wpAny_in_of (qA ry) hd dd.mapOf ?_;rw[<- (rel.val k).uD,<- l];exact h _ (I.tok _)
 .subst ey;cases(show u=Value.ref b from ry);obtain⟨z,hd,xs,rel,dd⟩:=nH I.aH e;refine wpAny_in_heap (adY hu) (tS I.aH eb) hd dd ?_;have q:=(rel.val k).uD;rw[aeh] at q;rw[<- q,<- l];exact h _ (I.tok _)
theorem Yh{Q:Value->Shared->Prop}(hu:A.units+1<cLine)(I:Inv X af σ H s)(g:gq H a y o)(ry:RelV y u)(h:∀s',Inv X af σ H s'->Q (.bool (!o.isSome)) s'):
  wpAny (model X.prog X.w) A (compareOp .NotIn u (.ref a)) Q E s:=by
 rcases g with⟨ak,k,e,ey,l⟩|⟨ak,k,b,e,ey,eb,l⟩
 .subst ey;obtain⟨z,hd,vs,rel,dd⟩:=nh I.aH e;refine wpAny_notIn_of (qA ry) hd dd.mapOf ?_;rw[<- (rel.val k).uD,<- l];exact h _ (I.tok _)
 .subst ey;cases(show u=Value.ref b from ry);obtain⟨z,hd,xs,rel,dd⟩:=nH I.aH e;refine wpAny_notIn_heap (adY hu) (tS I.aH eb) hd dd ?_;have q:=(rel.val k).uD;rw[aeh] at q;rw[<- q,<- l];exact h _ (I.tok _)
theorem Ll{ob:HO}(I:Inv X af σ H s)(mu:vo (H a))(hs:Heap.SameBut a s.heap h')(he:∃q,h'.get? a=some q)(new:cZ X.prog X.w (upd H a ob) h' a ob):
  Inv X af σ (upd H a ob) { s with heap:=h',toks:=t' }:=
 I.write mu (.inl rfl) (λb q hb z=>(hs.2 b hb).trans z) he new
theorem EN{ak:List (Key×V)}(z:ak.length<=sizeLine)(hd:(a==sysModules)=false)(rel:KV ak vs)(dd:h'.DictOf (fN P w) a vs):
  cZ P w H' h' a (.dK ak):=⟨z,hd,vs,rel,dd⟩
theorem T9{H':Hp}{Q:Unit->Shared->Prop}(hu:A.units+1<cLine)(I:Inv X af σ H s)(g:oA H a y v H')(ry:RelV y u)(rv:RelV v r)(h:∀s',Inv X af σ H' s'->Q () s'):
  wpAny (model X.prog X.w) A (setItem (.ref a) u r) Q E s:=by
 rcases g with⟨ak,k,e,ey,l,eH⟩|⟨ak,k,b,e,ey,eb,l,eH⟩
 .subst ey eH;obtain⟨z,hd,vs,rel,dd⟩:=IE I.aH e;have hz:vs.length<=sizeLine:=by rw[<- rel.length];exact z
  have hl:(putK ak k v).length<=sizeLine:=by have:=Hr ak k v;omega
  refine wpAny_setItem_pairs (hsz:=hz) (qA ry) dd λh' kc hs=>h _ ?_
  have he:∃q,h'.get? a=some q:=let⟨q,_,_,hq,_⟩:=kc;⟨q,hq⟩
  exact Ll I (by rw[e];exact True.intro) hs he (EN hl hd (rel.put k rv) kc)
 .subst ey eH;cases(show u=Value.ref b from ry);obtain⟨z,hd,xs,rel,dd⟩:=ZO I.aH e;have hz:xs.length<=sizeLine:=by rw[<- Paired.length rel];exact z
  have hl:(putK ak k v).length<=sizeLine:=by have:=Hr ak k v;omega
  refine wpAny_setItem_heap (hsz:=hz) (adY hu) (tS I.aH eb) dd λh' kc hs=>h _ ?_
  obtain⟨q,es,ep,hq,h2,h3,h4,_,h5⟩:=kc;refine Ll I (by rw[e];exact True.intro) hs ⟨q,hq⟩ ⟨hl,hd,_,(rel.put k eb rv).keeps λc ys ec=>?_,q,es,ep,hq,h2,h3,h4,h5⟩;rw[aO (VT ec e (by cases ys<;>intro z<;>cases z))];exact ec
end
section
variable{X:Cx}{af:List (Addr×Obj)}{σ:St}{H:Hp}{s:Shared}{a:Addr}{ak:List (Key×V)}{k:Key}{u:Value}{A:Around}{E:Value->Shared->Prop}
theorem Rw(I:Inv X af σ H s)(e:Rd H a (.dK ak))(h:∀t s',Inv X af σ H s'->Q (.int ak.length t) s'):wpAny (model X.prog X.w) A (call (.builtin "len") [.ref a]) Q E s:=by
 obtain⟨z,hd,vs,rel,dd⟩:=nh I.aH e;refine call_len_dict hd dd (by rw[<- rel.length];rw[adM] at z;omega) ?_;rw[<- rel.length];exact h _ _ (I.tok _)
end
def yb(i:Expr):Prop:=∀ov iv,subscripted i false ov iv=operate [ov,iv] (getItem ov iv)
theorem IW{env:Env}{T id:String}
  (hl:typeLookup (.type T) "__getitem__"=pure (some (.builtin id))) (hs:yb slice)
  (h:wpAny (model prog w) A (eval value env) (λo bI=>wpAny (model prog w) A (eval slice env) (λi oZ=>oZ.TypeIs o T/\wpAny (model prog w) A (getItem o i) Q E oZ) E bI) E s) :
  wpAny (model prog w) A (eval (.Subscript value slice pos) env) Q E s:=by
 refine Subscript_ (adH h (λo bI Bu=>adH Bu (λi oZ GW=>?_) λ_ _ x=>x) λ_ _ x=>x);obtain⟨hT,GW⟩:=GW;unfold subscriptTail;refine aaT ?_;rw[getitemInPython_of_ne hT.not_modules];refine aaT (wpAny_specialOf hT hl ?_);have fin:wpAny (model prog w) A (subscripted slice false o i) (λr A6=>wpAny (model prog w) A (letTemporaryGo value o r >>= λ_=>pure r) Q E A6) E oZ:=by
  rw[hs o i];exact wpAny_operating (adH GW (λr A6 aai=>aaT (wpAny_letTemporaryGo (acI aai))) λ_ _ x=>x)
 first
  |exact acI (aaT fin)
  |exact aaT (acI (aaT fin))
  |exact aaT fin
theorem RS{o:Option V}(I:Inv X af σ H s)(g:gq H a y o):s.TypeIs (.ref a) "dict":=by
 rcases g with⟨ak,k,e,_,_⟩|⟨ak,k,b,e,_,_,_⟩
 .obtain⟨_,_,vs,_,dd⟩:=nh I.aH e;exact dd.typeIs
 .obtain⟨_,_,xs,_,dd⟩:=nH I.aH e;exact dd.typeIs
def acf(td ty:TE):TE:=λσ H Q=>td σ H λx H1=>ty σ H1 λy H2=>∃a v,x=.ref a/\gq H2 a y (some v)/\Q v H2
def R3(ty td:TE):TE:=λσ H Q=>ty σ H λy H1=>td σ H1 λx H2=>∃a o,x=.ref a/\gq H2 a y o/\Q (.bl o.isSome) H2
def SJ(ty td:TE):TE:=λσ H Q=>ty σ H λy H1=>td σ H1 λx H2=>∃a o,x=.ref a/\gq H2 a y o/\Q (.bl (!o.isSome)) H2
def abV(td ty tv:TE):TS:=λD σ H=>tv σ H λv H1=>td σ H1 λx H2=>ty σ H2 λy H3=>∃a H4,x=.ref a/\oA H3 a y v H4/\D.nx σ H4
section
variable{X:Cx}{o i e value:Expr}{pos pos' PN:Pos}{td ty tv:TE}
theorem aan(hu:X.A.units+1<cLine)(ho:PE X o td)(hi:PE X i ty)(hs:yb i):PE X (.Subscript o i pos) (acf td ty):=by
 intro af s σ H Q I h;refine IW PySem.F.slot_dict_getitem.lookup hs (aL (ho af s σ H _ I h) λu s1 ⟨x,H1,I1,rx,q1⟩=>aL (hi af s1 σ H1 _ I1 q1) λiv s2 ⟨y,H2,I2,ry,a,v,ex,g,q2⟩=>?_);subst ex;obtain rfl:u=Value.ref a:=rx;exact⟨RS I2 g,abB hu I2 g ry λw' s3 I3 fQ=>⟨v,H2,I3,fQ,q2⟩⟩
theorem Iw(hu:X.A.units+1<cLine)(hi:PE X i ty)(ho:PE X o td):PC X .In i o (R3 ty td):=by
 intro af s σ H Q I h;refine aL (hi af s σ H _ I h) λiv s1 ⟨y,H1,I1,ry,q1⟩=>aL (ho af s1 σ H1 _ I1 q1) λu s2 ⟨x,H2,I2,rx,a,ov,ex,g,q2⟩=>?_
 subst ex;obtain rfl:u=Value.ref a:=rx;exact Sq hu I2 g ry λs3 I3=>⟨.bl ov.isSome,H2,I3,rfl,q2⟩
theorem Xx(hu:X.A.units+1<cLine)(hi:PE X i ty)(ho:PE X o td):PC X .NotIn i o (SJ ty td):=by
 intro af s σ H Q I h;refine aL (hi af s σ H _ I h) λiv s1 ⟨y,H1,I1,ry,q1⟩=>aL (ho af s1 σ H1 _ I1 q1) λu s2 ⟨x,H2,I2,rx,a,ov,ex,g,q2⟩=>?_
 subst ex;obtain rfl:u=Value.ref a:=rx;exact Yh hu I2 g ry λs3 I3=>⟨.bl (!ov.isSome),H2,I3,rfl,q2⟩
theorem As(hu:X.A.units+1<cLine)(ho:PE X o td)(hi:PE X i ty)(hv:PE X value tv)(hs:swapsWith value (some (.Subscript o i pos')) pos.line X.env=pure false):
  PS X (.Assign [.Subscript o i pos'] value pos) (abV td ty tv):=by
 intro af s σ H D I h;refine wpAny_Assign_Subscript (aL (hv af s σ H _ I h) λr s1 ⟨v,H1,I1,rv,q1⟩=>aL (ho af s1 σ H1 _ I1 q1) λu s2 ⟨x,H2,I2,rx,q2⟩=>aL (hi af s2 σ H2 _ I2 q2) λiv s3 ⟨y,H3,I3,ry,a,H4,ex,g,q3⟩=>?_) hs;subst ex;obtain rfl:u=Value.ref a:=rx;exact T9 hu I3 g ry rv λs4 I4=>⟨σ,H4,I4,q3⟩
end
theorem Yg(h:Heap)(hb:sysModules<h.objs.size):cZ P w H (h.push { cls:=.type "dict",data:=.dict #[] }) h.objs.size (.dK []):=
 ⟨adq _,adg.mpr (adW (acC hb)),[],.nil,Heap.DictOf.new h⟩
theorem aaw{P:Program}{w:World}{H:Hp}(h:Heap)(hb:sysModules<h.objs.size):cZ P w H (h.push { cls:=.type "dict",data:=.dict #[] }) h.objs.size (.dT []):=
 ⟨adq _,adg.mpr (adW (acC hb)),[],.nil,_,#[],0,ab2 _ rfl,⟨rfl,rfl,rfl⟩,rfl,rfl,aco⟩
def acG:TE:=λ_ H Q=>∀p,H p=none->Q (.ref p) (upd H p (.dK []))
def acA:TE:=λ_ H Q=>∀p,H p=none->Q (.ref p) (upd H p (.dT []))
section
variable{X:Cx}{pos:Pos}
theorem XW:PE X (.Dict [] [] pos) acG:=λaf s σ H Q I h=>
 wpAny_Dict_empty ⟨.ref s.heap.objs.size,_,I.laid (λ_ _ q=>aao _ q) (abu _) (Yg s.heap I.big),rfl,h _ (I.aH.fresh (abu _))⟩
theorem QZ:PE X (.Dict [] [] pos) acA:=λaf s σ H Q I h=>
 wpAny_Dict_empty ⟨.ref s.heap.objs.size,_,I.laid (a:=s.heap.objs.size) (o:=.dT []) (t':=s.toks) (λ_ _ q=>aao _ q) (abu _) (aaw s.heap I.big),rfl,h _ (I.aH.fresh (abu _))⟩
end
structure M2(X:Cx)(o:Expr)(m:Str)(apos:Pos)(e f:Expr)(fS:Pos):Prop where
 base:attributeBase o m X.env (eval o X.env)=eval o X.env
 few:((backTo fS (starEach [e,f] X.env)).all (λx=>!x.1)&&(backToKw fS (keywordEach [] X.env)).all (λx=>x.1.isSome)
  && decide (([e,f]:List Expr).length+([]:List Keyword).length+(if([]:List Keyword).isEmpty then 0 else 1)<30))=true
 line:(apos.endLine==fS.line)=true
 trees:backTo fS (starEach [e,f] X.env)=[(false,eval e X.env),(false,eval f X.env)]
def Ly(H:Hp)(a:Addr):Prop:=(∃ak,Rd H a (.dK ak))\/∃ak,Rd H a (.dT ak)
theorem aaf(I:Inv X af σ H s)(d:Ly H a):
  s.TypeIs (.ref a) "dict"/\(∀b,Value.ref a=.ref b->∃ob,s.heap.get? b=some ob/\ob.dict=none)/\(a==sysModules)=false:=by
 rcases d with⟨ak,e⟩|⟨ak,e⟩
 .obtain⟨_,hd,vs,_,dd⟩:=nh I.aH e;refine⟨dd.typeIs,λb q=>?_,hd⟩;cases q;obtain⟨ob,_,_,h1,h2,_⟩:=dd;exact⟨ob,h1,h2.2.1⟩
 .obtain⟨_,hd,xs,_,dd⟩:=nH I.aH e;refine⟨dd.typeIs,λb q=>?_,hd⟩;cases q;obtain⟨ob,_,_,h1,h2,_⟩:=dd;exact⟨ob,h1,h2.2.1⟩
section
variable{X:Cx}{af:List (Addr×Obj)}{σ:St}{H:Hp}{s:Shared}{a:Addr}{y d:V}{u r:Value}{o:Option V}{A:Around}{E:Value->Shared->Prop}
theorem VE(hu:A.units+1<cLine)(I:Inv X af σ H s)(g:gq H a y o)(ry:RelV y u)(rd:RelV d r)(h:∀w' s',Inv X af σ H s'->RelV (o.getD d) w'->Q w' s'):
  wpAny (model X.prog X.w) A (call (.builtin "dict.get") [.ref a,u,r]) Q E s:=by
 rcases g with⟨ak,k,e,ey,l⟩|⟨ak,k,b,e,ey,eb,l⟩
 .subst ey;obtain⟨z,hd,vs,rel,dd⟩:=nh I.aH e;refine call_meetsIn PySem.F.slot_dict_get dd.typeIs PySem.F.entry_dict_get (PySem.F.args_dict_get_3 _ _ _) (meets_dict_get_default (fN X.prog X.w) a (qA ry) hd r) ⟨_,dd.mapOf,h _ _ (I.tok _) ?_⟩;rw[l];exact(rel.val k).getD rd
 .subst ey;cases(show u=Value.ref b from ry);obtain⟨z,hd,xs,rel,dd⟩:=nH I.aH e;refine call_meetsIn PySem.F.slot_dict_get dd.typeIs PySem.F.entry_dict_get (PySem.F.args_dict_get_3 _ _ _) (meetsH_dict_get_default (tupleKind (fN X.prog X.w)) a b hd r) ⟨adY hu,k,xs,tS I.aH eb,dd,h _ _ (I.tok _) ?_⟩;rw[l];exact(rel.val k).getD rd
end
def SV(td ty tx:TE):TE:=λσ H Q=>td σ H λx H1=>∃a,x=.ref a/\Ly H1 a/\ty σ H1 λy H2=>tx σ H2 λz H3=>∃o,gq H3 a y o/\Q (o.getD z) H3
section
variable{X:Cx}{o e f:Expr}{apos fS:Pos}{td ty tx:TE}
theorem Em(hu:X.A.units+1<cLine)(ho:PE X o td)(he:PE X e ty)(hf:PE X f tx)(m:M2 X o "get" apos e f fS):PE X (.Call (.Attribute o "get" apos) [e,f] [] fS) (SV td ty tx):=by
 intro af s σ H Q I h;refine wpAny_Call_method m.base m.few m.line PySem.F.plainAttrs_dict PySem.F.slot_dict_get PySem.F.type_dict_get (aL (ho af s σ H _ I h) λu s1 ⟨x,H1,I1,rx,a,ex,d,q1⟩=>?_);subst ex;obtain rfl:u=Value.ref a:=rx;obtain⟨t1,t2,_⟩:=aaf I1 d;refine⟨t1,t2,?_⟩;rw[m.trees];refine Calls.callWith_builtin rfl (Calls.evalArgs_plain (Calls.spliced_cons (aL (he af s1 σ H1 _ I1 q1) λiv s2 ⟨y,H2,I2,ry,q2⟩=>
  Calls.spliced_cons (aL (hf af s2 σ H2 _ I2 q2) λfv s3 ⟨z,H3,I3,rz,ov,g,q3⟩=>Calls.spliced_nil ?_))))
 exact VE hu I3 g ry rz λw' s4 I4 fQ=>⟨_,H3,I4,fQ,q3⟩
end
section
variable{X:Cx}{af:List (Addr×Obj)}{σ:St}{H:Hp}{s:Shared}{a:Addr}{ak:List (Key×V)}{A:Around}{E:Value->Shared->Prop}
theorem Y8(I:Inv X af σ H s)(e:Rd H a (.dK ak))(h:∀p s',H p=none->Inv X af σ (upd H p (.dK ak)) s'->Q (.ref p) s'):wpAny (model X.prog X.w) A (call (.type "dict") [.ref a]) Q E s:=by
 obtain⟨z,hd,vs,rel,dd⟩:=nh I.aH e;refine kt_call_dict hd dd (by rw[<- rel.length];exact z) λh' kc hs=>?_
 refine h _ _ (I.aH.fresh (abu _)) (I.laid (λb q hq=>?_) (abu _) (EN z (adg.mpr (adW (acC I.big))) rel kc));exact(hs.2 b (acC (abh hq))).trans (aao _ hq)
end
end L2
namespace PJ
open PySem PySem.W PySem.Calls PyProof.Rows
theorem RL:∀(ns:List Int) (vs:List Value),WellAll P h vs (ns.map WData.int)->IntsAre vs ns:=by
 intro ns
 induction ns with
 |nil=>
  intro vs w;rw[aeT] at w;cases w;exact .nil
 |cons n ns ih=>
  intro vs w;rw[aas] at w;cases w with
  |cons a b=>
   cases a;exact .cons _ _ (ih _ b)
theorem acM{l:OpenLaw}(hn:l.most=some n){args:List WData}
  (yE:l.row.toRowW.claim.pre args=true) (AA:WellAll P h vals args) :
  ∃a vs ns,vals=[Value.ref a]/\args=[WData.list (ns.map WData.int)]/\h.get? a=some { cls:=.type "list",data:=.seq vs.toArray }/\IntsAre vs ns/\ns.length<=n:=by
 have Wr:=(pre_splitW yE).1;have hc:l.pre.holds [] { args:=args }=true:=(pre_splitW yE).2;obtain⟨d,r,rfl,h1,h2⟩:=hasAllW_cons Wr;obtain rfl:=hasAllW_nil h2;obtain⟨xs,rfl,h3⟩:=hasW_list h1;obtain⟨ns,rfl⟩:=items_int h3;have hlen:ns.length<=n:=by
  unfold OpenLaw.pre at hc;have h4:(WTm.not (.lt (.lit (.int (n:Int))) (.len (.arg 0)))).holds [] { args:=[.list (ns.map .int)] }=true:=by
   have h4:=(holds_andW hc).1;rw[hn] at h4;exact h4
  have h5:=condW_of h4 (w_not (w_lt w_lit (w_len_list (w_arg rfl))));rw[List.length_map] at h5;refine Nat.le_of_not_lt λq=>?_
  have q':(n:Int)<((ns.length:Nat):Int):=by omega
  first
   |(rw[aaD q'] at h5;exact absurd h5 (by decide))
   |(simp at h5;omega)
 cases AA with
 |cons w1 w2=>
  cases w2;cases w1 with
  |list ho C7=>exact⟨_,_,ns,rfl,rfl,ho,RL ns _ C7,hlen⟩
theorem YB(l:OpenLaw)(args:List WData):l.row.toRowW.claim.post args (.bool true) args=true:=
 postW_of (r:=l.row.toRowW) (X:=(true==true))
  (show WShape.has [] (.bool true) .bool=true by first|rfl|decide|simp[WShape.has,WShape.arms,WShape.armsAll])
  (show(WTm.eq .res (.lit (.bool true))).value [] { args:=args,res:=some (.bool true),after:=args }=some (.bool (true==true)) from w_eq_bool (w_res rfl) w_lit) rfl
theorem acy{l:OpenLaw}{XP:(Str->Option Value)->Heap->Prop}{YP:World->Heap->Prop}
  (hn:l.most=some n) (xG:d.params.defaults=[])
  (call:∀(w:World) (dQ bI:Shared) (mg mb:Str->Option Value) (fa:Addr) (o:Obj) (pm cd doc:Value) (a:Addr) (vs:List Value) (ns:List Int),
   Ground q loose [] XP w dQ mg mb bI.heap->YP w bI.heap->
   bI.heap.get? fa=some o->o.data=.func (docDef d.name d.params d.body d.scope pm cd doc)->bI.heap.CodeRec cd d.name->mg d.name=some (.ref fa)->
   bI.heap.get? a=some { cls:=.type "list",data:=.seq vs.toArray }->IntsAre vs ns->ns.length<=n->bI.gens=#[]->
   codeAny (model l.prog w) callerA (.call (.ref fa) ⟨[.ref a],[]⟩) (λr s'=>r=.ok (.ret (.bool true))/\OldK bI.heap s'.heap/\s'.os=bI.os/\AllBare s'.gens) bI) :
  WalkO q loose XP YP l.row.toRowW d [] (λf vs=>PySem.call f vs):=by
 intro w dQ bI mg mb G Y fa o pm cd doc dV kV ho hd mW hD wB hg args vals as yE adz pX AA vJ;obtain rfl:dV=.none:=Dflts.none hD xG;obtain rfl:kV=.none:=Dflts.noKw hD;obtain⟨a,vs,ns,rfl,rfl,Et,hints,hlen⟩:=acM hn yE AA;refine enter_call (codeAny_mono (call w dQ bI mg mb fa o pm cd doc a vs ns G Y ho (fd_plain hd) mW wB Et hints hlen hg) λr s' hq=>?_);obtain⟨rfl,h2,h3,h4⟩:=hq;exact⟨.inl ⟨.bool true,.bool true,[],rfl,λ_=>rfl,.bool true,YB l _,λ_=>⟨List.Pairwise.nil,λ_ hm=>(nomatch hm)⟩⟩,h2,h3,h4⟩
end PJ
namespace L2
open PySem PySem.Spec PyProof.Rows
theorem GY:∀{vs:List Value}{ns:List Int},IntsAre vs ns->aQ (ns.map V.int) vs
 |_,_,.nil=>.nil
 |_,_,.cons n t h=>.cons ⟨t,rfl⟩ (GY h)
noncomputable abbrev cT:jU:=λ_ _ _ _ _ _=>False
noncomputable abbrev E0:XK:=λ_ _ _=>False
theorem mz{X:Cx}:Passes cT X E0:=λ_ _ _ _ _ _ _ h=>h.elim
structure jJ(K:PySem.W.Frag)(x qual:Str)(st:Stmt)(f:Addr)(fd:FuncData):Prop where
 ex:∃(oc:Value) (od:Option Addr) (kV doc pm:Value) (an:Option Addr) (aR ct:Value) (nW:Array (Option Value)),
  fd=PySem.W.fnOf x qual (lF st) (gH st) (cB st) .none kV doc pm an aR ct/\K.lookup f=some ⟨oc,od,.func fd,nW⟩/\PySem.W.codeIn K aR qual=true
 kp:PySem.W.keepIn K (.ref f)=true
section
variable{P:Program}{w:World}{K:PySem.W.Frag}{mg:Str->Option Value}{base:Heap}
theorem jJ.ok{x qual:Str}{st:Stmt}{f:Addr}{fd:FuncData}{N ps:List Str}{k:Nat}{sp:Sp}{cm:Bool}(F:jJ K x qual st f fd)(S:pO N ps (cB st))(len:∀vs H Q E,sp vs H Q E->vs.length=ps.length)
  (BY:∀(aR:{c:Value // c=fd.code}) (A:Around) (outer:List Env) (s:Shared) (H:Hp) (vs:List V) (Q:VK) (E:XK),bq k (A.deeper (envOfC qual (cB st) s.heap.objs.size f aR)) cm->sp vs H Q E->
   ∃t,gJ (iQ cT P w K mg base N qual (cB st) f aR A outer s H E cm).fX (gH st) t/\t { nx:=λ_ H'=>Q .aA H',rt:=Q } (start N vs) H):b_ P w K mg base cT (k+1) f fd ps sp cm:=by
 obtain⟨oc,od,kV,doc,pm,an,aR,ct,nW,rfl,lk,mW⟩:=F.ex;refine RY lk mW S len λA outer s H vs Q E hr qt=>?_
 obtain⟨t,h,q⟩:=BY ⟨aR,rfl⟩ A outer s H vs Q E hr qt;exact⟨t,h.fX,q⟩
theorem jJ.binds{x qual:Str}{st:Stmt}(F:jJ K x qual st f fd)
  (h:∀(kV doc pm:Value) (an:Option Addr) (aR ct:Value) (us:List Value),us.length=ps.length->bindArgs (PySem.W.fnOf x qual (lF st) (gH st) (cB st) .none kV doc pm an aR ct) ⟨us,[]⟩=pure (ps.zip us)):Binds K fd ps []:=by
 obtain⟨oc,od,kV,doc,pm,an,aR,ct,nW,rfl,lk,mW⟩:=F.ex;exact .all (h kV doc pm an aR ct)
theorem Pu{st:Stmt}{od an:Option Addr}{nW:Array (Option Value)}{kV doc pm aR ct:Value}(l:K.lookup f=some ⟨oc,od,.func (PySem.W.fnOf x qual (lF st) (gH st) (cB st) .none kV doc pm an aR ct),nW⟩)
  (c:PySem.W.codeIn K aR qual=true) (k:PySem.W.keepIn K (.ref f)=true):jJ K x qual st f (PySem.W.fnOf x qual (lF st) (gH st) (cB st) .none kV doc pm an aR ct):=⟨⟨oc,od,kV,doc,pm,an,aR,ct,nW,rfl,l,c⟩,k⟩
end
theorem eT{A:Around}{k:Nat}{cm:Bool}(hr:bq k A cm):A.units+1<cLine:=aed (Nat.add_le_add_left (by decide:1<=64) _) hr.units
theorem Bt(h:n<=1000):n<sizeLine:=aed h (by decide)
theorem ac5{A B:Prop}(h:B):if false=true then A else B:=by
 rw[if_neg aa9];exact h
theorem Xv{A B:Prop}(h:A):if true=true then A else B:=by
 rw[if_pos rfl];exact h
def aF(H H':Hp):Prop:=∀b o,H b=some o->H' b=some o
theorem aF.refl(H:Hp):aF H H:=λ_ _ h=>h
theorem aF.trans{H H1 H2:Hp}(a:aF H H1)(b:aF H1 H2):aF H H2:=λc o h=>b c o (a c o h)
theorem aF.free{H H':Hp}(e:aF H H'){l:Addr}(h:H' l=Option.none):H l=Option.none:=by
 cases q:H l with
 |none=>rfl
 |some o=>
  rw[e l o q] at h;cases h
section
variable{X:Cx}
theorem XO:g_ X (.builtin "len") (λxs H Q=>∃a ak,xs=[V.ref a]/\H a=some (.dK ak)/\Q (.int ak.length) H):=by
 intro af s σ H xs us Q I r h;obtain⟨a,ak,rfl,ha,q⟩:=h;obtain⟨u,rfl,ru⟩:=vals1 r;cases ru;exact Rw I (.inl ha) λt s' I'=>⟨.int ak.length,H,I',⟨t,rfl⟩,q⟩
end
end L2
namespace L2.Zx
open PySem PyProof.Rows
section
variable{st l_:SortSt}{prog:Program}{w:World}{A:Around}{E:Value->Shared->Prop}{s:Shared}
noncomputable abbrev C2:=Option (Array Keyed)×Array Keyed×Nat×Nat×Nat×Nat×Nat
end
noncomputable abbrev H2:=Option (Array Keyed)×Nat×Nat×Array Keyed×Nat×Nat×Nat
noncomputable abbrev H1:=Option (Array Keyed)×Nat×Nat×Array Keyed×Nat×Nat
noncomputable abbrev H0:=Option (Array Keyed)×Nat×Nat×Array Keyed×Nat
end L2.Zx
namespace L2
open PySem PySem.Spec PyProof.Rows
noncomputable def T6(a:Addr)(cls:Value)(de:Option Addr):HO:=.ext λh=>∃oe,h.get? a=some oe/\oe.cls=cls/\(∀dx,de=some dx->oe.dict=some dx/\PySem.W.notCls oe=true)
def BJ(ob:Obj)(a:Addr)(cls:Value)(de:Option Addr):HO:=.d_ ob (T6 a cls de)
noncomputable def ML(n:Nat)(t:Tok):Str->Option Value:=λy=>if y="slot" then some (.int n t) else none
def Nu(dx:Addr)(n:Nat):HO:=.ext λh=>∃t,h.Ns1 dx (ML n t)
noncomputable def S1(o:Obj):Option Value:=match o.data with
 |.fields vs=>vs[2]?
 |_=>none
def VF(h:Heap)(H:Hp)(nw:Addr->Prop)(e:Addr):Option Addr->Prop
 |none=>True
 |some n=>∃oe dx t,h.get? e=some oe/\oe.dict=some dx/\h.Ns1 dx (ML n t)/\H dx=none/\nw dx
def Jj(h:Heap)(H:Hp)(nw:Addr->Prop)(e:Addr)(dX:Option Addr):Prop:=(∃oe,h.get? e=some oe/\S1 oe=some .none)/\VF h H nw e dX
structure QT(h:Heap)(H:Hp)(h0:Heap)(e:Addr)(cls:Value)(dX:Option Addr):Prop where
 py:Jj h H (λa=>h0.get? a=none) e dX
 nw:h0.get? e=none
 fr:H e=none
 ob:∃oe vs a0,h.get? e=some oe/\oe.cls=cls/\vs[0]? = some a0/\oe.data=.fields vs/\vs[1]? = some .none
abbrev XS:=Value->Option Addr->St->Hp->Prop
def Vh(X:Cx)(E:XS):Prop:=∀(af:List (Addr×Obj)) (σ:St) (H:Hp) (s:Shared) (e:Addr) (cls:Value) (dX:Option Addr),Inv X af σ H s->QT s.heap H X.dQ.heap e cls dX->E cls dX σ H->X.xe (.ref e) s
structure NB(K:PySem.W.Frag)(C:Addr):Prop where
 ex:∃B newId Vv xT bm N nm qn bs jx sn sub ab col dd k0 k1 k2 k3 k5,ExcBaseFacts B newId Vv xT/\K.lookup C=some (excClassObj nm qn C N bs bm jx sn sub ab col dd k0 k1 k2 k3 k5 newId)/\
  PySem.W.nsOkIn K N=true/\PySem.W.nsIn K N "__init__"=some none/\PySem.W.tailIn K xT bm=true
section
variable{X:Cx}{af:List (Addr×Obj)}{σ:St}{H:Hp}{s:Shared}{h':Heap}
noncomputable abbrev Apart(X:Cx)(af:List (Addr×Obj))(a:Addr):Prop:=X.dQ.heap.get? a=none/\a≠X.env.locals/\(∀y c,X.env.cells.lookup y=some c->c≠a)/\∀p∈X.pn++af,p.1≠a
structure Mr(X:Cx)(af:List (Addr×Obj))(σ:St)(H:Hp)(e:Addr)(cls:Value)(dX:Option Addr)(s:Shared):Prop where
 py:Jj s.heap H (Apart X af) e dX
 inv:Inv X af σ H s
 fr:H e=none
 ap:X.dQ.heap.get? e=none/\e≠X.env.locals/\(∀y c,X.env.cells.lookup y=some c->c≠e)/\∀p∈X.pn++af,p.1≠e
 ob:∃oe vs a0 T oT ts,s.heap.get? e=some oe/\oe.cls=cls/\vs[0]? = some a0/\oe.data=.fields vs/\vs[1]? = some (.ref T)/\T≠e/\H T=none/\(X.dQ.heap.get? T=none/\T≠X.env.locals/\(∀y c,X.env.cells.lookup y=some c->c≠T)/\∀p∈X.pn++af,p.1≠T)/\s.heap.get? T=some oT/\oT.data=.fields ts/\(ts[3]? = some .none\/ts[3]? = some (rawInt X.env.locals))
end
def yq(X:Cx)(E:XS):Prop:=∀(af:List (Addr×Obj)) (σ:St) (H:Hp) (s:Shared) (e:Addr) (cls:Value) (dX:Option Addr),Mr X af σ H e cls dX s->E cls dX σ H->X.xe (.ref e) s
def NX(X:Cx)(af:List (Addr×Obj))(σ:St)(E:XK)(e:Value)(s':Shared):Prop:=∃a cls dX H',e=.ref a/\Mr X af σ H' a cls dX s'/\E cls dX H'
abbrev TX:=St->Hp->VK->XK->Prop
def PX(X:Cx)(e:Expr)(t:TX):Prop:=
 ∀(af:List (Addr×Obj)) (s:Shared) (σ:St) (H:Hp) (Q:VK) (E:XK),Inv X af σ H s->t σ H Q E->wpAny (model X.prog X.w) X.A (eval e X.env) (EP X af σ Q) (NX X af σ E) s
section
variable{X:Cx}{e:Expr}{t:TX}{ES:XS}{pos:Pos}
theorem IP(th:yq X ES)(h:NX X af σ (λcls dX H=>ES cls dX σ H) v s):X.xe v s:=by
 obtain⟨a,cls,dX,H',rfl,L,q⟩:=h;exact th af σ H' s a cls dX L q
def Xq(i:Nat)(ES:XS)(t:TX):TS:=λD σ H=>t σ H (λv H1=>D.nx (σ.set i (some v)) H1) λcls dX H'=>ES cls dX σ H'
theorem P6(th:yq X ES)(hN:X.N.Nodup)(hi:X.N[i]? = some x)(hx:Loc X.env.scope x)(he:PX X e t)(hs:swapsWith e (some (.Name x pos')) pos.line X.env=pure false:=by rfl)(hf:X.fn x=true\/X.env.scope.names.lookup x=some .local:=by first|exact .inl rfl|exact .inr rfl|assumption):
  PS X (.Assign [.Name x pos'] e pos) (Xq i ES t):=by
 intro af s σ H D I h;refine wpAny_Assign_Name (adH (he af s σ H _ _ I h) (λv s1 ⟨y,H1,I1,r1,q1⟩=>?_) λ_ _ z=>IP th z) hs;exact Ey I1 hN hi hx r1 (λs2 I2=>⟨_,H1,I2,q1⟩) hf
def SW(ES:XS)(t:TX):TS:=λD σ H=>t σ H (λ_ H1=>D.nx σ H1) λcls dX H'=>ES cls dX σ H'
theorem Ny(th:yq X ES)(he:PX X e t)(hs:swapsWith e none pos.line X.env=pure false:=by rfl):PS X (.Expr e pos) (SW ES t):=by
 intro af s σ H D I h;exact wpAny_Expr_any (adH (he af s σ H _ _ I h) (λv s1 ⟨x,H1,I1,r1,q1⟩=>⟨σ,H1,I1,q1⟩) λ_ _ z=>IP th z) I.quiet hs
end
section
variable{X:Cx}{af:List (Addr×Obj)}{σ:St}{H:Hp}{s:Shared}{e:Addr}{cls:Value}{dX:Option Addr}
theorem Inv.Sz{u:HO}(I:Inv X af σ H s)(fr:H e=none)(ap:Apart X af e)(ok:cZ X.prog X.w (upd H e u) s.heap e u):Inv X af σ (upd H e u) s:=by
 obtain⟨a1,a2,a3,a4⟩:=ap;have ne:∀{b:Addr}{o:HO},H b=some o->b≠e:=λ{b o} q z=>by rw[z,fr] at q;cases q
 refine⟨I.ok,I.os,I.bare,⟨I.base.keep,I.base.slot,λb o q n hx=>?_,I.base.there,λb xs q=>?_,λb o u q=>?_,λb ps q=>?_⟩,I.loc,I.cell,?_,λx c q=>?_,λp hp=>?_,λb o q=>?_,I.len,I.hq.mono (λb o u q=>by rw[aO (ne q)];exact q) λb t q=>by rw[aO (ne q)];exact q⟩
 .rw[aO λz=>by rw[z,a1] at q;cases q];exact I.base.free b o q n hx
 .have w:=I.base.kO b xs q;rw[aO (ne w)];exact w
 .have w:=I.base.kC b o u q;rw[aO (ne w)];exact w
 .obtain⟨more,w⟩:=I.base.lN b ps q;exact⟨more,by rw[aO (ne w)];exact w⟩
 .rw[aO λz=>a2 z.symm];exact I.free
 .rw[aO (a3 x c q)];exact I.jq x c q
 .obtain⟨p1,p2,p3⟩:=I.pin p hp;exact⟨p1,by rw[aO (a4 p hp)];exact p2,p3⟩
 .by_cases z:b=e
  .subst z;rw[cG] at q;cases q;exact ok
  .rw[aO z] at q;exact(I.aH b o q).lQ (λ_ _ _ q=>q) (λc q=>by rw[aO (ne q)];exact q) λc xs q=>by rw[aO (ne q)];exact q
def KQ(H H':Hp)(a:Addr)(cls:Value)(dX:Option Addr):Prop:=∃ob vs,ob.data=.fields vs/\vs[2]? = some .none/\match dX with
 |none=>H'=upd H a (BJ ob a cls none)
 |some n=>∃dx,dx≠a/\H dx=none/\H'=upd (upd H dx (Nu dx n)) a (BJ ob a cls (some dx))
theorem KQ.same{H H':Hp}{a:Addr}{cls:Value}{dX:Option Addr}(k:KQ H H' a cls dX)(fr:H a=none){b:Addr}{o:HO}(q:H b=some o):H' b=some o:=by
 obtain⟨ob,vs,_,_,k⟩:=k;cases dX with
 |none=>subst k;rw[aO (cK q fr)];exact q
 |some n=>obtain⟨dx,ne,d,rfl⟩:=k;rw[aO (cK q fr),aO (cK q d)];exact q
end
section
variable{prog:Program}{w:World}{A:Around}{R:Result->Shared->Prop}{s:Shared}
theorem Vk{env:Env}(Iv:Nat->Shared->Prop)
  (turn:∀n s,Iv n s->wpAny (model prog w) A (pyNext it) (λr s1=>match r with
   |none=>R (.ok .next) s1
   | some v=>wpAny (model prog w) A (letOwnedTupleGo tg it v) (λ_ pS=>wpAny (model prog w) A (assign tg env v) (λ_ s2=>
     wpAny (model prog w) A (forIn ifs true λc r=>if r=true then do let ok <- isTrue c env (eval c env);pure (ForInStep.yield ok) else pure (ForInStep.yield r)) (λok s3=>
      if ok=true then wpAny (model prog w) A (eval elt env) (λx s4=>
       wpAny (model prog w) A (call (.builtin "list.append") [acc,x]) (λ_ s5=>∃m,m<n/\Iv m s5) (λ_ _=>False) s4) (λ_ _=>False) s3
      else ∃m,m<n/\Iv m s3) (λ_ _=>False) s2) (λ_ _=>False) pS) (λ_ _=>False) s1) (λ_ _=>False) s)
  (n:Nat) (hn:Iv n s):codeAny (model prog w) A (.compLoop (.ListComp elt [⟨tg,iter,ifs,0⟩] scope pos) 0 it acc env) R s:=by
 have ff:∀{E:Value->Shared->Prop} (x:Value) (s:Shared),False->E x s:=λ_ _ f=>f.elim
 refine codeAny_loop rfl Iv (λk s0 hI=>?_) n hn;refine wpAny_noted ?_;rw[compTurn_list];refine aaT (wpAny_standAt (aaT (adH (turn k s0 hI) (λr s1 h1=>?_) ff)));cases r with
 |none=>exact acI h1
 |some v=>
  refine aaT (adH h1 (λ_ pS gb=>aaT (adH gb (λ_ s2 h2=>aaT (adH h2 (λok s3 h3=>?_) ff)) ff)) ff);cases ok with
  |false=>exact acI ⟨rfl,h3⟩
  |true=>exact aaT (aaT (adH h3 (λx s4 h4=>aaT (adH h4 (λ_ s5 h5=>acI (acI ⟨rfl,h5⟩)) ff)) ff))
end
noncomputable def frees(sc:Scope):List Str:=(sc.names.filter λx=>x.2 == .free).map (·.1)
noncomputable def kQ(env:Env):List (Str×NameKind)->List (Str×Addr)->List (Str×Addr)
 |[],cs=>cs
 |(n,k)::r,cs=>kQ env r (if k == .free then(n,(env.cells.lookup n).getD 0)::cs else cs)
theorem Lz{env:Env}(h:∀x∈frees sc,∃c,env.cells.lookup x=some c):closureFor sc env=pure (kQ env sc.names []):=by
 have key:∀(l:List (Str×NameKind)) (cs:List (Str×Addr)),(∀x∈(l.filter λx=>x.2 == .free).map (·.1),∃c,env.cells.lookup x=some c)->
   (forIn l cs λx r=>(do
    let(name,kind):=x
    if kind == .free then do
     let a <- cellOf env name
     pure (ForInStep.yield ((name,a)::r))
    else pure (ForInStep.yield r):Sem (ForInStep (List (Str×Addr)))))=pure (kQ env l cs):=by
  intro l
  induction l with
  |nil=>intro cs _;rfl
  |cons p r ih=>
   obtain⟨n,k⟩:=p;intro cs h;rw[List.forIn_cons]
   by_cases hk:(k==NameKind.free)=true
   .obtain⟨c,hc⟩:=h n (by simp[hk]);have Fv:=ih ((n,c)::cs) λx hx=>h x (by simp only[aeE,hk,if_true,aas,aaV];exact Or.inr hx)
    have e:cellOf env n=pure c:=by unfold cellOf;rw[hc]
    simp only[hk,if_true,e,pure_bind,kQ,hc,aeo];exact Fv
   .have Fv:=ih cs λx hx=>h x (by simp only[aeE,hk];exact hx)
    simp only[hk,kQ,aee,if_false,pure_bind];exact Fv
 unfold closureFor;have k:=key sc.names [] h;simp only[bind_pure] at k ⊢
 first
  |exact k
  |(simp only[pure_bind];exact k)
theorem Pb{env:Env}:∀{l:List (Str×NameKind)}{cs:List (Str×Addr)}{x:Str}{c:Addr},(kQ env l cs).lookup x=some c->
  cs.lookup x=some c\/((x,NameKind.free)∈l/\c=(env.cells.lookup x).getD 0)
 |[],_,_,_,h=>.inl h
 |(n,k)::r,cs,x,c,h=>by
  rcases Pb (l:=r) h with q|⟨q,e⟩
  .by_cases hk:(k==NameKind.free)=true
   .rw[if_pos hk,adm] at q
    by_cases hx:(x==n)=true
    .rw[hx] at q;have e:=eq_of_beq hx;subst e;have Yw:k=.free:=by cases k<;>first|rfl|exact absurd hk (by decide)
     subst Yw;exact .inr ⟨aam,(abO q).symm⟩
    .rw[Bool.not_eq_true] at hx;rw[hx] at q;exact .inl q
   .rw[if_neg hk] at q;exact .inl q
  .exact .inr ⟨aal _ q,e⟩
theorem F7{env:Env}:∀{l:List (Str×NameKind)}{cs:List (Str×Addr)}{x:Str},(∃c,cs.lookup x=some c)\/(x,NameKind.free)∈l->∃c,(kQ env l cs).lookup x=some c
 |[],_,_,h=>h.elim id λz=>nomatch z
 |(n,k)::r,cs,x,h=>by
  refine F7 (l:=r) ?_;rcases h with⟨c,h⟩|h
  .left
   by_cases hk:(k==NameKind.free)=true
   .rw[if_pos hk,adm]
    by_cases hx:(x==n)=true
    .rw[hx];exact⟨_,rfl⟩
    .rw[Bool.not_eq_true] at hx;rw[hx];exact⟨c,h⟩
   .rw[if_neg hk];exact⟨c,h⟩
  .rcases aaV.mp h with e|h
   .left
    cases e;rw[if_pos (by decide),adm,ad9];exact⟨_,rfl⟩
   .exact .inr h
def eF(X:Cx)(N:List Str)(sc:Scope)(s3:Shared)(H3:Hp)(fp:List Addr):Cx:=
 { X with N:=N,dQ:=s3,sC:=H3,env:=compEnvC sc (kQ X.env sc.names []) s3.heap.objs.size X.env,outer:=X.stack,stack:=X.stack,ex:=fp,fn:=λ_=>false,pn:=[],xe:=λ_ _=>False }
noncomputable def lK(js:List (Option Nat))(σ:St):St:=js.map λj=>match j with
 |none=>none
 |some j=>(σ[j]?).join
noncomputable def nV(N:List Str)(sc:Scope):List Str->List (Option Nat)->Bool
 |[],[]=>true
 |x::r,none::js=>nV N sc r js
 |x::r,some j::js=>decide (N[j]? = some x)&&decide (sc.names.lookup x=some .free)&&nV N sc r js
 |_,_=>false
theorem zZ:∀{M:List Str}{js:List (Option Nat)},nV N sc M js=true->js.length=M.length
 |[],[],_=>rfl
 |_::r,none::js,h=>by
  have:=zZ (js:=js) h;simp[this]
 |_::r,some j::js,h=>by
  unfold nV at h;have:=zZ ((aaH _ _).mp h).2;simp[this]
 |[],_::_,h=>by cases h
 |_::_,[],h=>by cases h
theorem HM:∀{M:List Str}{js:List (Option Nat)}{i j:Nat}{x:Str},nV N sc M js=true->M[i]? = some x->js[i]? = some (some j)->N[j]? = some x/\sc.names.lookup x=some .free
 |[],_,_,_,_,_,h,_=>by simp at h
 |_::_,[],_,_,_,h,_,_=>by cases h
 |y::r,none::js,0,j,x,h,h1,h2=>by simp at h2
 |y::r,some q::js,0,j,x,h,h1,h2=>by
  simp at h1 h2;subst h1 h2;unfold nV at h;obtain⟨a,b⟩:=(aaH _ _).mp ((aaH _ _).mp h).1;exact⟨aaK a,aaK b⟩
 |y::r,none::js,i+1,j,x,h,h1,h2=>HM (js:=js) h (by simpa using h1) (by simpa using h2)
 |y::r,some q::js,i+1,j,x,h,h1,h2=>by
  unfold nV at h;exact HM ((aaH _ _).mp h).2 (by simpa using h1) (by simpa using h2)
structure nE(X:Cx)(M:List Str)(js:List (Option Nat))(sc:Scope):Prop where
 kind:sc.kind=.function
 vC:∀y∈sc.names,y.2≠.cell
 loc:∀y∈sc.names,y.2=.local->sc.names.lookup y.1=some .local
 Cn:nV X.N sc M js=true
 free:∀x∈frees sc,X.env.kindOf x=some .cell\/X.env.kindOf x=some .free
 nd:M.Nodup
def CM(wi:TI)(js:List (Option Nat))(g:TG)(tt:TT)(te:TE):TE:=λσ H Q=>wi σ H λJ H1=>∀D,H1 D=none->
 ∃W:Nat->Nat->St->Hp->Prop,(∃m,W 0 m (lK js σ) (upd H1 D (.lst [])))/\∀i m aC H',W i m aC H'->
  (J.stop i H'/\Q (.ref D) H')\/(J.go i H'/\∀x H2,J.xw i H' x H2->g x aC H2 λcE H3=>tt cE H3 λb H4=>
   if b=true then te cE H4 λy H5=>∃xs,H5 D=some (.lst xs)/\xs.length<sizeLine/\∃m',m'<m/\W (i+1) m' cE (upd H5 D (.lst (xs++[y])))
   else ∃m',m'<m/\W (i+1) m' cE H4)
def xj(X:Cx)(ifs:List Expr)(t:TT):Prop:=
 ∀(af:List (Addr×Obj)) (s:Shared) (σ:St) (H:Hp) (Q:Bool->Hp->Prop),Inv X af σ H s->t σ H Q->
  wpAny (model X.prog X.w) X.A (forIn ifs true λc r=>if r=true then do let ok <- isTrue c X.env (eval c X.env);pure (ForInStep.yield ok) else pure (ForInStep.yield r)) (TP X af σ Q) X.xe s
theorem Qs{t:TT}(h:PT X c t):xj X [c] t:=λaf s σ H Q I q=>wpAny_tests_one (h af s σ H Q I q)
section
variable{X:Cx}
theorem Inv.comp(S:nE X M js sc)(I:Inv X af σ H3 s3)
  (hf:∀b∈fp,h_ X af H3 b) (cQ:∀b∈fp,b<s3.heap.objs.size) (hn:h'.Ns s3.heap.objs.size λ_=>none) (hk:∀b o,s3.heap.get? b=some o->h'.get? b=some o) :
  Inv (eF X M sc s3 H3 fp) [] (lK js σ) H3 { s3 with heap:=h',toks:=tk }:=by
 have cl:∀{x:Str}{c:Addr},(kQ X.env sc.names []).lookup x=some c->X.env.cells.lookup x=some c:=λ{x c} e=>by
  rcases Pb e with q|⟨q,e'⟩
  .cases q
  .obtain⟨c',hc⟩:=I.ok.has x (S.free x (abw.mpr ⟨(x,.free),ab5.mpr ⟨q,rfl⟩,rfl⟩));rw[hc] at e' ⊢;rw[e'];rfl
 have jP:=ado I.ok.jP I.sz;have lk:∀{x:Str},sc.names.lookup x=some .free->(relabel sc X.env).names.lookup x=some .cell\/(relabel sc X.env).names.lookup x=some .free:=λ{x} e=>by
  have key:∀(l:List (Str×NameKind)),l.lookup x=some .free->(l.map λ(n,k)=>if(k==NameKind.free&&X.env.scope.kind == .function&&X.env.kindOf n==some .cell) then(n,NameKind.cell) else(n,k)).lookup x=some .cell\/
    (l.map λ(n,k)=>if(k==NameKind.free&&X.env.scope.kind == .function&&X.env.kindOf n==some .cell) then(n,NameKind.cell) else(n,k)).lookup x=some .free:=by
   intro l
   induction l with
   |nil=>intro e;cases e
   |cons p r ih=>
    obtain⟨n,k⟩:=p;intro e;rw[adm] at e;rw[aas]
    by_cases hx:(x==n)=true
    .rw[hx] at e;have e':=abO e;subst e';dsimp only
     split
     .left;rw[adm,hx]
     .right;rw[adm,hx]
    .rw[Bool.not_eq_true] at hx;rw[hx] at e;dsimp only
     split<;>(rw[adm,hx];exact ih e)
  exact key sc.names e
 have kf:∀{x:Str},((relabel sc X.env).names.lookup x=some .cell\/(relabel sc X.env).names.lookup x=some .free)->(x,NameKind.free)∈sc.names:=λ{x} e=>by
  have key:∀(l:List (Str×NameKind)),(∀y∈l,y.2≠.cell)->((l.map λ(n,k)=>if(k == NameKind.free&&X.env.scope.kind == .function&&X.env.kindOf n == some .cell) then(n,NameKind.cell) else(n,k)).lookup x=some .cell\/
    (l.map λ(n,k)=>if(k==NameKind.free&&X.env.scope.kind == .function&&X.env.kindOf n==some .cell) then(n,NameKind.cell) else(n,k)).lookup x=some .free)->(x,NameKind.free)∈l:=by
   intro l
   induction l with
   |nil=>intro _ e;rcases e with e|e<;>cases e
   |cons p r ih=>
    obtain⟨n,k⟩:=p;intro nc e;rw[aas] at e
    by_cases hx:(x==n)=true
    .have e0:=eq_of_beq hx;subst e0;have Vy:k=.free:=by
      dsimp only at e
      split at e
      .rename_i hc;have:=((aaH _ _).mp ((aaH _ _).mp hc).1).1;cases k<;>first|rfl|exact absurd this (by decide)
      .rw[adm,ad9] at e;rcases e with e|e
       .exact absurd (abO e) (nc _ aam)
       .exact abO e
     rw[Vy];exact aam
    .rw[Bool.not_eq_true] at hx;refine aal _ (ih (λy hy=>nc y (aal _ hy)) ?_);dsimp only at e
     split at e<;>(rw[adm,hx] at e;exact e)
  exact key sc.names S.vC e
 refine⟨⟨I.ok.mod,S.kind,I.ok.glob,I.ok.blt,abu _,λx y c h1 h2=>I.ok.inj x y c (cl h1) (cl h2),λx hx=>F7 (.inr (kf hx)),(λx c h _=>by cases h),I.ok.hd,I.ok.frames,.inl rfl,λb hb=>⟨acC (cQ b hb),λx c e=>(hf b hb).2.2.2.2.1 x c (cl e)⟩,
   I.bs,jP,λb o e hb=>?_,λb hb yo=>?_,I.stack,I.BU⟩,
  rfl,I.bare,Un.kept hk,⟨_,hn,λi x v h1 h2 h3=>?_⟩,λx c e=>?_,I.aH.fresh (abu _),λx c e=>I.jq x c (cl e),λp hp=>absurd (show p∈([]:List (Addr×Obj)) from hp) (by simp),I.aH.kept hk,?_,I.hq⟩
 .rcases(hf b hb).2.2.2.1 with z|z
  .exact I.ok.tF b o e z
  .exact absurd (ac1 (abh e) (ado I.ok.jP z)) (adC _)
 .rcases aaV.mp (I.Ef b yo) with z|z
  .exact(hf b hb).2.1 z
  .exact(hf b hb).2.2.1 z
 .have hlen:=zZ S.Cn;have hi:i<js.length:=by rw[hlen];exact(abf.mp h1).1
  unfold lK at h2;rw[ab6,aaQ hi,Option.map_some] at h2;exists hj,js[i],j,h2;have mK:(σ[j]?).join=some v:=abO h2;obtain⟨a,b⟩:=HM S.Cn h1 (by rw[aaQ hi,hj]);have hs:σ[j]? = some (some v):=by
   exists q,σ[j]?,z,mK;rw[show z=some v from mK]
  have KN:=S.free x (abw.mpr ⟨(x,.free),ab5.mpr ⟨PySem.mem_of_lookup b,rfl⟩,rfl⟩);obtain⟨m,hm,hl⟩:=I.loc;obtain⟨u,ru,l⟩:=hl j x v a hs (KN.elim (λz=>.inr (.inl z)) λz=>.inr (.inr z));refine⟨u,ru,.inr ⟨lk b,?_⟩⟩;rcases l with⟨k,_⟩|⟨_,c,e,hc⟩
  .rcases KN with z|z<;>(rw[z] at k;cases k)
  .obtain⟨c',qM⟩:=F7 (env:=X.env) (cs:=[]) (.inr (PySem.mem_of_lookup b));have e':=cl qM;rw[e] at e';have e2:=abO e';subst e2;obtain⟨o,ho,hd⟩:=hc;exact⟨c,qM,o,hk _ _ ho,hd⟩
 .obtain⟨v,o,ho,hd⟩:=I.cell x c (cl e);exact⟨v,o,hk _ _ ho,hd⟩
 .unfold lK;rw[List.length_map];exact zZ S.Cn
theorem Inv.JY(I:Inv X af σ H3 s3)(hf:∀b∈fp,h_ X af H3 b)
  (J:Inv (eF X M sc s3 H3 fp) MB aC H' s') (hs:Heap.SameBut s3.heap.objs.size s'.heap h'):Inv X af σ H' { s' with heap:=h' }:=by
 have B:=J.base;have ne:∀{b:Addr}{o:Obj},s3.heap.get? b=some o->b≠s3.heap.objs.size:=λe=>acC (abh e)
 have B':Un (cP X.stack) fp H3 H' s3.heap h':=⟨λb o e n hb hx=>(hs.2 b (ne e)).trans (B.keep b o e n hb hx),λb o e n hb hx=>let⟨sl,q⟩:=B.slot b o e n hb hx;⟨sl,(hs.2 b (ne e)).trans q⟩,B.free,
  λb o e hx=>let⟨o',q⟩:=B.there b o e hx;⟨o',(hs.2 b (ne e)).trans q⟩,B.kO,B.kC,B.lN⟩
 have fr:H' s3.heap.objs.size=none:=J.free;refine I.Vm (s':={ s' with heap:=h' }) (ch:=fp) J.os B' (λb u e=>?_) J.bare λb hb=>⟨(hf b hb).2.2.2.1,(hf b hb).2.1,(hf b hb).2.2.2.2.1,(hf b hb).2.2.2.2.2⟩
 refine(J.aH b u e).lQ (λc v hc q=>(hs.2 c ?_).trans q) (λ_ q=>q) λ_ _ q=>q
 rintro rfl
 rcases hc with rfl|hc
 .rw[fr] at e;cases e
 .rw[fr] at hc;cases hc
theorem J8{tt:TT}
  {tn:Nat->Heap->Prop}{J:It}{Q:VK}{RR:Value->Addr->Result->Shared->Prop} (S:nE X M js sc) (hc:X.calm=true\/J.rg=true) (I2:Inv X af σ H2 s2) (T:Turn X.prog X.w X.K tg J fp it tn) (st:tn 0 s2.heap) (hf:∀b∈fp,h_ X af H2 b)
  (hb:∀s3 H3 fp,PG (eF X M sc s3 H3 fp) tg g/\xj (eF X M sc s3 H3 fp) ifs tt/\PE (eF X M sc s3 H3 fp) elt te)
  (h:∀D,H2 D=none->∃W:Nat->Nat->St->Hp->Prop,(∃m,W 0 m (lK js σ) (upd H2 D (.lst [])))/\∀i m aC H',W i m aC H'->
   (J.stop i H'/\Q (.ref D) H')\/(J.go i H'/\∀x H2,J.xw i H' x H2->g x aC H2 λcE H3=>tt cE H3 λb H4=>
    if b=true then te cE H4 λy H5=>∃xs,H5 D=some (.lst xs)/\xs.length<sizeLine/\∃m',m'<m/\W (i+1) m' cE (upd H5 D (.lst (xs++[y])))
    else ∃m',m'<m/\W (i+1) m' cE H4))
  (hR:∀D s3 H3 s' aC H',Inv X af σ H3 s3->(∀b∈fp,h_ X af H3 b)->Inv (eF X M sc s3 H3 fp) [] aC H' s'->Q (.ref D) H'->RR (.ref D) s3.heap.objs.size (.ok .next) s') :
  wpAny (model X.prog X.w) X.A (newList []) (λacc A6=>wpAny (model X.prog X.w) X.A (newFunctionEnv sc X.env.globals (kQ X.env sc.names []) [] X.env.qual none .none (some X.env)) (λII XG=>
   codeAny (model X.prog X.w) X.A (.compStart (.ListComp elt [⟨tg,iter,ifs,0⟩] sc pos) 0 (.ref it) acc { II with scope:=relabel sc X.env }) (RR acc II.locals) XG) X.xe A6) X.xe s2:=by
 have WB:=I2.aH.fresh (abu _);obtain⟨W,⟨m0,w0⟩,turn⟩:=h _ WB;have I3:Inv X af σ (upd H2 s2.heap.objs.size (.lst [])) { s2 with heap:=s2.heap.push { cls:=.type "list",data:=.seq ([]:List Value).toArray } }:=
  I2.laid (λ_ _ q=>aao _ q) (abu _) ⟨adq _,[],0,.nil,ab2 _ rfl⟩
 have FD:∀b∈fp,b<s2.heap.objs.size:=λb hb=>let⟨_,e,_⟩:=T.obj _ _ st b hb;abh e
 have Fz:∀b∈fp,h_ X af (upd H2 s2.heap.objs.size (.lst [])) b:=λb hb=>⟨by rw[aO (acC (FD b hb))];exact(hf b hb).1,(hf b hb).2⟩
 have hsz:(s2.heap.push { cls:=.type "list",data:=.seq ([]:List Value).toArray }).objs.size=s2.heap.objs.size+1:=aer ..;refine aev (wpAny_newFunctionEnv S.vC (λy hy=>nomatch hy) (λh1 hn1 hs1=>?_) S.kind);generalize AM:({ s2 with heap:=s2.heap.push { cls:=.type "list",dict:=none,data:=.seq ([]:List Value).toArray } }:Shared)=s3 at *;have MN:∀b o,s3.heap.get? b=some o->h1.get? b=some o:=λb o e=>(hs1.2 b (acC (abh e))).trans (aao _ e)
 have Kh:∀b∈fp,b<s3.heap.objs.size:=λb hb=>by rw[<- AM];show b<(s2.heap.push _).objs.size;rw[hsz];exact aeP (FD b hb)
 have I4:Inv (eF X M sc s3 (upd H2 s2.heap.objs.size (.lst [])) fp) [] (lK js σ) (upd H2 s2.heap.objs.size (.lst [])) { s3 with heap:=h1,toks:=s3.toks+([]:List (Str×Value)).length }:=I3.comp S Fz Kh hn1 MN;obtain⟨hg,ht,he⟩:=hb s3 (upd H2 s2.heap.objs.size (.lst [])) fp;have qG:∀{H':Hp},(∀b∈fp,H' b=none)->∀b∈fp,h_ (eF X M sc s3 (upd H2 s2.heap.objs.size (.lst [])) fp) [] H' b:=λ{H'} hn b hb=>
  ⟨hn b hb,acC (Kh b hb),I4.ok.ux b hb,.inl hb,(I4.ok.Br b hb).2,λp hp=>absurd (show p∈([]:List (Addr×Obj)) from hp) (by simp)⟩
 have KO:=T.keep _ _ _ st λb hb o e=>MN b o (by rw[<- AM];exact aao _ e)
 have SG:∀b∈fp,upd H2 s2.heap.objs.size (.lst []) b=none:=λb hb=>(Fz b hb).1
 have loop:codeAny (model X.prog X.w) X.A (.compLoop (.ListComp elt [⟨tg,iter,ifs,0⟩] sc pos) 0 (.ref it) (.ref s2.heap.objs.size) (compEnvC sc (kQ X.env sc.names []) s3.heap.objs.size X.env)) (RR (.ref s2.heap.objs.size) s3.heap.objs.size)
   { s3 with heap:=h1,toks:=s3.toks+([]:List (Str×Value)).length }:=by
  refine Vk (λn s'=>∃i aC H',Inv (eF X M sc s3 (upd H2 s2.heap.objs.size (.lst [])) fp) [] aC H' s'/\tn i s'.heap/\(∀b∈fp,H' b=none)/\W i n aC H') ?_ m0 ⟨0,_,_,I4,KO,SG,w0⟩
  rintro n s5 ⟨i,Bj,H5,I5,uq,lC,w5⟩
  rcases turn i n Bj H5 w5 with⟨stop,q⟩|⟨go,step⟩
  .refine aL (T.done (eF X M sc s3 (upd H2 s2.heap.objs.size (.lst [])) fp) rfl rfl rfl hc i [] s5 Bj H5 _ I5 (qG lC) uq stop) λr s6 ⟨hr,I6⟩=>?_
   subst hr;exact hR _ _ _ _ _ _ I3 Fz I6 q
  .refine aL (T.item (eF X M sc s3 (upd H2 s2.heap.objs.size (.lst [])) fp) rfl rfl rfl hc i [] s5 Bj H5 _ I5 (qG lC) uq go) λr s6 ⟨u,hr,h6⟩=>?_
   subst hr;refine aL h6 λ_ s7 ⟨x,H7,I7,r7,y7,Ge,fr7⟩=>?_
   have Zf:=I7.pinned (qG fr7) (T.obj _ _ Ge);have back:∀{p_:St}{H8:Hp}{s8:Shared},Inv (eF X M sc s3 (upd H2 s2.heap.objs.size (.lst [])) fp) ([]++uZ fp s7.heap) p_ H8 s8->tn (i+1) s8.heap/\(∀b∈fp,H8 b=none):=λ{p_ H8 s8} I8=>
    ⟨T.keep _ _ _ Ge λb hb o e=>(I8.pin (b,o) (aat _ (aat _ (Ae hb e)))).1,λb hb=>by
     obtain⟨o,e,_⟩:=T.obj _ _ Ge b hb;exact(I8.pin (b,o) (aat _ (aat _ (Ae hb e)))).2.1⟩
   refine aL (hg _ s7 Bj H7 x u _ Zf r7 (step x H7 y7)) λ_ s8 ⟨p_,H8,I8,q8⟩=>?_
   refine aL (ht _ s8 p_ H8 _ I8 q8) λok s9 ⟨H9,I9,q9⟩=>?_
   cases ok with
   |false=>
    rw[if_neg aa9] at q9 ⊢;obtain⟨m',hm,w9⟩:=q9;obtain⟨a9,b9⟩:=back I9;exact⟨m',hm,i+1,p_,H9,I9.yd,a9,b9,w9⟩
   |true=>
    rw[if_pos rfl] at q9 ⊢;refine aL (he _ s9 p_ H9 _ I9 q9) λy iR ⟨yv,MJ,I10,U7,xs,hD,hz,m',hm,U0⟩=>?_
    refine aL (Dr _ iR p_ MJ (.ref s2.heap.objs.size) [yv] (.ref s2.heap.objs.size) [y] (λv P5=>v=.aA/\P5=upd MJ s2.heap.objs.size (.lst (xs++[yv]))) I10 rfl (.cons U7 .nil) ⟨_,xs,yv,rfl,rfl,hD,hz,rfl,rfl⟩) λ_ i_ ⟨v11,P5,Lx,_,_,LK⟩=>?_
    subst LK;obtain⟨a9,b9⟩:=back Lx;exact⟨m',hm,i+1,p_,_,Lx.yd,a9,b9,U0⟩
 exact codeAny_compStart_list loop (T.self _ 0 _ _ _ KO loop)
theorem aaL{tt:TT}(S:nE X M js sc)(hc:X.calm=true)(hi:PI X tg iter wi)
  (hb:∀s3 H3 fp,PG (eF X M sc s3 H3 fp) tg g/\xj (eF X M sc s3 H3 fp) ifs tt/\PE (eF X M sc s3 H3 fp) elt te) (hs:∀x,foldedSetIterable iter X.env x=pure x:=by intro _;rfl) :
  PE X (.ListComp elt [⟨tg,iter,ifs,0⟩] sc pos) (CM wi js g tt te):=by
 intro af s σ H Q I h;rw[eval_ListComp];refine wpAny_comprehension_free (use:=none) rfl hs (Lz λx hx=>I.ok.has x (S.free x hx)) S.kind S.loc ?_;refine aL (hi af s σ H _ I h) λv s1 h1=>aL h1 λzo s2 ⟨it,fp,tn,J,H2,e,I2,T,rK,f2,h2⟩=>?_
 subst e;refine J8 (RR:=λacc C=>compPost (model X.prog X.w) X.A X.xe none (EP X af σ Q) acc C) S (.inl hc) I2 T rK f2 hb h2 λD s3 H3 s' aC H' I3 f3 J' q=>?_
 obtain⟨m,hm,_⟩:=J'.loc;exact⟨m,hm,λh' cz=>⟨.ref D,H',I3.JY f3 J' cz,rfl,q⟩⟩
theorem YH{tt:TT}(hN:X.N.Nodup)(hy:X.N[i]? = some y)(hl:X.env.scope.names.lookup y=some .local)
  (S:nE X M js sc) (hc:X.calm=true) (hi:PI X tg iter wi) (hb:∀s3 H3 fp,PG (eF X M sc s3 H3 fp) tg g/\xj (eF X M sc s3 H3 fp) ifs tt/\PE (eF X M sc s3 H3 fp) elt te)
  (jM:swapsWith (.ListComp elt [⟨tg,iter,ifs,0⟩] sc pos) (some (.Name y py)) CI.line X.env=pure true:=by rfl) (hs:∀x,foldedSetIterable iter X.env x=pure x:=by intro _;rfl) :
  PS X (.Assign [.Name y py] (.ListComp elt [⟨tg,iter,ifs,0⟩] sc pos) CI) (L1 (CM wi js g tt te) (yH i)):=by
 intro af s σ H D I h;rw[exec_Assign_Name_used _ _ _ _ jM];refine aaT (wpAny_standAt (aaT ?_));refine aaT (adH (wpAny_comprehension_free (use:=some (assign (.Name y py) X.env)) rfl hs (Lz λx hx=>I.ok.has x (S.free x hx)) S.kind S.loc ?_) (λ_ s' q=>acI (acI q)) λ_ _ e=>e);refine aL (hi af s σ H _ I h) λv s1 h1=>aL h1 λzo s2 ⟨it,fp,tn,J,H2,e,I2,T,rK,f2,h2⟩=>?_
 subst e;refine J8 (Q:=λx H1=>yH i x σ H1 D.nx) (RR:=λacc C=>compPost (model X.prog X.w) X.A X.xe (some (assign (.Name y py) X.env)) (λ_ s'=>SP X af D .next s') acc C) S (.inl hc) I2 T rK f2 hb h2 λDa s3 H3 s' aC H' I3 f3 J' q=>?_
 have sb:Heap.SameBut s3.heap.objs.size s'.heap s'.heap:=⟨rfl,λ_ _=>rfl⟩
 have I5:=I3.JY f3 J' sb;obtain⟨m,hm,_⟩:=J'.loc;have ne:=acC I3.lt;refine wpAny_assign_Name (ID I5 hN hy (.inl hl) (show RelV (.ref Da) (.ref Da) from rfl) (λs6 I6 ⟨a,D6,ha⟩=>?_) (.inr hl));have lO:∀x c,X.env.cells.lookup x=some c->c≠s3.heap.objs.size:=λx c e=>by
  obtain⟨v',jD⟩:=I3.cell x c e;exact acC jD.lt
 have na:=ha.elim (λe=>by rw[e];exact ne) λz=>lO y a z
 refine⟨m,hm.sameBut D6 (adW na),λh' cz=>⟨_,H',I6.turned (λb o hb e=>(cz.2 b hb).trans e) J'.free (adW ne) (.inr I3.sz) lO (λp hp=>?_),q⟩⟩;exact acC (abh (I3.pin p hp).1)
end
theorem SS:typeLookup (.type "dict") "__len__"=pure (some (.builtin "dict.__len__")):=by rw[typeLookup_type,builtinLookup_eq_fast];kernel_rfl
section
variable{prog:Program}{w:World}{A:Around}{E:Value->Shared->Prop}{s:Shared}
theorem Zl{κ:Type}[DecidableEq κ]{knd:KeyKind prog w κ}{ak:List (κ×Value)}{Q:List Value->Shared->Prop}(hh:A.handled=none)(hd:(d==sysModules)=false)(hm:s.heap.DictOf knd d ak)(hz:ak.length<=sizeLine)
  (hQ:∀s' acc,s.heap.objs.size<=s'.heap.objs.size->(∀b o,s.heap.get? b=some o->s'.heap.get? b=some o)->s'.gens=s.gens->s'.drawn=s.drawn->s'.os=s.os->ItemsOf (λi v=>∃k x,ak[i]? = some (k,x)/\knd.is k v=true) acc ak.length->Q acc.toList s') :
  wpAny (model prog w) A (collect (.ref d)) Q E s:=by
 obtain⟨ep,hm⟩:=hm.dictAt;have cQ:=hm.lt_size;unfold collect;refine aaT (wpAny_runValue (ad4 F.entry_proto_collect ?_));rw[adS F.plain_proto_collect _];refine aaT (aev ?_);refine acI ⟨aem F.plain_list_iadd _,ad4 F.entry_list_iadd ?_⟩;rw[adS F.plain_list_iadd _];have nI:=hm.push { cls:=.type "list",data:=.seq ([]:List Value).toArray };have Vs:({ s with heap:=s.heap.push { cls:=.type "list",data:=.seq ([]:List Value).toArray } }:Shared).TypeIs (.ref d) "dict":=nI.dictOf.typeIs;show wpAny (model prog w) A.in1 (Builtin.List.listExtendWith (.ref s.heap.objs.size) (.ref d) (.ref s.heap.objs.size)) _ _ _;unfold Builtin.List.listExtendWith;refine aaT (wpAny_typeOf Vs ?_);have h1:Builtin.List.listSameRef (.ref s.heap.objs.size) (.ref d)=false:=by simp[Builtin.List.listSameRef,ad1 cQ]
 have h2:(Value.type "dict" == Value.type "list")=false:=by decide
 have h3:(Value.type "dict" == Value.type "tuple")=false:=by decide
 simp only[h1,h2,h3,Bool.or_false,aee,if_false];refine aaT (wpAny_pyIter_dict hd nI ?_);refine aaT (aeb ?_);have sY:=nI.push { cls:=.type "dict_keyiterator",data:=.fields #[.ref d,.int 0 0,.int ak.length 0,.int ep 0] };have EX:({ s with heap:=(s.heap.push { cls:=.type "list",data:=.seq ([]:List Value).toArray }).push { cls:=.type "dict_keyiterator",data:=.fields #[.ref d,.int 0 0,.int ak.length 0,.int ep 0] } }:Shared).TypeIs (.ref d) "dict":=sY.dictOf.typeIs;unfold Builtin.List.listLengthHint;refine aaT (wpAny_specialOf EX SS ?_);generalize GA:("dict.__len__":String)=JO
 (fail_if_success (clear GA JO))
 wp_delta
 rw[show splitId JO=some ("dict","__len__") from by subst GA;decide +kernel];subst GA;refine aaT (wpAny_isInstance (b:=true) EX (by rw[isSubtype_type];kernel_rfl) ?_);refine aaT (wpAny_typeOf EX ?_);refine acI ?_;refine aaT (wpAny_rule ?_);have hsz:(s.heap.push { cls:=.type "list",data:=.seq ([]:List Value).toArray }).objs.size=s.heap.objs.size+1:=aer ..;generalize vQ:s.heap.push { cls:=.type "list",data:=.seq ([]:List Value).toArray }=h1 at *;have XH:h1.get? s.heap.objs.size=some { cls:=.type "list",data:=.seq ([]:List Value).toArray }:=by rw[<- vQ];exact ab2 _ rfl
 have Sa:∀b o,s.heap.get? b=some o->h1.get? b=some o:=λb o e=>by rw[<- vQ];exact aao _ e
 dsimp only;have Zm:(h1.push { cls:=.type "dict_keyiterator",data:=.fields #[.ref d,.int 0 0,.int ak.length 0,.int ep 0] }).get? h1.objs.size=some { cls:=.type "dict_keyiterator",data:=.fields #[.ref d,.int 0 0,.int ak.length 0,.int ep 0] }:=ab2 _ rfl;have O0:(h1.push { cls:=.type "dict_keyiterator",data:=.fields #[.ref d,.int 0 0,.int ak.length 0,.int ep 0] }).get? s.heap.objs.size=some { cls:=.type "list",data:=.seq ([]:List Value).toArray }:=aao _ XH;have YF:∀b o,s.heap.get? b=some o->(h1.push { cls:=.type "dict_keyiterator",data:=.fields #[.ref d,.int 0 0,.int ak.length 0,.int ep 0] }).get? b=some o:=λb o e=>aao _ (Sa b o e)
 generalize hh2:h1.push { cls:=.type "dict_keyiterator",data:=.fields #[.ref d,.int 0 0,.int ak.length 0,.int ep 0] }=h2 at *;have Ia:s.heap.objs.size≠h1.objs.size:=by rw[hsz];exact acC (aen _)
 have IC:=ad1 cQ;have ndI:d≠h1.objs.size:=by rw[hsz];exact acC (aeP cQ)
 refine aaT ?_;refine aaT (aeJ O0 rfl ?_);have JG:=aec (Obj.mapSeq (·.push Value.none)) O0 rfl;refine aeJ JG rfl ?_;have XY:=aec (Obj.mapSeq (·.pop)) JG rfl;have BF:∀b o,b≠s.heap.objs.size->h2.get? b=some o->((h2.update s.heap.objs.size (Obj.mapSeq (·.push Value.none))).update s.heap.objs.size (Obj.mapSeq (·.pop))).get? b=some o:=
  λb o hb e=>(adl _ _ (adW hb)).trans ((adl _ _ (adW hb)).trans e)
 have W:=(Walks.dictKeys (prog:=prog) (A:=A.in1) (knd:=knd) hh h1.objs.size d ndI ak ep).toS;refine acI ⟨aem F.plain_extend_loop _,codeAny_extend_loopS W hz s.heap.objs.size (by simp;exact⟨Ia,IC⟩) _ ak.length 0 _ _ _ rfl (adq _) ?_ XY (ItemsOf.nil _) λs' aaR c' zu JS acY=>?_⟩
 .exact⟨⟨_,BF _ _ (adW Ia) Zm,rfl,rfl⟩,sY.at' λo e=>BF _ _ (adW IC) e⟩
 .show wpAny (model prog w) A (load s.heap.objs.size >>= _) _ _ s';refine aaT (wpAny_load JS ?_);refine acI (hQ s' aaR (adO (abh JS)) (λb o e=>?_) zu.gens zu.drawn zu.os acY);have hb:=abh e;refine zu.heap b o ?_ (BF b o (acC hb) (YF b o e));intro m;rcases aaV.mp m with z|z
  .exact absurd hb (by rw[z];exact adC _)
  .have z:=aaX.mp z;rw[hsz] at z;exact absurd hb (by rw[z];exact Nat.not_lt.mpr (Nat.le_succ _))
theorem VS{x:Value}{Q:Value->Shared->Prop}(hc:∀(Q':List Value->Shared->Prop),(∀vs s',(∃ns,IntsAre vs ns/\∀(out:Array Value) (dN:List Int),IntsAre out.toList dN->dN.Perm ns->dN.Pairwise (·<=·)->
    Q (.ref s'.heap.objs.size) { s' with heap:=sortedHeap (s'.heap.push (seqObj "list" vs.toArray 0)) s'.heap.objs.size vs out })/\vs.length<64->Q' vs s')->wpAny (model prog w) A.in1 (collect x) Q' E s):wpAny (model prog w) A (call (.builtin "sorted") [x]) Q E s:=by
 refine call_function_tree kind_sorted plain_sorted entry_sorted (args_sorted1 _) ?_;unfold Builtin.«sorted»;refine aaT (m:=checkCount "sorted" 1 1 _) (acI ?_);refine aaT (hc _ λvs s' ⟨⟨ns,hI,h⟩,kU⟩=>?_);refine aaT (wpAny_newList ?_);have Ah:(s'.heap.push (seqObj "list" vs.toArray 0)).get? s'.heap.objs.size=some (seqObj "list" vs.toArray 0):=ab2 _ rfl;show wpAny _ _ _ _ _ { s' with heap:=s'.heap.push (seqObj "list" vs.toArray 0) };refine aaT (aeb (wpAny_call_entry slot_list_sort ⟨_,Ah,rfl⟩ entry_list_sort (list_sort_tree Ah hI kU λout dN a1 a2 a3=>⟨_,rfl,?_⟩) (args_list_sort _)));exact acI (h out dN a1 a2 a3)
end
section
variable{X:Cx}
theorem OZ:∀{ks:List Int}{ak:List (Key×Value)}{vs:List Value},ak.map (·.1)=ks.map Sum.inl->vs.length=ak.length->(∀(i:Nat) v,vs[i]? = some v->∃k x,ak[i]? = some (k,x)/\(fN P w).is k v=true)->IntsAre vs ks
 |[],[],vs,_,hl,_=>by cases vs with
  |nil=>exact .nil
  |cons _ _=>simp at hl
 |[],_::_,_,e,_,_=>by simp at e
 |_::_,[],_,e,_,_=>by simp at e
 |k::ks,(q,x)::ak,vs,e,hl,h=>by
  simp only[aas,adQ] at e;obtain⟨rfl,e⟩:=e;cases vs with
  |nil=>simp at hl
  |cons v vs=>
   obtain⟨k',x',e0,hk⟩:=h 0 v rfl;have Wj:=abO e0;cases Wj;rcases mD (show qQ (Sum.inl k) v=true from hk) with⟨i,t,e1,e2⟩|⟨y,t,e1,e2⟩
   .cases e1;subst e2;exact .cons k t (OZ e (by simpa using hl) λi v hv=>h (i+1) v (by simpa using hv))
   .cases e1
def M4(K:PySem.W.Frag):List V->Hp->VK->Prop:=λxs H Q=>∃(p:Addr) (ks:List Int),xs=[.ref p]/\ks.length<64/\((∃ak:List (Key×V),H p=some (.dK ak)/\ak.map (·.1)=ks.map Sum.inl)\/bR K H p (ks.map V.int))/\
 ∀(l:Addr) (ou:List Int),H l=none->ou.Perm ks->ou.Pairwise (·<=·)->Q (.ref l) (upd H l (.lst (ou.map V.int)))
theorem Vx(hc:X.calm=true):g_ X (.builtin "sorted") (M4 X.K):=by
 intro af s σ H xs us Q I r h;obtain⟨p,ks,rfl,kU,Cy,q⟩:=h;obtain⟨u,rfl,ru⟩:=vals1 r;cases ru;have fin:∀(vs:List Value) (s':Shared),s.heap.objs.size<=s'.heap.objs.size->(∀b o,s.heap.get? b=some o->s'.heap.get? b=some o)->s'.gens=s.gens->s'.drawn=s.drawn->s'.os=s.os->∀(out:Array Value) (dN:List Int),IntsAre out.toList dN->dN.Perm ks->dN.Pairwise (·<=·)->
   EP X af σ Q (.ref s'.heap.objs.size) { s' with heap:=sortedHeap (s'.heap.push (seqObj "list" vs.toArray 0)) s'.heap.objs.size vs out }:=by
  intro vs s' hle hk e1 e2 e3 out dN a1 a2 a3;obtain⟨h',g',d',t',o'⟩:=s';dsimp only at e1 e2 e3 hk hle;subst e1 e2 e3;obtain⟨e,he⟩:=sortedHeap_at (vs:=vs) (n:=0) (out:=out) (show(h'.push (seqObj "list" vs.toArray 0)).get? h'.objs.size=some (seqObj "list" vs.toArray 0) from ab2 _ rfl);have hlen:dN.length<64:=by rw[a2.length_eq];exact kU
  refine⟨.ref h'.objs.size,upd H h'.objs.size (.lst (dN.map V.int)),I.laid (t':=t') (λb o eb=>?_) hle ?_,rfl,q _ dN (I.aH.fresh hle) a2 a3⟩
  .have hb:b<h'.objs.size:=abh (hk b o eb);rw[sortedHeap_old (acC hb) (by rw[aer];exact aeP hb)];exact aao _ (hk b o eb)
  .exact⟨by rw[List.length_map];exact adO (Bt (by omega)),out.toList,e,GY a1,by rw[he]⟩
 have hh:X.A.handled=none:=I.ok.hd hc;refine VS λQ' Ob=>?_
 rcases Cy with⟨ak,hp,hk⟩|hp
 .obtain⟨hz,hd,vs,rel,dd⟩:=IE I.aH hp;refine Zl (A:=X.A.in1) hh hd dd (by rw[<- rel.length];exact hz) λs' acc hle kp e1 e2 e3 it=>Ob _ s' ⟨⟨ks,?_,λout dN a1 a2 a3=>fin _ s' hle kp e1 e2 e3 out dN a1 a2 a3⟩,?_⟩
  .refine OZ (P:=X.prog) (w:=X.w) (ak:=vs) (by rw[<- rel.keys];exact hk) (by rw[adE];exact it.1) λi v hv=>it.2 i v (by rw[<- Array.getElem?_toList];exact hv)
  .rw[adE,it.1,<- rel.length];have:=congrArg List.length hk;rw[List.length_map,List.length_map] at this;omega
 .obtain⟨au,rv,pl,hz⟩:=I.list hp;have hi:=intsAre_of rv;have k1:s.heap.objs.size<=((s.heap.push (seqObj "list" #[] 0)).update s.heap.objs.size (Obj.mapSeq (·++au.toArray))).objs.size:=by
   rw[Heap.size_update,aer];exact Nat.le_succ _
  have k2:∀b o,s.heap.get? b=some o->((s.heap.push (seqObj "list" #[] 0)).update s.heap.objs.size (Obj.mapSeq (·++au.toArray))).get? b=some o:=λb o e=>
   (adl _ _ (ad1 (abh e))).trans (aao _ e)
  refine collect_list pl.isList (Ob _ _ ⟨⟨ks,hi,λout dN a1 a2 a3=>fin au { s with heap:=(s.heap.push (seqObj "list" #[] 0)).update s.heap.objs.size (Obj.mapSeq (·++au.toArray)) } k1 k2 rfl rfl rfl out dN a1 a2 a3⟩,?_⟩) (by rw[<- rv.length];exact hz);rw[<- rv.length,List.length_map];exact kU
end
theorem ace(a d:Value):argsOk "min" ⟨[a],[("default",d)]⟩:=by unfold argsOk;kernel_rfl
section
variable{prog:Program}{w:World}{A:Around}{R:Result->Shared->Prop}{it:Addr}{dw ia:List Addr}{n:Nat}{P:Nat->Value->Prop}{T:Nat->Heap->Prop}
theorem z7:(toString "min"++toString ".loop":String)="min.loop":=by decide
theorem TJ(W:Walks prog w A.in1 it dw ia n P T)(bt:Nat->Nat->Bool)(Ht:CmpOf prog w A.in1 .Lt P bt)(kw:List (Str×Value))(B:Addr)(hB:B∉dw):
  ∀(k j:Nat) (s:Shared) (vb:Value) (c:Nat),n-(j+1)=k->j+1<=n->T (j+1) s.heap->P (argBest bt j) vb->s.heap.get? B=some { cls:=.type "list",dict:=none,data:=.seq #[vb,vb] c,slots:=#[] }->
   (∀v h' tk,P (argBest bt (n-1)) v->(∀b o,b∉ia->b≠B->s.heap.get? b=some o->h'.get? b=some o)->R (.ok (.ret v)) { s with heap:=h',toks:=tk })->
   codeAny (model prog w) A (.builtin "min.loop" ⟨[.ref it,.none,.ref B],kw⟩) R s:=by
 have nB:B∉ia:=λm=>hB (W.sub _ m)
 intro k
 induction k with
 |zero=>
  intro j s vb c e1 e2 st pb gB fin;have en:j+1=n:=by omega
  refine ad4 F.entry_min_loop ?_;rw[adS aea _];refine aaT (wpAny_seqItems gB rfl ?_);refine aaT (aeA (W.done s _ _ (en ▸ st) λh1 t1 kp=>?_));have pZ:=kp B _ nB gB;refine aaT (aeJ pZ rfl (aaT (wpAny_letGo (acI ?_))));exact fin vb _ t1 (by rw[<- en];exact pb) λb o m1 m2 e=>(adl _ _ (adW m2)).trans (kp b o m1 e)
 |succ k ih=>
  intro j s vb c e1 e2 st pb gB fin;have lt:j+1<n:=by omega
  refine ad4 F.entry_min_loop ?_;rw[adS aea _];refine aaT (wpAny_seqItems gB rfl ?_);show wpAny (model prog w) A.in1 (tryCatch (pyNext (.ref it)) _ >>= _) _ _ s;refine aaT (aeA (W.item (j+1) s _ _ lt st λv h1 t1 pv uH kp=>?_));have pZ:=kp B _ nB gB;show wpAny (model prog w) A.in1 (tryCatch (holding [v,v] (richCompare .Lt v vb >>= _)) _ >>= _) _ _ _;refine aaT (aeA (aeb (aaT (Ht (j+1) (argBest bt j) v vb _ _ _ pv pb ?_))));refine aaT (aeb (adI (aaT (wpAny_letGo (acI ?_)))));cases hb:bt (j+1) (argBest bt j) with
  |true=>
   simp only[if_true];refine aaT (aeJ pZ rfl (aaT (wpAny_letGo ?_)));rw[z7];refine acI ⟨aem aea _,ih (j + 1) _ v _ (by omega) lt (W.frame _ _ _ uH λb m o e=>(adl _ _ (λz:B=b=>hB (by rw[z];exact m))).trans e)
    (by simp only[argBest,hb,if_true];exact pv) (aec _ pZ rfl) λv2 h2 t2 p2 k2=>?_⟩
   exact fin v2 h2 t2 p2 λb o m1 m2 e=>k2 b o m1 m2 ((adl _ _ (adW m2)).trans (kp b o m1 e))
  |false=>
   simp only[aee,if_false];refine aaT (wpAny_letGo ?_);rw[z7];refine acI ⟨aem aea _,ih (j+1) _ vb c (by omega) lt uH (by simp only[argBest,hb,aee,if_false];exact pb) pZ λv2 h2 t2 p2 k2=>?_⟩;exact fin v2 h2 t2 p2 λb o m1 m2 e=>k2 b o m1 m2 (kp b o m1 e)
theorem Sy(W:Walks prog w A.in1 it dw ia n P T)(bt:Nat->Nat->Bool)(Ht:CmpOf prog w A.in1 .Lt P bt)(key:Str)(dv:Value)(B:Addr)(hB:B∉dw){s:Shared}{c:Nat}(st:T 0 s.heap)
  (gB:s.heap.get? B=some { cls:=.type "list",dict:=none,data:=.seq #[] c,slots:=#[] })
  (fin:∀v h' tk,(n=0/\v=dv\/0<n/\P (argBest bt (n-1)) v)->(∀b o,b∉ia->b≠B->s.heap.get? b=some o->h'.get? b=some o)->R (.ok (.ret v)) { s with heap:=h',toks:=tk }) :
  codeAny (model prog w) A (.builtin "min.loop" ⟨[.ref it,.none,.ref B],[(key,dv)]⟩) R s:=by
 have nB:B∉ia:=λm=>hB (W.sub _ m)
 refine ad4 F.entry_min_loop ?_;rw[adS aea _];show wpAny (model prog w) A.in1 (seqItems? (.ref B) >>= _) _ _ s;refine aaT (wpAny_seqItems gB rfl ?_);show wpAny (model prog w) A.in1 (tryCatch (pyNext (.ref it)) _ >>= _) _ _ s
 by_cases hn:0<n
 .refine aaT (aeA (W.item 0 s _ _ hn st λv h1 t1 pv uH kp=>?_));have pZ:=kp B _ nB gB;show wpAny (model prog w) A.in1 (updateSeq B (λ_=>#[v,v]) >>= _) _ _ _;refine aaT (aeJ pZ rfl ?_);rw[z7];refine acI ⟨aem aea _,TJ W bt Ht _ B hB _ 0 _ v _ rfl hn (W.frame _ _ _ uH λb m o e=>(adl _ _ (λz:B=b=>hB (by rw[z];exact m))).trans e) pv (aec _ pZ rfl) λv2 h2 t2 p2 k2=>?_⟩;exact fin v2 h2 t2 (.inr ⟨hn,p2⟩) λb o m1 m2 e=>k2 b o m1 m2 ((adl _ _ (adW m2)).trans (kp b o m1 e))
 .have en:n=0:=by lia
  refine aaT (aeA (W.done s _ _ (en ▸ st) λh1 t1 kp=>?_));show wpAny (model prog w) A.in1 (rule _ >>= λ_=>ret dv) _ _ _;exact aaT (wpAny_rule (acI (fin dv h1 t1 (.inl ⟨en,rfl⟩) λb o m1 _ e=>kp b o m1 e)))
end
section
variable{prog:Program}{w:World}{A:Around}{E:Value->Shared->Prop}{s:Shared}
theorem SM{id:String}{b:Builtin}{kw:List (Str×Value)}(hk:builtinKind id=none)(hp:plainId id=true)(hb:entryFor table id=some b)(ha:argsOk id ⟨args,kw⟩)
  (hc:wpAny (model prog w) A.in1 (b ⟨args,kw⟩) (λfin s'=>match fin with
   |.done f=>(match(Except.ok f:Result) with|.ok (.ret v)=>Q v s'|.ok _=>False|.error e=>E e s')
   |.again c=>c.quiet=true/\codeAny (model prog w) A c (λr s'=>match r with|.ok (.ret v)=>Q v s'|.ok _=>False|.error e=>E e s') s') E s):wpAny (model prog w) A (call (.builtin id) args kw) Q E s:=by
 refine wpAny_call (codeAny_call_builtin hp hb ?_);simp only[checkBuiltinCall,hk];cases Zu:Manifest.signature? id with
 |none=>exact acI hc
 |some sig=>
  have h2:Bind.checkArgs id sig ⟨args,kw⟩=pure ():=by simpa only[argsOk,Zu] using ha
  simp only[h2];exact acI hc
theorem Pq:∀{vs:List Value}{ns:List Int}{i:Nat}{v:Value},IntsAre vs ns->vs[i]? = some v->∃t,v=Value.int (ns.getD i 0) t
 |_,_,_,_,.nil,e=>by simp at e
 |_,_,0,_,.cons n t h,e=>by
  have e':=abO e;subst e';exact⟨t,rfl⟩
 |_,_,i+1,v,.cons n t h,e=>by
  obtain⟨u,eu⟩:=Pq h (by simpa using e);exact⟨u,by simpa using eu⟩
theorem UY{ns:List Int}(h:i<ns.length):ns.getD i 0∈ns:=by
 rw[ac8,aaQ h];exact List.getElem_mem h
theorem abx{l:Addr}{vs:List Value}{ns:List Int}{dv:Value}{Q:Value->Shared->Prop}(hh:A.handled=none)(hl:s.heap.IsList l vs.toArray)(hi:IntsAre vs ns)
  (fin:∀v h' tk,(ns=[]/\v=dv\/∃m t,v=.int m t/\m∈ns/\∀x∈ns,m<=x)->(∀b o,s.heap.get? b=some o->h'.get? b=some o)->Q v { s with heap:=h',toks:=tk }) :
  wpAny (model prog w) A (call (.builtin "min") [.ref l] [("default",dv)]) Q E s:=by
 refine SM F.kind_min F.plain_min F.entry_min (ace _ _) ?_;refine aaT (wpAny_of_eq (show Builtin.Builtins.bindParams "min" ["key","default"] 0 ⟨[],[("default",dv)]⟩=pure [none,some dv] from rfl) ?_);refine aaT (acI (aaT (wpAny_pyIter_list hl ?_)));refine aaT (aev ?_);rw[z7];have Qe:l<s.heap.objs.size:=let⟨_,ho,_⟩:=hl;abh ho
 have hsz:(s.heap.push { cls:=.type "list_iterator",data:=.fields #[.ref l,.int 0 0] }).objs.size=s.heap.objs.size+1:=aer ..;have hv:∀(i:Nat) (v:Value),vs.toArray[i]? = some v->∃t,v=Value.int (ns.getD i 0) t:=λi v e=>Pq hi (by simpa using e)
 have hlen:=hi.length;generalize vQ:s.heap.push { cls:=.type "list_iterator",data:=.fields #[.ref l,.int 0 0] }=h1 at *;have g1:h1.get? s.heap.objs.size=some { cls:=.type "list_iterator",data:=.fields #[.ref l,.int 0 0] }:=by rw[<- vQ];exact ab2 _ rfl
 have old:∀b o,s.heap.get? b=some o->h1.get? b=some o:=λb o e=>by rw[<- vQ];exact aao _ e
 have nl:=acC Qe;have W:=Walks.list (prog:=prog) (w:=w) (A:=A.in1.in1) hh s.heap.objs.size l nl vs.toArray;have hB:h1.objs.size∉[s.heap.objs.size,l]:=by
  intro m;rcases aaV.mp m with z|z
  .rw[hsz] at z;exact absurd z (ad1 (aen _))
  .have z:=aaX.mp z;rw[hsz] at z;exact absurd z (ad1 (aeP Qe))
 refine acI ⟨aem aea _,Sy W.of_in1 (λi j=>decide (ns.getD i 0<ns.getD j 0)) (CmpOf.ints_lt (λi=>ns.getD i 0) hv) _ dv h1.objs.size hB (c:=0) ?_ (ab2 _ rfl) λv h' tk A1 kp=>?_⟩
 .exact⟨⟨_,aao _ g1,rfl,rfl⟩,hl.at λo e=>aao _ (old l o e)⟩
 .refine fin v h' tk ?_ λb o e=>kp b o ?_ ?_ (aao _ (old b o e))
  .have dG:vs.toArray.size=ns.length:=by rw[abG,hlen]
   rw[dG] at A1;rcases A1 with⟨h0,e⟩|⟨h0,pv⟩
   .exact .inl ⟨adZ h0,e⟩
   .obtain⟨t,e⟩:=hv _ v pv;obtain⟨a1,a2⟩:=argBest_lt (λi=>ns.getD i 0) (ns.length-1);refine .inr ⟨_,t,e,UY (by omega),λx hx=>?_⟩;obtain⟨j,hj,rfl⟩:=List.getElem_of_mem hx;have:=a2 j (by omega);rw[show ns[j]=ns.getD j 0 by rw[ac8,aaQ hj];rfl];exact this
  .intro m;exact absurd (abh e) (by rw[aaX.mp m];exact adC _)
  .intro z;exact absurd (abh e) (by rw[z,hsz];exact Nat.not_lt.mpr (Nat.le_succ _))
end
section
variable{X:Cx}{p pos:Pos}{a:Expr}{ta td:TE}
def QG(K:PySem.W.Frag)(ta td:TE):TE:=λσ H Q=>ta σ H λx H1=>td σ H1 λy H2=>∃(l:Addr) (ns:List Int),x=.ref l/\bR K H2 l (ns.map V.int)/\((ns=[]/\Q y H2)\/ns≠[]/\∀m,m∈ns->(∀n∈ns,m<=n)->Q (.int m) H2)
theorem abg(hc:X.calm=true)(hm:X.mg "min"=none)(ha:PE X a ta)(hb:PE X b td)(hg:Gl X "min":=by rfl)(hs:starEach [a] X.env=[(false,eval a X.env)]:=by rfl)
  (h1:backTo pos (starEach [a] X.env)=(false,eval a X.env)::backTo pos (starEach [] X.env):=by rfl) (h2:(backTo pos (starEach [a] X.env)).any (·.1)=false:=by rfl)
  (h3:(backToKw pos (keywordEach [⟨some "default",b,kp⟩] X.env)).all (·.1.isSome)=true:=by rfl) (h4:(backToKw pos (keywordEach [⟨some "default",b,kp⟩] X.env)).any (·.1.isNone)=false:=by rfl)
  (h5:(backToKw pos (keywordEach [⟨some "default",b,kp⟩] X.env)).filterMap (·.1)=[("default":Str)]:=by rfl) :
  PE X (.Call (.Name "min" p) [a] [⟨some "default",b,kp⟩] pos) (QG X.K ta td):=by
 intro af s σ H Q I h;refine adP (qu I hg hm (show bootBuiltins "min"=some (.builtin "min") by decide +kernel) ?_ (by decide) (by decide));refine callWith_kw ?_ h1 h2 h3 h4;rw[h5];refine aL (dY ha fU hs pos af s σ H (λvs H1=>match vs with|[x]=>td σ H1 λy H2=>∃(l:Addr) (ns:List Int),x=.ref l/\bR X.K H2 l (ns.map V.int)/\((ns=[]/\Q y H2)\/ns≠[]/\∀m,m∈ns->(∀n∈ns,m<=n)->Q (.int m) H2)|_=>False) I h) λus s1 ⟨vs,H1,I1,rv,q1⟩=>?_
 rcases vs with _|⟨x,_|⟨x2,r2⟩⟩
 .exact q1.elim
 .obtain⟨u,rfl,ru⟩:=vals1 rv;refine kws_cons (aL (hb af s1 σ H1 _ I1 q1) λdv s2 ⟨y,H2,I2,ry,l,ns,ex,hq,q2⟩=>kws_nil ?_);subst ex;cases ru;obtain⟨au,ri,pl,hz⟩:=I2.list hq;refine abx (I2.ok.hd hc) pl.isList (intsAre_of ri) λv h' tk A1 kp=>?_
  rcases A1 with⟨en,ev⟩|⟨m,t,ev,nI,sY⟩
  .subst ev;rcases q2 with⟨_,q2⟩|⟨ne,_⟩
   .exact⟨y,H2,I2.kept kp,ry,q2⟩
   .exact absurd en ne
  .subst ev;rcases q2 with⟨en,_⟩|⟨_,q2⟩
   .rw[en] at nI;cases nI
   .exact⟨.int m,H2,I2.kept kp,⟨t,rfl⟩,q2 m nI sY⟩
 .exact q1.elim
end
end L2
namespace PySem
theorem RH:typeLookup (.type "list") "keys"=pure none:=by rw[typeLookup_type,builtinLookup_eq_fast];kernel_rfl
theorem aaF:typeLookup (.type "tuple") "keys"=pure none:=by rw[typeLookup_type,builtinLookup_eq_fast];kernel_rfl
section
variable{prog:Program}{w:World}{A:Around}{E:Value->Shared->Prop}{s:Shared}{a:Addr}{xs:Array Value}{k:Nat}{sl:Array (Option Value)}{Q:Option Value->Shared->Prop}
theorem Zo(hx:s.heap.get? a=some { cls:=.type "list",dict:=none,data:=.seq xs k,slots:=sl })(hA:A.handled=none)
  (h:∀h' tk,(∀b o,s.heap.get? b=some o->h'.get? b=some o)->Q none { s with heap:=h',toks:=tk }):wpAny (model prog w) A (getAttr? (.ref a) "keys") Q E s:=by
 obtain⟨hp,g,d,tk,os⟩:=s;have hT:∀xC,(⟨hp,g,d,xC,os⟩:Shared).TypeIs (.ref a) "list":=λ_=>⟨_,hx,rfl⟩
 have f1:=sub_AttributeError;have f3:=F.slot_list_getattribute.lookup;have f4:=F.slot_list_getattribute.bind (.ref a);have f5:=am_list_getattr_none;unfold getAttr? getAttrBy? getAttrBy
 repeat (any_goals (first|assumption|exact hT _|((with_reducible show wpAny _ _ (call (Value.builtin "list.__getattribute__") _ _) _ _ _);refine call_meets F.slot_list_getattribute (hT _) am_entry_list_getattribute (F.args_list_getattribute_2 _ _) (meets_getattribute_miss_list a xs k sl "keys" _ RH (by decide +kernel)) ⟨hx,hA,λh' xC e i9=>?_⟩)|wp_step))
 obtain⟨t',u',he⟩:=i9.there;unfold getattributeRaised
 repeat (any_goals (first|assumption|wp_step))
 all_goals exact h _ _ i9.keeps
theorem abm(hx:s.heap.get? a=some { cls:=.type "tuple",dict:=none,data:=.seq xs k,slots:=sl })(hA:A.handled=none)
  (h:∀h' tk,(∀b o,s.heap.get? b=some o->h'.get? b=some o)->Q none { s with heap:=h',toks:=tk }):wpAny (model prog w) A (getAttr? (.ref a) "keys") Q E s:=by
 obtain⟨hp,g,d,tk,os⟩:=s;have hT:∀xC,(⟨hp,g,d,xC,os⟩:Shared).TypeIs (.ref a) "tuple":=λ_=>⟨_,hx,rfl⟩
 have f1:=sub_AttributeError;have f3:=F.slot_tuple_getattribute.lookup;have f4:=F.slot_tuple_getattribute.bind (.ref a);have f5:=am_tuple_getattr_none;unfold getAttr? getAttrBy? getAttrBy
 repeat (any_goals (first|assumption|exact hT _|((with_reducible show wpAny _ _ (call (Value.builtin "tuple.__getattribute__") _ _) _ _ _);refine call_meets F.slot_tuple_getattribute (hT _) am_entry_tuple_getattribute (F.args_tuple_getattribute_2 _ _) (meets_getattribute_miss_tuple a xs k sl "keys" _ aaF (by decide +kernel)) ⟨hx,hA,λh' xC e i9=>?_⟩)|wp_step))
 obtain⟨t',u',he⟩:=i9.there;unfold getattributeRaised
 repeat (any_goals (first|assumption|wp_step))
 all_goals exact h _ _ i9.keeps
end
end PySem
namespace L2
open PySem PySem.Spec PyProof.Rows
theorem AY:plainId "dict.update.loop"=true:=by decide +kernel
theorem OT:entryFor table "dict.update.loop"=some Builtin.«dict.update.loop»:=entryFor_of_fast (by kernel_rfl)
def pairAt{prog:Program}{w:World}{κ:Type}[DecidableEq κ](knd:KeyKind prog w κ)(h:Heap)(no:List Addr)(v:Value)(p:κ×Value):Prop:=∃a key,v=.ref a/\a∉no/\IsTup h a #[key,p.2]/\knd.is p.1 key=true
section
variable{prog:Program}{w:World}{A:Around}{R:Result->Shared->Prop}{κ:Type}[DecidableEq κ]{knd:KeyKind prog w κ}{it d:Addr}{dw ia:List Addr}{n:Nat}{P:Nat->Value->Prop}{T:Nat->Heap->Prop}
theorem WO(W:Walks prog w A.in1 it dw ia n P T)(hd:d∉dw)(h0:Heap)(ps:List (κ×Value))(hn:ps.length=n)(hP:∀i v,P i v->∃p,ps[i]? = some p/\pairAt knd h0 (d::ia) v p)(res:Value):
  ∀(k i:Nat) (s:Shared) (m:List (κ×Value)) (B6:Tok),n-i=k->i<=n->T i s.heap->s.heap.DictOf knd d m->m.length+(n-i)<=sizeLine->(∀b o,b∉d::ia->h0.get? b=some o->s.heap.get? b=some o)->
   (∀h' tk,h'.DictOf knd d ((ps.drop i).foldl (λm p=>stored m p.1 p.2) m)->(∀b o,b∉d::ia->h0.get? b=some o->h'.get? b=some o)->R (.ok (.ret res)) { s with heap:=h',toks:=tk })->
   codeAny (model prog w) A (.builtin "dict.update.loop" ⟨[.ref d,.ref it,.int i B6,res],[]⟩) R s:=by
 have nd:d∉ia:=λm=>hd (W.sub _ m)
 intro k
 induction k with
 |zero=>
  intro i s m B6 e1 e2 st dm hz kp fin;have en:i=n:=by lia
  subst en;refine ad4 OT ?_;rw[adS AY _];show wpAny (model prog w) A.in1 (pyNext (.ref it) >>= _) _ _ s;refine aaT (W.done s _ _ st λh1 t1 k1=>?_);show wpAny (model prog w) A.in1 (Builtin.Dict.addKeywords d [] >>= λ_=>ret res) _ _ _;refine aaT (acI (acI (fin h1 t1 ?_ λb o mb e=>k1 b o (λz=>mb (aal _ z)) (kp b o mb e))));rw[List.drop_eq_nil_of_le (by lia)];obtain⟨o,es,ep,ho,r⟩:=dm;exact⟨o,es,ep,k1 d o nd ho,r⟩
 |succ k ih=>
  intro i s m B6 e1 e2 st dm hz kp fin;have lt:i<n:=by lia
  refine ad4 OT ?_;rw[adS AY _];show wpAny (model prog w) A.in1 (pyNext (.ref it) >>= _) _ _ s;refine aaT (W.item i s _ _ lt st λv h1 t1 pv uH k1=>?_);obtain⟨p,ep,a,key,rfl,na,ZZ,wL⟩:=hP i v pv;have ZX:h1.DictOf knd d m:=by
   obtain⟨o,es,ep,ho,r⟩:=dm;exact⟨o,es,ep,k1 d o nd ho,r⟩
  obtain⟨oa,TL,UE,na',Vd⟩:=ZZ;have ga:h1.get? a=some oa:=k1 a oa (λz=>na (aal _ z)) (kp a oa na TL);refine aaT (aeb ?_);refine aaT (aeA ?_);unfold Builtin.Dict.pairItems;refine aaT (wpAny_typeOf (T:="tuple") ⟨oa,ga,UE⟩ ?_);rw[if_pos (by decide)];refine aaT (wpAny_seqItems ga Vd (acI ?_));refine aeb (wpAny_dictSet_pairs wL ZX (λh2 Qw sb=>?_) (by lia));have OG:∀b o,b≠d->h1.get? b=some o->h2.get? b=some o:=λb o hb e=>(sb.2 b hb).trans e
  have rK:T (i+1) h2:=W.frame _ _ _ uH λb mb o e=>OG b o (λz=>hd (by rw[<- z];exact mb)) e
  have rO:(stored m p.1 p.2).length<=m.length+1:=by
   unfold stored
   split
   .rw[List.length_map];exact Nat.le_succ _
   .rw[abq];exact abu _
  refine acI ⟨aem AY _,?_⟩;refine ih (i+1) _ (stored m p.1 p.2) 0 (by lia) lt rK Qw (by lia) (λb o mb e=>OG b o (λz=>mb (by rw[z];exact aam)) (k1 b o (λz=>mb (aal _ z)) (kp b o mb e))) λh3 t3 HJ k3=>?_
  refine fin h3 t3 ?_ k3;have hi:i<ps.length:=by lia
  have v7:ps[i]=p:=by rw[aaQ hi] at ep;exact abO ep
  rw[aeB hi,adx,v7];exact HJ
theorem KG{E:Value->Shared->Prop}{s:Shared}{x:Value}{Q:Value->Shared->Prop}(ps:List (κ×Value))(hz:ps.length<=sizeLine)(T0:String)(WT:(Value.type T0 != Value.type "dict")=true)
  (BG:∀o,({ s with heap:=s.heap.push o }:Shared).TypeIs x T0)
  (hk:∀(o:Obj) (Q':Option Value->Shared->Prop) (E':Value->Shared->Prop),(∀h' tk,(∀b ob,(s.heap.push o).get? b=some ob->h'.get? b=some ob)->Q' none { s with heap:=h',toks:=tk })->wpAny (model prog w) A.in1.in1 (getAttr? x "keys") Q' E' { s with heap:=s.heap.push o })
  (hi:∀(s2:Shared) (Q':Value->Shared->Prop) (E':Value->Shared->Prop),(∀b ob,s.heap.get? b=some ob->s2.heap.get? b=some ob)->(∃o,s2.heap.get? s.heap.objs.size=some o)->
   (∀I dw ia n P T h3,Walks prog w A.in1.in1 I dw ia n P T->T 0 h3->ps.length=n->s.heap.objs.size∉dw->(∀b ob,s2.heap.get? b=some ob->h3.get? b=some ob)->(∀b∈ia,s.heap.get? b=none)->(∀i v,P i v->∃p,ps[i]? = some p/\pairAt knd s.heap (s.heap.objs.size::ia) v p)->Q' (.ref I) { s2 with heap:=h3 })->
   wpAny (model prog w) A.in1.in1 (pyIter x) Q' E' s2)
  (h:∀h' tk,h'.DictOf knd s.heap.objs.size (ps.foldl (λm p=>stored m p.1 p.2) [])->(∀b o,s.heap.get? b=some o->h'.get? b=some o)->Q (.ref s.heap.objs.size) { s with heap:=h',toks:=tk }) :
  wpAny (model prog w) A (call (.type "dict") [x]) Q E s:=by
 refine callType_codes (Q₁:=λobj bI=>obj=.ref s.heap.objs.size/\bI={ s with heap:=s.heap.push { cls:=.type "dict",data:=.dict #[] } }) F.kt_called_dict (F.kt_typeCall_dict_1 _) F.entry_dict_init (kt_code_dict_new _ ⟨rfl,rfl⟩) ?_
 rintro obj bI ⟨rfl,rfl⟩
 have Fb:(s.heap.push { cls:=.type "dict",data:=.dict #[] }).DictOf knd s.heap.objs.size []:=Heap.DictOf.new s.heap;refine⟨Fb.typeIs,F.args_dict_init_2 _ _,?_⟩;unfold Builtin.«dict.__init__»;refine aaT ?_;unfold Builtin.Dict.selfAndRest;refine aaT (wpAny_notOrdered_dict Fb.typeIs ?_);show wpAny (model prog w) _ (pure (s.heap.objs.size,[x])) _ _ _;refine acI ?_;show wpAny (model prog w) _ (Builtin.Dict.updateFrom "dict.__init__" s.heap.objs.size x [] .none) _ _ _;unfold Builtin.Dict.updateFrom;refine aaT (wpAny_typeOf (BG _) ?_);rw[if_pos WT];refine aaT (hk _ _ _ λh1 t1 k1=>?_);refine aaT (wpAny_rule (aaT ?_));have o1:∀b ob,s.heap.get? b=some ob->h1.get? b=some ob:=λb ob e=>k1 b ob (aao _ e)
 refine hi { s with heap:=h1,toks:=t1 } _ _ o1 ⟨_,k1 _ _ (ab2 _ rfl)⟩ (λI dw ia n P T h3 W st hn hd k3 hw hP=>?_);have HJ:h3.DictOf knd s.heap.objs.size []:=by
  obtain⟨o,es,ep,ho,r⟩:=Fb;exact⟨o,es,ep,k3 _ o (k1 _ o ho),r⟩
 refine acI ⟨aem AY _,WO (A:=A.in1) W hd s.heap ps hn hP .none n 0 _ [] 0 rfl (adq _) st HJ (by rw[List.length_nil];lia) (λb o _ e=>k3 b o (o1 b o e)) λh4 t4 dm4 k4=>?_⟩;refine⟨rfl,h h4 t4 (by simpa using dm4) λb o e=>k4 b o (λm=>?_) e⟩;rcases aaV.mp m with z|z
 .exact absurd (abh e) (by rw[z];exact adC _)
 .rw[hw b z] at e;cases e
end
section
variable{X:Cx}
theorem Mn{κ:Type}[DecidableEq κ]:∀{ps:List (κ×V)}{qs:List (κ×Value)}{m:List (κ×V)}{r:List (κ×Value)},KV ps qs->KV m r->KV (ps.foldl (λm p=>putK m p.1 p.2) m) (qs.foldl (λm p=>stored m p.1 p.2) r)
 |_,_,_,_,.nil,h=>h
 |_,_,_,_,.cons (a:=p) (b:=q) e t,h=>by
  rw[adx,adx];refine Mn t ?_;rw[<- e.1];exact h.put p.1 e.2
def Ds(K:PySem.W.Frag):List V->Hp->VK->Prop:=λxs H Q=>∃(p:Addr) (ys:List V) (ps:List (Key×V)),xs=[.ref p]/\(bR K H p ys\/bZ K H p ys)/\Paired (λy (q:Key×V)=>∃a,y=.ref a/\bZ K H a [kV q.1,q.2]) ys ps/\
 ∀l,H l=none->Q (.ref l) (upd H l (.dK (ps.foldl (λm q=>putK m q.1 q.2) [])))
theorem Hu(I:Inv X af σ H s):∀{ys:List V}{ps:List (Key×V)}{au:List Value},Paired (λy (q:Key×V)=>∃a,y=.ref a/\bZ X.K H a [kV q.1,q.2]) ys ps->aQ ys au->
  ∃qs:List (Key×Value),KV ps qs/\∀(i:Nat) (v:Value),au[i]? = some v->∃q,qs[i]? = some q/\∃a key,v=.ref a/\IsTup s.heap a #[key,q.2]/\(fN X.prog X.w).is q.1 key=true
 |_,_,_,.nil,.nil=>⟨[],.nil,λi v e=>by simp at e⟩
 |_,_,_,.cons (b:=q) ⟨a,ey,hr⟩ t,.cons (b:=u) r rs=>by
  obtain⟨qs,h1,h2⟩:=Hu I t rs;subst ey;cases r;obtain⟨us,ru,pt,_⟩:=I.tuple hr;obtain⟨key,x,rfl,rk,rx⟩:=vals2 ru;refine⟨(q.1,x)::qs,.cons ⟨rfl,rx⟩ h1,λi v e=>?_⟩;cases i with
  |zero=>
   have e':=abO e;subst e';exact⟨_,rfl,a,key,rfl,pt,qA rk⟩
  |succ i=>
   obtain⟨q',e1,e2⟩:=h2 i v (by simpa using e);exact⟨q',by simpa using e1,e2⟩
theorem XZ(hc:X.calm=true):g_ X (.type "dict") (Ds X.K):=by
 intro af s σ H xs us Q I r h;obtain⟨p,ys,ps,rfl,Cy,qJ,q⟩:=h;obtain⟨u,rfl,ru⟩:=vals1 r;cases ru;have hh:X.A.handled=none:=I.ok.hd hc;have big:=I.big;have fin:∀(au:List Value) (qs:List (Key×Value)),KV ps qs->ys.length<=sizeLine->∀h' tk,h'.DictOf (fN X.prog X.w) s.heap.objs.size (qs.foldl (λm p=>stored m p.1 p.2) [])->(∀b o,s.heap.get? b=some o->h'.get? b=some o)->
   EP X af σ Q (.ref s.heap.objs.size) { s with heap:=h',toks:=tk }:=by
  intro au qs nJ hz h' tk dm kp;have rel:=Mn (m:=[]) (r:=[]) nJ .nil;have qO:∀(l:List (Key×V)) (m:List (Key×V)),(l.foldl (λm q=>putK m q.1 q.2) m).length<=m.length+l.length:=by
   intro l
   induction l with
   |nil=>intro m;exact abu _
   |cons a l ih=>
    intro m;rw[adx];have h1:=ih (putK m a.1 a.2);have h2:=Hr m a.1 a.2;rw[abQ]
    lia
  have hl:ps.length=ys.length:=(Paired.length qJ).symm;refine⟨.ref s.heap.objs.size,_,I.laid (a:=s.heap.objs.size) (o:=.dK _) (t':=tk) kp (abu _) (EN ?_ (adg.mpr (adW (acC big))) rel dm),rfl,q _ (I.aH.fresh (abu _))⟩;have:=qO ps [];rw[List.length_nil] at this
  lia
 have Ax:∀{qs:List (Key×Value)},KV ps qs->qs.length=ys.length:=λh=>by rw[<- h.length];exact(Paired.length qJ).symm
 have oU:∀{s2:Shared},(∃o,s2.heap.get? s.heap.objs.size=some o)->s.heap.objs.size<s2.heap.objs.size:=λ⟨_,e⟩=>abh e
 rcases Cy with hq|hq
 .obtain⟨au,rv,pl,hz⟩:=I.list hq;obtain⟨qs,nJ,uy⟩:=Hu I qJ rv;obtain⟨o,n,ho,kg,v8,q_⟩:=pl;have hp:p<s.heap.objs.size:=abh ho;refine KG (knd:=fN X.prog X.w) qs (by rw[Ax nJ];exact hz) "list" (by decide) (λob=>⟨o,aao _ ho,kg⟩) (λob Q' E' k=>?_) (λs2 Q' E' o2 hS k=>?_) (λh' tk dm kp=>fin au qs nJ hz h' tk dm kp)
  .obtain⟨c0,d0,RX,ZQ⟩:=o;dsimp only at kg v8 q_;subst kg v8 q_;exact Zo (A:=X.A.in1.in1) (aao _ ho) hh λh1 t1 kp=>k h1 t1 kp
  .have rO:s2.heap.IsList p au.toArray:=⟨o,o2 p o ho,kg,n,q_⟩
   refine wpAny_pyIter_list rO (k s2.heap.objs.size [s2.heap.objs.size,p] [s2.heap.objs.size] _ _ _ _ (Walks.list (A:=X.A.in1.in1) hh s2.heap.objs.size p (acC (Nat.lt_trans hp (oU hS))) au.toArray) ⟨⟨_,ab2 _ rfl,rfl,rfl⟩,rO.push _⟩ (by rw[Ax nJ,abG,<- rv.length]) ?_ (λb ob e=>aao _ e) ?_ λi v e=>?_)
   .intro m;rcases aaV.mp m with z|z
    .exact absurd z (acC (oU hS))
    .exact absurd (aaX.mp z) (ad1 hp)
   .intro b m;rw[aaX.mp m];exact aex (adO (oU hS))
   .obtain⟨q',e1,a,key,e2,e3,e4⟩:=uy i v (by simpa using e);refine⟨q',e1,a,key,e2,λm=>?_,e3,e4⟩;obtain⟨oa,ha,_⟩:=e3;rcases aaV.mp m with z|z
    .exact absurd (abh ha) (by rw[z];exact adC _)
    .exact absurd (abh ha) (by rw[aaX.mp z];exact Nat.not_lt.mpr (adO (oU hS)))
 .obtain⟨au,rv,⟨o,ho,kg,v8,n,q_⟩,hz⟩:=I.KC hq;obtain⟨qs,nJ,uy⟩:=Hu I qJ rv;have hp:p<s.heap.objs.size:=abh ho;refine KG (knd:=fN X.prog X.w) qs (by rw[Ax nJ];exact hz) "tuple" (by decide) (λob=>⟨o,aao _ ho,kg⟩) (λob Q' E' k=>?_) (λs2 Q' E' o2 hS k=>?_) (λh' tk dm kp=>fin au qs nJ hz h' tk dm kp)
  .obtain⟨c0,d0,RX,ZQ⟩:=o;dsimp only at kg v8 q_;subst kg v8 q_;exact abm (A:=X.A.in1.in1) (aao _ ho) hh λh1 t1 kp=>k h1 t1 kp
  .have rO:s2.heap.IsTuple p au.toArray:=⟨o,o2 p o ho,kg,n,q_⟩
   refine wpAny_pyIter_tuple rO (k s2.heap.objs.size [s2.heap.objs.size,p] [s2.heap.objs.size] _ _ _ _ (Walks.tuple (A:=X.A.in1.in1) hh s2.heap.objs.size p (acC (Nat.lt_trans hp (oU hS))) au.toArray) ⟨⟨_,ab2 _ rfl,rfl,rfl⟩,rO.push _⟩ (by rw[Ax nJ,abG,<- rv.length]) ?_ (λb ob e=>aao _ e) ?_ λi v e=>?_)
   .intro m;rcases aaV.mp m with z|z
    .exact absurd z (acC (oU hS))
    .exact absurd (aaX.mp z) (ad1 hp)
   .intro b m;rw[aaX.mp m];exact aex (adO (oU hS))
   .obtain⟨q',e1,a,key,e2,e3,e4⟩:=uy i v (by simpa using e);refine⟨q',e1,a,key,e2,λm=>?_,e3,e4⟩;obtain⟨oa,ha,_⟩:=e3;rcases aaV.mp m with z|z
    .exact absurd (abh ha) (by rw[z];exact adC _)
    .exact absurd (abh ha) (by rw[aaX.mp z];exact Nat.not_lt.mpr (adO (oU hS)))
end
end L2
namespace L2.Ev
open PySem PySem.Spec PyProof.Rows
structure VA(X:Cx)(i:Nat)(x:Str):Prop where
 N:X.N[i]? = some x
 v:D4 X.env.scope x
 d:(x==("__debug__":Str))=false
 c:(x==("__classdict__":Str))=false
theorem VA.pe{X:Cx}{i:Nat}{x:Str}{p:Pos}(h:VA X i x):PE X (.Name x p) (Ck i):=Uk h.N h.v h.d h.c
def vG(X:Cx)(o:Expr)(m:Str)(apos:Pos)(as:List Expr)(pos:Pos)(pl:Sem Bool):Prop:=eval (.Call (.Attribute o m apos) as [] pos) X.env=(do
   let ov <- eval o X.env
   standAt apos.atName
   let(f,first) <- holding [ov] (getMethod ov m pl)
   callWith pos f first (backTo pos (starEach as X.env)) (backToKw pos (keywordEach [] X.env)))
def SE(X:Cx)(e:Expr)(es:List Expr)(pos:Pos):Prop:=starEach (e::es) X.env=(false,eval e X.env)::starEach es X.env/\(backTo pos (starEach es X.env)).any (·.1)=false
def GD(X:Cx)(x:Str):Prop:=Gl X x/\(x==("__debug__":Str))=false
noncomputable abbrev XN:=Str×Option Nat
inductive D where
 |aA|bl (b:Bool)|int (i:Int)|str (x:Str)|tup (ds:List D)|lst (ds:List D)|gz (ds:List D)|bH (ak:List (Key×D))|cU (ak:List (List Key×D))|ins (cn:Str) (fs:List (Str×D))|exc (cn:XN)
def qj(K:PySem.W.Frag)(H:Hp)(a:Addr)(xs:List V):Prop:=(∃o,H a=some (.d_ o (.lst xs)))\/
 ∃(o:Obj) (au:Array Value) (n:Nat),K.lookup a=some o/\o.cls=.type "list"/\o.dict=none/\o.data=.seq au n/\au.size<=sizeLine/\aQ xs au.toList
theorem qj.sq{K:PySem.W.Frag}{H:Hp}{a:Addr}{xs:List V}(h:qj K H a xs):bR K H a xs:=h.elim (λz=>.inl (.inr z)) .inr
mutual
inductive Rep(K:PySem.W.Frag)(H:Hp):D->V->List Addr->Prop
 |aA:Rep K H .aA .aA []
 |bl (b:Bool):Rep K H (.bl b) (.bl b) []
 |int (i:Int):Rep K H (.int i) (.int i) []
 |str (x:Str):Rep K H (.str x) (.str x) []
 |tup {a:Addr}{xs:List V}{ds:List D}{fp:List Addr}:bZ K H a xs->az K H ds xs fp->Rep K H (.tup ds) (.ref a) fp
 |lst {a:Addr}{xs:List V}{ds:List D}{fp:List Addr}:H a=some (.lst xs)->az K H ds xs fp->Rep K H (.lst ds) (.ref a) (a::fp)
 |yG {a:Addr}{xs:List V}{ds:List D}{fp:List Addr}:qj K H a xs->az K H ds xs fp->Rep K H (.gz ds) (.ref a) fp
 |bH {a:Addr}{ak:List (Key×V)}{es:List (Key×D)}{fp:List Addr}:H a=some (.dK ak)->es.map (·.1)=ak.map (·.1)->az K H (es.map (·.2)) (ak.map (·.2)) fp->Rep K H (.bH es) (.ref a) (a::fp)
 |cU {a:Addr}{ak:List (List Key×V)}{es:List (List Key×D)}{fp:List Addr}:H a=some (.dT ak)->es.map (·.1)=ak.map (·.1)->az K H (es.map (·.2)) (ak.map (·.2)) fp->Rep K H (.cU es) (.ref a) (a::fp)
 |ins {cn:Str}{a C dx:Addr}{fs:List (Str×V)}{es:List (Str×D)}{fp:List Addr}:PySem.W.nsIn K mainGlobals cn=some (some (.ref C))->H a=some (.ins C dx fs)->H dx=some (.own a)->es.map (·.1)=fs.map (·.1)->az K H (es.map (·.2)) (fs.map (·.2)) fp->Rep K H (.ins cn es) (.ref a) (a::dx::fp)
 |exc {cn:XN}{a C:Addr}{de:Option Addr}{ob:Obj}:PySem.W.nsIn K mainGlobals cn.1=some (some (.ref C))->H a=some (BJ ob a (.ref C) de)->(∀n,cn.2=some n->∃dx,de=some dx/\H dx=some (Nu dx n))->Rep K H (.exc cn) (.ref a) []
inductive az(K:PySem.W.Frag)(H:Hp):List D->List V->List Addr->Prop
 |nil:az K H [] [] []
 |cons {d:D}{v:V}{ds:List D}{vs:List V}{f1 f2:List Addr}:Rep K H d v f1->az K H ds vs f2->az K H (d::ds) (v::vs) (f1++f2)
end
def aU(H H':Hp):Prop:=(∀a xs,H a=some (.tup xs)->H' a=some (.tup xs))/\(∀a o u,H a=some (.d_ o u)->H' a=some (.d_ o u))/\∀a φ,H a=some (.ext φ)->H' a=some (.ext φ)
theorem aU.S7{K:PySem.W.Frag}(i:aU H H')(h:bZ K H a xs):bZ K H' a xs:=by
 rcases h with(h|⟨o,h⟩)|h
 .exact .inl (.inl (i.1 _ _ h))
 .exact .inl (.inr ⟨o,i.2.1 _ _ _ h⟩)
 .exact .inr h
theorem aU.d_{K:PySem.W.Frag}(i:aU H H')(h:qj K H a xs):qj K H' a xs:=by
 rcases h with⟨o,h⟩|h
 .exact .inl ⟨o,i.2.1 _ _ _ h⟩
 .exact .inr h
theorem aU.of{H H':Hp}(h:aF H H'):aU H H':=⟨λ_ _ e=>h _ _ e,λ_ _ _ e=>h _ _ e,λ_ _ e=>h _ _ e⟩
theorem aU.trans{H H1 H2:Hp}(a:aU H H1)(b:aU H1 H2):aU H H2:=⟨λ_ _ e=>b.1 _ _ (a.1 _ _ e),λ_ _ _ e=>b.2.1 _ _ _ (a.2.1 _ _ _ e),λ_ _ e=>b.2.2 _ _ (a.2.2 _ _ e)⟩
noncomputable def gS:HO->Bool
 |.lst _|.dK _|.dT _|.ins _ _ _|.own _=>true
 |_=>false
theorem aU.upd{o o':HO}(h:H p=some o)(m:gS o=true):aU H (upd H p o'):=by
 refine⟨λa xs e=>?_,λa q u e=>?_,λa q e=>?_⟩
 .rw[aO]
  .exact e
  .rintro rfl;rw[h] at e;cases e;cases m
 .rw[aO]
  .exact e
  .rintro rfl;rw[h] at e;cases e;cases m
 .rw[aO]
  .exact e
  .rintro rfl;rw[h] at e;cases e;cases m
section
variable{K:PySem.W.Frag}{H H':Hp}
theorem Rep.frame(r:Rep K H d v fp)(k:∀a∈fp,H' a=H a)(i:aU H H'):Rep K H' d v fp:=
 Rep.rec (motive_1:=λd v fp _=>(∀a∈fp,H' a=H a)->Rep K H' d v fp) (motive_2:=λd v fp _=>(∀a∈fp,H' a=H a)->az K H' d v fp) (λ_=>.aA) (λb _=>.bl b) (λn _=>.int n) (λx _=>.str x) (λh _ r k=>.tup (i.S7 h) (r k))
  (λh _ r k=>.lst ((k _ (.head _)).trans h) (r λa m=>k a (.tail _ m))) (λh _ r k=>.yG (i.d_ h) (r k)) (λh e _ r k=>.bH ((k _ (.head _)).trans h) e (r λa m=>k a (.tail _ m))) (λh e _ r k=>.cU ((k _ (.head _)).trans h) e (r λa m=>k a (.tail _ m)))
  (λg h h2 e _ r k=>.ins g ((k _ (.head _)).trans h) ((k _ (.tail _ (.head _))).trans h2) e (r λa m=>k a (.tail _ (.tail _ m)))) (λg h p _=>.exc g (i.2.1 _ _ _ h) λn e=>(p n e).imp λ_ q=>⟨q.1,i.2.2 _ _ q.2⟩)
  (λ_=>.nil) (λ_ _ h t k=>.cons (h λa m=>k a (abb _ m)) (t λa m=>k a (aat _ m))) r k
theorem az.frame:∀{ds:List D}{vs:List V}{fp:List Addr},az K H ds vs fp->(∀a∈fp,H' a=H a)->aU H H'->az K H' ds vs fp
 |_,_,_,.nil,_,_=>.nil
 |_,_,_,.cons h t,k,i=>.cons (h.frame (λa m=>k a (abb _ m)) i) (az.frame t (λa m=>k a (aat _ m)) i)
theorem Rep.b7(r:Rep K H d v fp):∀a∈fp,∃o,H a=some o/\gS o=true:=by
 have c:∀{b:Addr}{o:HO}{f:List Addr},H b=some o->gS o=true->(∀a∈f,∃o,H a=some o/\gS o=true)->∀a∈b::f,∃o,H a=some o/\gS o=true:=λh m r a=>λ| .head _=>⟨_,h,m⟩|.tail _ z=>r a z
 have n:∀a∈([]:List Addr),∃o,H a=some o/\gS o=true:=λ_ m=>nomatch m
 exact Rep.rec (motive_1:=λ_ _ fp _=>∀a∈fp,∃o,H a=some o/\gS o=true) (motive_2:=λ_ _ fp _=>∀a∈fp,∃o,H a=some o/\gS o=true) n (λ_=>n) (λ_=>n) (λ_=>n) (λ_ _ r=>r) (λh _ r=>c h rfl r) (λ_ _ r=>r) (λh _ _ r=>c h rfl r) (λh _ _ r=>c h rfl r)
  (λ_ h h2 _ _ r=>c h rfl (c h2 rfl r)) (λ_ _ _=>n) n (λ_ _ h t a m=>(abo.mp m).elim (h a) (t a)) r
theorem az.b7:∀{ds:List D}{vs:List V}{fp:List Addr},az K H ds vs fp->∀a∈fp,∃o,H a=some o/\gS o=true
 |_,_,_,.nil,_,m=>nomatch m
 |_,_,_,.cons h t,a,m=>(abo.mp m).elim (h.b7 a) (az.b7 t a)
theorem Rep.same{d:D}{v:V}{fp:List Addr}(h:Rep K H d v fp)(s:aF H H'):Rep K H' d v fp:=
 h.frame (λa m=>let⟨o,e,_⟩:=h.b7 a m;(s a o e).trans e.symm) (.of s)
theorem az.same{ds:List D}{vs:List V}{fp:List Addr}(h:az K H ds vs fp)(s:aF H H'):az K H' ds vs fp:=
 h.frame (λa m=>let⟨o,e,_⟩:=h.b7 a m;(s a o e).trans e.symm) (.of s)
theorem az.length:∀{ds:List D}{vs:List V}{fp:List Addr},az K H ds vs fp->ds.length=vs.length
 |_,_,_,.nil=>rfl
 |_,_,_,.cons _ t=>by rw[abQ,abQ,az.length t]
theorem az.get:∀{ds:List D}{vs:List V}{fp:List Addr}{i:Nat}{d:D},az K H ds vs fp->ds[i]? = some d->∃v f,vs[i]? = some v/\Rep K H d v f/\∀a∈f,a∈fp
 |_,_,_,_,_,.nil,e=>by simp at e
 |_,_,_,0,_,.cons h t,e=>by
  have e':=abO e;subst e';exact⟨_,_,rfl,h,λa m=>abb _ m⟩
 |_,_,_,i+1,d,.cons h t,e=>by
  obtain⟨v,f,e1,r,s⟩:=az.get (d:=d) t (by simpa using e);exact⟨v,f,by simpa using e1,r,λa m=>aat _ (s a m)⟩
theorem az.append:∀{ds es:List D}{vs ws:List V}{f g:List Addr},az K H ds vs f->az K H es ws g->az K H (ds++es) (vs++ws) (f++g)
 |_,_,_,_,_,_,.nil,s=>s
 |_,_,_,_,_,g,.cons h t,s=>by
  rw[adJ];exact .cons h (az.append t s)
end
theorem Rep.iM{K:PySem.W.Frag}(r:Rep K H (.int i) v fp):v=.int i/\fp=[]:=by cases r;exact⟨rfl,rfl⟩
theorem Rep.yO{K:PySem.W.Frag}(r:Rep K H (.bl i) v fp):v=.bl i/\fp=[]:=by cases r;exact⟨rfl,rfl⟩
theorem Rep.yh{K:PySem.W.Frag}(r:Rep K H (.str i) v fp):v=.str i/\fp=[]:=by cases r;exact⟨rfl,rfl⟩
theorem Rep.Bg{K:PySem.W.Frag}(r:Rep K H .aA v fp):v=.aA/\fp=[]:=by cases r;exact⟨rfl,rfl⟩
mutual
noncomputable def aD:D->Bool
 |.lst _|.bH _|.cU _|.ins _ _=>false
 |.tup ds=>aN ds
 |.gz ds=>aN ds
 |_=>true
noncomputable def aN:List D->Bool
 |[]=>true
 |d::ds=>aD d&&aN ds
end
section
variable{K:PySem.W.Frag}{H H':Hp}
theorem Rep.aD(r:Rep K H d v fp)(e:aD d=true):fp=[]:=
 Rep.rec (motive_1:=λd _ fp _=>L2.Ev.aD d=true->fp=[]) (motive_2:=λds _ fp _=>aN ds=true->fp=[]) (λ_=>rfl) (λ_ _=>rfl) (λ_ _=>rfl) (λ_ _=>rfl) (λ_ _ r e=>r (by rw[L2.Ev.aD] at e;exact e)) (λ_ _ _ e=>by delta L2.Ev.aD at e;cases e) (λ_ _ r e=>r (by rw[L2.Ev.aD] at e;exact e))
  (λ_ _ _ _ e=>by delta L2.Ev.aD at e;cases e) (λ_ _ _ _ e=>by delta L2.Ev.aD at e;cases e) (λ_ _ _ _ _ _ e=>by delta L2.Ev.aD at e;cases e) (λ_ _ _ _=>rfl) (λ_=>rfl) (λ_ _ h t e=>by
   rw[aN,aaH] at e;rw[h e.1,t e.2];rfl) r e
theorem az.aD:∀{ds:List D}{vs:List V}{fp:List Addr},az K H ds vs fp->aN ds=true->fp=[]
 |_,_,_,.nil,_=>rfl
 |_,_,_,.cons h t,e=>by
  rw[aN,aaH] at e;rw[h.aD e.1,az.aD t e.2];rfl
end
inductive Tag where
 |own|lk|sh (o:List Nat)
noncomputable abbrev Slot:=Option (D×Tag)
abbrev av:=List Slot
def uR(z:Addr->Option Nat)(i:Nat):Tag->List Addr->Prop
 |.sh o,fp=>∀a∈fp,∀j,z a=some j->j∈o
 |_,fp=>fp.Nodup/\∀a∈fp,z a=some i
def uK(ρ:av)(j:Nat):Prop:=∀d,ρ[j]?≠some (some (d,.own))
structure bX where
 d:D
 v:V
 fp:List Addr
 z0:Addr->Option Nat
structure Ok(K:PySem.W.Frag)(H0:Hp)(S:List Addr)(z:Addr->Option Nat)(aq:List bX)(ρ:av)(σ:St)(H:Hp):Prop where
 sl:∀i d t,ρ[i]? = some (some (d,t))->∃v fp,σ[i]? = some (some v)/\Rep K H d v fp/\uR z i t fp
 hl:∀p∈aq,Rep K H p.d p.v p.fp/\∀a∈p.fp,∀j,z a=some j->p.z0 a=some j/\uK ρ j
 zd:∀a j,z a=some j->(∃o,H a=some o)/\(H0 a=none\/a∈S)
 en:∀a o,H0 a=some o->a∉S->H a=some o
 ln:ρ.length=σ.length
theorem Ok.same{K:PySem.W.Frag}{H0:Hp}{S:List Addr}{z:Addr->Option Nat}(h:Ok K H0 S z aq ρ σ H)(s:aF H H'):Ok K H0 S z aq ρ σ H':=
 ⟨λi d t e=>let⟨v,fp,a,b,c⟩:=h.sl i d t e;⟨v,fp,a,b.same s,c⟩,λp m=>let⟨a,b⟩:=h.hl p m;⟨a.same s,b⟩,
  λa j e=>let⟨⟨o,x⟩,y⟩:=h.zd a j e;⟨⟨o,s _ _ x⟩,y⟩,λa o e n=>s _ _ (h.en a o e n),h.ln⟩
def cu(z:Addr->Option Nat)(H:Hp):Tag->List Addr->Prop
 |.sh o,fp=>∀a∈fp,∀j,z a=some j->j∈o
 |_,fp=>fp.Nodup/\∀a∈fp,H a=none
theorem cu.nil{z:Addr->Option Nat}{H:Hp}{t:Tag}:cu z H t []:=by
 cases t with
 |sh o=>intro a m;cases m
 |own=>exact⟨aco,λa m=>nomatch m⟩
 |lk=>exact⟨aco,λa m=>nomatch m⟩
abbrev EF:=av->Option (D×Tag)
def FP(X:Cx)(e:Expr)(f:EF):Prop:=∃t,PE X e t/\∀{H0:Hp}{S:List Addr}{z:Addr->Option Nat}{aq:List bX}{ρ:av}{σ:St}{H:Hp}{Q:VK}{d:D}{tg:Tag},
 Ok X.K H0 S z aq ρ σ H->f ρ=some (d,tg)->(∀H' v fp,aF H H'->Rep X.K H' d v fp->cu z H tg fp->Q v H')->t σ H Q
abbrev AF:=av->Option (List (D×Tag))
abbrev TF:=av->Option Bool
def FT(X:Cx)(e:Expr)(f:TF):Prop:=∃t,PT X e t/\∀{H0:Hp}{S:List Addr}{z:Addr->Option Nat}{aq:List bX}{ρ:av}{σ:St}{H:Hp}{Q:Bool->Hp->Prop}{b:Bool},
 Ok X.K H0 S z aq ρ σ H->f ρ=some b->(∀H',aF H H'->Q b H')->t σ H Q
noncomputable def F2(i:Nat):Tag->Tag
 |.sh o=>.sh o
 |_=>.sh [i]
def aj(i:Nat):EF:=λρ=>match ρ[i]? with
 |some (some (d,t))=>some (d,F2 i t)
 |_=>none
section
variable{X:Cx}
theorem ah(i:Nat){x:Str}{pos:Pos}(va:VA X i x:=by walk_at "va"):FP X (.Name x pos) (aj i):=by
 exists 20,va.pe;unfold aj at e;exists h,ρ[i]?,s,e,0;cases s with
 |none=>rw[h] at e;cases e
 |some p=>
  obtain⟨d',t⟩:=p;rw[h] at e;have e':=abO e;have e1:=congrArg Prod.fst e';have e2:=congrArg Prod.snd e';subst e1 e2;obtain⟨v,fp,hs,r,zz⟩:=ok.sl i d' t h;refine⟨v,hs,q H v fp (aF.refl H) r ?_⟩;cases t with
  |sh o=>exact zz
  |own=>intro a m j ej;rw[zz.2 a m] at ej;cases ej;exact aam
  |lk=>intro a m j ej;rw[zz.2 a m] at ej;cases ej;exact aam
noncomputable def eC(d:D):EF:=λ_=>some (d,.own)
theorem aB{i j pos}:FP X (.Constant (.int i) j pos) (eC (.int i)):=⟨_,OE,@λ_ _ _ _ _ _ H _ _ _ _ e q=>by cases e;exact q H _ _ (aF.refl H) (.int i) .nil⟩
theorem jH{b j pos}:FP X (.Constant (.bool b) j pos) (eC (.bl b)):=⟨_,Rf,@λ_ _ _ _ _ _ H _ _ _ _ e q=>by cases e;exact q H _ _ (aF.refl H) (.bl b) .nil⟩
theorem mQ{j pos}:FP X (.Constant .none j pos) (eC .aA):=⟨_,Ul,@λ_ _ _ _ _ _ H _ _ _ _ e q=>by cases e;exact q H _ _ (aF.refl H) .aA .nil⟩
theorem gX{x j pos}:FP X (.Constant (.str x) j pos) (eC (.str x)):=⟨_,ZW,@λ_ _ _ _ _ _ H _ _ _ _ e q=>by cases e;exact q H _ _ (aF.refl H) (.str x) .nil⟩
noncomputable def e2(op:D->D->Option D)(fa fb:EF):EF:=λρ=>match fa ρ,fb ρ with
 |some (d1,_),some (d2,_)=>(op d1 d2).map λd=>(d,.own)
 |_,_=>none
theorem pL{op:D->D->Option D}{fa fb:EF}{ρ:av}{d:D}{tg:Tag}(e:e2 op fa fb ρ=some (d,tg)):∃d1 t1 d2 t2,fa ρ=some (d1,t1)/\fb ρ=some (d2,t2)/\op d1 d2=some d/\tg=.own:=by
 unfold e2 at e;exists h1,fa ρ,p,e,0;obtain⟨d1,t1⟩:=p;cases h2:fb ρ with
 |none=>rw[h1,h2] at e;cases e
 |some p=>
  obtain⟨d2,t2⟩:=p;rw[h1,h2] at e;dsimp only at e;exists h3,op d1 d2,d3,e;cases e;exact⟨d1,t1,d2,t2,rfl,rfl,h3,rfl⟩
def fL(K:PySem.W.Frag)(r:R2)(op:D->D->Option D):Prop:=∀(H:Hp) (x y:V) (d1 d2:D) (f1 f2:List Addr) (d:D) (Q:VK),Rep K H d1 x f1->Rep K H d2 y f2->op d1 d2=some d->
 (∀H' v,aF H H'->Rep K H' d v []->Q v H')->r x y H Q
theorem fp_2{a b e:Expr}{r:R2}{op:D->D->Option D}(dd:fL X.K r op)(ha:FP X a fa)(hb:FP X b fb)(he:∀ta tb,PE X a ta->PE X b tb->PE X e (rR r ta tb)):FP X e (e2 op fa fb):=by
 obtain⟨ta,pa,sa⟩:=ha;obtain⟨tb,pb,sb⟩:=hb;exists 20,he ta tb pa pb;obtain⟨d1,t1,d2,t2,e1,jj,e3,rfl⟩:=pL e;refine sa ok e1 λH1 x f1 s1 r1 _=>?_
 refine sb (ok.same s1) jj λH2 y f2 s2 r2 _=>?_
 exact dd H2 x y d1 d2 f1 f2 d Q (r1.same s2) r2 e3 λH3 v s3 r3=>q H3 v [] ((s1.trans s2).trans s3) r3 .nil
end
end L2.Ev
namespace L2.Ev
open PySem PySem.Spec PyProof.Rows
noncomputable def Nd:Tag->Tag->Tag
 |.sh o,.sh p=>.sh (o++p)
 |.sh o,_=>.sh o
 |_,t=>t
def ju:List (D×Tag)->Tag
 |[]=>.own
 |p::r=>Nd p.2 (ju r)
def FA(X:Cx)(es:List Expr)(f:AF):Prop:=∃t,PA X es t/\(∀ρ ps,f ρ=some ps->ps.length=es.length)/\∀{H0:Hp}{S:List Addr}{z:Addr->Option Nat}{aq:List bX}{ρ:av}{σ:St}{H:Hp}{Q:List V->Hp->Prop}{ps:List (D×Tag)},
 Ok X.K H0 S z aq ρ σ H->f ρ=some ps->(∀H' vs fp,aF H H'->az X.K H' (ps.map (·.1)) vs fp->cu z H (ju ps) fp->Q vs H')->t σ H Q
noncomputable def aI:AF:=λ_=>some []
noncomputable def ay(f:EF)(g:AF):AF:=λρ=>match f ρ,g ρ with
 |some p,some ps=>some (p::ps)
 |_,_=>none
theorem Dn{ps:List (D×Tag)}(e:ay f g ρ=some ps):∃d t r,f ρ=some (d,t)/\g ρ=some r/\ps=(d,t)::r:=by
 unfold ay at e;exists h1,f ρ,p,e,0;cases h2:g ρ with
 |none=>rw[h1,h2] at e;cases e
 |some r=>
  rw[h1,h2] at e;cases e;exact⟨p.1,p.2,r,rfl,rfl,rfl⟩
theorem cu.join{K:PySem.W.Frag}(ok:Ok K H0 S z aq ρ σ H)(s:aF H H1)
  (h1:cu z H t1 f1) (d1:∀a∈f1,∃o,H1 a=some o/\gS o=true) (h2:cu z H1 t2 f2):cu z H (Nd t1 t2) (f1++f2):=by
 have nz:∀{a:Addr}{j:Nat},H a=none->z a=some j->False:=λ{a j} e q=>by
  obtain⟨⟨o,w⟩,_⟩:=ok.zd a j q;rw[e] at w;cases w
 have both:∀{t1 t2:Tag},(f1.Nodup/\∀a∈f1,H a=none)->(f2.Nodup/\∀a∈f2,H1 a=none)->(f1++f2).Nodup/\∀a∈f1++f2,H a=none:=λp q=>by
  refine⟨acE.mpr ⟨p.1,q.1,λa m b m' e=>?_⟩,λa m=>?_⟩
  .subst e;obtain⟨o,w,_⟩:=d1 a m;rw[q.2 a m'] at w;cases w
  .rcases abo.mp m with m|m
   .exact p.2 a m
   .exact s.free (q.2 a m)
 cases t1 with
 |sh o=>
  have gb:=h1;cases t2 with
  |sh p=>
   intro a m j q;rcases abo.mp m with m|m
   .exact abb _ (gb a m j q)
   .exact aat _ (h2 a m j q)
  |own=>
   intro a m j q;rcases abo.mp m with m|m
   .exact gb a m j q
   .exact(nz (s.free (h2.2 a m)) q).elim
  |lk=>
   intro a m j q;rcases abo.mp m with m|m
   .exact gb a m j q
   .exact(nz (s.free (h2.2 a m)) q).elim
 |own=>
  cases t2 with
  |sh p=>
   intro a m j q;rcases abo.mp m with m|m
   .exact(nz (h1.2 a m) q).elim
   .exact h2 a m j q
  |own=>exact both (t1:=.own) (t2:=.own) h1 h2
  |lk=>exact both (t1:=.own) (t2:=.own) h1 h2
 |lk=>
  cases t2 with
  |sh p=>
   intro a m j q;rcases abo.mp m with m|m
   .exact(nz (h1.2 a m) q).elim
   .exact h2 a m j q
  |own=>exact both (t1:=.own) (t2:=.own) h1 h2
  |lk=>exact both (t1:=.own) (t2:=.own) h1 h2
section
variable{X:Cx}{pos:Pos}
theorem aG:FA X [] aI:=⟨_,fU,λ_ _ e=>by cases e;rfl,@λ_ _ _ _ _ _ H _ _ _ e q=>by cases e;exact q H _ _ (aF.refl H) .nil .nil⟩
theorem ao{e:Expr}{es:List Expr}{f:EF}{g:AF}(ha:FP X e f)(hr:FA X es g)(hs:starEach (e::es) X.env=(false,eval e X.env)::starEach es X.env:=by rfl):FA X (e::es) (ay f g):=by
 obtain⟨t,p,q⟩:=ha;obtain⟨t',p',l',q'⟩:=hr;refine⟨_,dY p p' hs,λρ ps e=>by obtain⟨d,tg,r,e1,e2,rfl⟩:=Dn e;rw[abQ,abQ,l' ρ r e2],@λH0 S z aq ρ σ H Q ps ok e k=>?_⟩;obtain⟨d,tg,r,e1,e2,rfl⟩:=Dn e;refine q ok e1 λH1 v f1 s1 r1 g1=>?_
 refine q' (ok.same s1) e2 λH2 vs f2 s2 r2 g2=>?_
 exact k H2 (v::vs) (f1++f2) (s1.trans s2) (.cons (r1.same s2) r2) (cu.join ok s1 g1 r1.b7 g2)
def kr(g:AF):EF:=λρ=>(g ρ).map λps=>(.tup (ps.map (·.1)),ju ps)
theorem jI{es:List Expr}{g:AF}{x1}(h:FA X es g)(hl:es.length<=1000:=by decide):FP X (.Tuple es x1 pos) (kr g):=by
 obtain⟨t,p,hg,q⟩:=h;exists 21,Ql p;unfold kr at e;exists h1,g ρ,ps,e;cases e;refine q ok h1 λH1 vs fp s1 r1 g1=>⟨?_,λa ha=>?_⟩
 .rw[<- r1.length,List.length_map,hg ρ ps h1];exact adO (Bt hl)
 .have s2:aF H1 (upd H1 a (.tup vs)):=λb o e=>by rw[aO (cK e ha)];exact e
  exact k _ _ fp (s1.trans s2) (.tup (bZ.of cG) (r1.same s2)) g1
def iU(g:AF):EF:=λρ=>(g ρ).map λps=>(.lst (ps.map (·.1)),ju ps)
theorem cu.cons{K:PySem.W.Frag}{H0:Hp}{S:List Addr}{z:Addr->Option Nat}{aq:List bX}{ρ:av}{σ:St}{H H1:Hp}{t:Tag}{fp:List Addr}{a:Addr}(ok:Ok K H0 S z aq ρ σ H)(s:aF H H1)(h:cu z H t fp)
  (d:∀b∈fp,∃o,H1 b=some o/\gS o=true) (ha:H1 a=none):cu z H t (a::fp):=by
 have na:=s.free ha;have both:(fp.Nodup/\∀b∈fp,H b=none)->(a::fp).Nodup/\∀b∈a::fp,H b=none:=λp=>by
  refine⟨aby.mpr ⟨λm=>?_,p.1⟩,λb m=>?_⟩
  .obtain⟨o,w,_⟩:=d a m;rw[ha] at w;cases w
  .rcases aaV.mp m with e|m
   .rw[e];exact na
   .exact p.2 b m
 cases t with
 |sh o=>
  intro b m j q;rcases aaV.mp m with e|m
  .obtain⟨⟨o,w⟩,_⟩:=ok.zd b j q;rw[e,na] at w;cases w
  .exact h b m j q
 |own=>exact both h
 |lk=>exact both h
theorem fV{es:List Expr}{g:AF}(h:FA X es g)(hl:es.length<=1000:=by decide):FP X (.List es pos) (iU g):=by
 obtain⟨t,p,hg,q⟩:=h;exists 21,VP p;unfold iU at e;exists h1,g ρ,ps,e;cases e;refine q ok h1 λH1 vs fp s1 r1 g1=>⟨?_,λa ha=>?_⟩
 .rw[<- r1.length,List.length_map,hg ρ ps h1];exact adO (Bt hl)
 .have s2:aF H1 (upd H1 a (.lst vs)):=λb o e=>by rw[aO (cK e ha)];exact e
  exact k _ _ (a::fp) (s1.trans s2) (.lst cG (r1.same s2)) (g1.cons ok s1 r1.b7 ha)
end
def bh(K:PySem.W.Frag)(F:List D->Option D):Sp:=λvs H Q _=>∃ds fp d,az K H ds vs fp/\F ds=some d/\∀H' v jW,aF H H'->Rep K H' d v jW->jW.Nodup->(∀a∈jW,H a=none)->Q v H'
noncomputable def cC(F:List D->Option D)(g:AF):EF:=λρ=>(g ρ).bind λps=>(F (ps.map (·.1))).map λd=>(d,.own)
theorem Ug{F:List D->Option D}(e:cC F g ρ=some (d,tg)):∃ps,g ρ=some ps/\F (ps.map (·.1))=some d/\tg=.own:=by
 unfold cC at e;exists h1,g ρ,ps,e,0;rw[h1,acQ] at e;exists h2,F (ps.map (·.1)),d',e;cases e;exact⟨ps,rfl,h2,rfl⟩
section
variable{X:Cx}{x:Str}{p pos:Pos}{e:Expr}{es:List Expr}{k:Nat}{f:Addr}{fd:FuncData}{ps:List Str}{F:List D->Option D}{g:AF}
theorem bC{cm:Bool}(G:b_ X.prog X.w X.K X.mg X.base cT k f fd ps (bh X.K F) cm)(hr:bq k X.A cm)(hm:X.mg x=some (.ref f))(hk:PySem.W.keepIn X.K (.ref f)=true)(hb:Binds X.K fd ps [])(ha:FA X (e::es) g)
  (hg:GD X x:=by exact⟨rfl,by decide⟩)
  (he:SE X e es pos:=by exact⟨rfl,rfl⟩):FP X (.Call (.Name x p) (e::es) [] pos) (cC F g):=by
 obtain⟨t,pa,_,sa⟩:=ha;refine⟨_,M9 G hr hg.1 hm hk hb .nil mz pa hg.2 he.1 he.2,@λH0 S z aq ρ σ H Q d tg ok e0 q=>?_⟩;obtain⟨qs,e1,e2,rfl⟩:=Ug e0;refine sa ok e1 λH1 vs fp s1 r1 _=>?_
 rw[acH];exact⟨_,fp,d,r1,e2,λH2 v jW s2 r2 nd fr=>q H2 v jW (s1.trans s2) r2 ⟨nd,λa m=>s1.free (fr a m)⟩⟩
end
section
variable{X:Cx}{pos:Pos}
noncomputable def tV(f:EF):TF:=λρ=>match f ρ with
 |some (.bl b,_)=>some b
 |_=>none
theorem Cz(e:tV f ρ=some b):∃t,f ρ=some (.bl b,t):=by
 unfold tV at e;exists h,f ρ,p,e,0;obtain⟨d,t⟩:=p;rw[h] at e;cases d<;>first|(cases e;exact⟨t,rfl⟩)|cases e
theorem gI{e:Expr}{f:EF}(h:FP X e f)(he:∀whole,isTrue e X.env whole=(do let v <- whole;standAt e.pos;holding [v] (truthy v)):=by intro _;rfl):FT X e (tV f):=by
 obtain⟨t,p,q⟩:=h;refine⟨_,Jy p he,@λH0 S z aq ρ σ H Q b ok e k=>?_⟩;obtain⟨tg,e1⟩:=Cz e;refine q ok e1 λH1 v fp s1 r1 _=>?_
 cases r1;exact⟨b,rfl,k H1 s1⟩
theorem jh{op:CmpOp}{r:R2}{o:D->D->Option D}{a b:Expr}(ho:cO X (compareOp op) r)(dd:fL X.K r o)(ha:FP X a fa)(hb:FP X b fb)(hm:behindInMarks op b=false):FT X (.Compare a [op] [b] pos) (tV (e2 o fa fb)):=by
 obtain⟨ta,pa,sa⟩:=ha;obtain⟨tb,pb,sb⟩:=hb;exists 22,XQ ho pa pb hm;obtain⟨tg,e0⟩:=Cz e;obtain⟨d1,t1,d2,t2,e1,jj,e3,rfl⟩:=pL e0;refine sa ok e1 λH1 x f1 s1 r1 _=>?_
 refine sb (ok.same s1) jj λH2 y f2 s2 r2 _=>?_
 refine dd H2 x y d1 d2 f1 f2 _ _ (r1.same s2) r2 e3 λH3 v s3 r3=>?_
 cases r3;exact⟨c,rfl,k H3 ((s1.trans s2).trans s3)⟩
theorem pQ{op:CmpOp}{r:R2}{o:D->D->Option D}(ho:cO X (compareOp op) r)(dd:fL X.K r o)(ha:FP X a fa)(hb:FP X b fb)(hm:behindInMarks op b=false):FP X (.Compare a [op] [b] pos) (e2 o fa fb):=
 fp_2 dd ha hb λ_ _ pa pb=>ZL ho pa pb hm
theorem yc{op:Operator}{r:R2}{o:D->D->Option D}(ho:cO X (binaryOp op) r)(dd:fL X.K r o)(ha:FP X a fa)(hb:FP X b fb):FP X (.BinOp a op b pos) (e2 o fa fb):=
 fp_2 dd ha hb λ_ _ pa pb=>LR ho pa pb
noncomputable def jY(f g:TF):TF:=λρ=>match f ρ with
 |some true=>g ρ
 |some false=>some false
 |none=>none
noncomputable def lM(f g:TF):TF:=λρ=>match f ρ with
 |some true=>some true
 |some false=>g ρ
 |none=>none
noncomputable def l7(f:TF):TF:=λρ=>(f ρ).map λb=>!b
def FW(X:Cx)(e:Expr)(f:TF):Prop:=∃t,PW X e t/\∀{H0:Hp}{S:List Addr}{z:Addr->Option Nat}{aq:List bX}{ρ:av}{σ:St}{H:Hp}{Q:Bool->Hp->Prop}{b:Bool},
 Ok X.K H0 S z aq ρ σ H->f ρ=some b->(∀H',aF H H'->Q b H')->t σ H Q
theorem FW.ft{e:Expr}{f:TF}(h:FW X e f):FT X e f:=let⟨t,p,q⟩:=h;⟨t,p.pt,q⟩
theorem uh{a:Expr}{f:TF}(h:FT X a f):FW X (.BoolOp .And [a] pos) f:=let⟨t,p,q⟩:=h;⟨t,Iq p,q⟩
theorem Au{a:Expr}{f:TF}(h:FT X a f):FW X (.BoolOp .Or [a] pos) f:=let⟨t,p,q⟩:=h;⟨t,aa3 p,q⟩
theorem se{a b:Expr}{rest:List Expr}{f g:TF}(ha:FT X a f)(hb:FW X (.BoolOp .And (b::rest) pos) g):FW X (.BoolOp .And (a::b::rest) pos) (jY f g):=by
 obtain⟨t,p,q⟩:=ha;obtain⟨t',p',q'⟩:=hb;exists 22,NQ p p';unfold jY at e;exists h,f ρ,y,e;cases y with
 |false=>
  cases e;refine q ok h λH1 s1=>?_
  rw[if_neg aa9];exact k H1 s1
 |true=>
  refine q ok h λH1 s1=>?_
  rw[if_pos rfl];exact q' (ok.same s1) e λH2 s2=>k H2 (s1.trans s2)
theorem vj{a b:Expr}{rest:List Expr}{f g:TF}(ha:FT X a f)(hb:FW X (.BoolOp .Or (b::rest) pos) g):FW X (.BoolOp .Or (a::b::rest) pos) (lM f g):=by
 obtain⟨t,p,q⟩:=ha;obtain⟨t',p',q'⟩:=hb;exists 22,Za p p';unfold lM at e;exists h,f ρ,y,e;cases y with
 |true=>
  cases e;refine q ok h λH1 s1=>?_
  rw[if_pos rfl];exact k H1 s1
 |false=>
  refine q ok h λH1 s1=>?_
  rw[if_neg aa9];exact q' (ok.same s1) e λH2 s2=>k H2 (s1.trans s2)
theorem kZ{a:Expr}{f:TF}(ha:FT X a f):FT X (.UnaryOp .Not a pos) (l7 f):=by
 obtain⟨t,p,q⟩:=ha;exists 22,T8 p;unfold l7 at e;exists h,f ρ,y,e;cases e;exact q ok h λH1 s1=>k H1 s1
end
inductive Out where
 |nx (ρ:av)|rt (d:D)|bk (ρ:av)|ct (ρ:av)
 |er (raw:Bool) (cn:XN) (ρ:av)
abbrev SF:=av->Option Out
noncomputable def j7(X:Cx)(x:Str):Bool:=x==("self":Str)||(X.fn ("self":Str)&&!X.fn x)
def Kp(X:Cx)(σ aC:St):Prop:=∀(i:Nat) (x:Str),X.N[i]? = some x->j7 X x=true->aC[i]? = σ[i]?
theorem Kp.refl(X:Cx)(σ:St):Kp X σ σ:=λ_ _ _ _=>rfl
theorem Kp.trans{X:Cx}{σ l6 gj:St}(a:Kp X σ l6)(b:Kp X l6 gj):Kp X σ gj:=λi x h k=>(b i x h k).trans (a i x h k)
theorem Kp.set{v:Option V}(hi:X.N[i]? = some x)(hs:j7 X x=false):Kp X σ (σ.set i v):=λj y h k=>by
 refine acO λe=>?_
 subst e;rw[hi] at h;have h:=abO h;subst h;rw[hs] at k;cases k
def tG(X:Cx)(H0:Hp)(S:List Addr)(aq:List bX)(n5:St)(raw:Bool)(cn:XN)(ρ:av):Prop:=∃ES:XS,(if raw=true then Vh X ES else yq X ES)/\
 ∀z σ H C,Ok X.K H0 S z aq ρ σ H->Kp X n5 σ->PySem.W.nsIn X.K mainGlobals cn.1=some (some (.ref C))->ES (.ref C) cn.2 σ H
theorem tG.of{X:Cx}{H0:Hp}{S:List Addr}{aq:List bX}{σ aC:St}{raw:Bool}{cn:XN}{ρ:av}(k:tG X H0 S aq σ raw cn ρ)(a:Kp X σ aC):tG X H0 S aq aC raw cn ρ:=
 let⟨ES,th,q⟩:=k;⟨ES,th,λz s H C ok b hC=>q z s H C ok (a.trans b) hC⟩
def nZ(X:Cx)(H0:Hp)(S:List Addr)(aq:List bX)(n5:St)(E:Ends):Out->Prop
 |.nx ρ=>∀z σ H,Ok X.K H0 S z aq ρ σ H->Kp X n5 σ->E.nx σ H
 |.bk ρ=>∀z σ H,Ok X.K H0 S z aq ρ σ H->Kp X n5 σ->E.bk σ H
 |.ct ρ=>∀z σ H,Ok X.K H0 S z aq ρ σ H->Kp X n5 σ->E.ct σ H
 |.er raw cn ρ=>tG X H0 S aq n5 raw cn ρ
 |.rt d=>∀H v fp,(∀a o,H0 a=some o->a∉S->H a=some o)->Rep X.K H d v fp->fp.Nodup->(∀a∈fp,H0 a=none\/a∈S)->E.rt v H
def FS(X:Cx)(st:List Stmt)(f:SF):Prop:=∃t,gJ X st t/\∀{H0:Hp}{S:List Addr}{z:Addr->Option Nat}{aq:List bX}{ρ:av}{σ:St}{H:Hp}{E:Ends}{o:Out},
 Ok X.K H0 S z aq ρ σ H->f ρ=some o->nZ X H0 S aq σ E o->t E σ H
def eO(X:Cx)(st:Stmt)(f:SF):Prop:=∃t,PS X st t/\∀{H0:Hp}{S:List Addr}{z:Addr->Option Nat}{aq:List bX}{ρ:av}{σ:St}{H:Hp}{E:Ends}{o:Out},
 Ok X.K H0 S z aq ρ σ H->f ρ=some o->nZ X H0 S aq σ E o->t E σ H
theorem nZ.of{X:Cx}{H0:Hp}{S:List Addr}{aq:List bX}{σ aC:St}{E:Ends}{o:Out}(k:nZ X H0 S aq σ E o)(a:Kp X σ aC):nZ X H0 S aq aC E o:=by
 cases o with
 |nx ρ=>exact λz s H ok b=>k z s H ok (a.trans b)
 |bk ρ=>exact λz s H ok b=>k z s H ok (a.trans b)
 |ct ρ=>exact λz s H ok b=>k z s H ok (a.trans b)
 |rt d=>exact k
 |er raw cn ρ=>exact tG.of k a
noncomputable def gO:SF:=λρ=>some (.nx ρ)
noncomputable def bV(f g:SF):SF:=λρ=>match f ρ with
 |some (.nx ρ')=>g ρ'
 |o=>o
section
variable{X:Cx}{pos:Pos}
theorem eK:FS X [] gO:=⟨_,Il,@λ_ _ z _ _ σ H _ _ ok e k=>by cases e;exact k z σ H ok (.refl _ _)⟩
theorem aJ{st:Stmt}{f:SF}(h:eO X st f):FS X [st] f:=let⟨t,p,q⟩:=h;⟨t,K6 p,q⟩
theorem aS{st:Stmt}{rest:List Stmt}{f g:SF}(h1:eO X st f)(h2:FS X rest g):FS X (st::rest) (bV f g):=by
 obtain⟨t,p,q⟩:=h1;obtain⟨t',p',q'⟩:=h2;exists 23,xx p p';unfold bV at e;exists h,f ρ,w,e,0;refine q ok h ?_;rw[h] at e;cases w with
 |nx ρ'=>exact λz' aC H' aT a=>q' aT e (k.of a)
 |rt d=>cases e;exact k
 |bk ρ'=>cases e;exact k
 |ct ρ'=>cases e;exact k
 |er _ _ _=>cases e;exact k
noncomputable def Fo:SF:=λ_=>none
theorem M8{st:Stmt}:eO X st Fo:=⟨_,M3,@λ_ _ _ _ _ _ _ _ _ _ e _=>by cases e⟩
noncomputable def eN(c:TF)(f g:SF):SF:=λρ=>match c ρ with
 |some true=>f ρ
 |some false=>g ρ
 |none=>none
theorem dH{c:Expr}{a b:List Stmt}{tc:TF}{f g:SF}(hc:FT X c tc)(ha:FS X a f)(hb:FS X b g):eO X (.If c a b pos) (eN tc f g):=by
 obtain⟨t,p,q⟩:=hc;obtain⟨t1,p1,q1⟩:=ha;obtain⟨t2,p2,q2⟩:=hb;exists 23,Lj p p1 p2;unfold eN at e;exists h,tc ρ,y,e;refine q ok h λH1 s1=>?_
 cases y with
 |true=>rw[if_pos rfl];exact q1 (ok.same s1) e k
 |false=>rw[if_neg aa9];exact q2 (ok.same s1) e k
noncomputable def j_:Tag->Bool
 |.sh _=>false
 |_=>true
def oq(f:EF):SF:=λρ=>match f ρ with
 |some (d,t)=>if j_ t=true then some (.rt d) else if aD d=true then some (.rt d) else none
 |none=>none
theorem bx{e:Expr}{f:EF}(he:FP X e f):eO X (.Return (some e) pos) (oq f):=by
 obtain⟨t,p,q⟩:=he;exists 23,vY p;unfold oq at e;exists h,f ρ,w,e,0;obtain⟨d,tg⟩:=w;rw[h] at e;dsimp only at e;refine q ok h λH1 v fp s1 r1 g1=>?_
 have en:∀a o,H0 a=some o->a∉S->H1 a=some o:=λa o e n=>s1 _ _ (ok.en a o e n)
 by_cases ho:j_ tg=true
 .rw[if_pos ho] at e;cases e;have g:fp.Nodup/\∀a∈fp,H a=none:=by cases tg<;>first|exact g1|cases ho
  refine k H1 v fp en r1 g.1 λa m=>?_
  cases h0:H0 a with
  |none=>exact .inl rfl
  |some o=>
   by_cases hs:a∈S
   .exact .inr hs
   .have w:=ok.en a o h0 hs;rw[g.2 a m] at w;cases w
 .rw[if_neg ho] at e;obtain⟨hi,e⟩:=ci e;cases e;have hn:=r1.aD hi;subst hn;exact k H1 v [] en r1 aco λa m=>nomatch m
def rZ(i:Nat):SF:=λρ=>match ρ[i]? with
 |some (some (d,t))=>if j_ t=true then some (.rt d) else if aD d=true then some (.rt d) else none
 |_=>none
theorem v_(i:Nat){x:Str}{pos':Pos}(va:VA X i x:=by walk_at "va"):eO X (.Return (some (.Name x pos')) pos) (rZ i):=by
 exists 23,vY va.pe;unfold rZ at e;exists h,ρ[i]?,w,e,0;cases w with
 |none=>rw[h] at e;cases e
 |some w=>
  obtain⟨d,tg⟩:=w;rw[h] at e;dsimp only at e;obtain⟨v,fp,hs,r,zz⟩:=ok.sl i d tg h;refine⟨v,hs,?_⟩
  by_cases ho:j_ tg=true
  .rw[if_pos ho] at e;cases e;have g:fp.Nodup/\∀a∈fp,z a=some i:=by cases tg<;>first|exact zz|cases ho
   exact k H v fp ok.en r g.1 λa m=>(ok.zd a i (g.2 a m)).2
  .rw[if_neg ho] at e;obtain⟨hi,e⟩:=ci e;cases e;have hn:=r.aD hi;subst hn;exact k H v [] ok.en r aco λa m=>nomatch m
noncomputable def iC(ρ:av)(i:Nat)(d:D):Tag->av
 |.sh o=>ρ.set i (some (d,.sh o))
 |_=>ρ.set i (some (d,.own))
def c8(i:Nat)(f:EF):SF:=λρ=>match f ρ with
 |some (d,t)=>some (.nx (iC ρ i d t))
 |none=>none
theorem Ok.chg{K:PySem.W.Frag}{v:V}{fp a_ fo:List Addr}(ok:Ok K H0 S z aq ρ σ H)(hi:ρ'[i]? = some (some (d,tg)))(hs:aC[i]? = some (some v))(h0:∀a∈a_,z a=some i)(im:aU H H')
  (keep:∀b o,b∉a_->H b=some o->H' b=some o) (r:Rep K H' d v fp) (hz:uR z' i tg fp) (zn:∀a,a∉fo->z a=some i/\z' a=none\/z' a=z a/\a∉a_/\(z a=some i->¬uK ρ i)) (Dz:∀a∈fo,(a∈a_\/H a=none)/\∃o,H' a=some o)
  (ot:∀{j d t},j≠i->ρ'[j]? = some (some (d,t))->ρ[j]? = some (some (d,t))/\(a_=[]\/∀o,t=.sh o->i∉o)) (os:∀j,j≠i->aC[j]? = σ[j]?) (hh:a_=[]\/¬uK ρ i) (ln:ρ'.length=aC.length):Ok K H0 S z' aq ρ' aC H':=by
 have old:∀{a:Addr}{o:HO},a∉a_->H a=some o->a∉fo:=λn e m=>(Dz _ m).1.elim n λq=>by rw[e] at q;cases q
 have at_:∀{a:Addr}{k:Nat},a∉fo->z' a=some k->z a=some k/\a∉a_/\(k=i->¬uK ρ i):=λ{a k} n e=>by
  rcases zn a n with⟨_,w⟩|⟨w,q,u⟩
  .rw[e] at w;cases w
  .rw[e] at w;exact⟨w.symm,q,λx=>u (x ▸ w.symm)⟩
 have S0:∀a∈a_,H0 a=none\/a∈S:=λa m=>(ok.zd a i (h0 a m)).2
 refine⟨λj d' t e=>?_,λp hp=>?_,λa j e=>?_,λa o e n=>keep a o (λm=>?_) (ok.en a o e n),ln⟩
 .by_cases hj:j=i
  .subst hj;rw[hi] at e;cases e;exact⟨v,fp,hs,r,hz⟩
  .obtain⟨e0,nd⟩:=ot hj e;obtain⟨v',jW,cz,r',zz⟩:=ok.sl j d' t e0;have n0:∀a∈jW,a∉a_:=λa m q=>by
    have zi:=h0 a q;rcases nd with rfl|nd
    .cases q
    cases t with
    |sh o=>exact nd o rfl (zz a m i zi)
    |own=>rw[zz.2 a m] at zi;exact hj (abO zi)
    |lk=>rw[zz.2 a m] at zi;exact hj (abO zi)
   have n1:∀a∈jW,a∉fo:=λa m=>let⟨o,w,_⟩:=r'.b7 a m;old (n0 a m) w
   have o1:∀a∈jW,z a=some j->z' a=some j:=λa m e=>by
    rcases zn a (n1 a m) with⟨w,_⟩|⟨w,_⟩
    .rw[e] at w;exact(hj (abO w)).elim
    .rw[w,e]
   refine⟨v',jW,(os j hj).trans cz,r'.frame (λa m=>?_) im,?_⟩
   .obtain⟨o,w,_⟩:=r'.b7 a m;rw[keep a o (n0 a m) w,w]
   .cases t with
    |sh o=>exact λa m k q=>zz a m k (at_ (n1 a m) q).1
    |own=>exact⟨zz.1,λa m=>o1 a m (zz.2 a m)⟩
    |lk=>exact⟨zz.1,λa m=>o1 a m (zz.2 a m)⟩
 .obtain⟨r',x9⟩:=ok.hl p hp;have n0:∀a∈p.fp,a∉a_:=λa m q=>by
   rcases hh with rfl|hh
   .cases q
   .exact hh (x9 a m i (h0 a q)).2
  refine⟨r'.frame (λa m=>?_) im,λa m j q=>?_⟩
  .obtain⟨o,w,_⟩:=r'.b7 a m;rw[keep a o (n0 a m) w,w]
  .obtain⟨o,w,_⟩:=r'.b7 a m;obtain⟨q,_,hj⟩:=at_ (old (n0 a m) w) q;obtain⟨x,y⟩:=x9 a m j q;exact⟨x,λd e=>y d (ot (λx=>hj x (x ▸ y)) e).1⟩
 .by_cases w:a∈fo
  .refine⟨(Dz a w).2,(Dz a w).1.elim (S0 a) λq=>?_⟩;cases h0:H0 a with
   |none=>exact .inl rfl
   |some o=>
    by_cases hs:a∈S
    .exact .inr hs
    .rw[ok.en a o h0 hs] at q;cases q
  .obtain⟨e,n,_⟩:=at_ w e;obtain⟨⟨o,x⟩,y⟩:=ok.zd a j e;exact⟨⟨o,keep a o n x⟩,y⟩
 .rcases S0 a m with q|q
  .rw[e] at q;cases q
  .exact n q
open Classical in
noncomputable def zN(fo:List Addr)(i:Nat)(z:Addr->Option Nat):Addr->Option Nat:=λa=>if a∈fo then some i else if z a=some i then none else z a
theorem Gb{fo a_:List Addr}(h:∀a∈a_,z a=some i)(a:Addr)(n:a∉fo):z a=some i/\zN fo i z a=none\/zN fo i z a=z a/\a∉a_/\(z a=some i->P):=by
 unfold zN
 by_cases w:z a=some i
 .exact .inl ⟨w,by rw[if_neg n,if_pos w]⟩
 .exact .inr ⟨by rw[if_neg n,if_neg w],λm=>w (h a m),λq=>(w q).elim⟩
theorem Ok.set{K:PySem.W.Frag}{H0:Hp}{S:List Addr}{z:Addr->Option Nat}{aq:List bX}{ρ:av}{σ:St}{H H1:Hp}{i:Nat}{d:D}{t:Tag}{v:V}{fp:List Addr}(ok:Ok K H0 S z aq ρ σ H)(hi:i<σ.length)(s:aF H H1)
  (r:Rep K H1 d v fp) (g:cu z H t fp):∃z',Ok K H0 S z' aq (iC ρ i d t) (σ.set i (some v)) H1:=by
 have n0:∀a∈([]:List Addr),z a=some i:=λa m=>nomatch m
 have main:∀(fo:List Addr) (tg:Tag),(∀a∈fo,H a=none/\a∈fp)->uR (zN fo i z) i tg fp->∃z',Ok K H0 S z' aq (ρ.set i (some (d,tg))) (σ.set i (some v)) H1:=λfo tg h hz=>
  ⟨_,ok.chg (adB (by rw[ok.ln];exact hi)) (adB hi) n0 (.of s) (λb o _ e=>s b o e) r hz (Gb n0) (λa m=>⟨.inr (h a m).1,let⟨o,w,_⟩:=r.b7 a (h a m).2;⟨o,w⟩⟩)
   (λhj e=>⟨(acO (adW hj)).symm.trans e,.inl rfl⟩) (λj hj=>acO (adW hj)) (.inl rfl) (by rw[aet,aet];exact ok.ln)⟩
 cases t with
 |own=>exact main fp .own (λa m=>⟨g.2 a m,m⟩) ⟨g.1,λa m=>if_pos m⟩
 |lk=>exact main fp .own (λa m=>⟨g.2 a m,m⟩) ⟨g.1,λa m=>if_pos m⟩
 |sh o=>
  refine main [] (.sh o) (λa m=>nomatch m) λa m j q=>?_
  rcases Gb (fo:=[]) (P:=True) n0 a (λw=>nomatch w) with⟨_,w⟩|⟨w,_⟩
  .rw[q] at w;cases w
  .exact g a m j (w ▸ q)
theorem Ok.stored{K:PySem.W.Frag}{H0:Hp}{S:List Addr}{z:Addr->Option Nat}{aq:List bX}{ρ:av}{σ:St}{H H1:Hp}{i:Nat}{d:D}{t:Tag}{v:V}{fp:List Addr}{G:Prop}(ok:Ok K H0 S z aq ρ σ H)(s:aF H H1)
  (r:Rep K H1 d v fp) (g:cu z H t fp) (k:∀z',Ok K H0 S z' aq (iC ρ i d t) (σ.set i (some v)) H1->G):G:=by
 by_cases hi:i<σ.length
 .obtain⟨z',aT⟩:=ok.set hi s r g;exact k z' aT
 .have e1:σ.set i (some v)=σ:=List.set_eq_of_length_le (Nat.le_of_not_lt hi);have e2:∀w,ρ.set i w=ρ:=λw=>List.set_eq_of_length_le (by rw[ok.ln];exact Nat.le_of_not_lt hi)
  have e3:iC ρ i d t=ρ:=by cases t<;>exact e2 _
  refine k z ?_;rw[e1,e3];exact ok.same s
theorem bO(i:Nat){x:Str}{e:Expr}{f:EF}{pos':Pos}(he:FP X e f)(hN:X.N.Nodup)(hi:X.N[i]? = some x:=by rfl)(hx:Loc X.env.scope x:=by first|exact Or.inl rfl|exact Or.inr rfl)
  (hs:swapsWith e (some (.Name x pos')) pos.line X.env=pure false:=by rfl) (hf:X.fn x=true\/X.env.scope.names.lookup x=some .local:=by first|exact .inl rfl|exact .inr rfl) (mV:j7 X x=false:=by rfl):eO X (.Assign [.Name x pos'] e pos) (c8 i f):=by
 obtain⟨t,p,q⟩:=he;exists 23,zT hN hi hx p hs hf;unfold c8 at e;exists h,f ρ,w,e,0;obtain⟨d,tg⟩:=w;rw[h] at e;cases e;refine q ok h λH1 v fp s1 r1 g1=>?_
 exact ok.stored s1 r1 g1 λz' aT=>k z' _ H1 aT (.set hi mV)
end
abbrev GF:=D->Tag->av->Option av
def FG(X:Cx)(tg:Expr)(g:GF)(is:List Nat):Prop:=(∀i∈is,∀x,X.N[i]? = some x->j7 X x=false)/\∃t,PG X tg t/\∀{H0:Hp}{S:List Addr}{z:Addr->Option Nat}{aq:List bX}{ρ:av}{σ:St}{H H1:Hp}{v:V}{d:D}{tag:Tag}{fp:List Addr}{Q:St->Hp->Prop}{ρ':av},
 Ok X.K H0 S z aq ρ σ H->aF H H1->Rep X.K H1 d v fp->cu z H tag fp->g d tag ρ=some ρ'->(∀z' aC,Ok X.K H0 S z' aq ρ' aC H1->(aC.length=σ.length/\∀j,j∉is->aC[j]? = σ[j]?)->Q aC H1)->t v σ H1 Q
def gN(i:Nat):GF:=λd t ρ=>some (iC ρ i d t)
abbrev qe:=List D->av->Option av
theorem Kp.off{is:List Nat}(hk:∀i∈is,∀x,X.N[i]? = some x->j7 X x=false)(h:∀j,j∉is->aC[j]? = σ[j]?):Kp X σ aC:=λi x e k=>h i λm=>by rw[hk i m x e] at k;cases k
def y_(X:Cx)(ts:List Expr)(g:qe)(is:List Nat):Prop:=(∀i∈is,∀x,X.N[i]? = some x->j7 X x=false)/\∃t,vB X ts t/\(∀ds ρ ρ',g ds ρ=some ρ'->ds.length=ts.length)/\∀{H0:Hp}{S:List Addr}{z:Addr->Option Nat}{aq:List bX}{ρ:av}{σ:St}{H:Hp}{vs:List V}{ds:List D}{fp:List Addr}{Q:St->Hp->Prop}{ρ':av},
 Ok X.K H0 S z aq ρ σ H->az X.K H ds vs fp->g ds ρ=some ρ'->(∀z' aC,Ok X.K H0 S z' aq ρ' aC H->(aC.length=σ.length/\∀j,j∉is->aC[j]? = σ[j]?)->Q aC H)->t vs σ H Q
noncomputable def lZ:qe:=λds ρ=>match ds with
 |[]=>some ρ
 |_=>none
def d7(g:GF)(gs:qe):qe:=λds ρ=>match ds with
 |d::r=>if aD d=true then(g d .own ρ).bind λρ'=>gs r ρ' else none
 |_=>none
theorem Ib{gs:qe}(e:d7 g gs ds ρ=some ρ'):∃d r aM,ds=d::r/\aD d=true/\g d .own ρ=some aM/\gs r aM=some ρ':=by
 cases ds with
 |nil=>cases e
 |cons d r=>
  unfold d7 at e;dsimp only at e;obtain⟨hi,e⟩:=ci e;exists h,g d .own ρ,aM,e,0;rw[h,acQ] at e;exact⟨d,r,aM,rfl,hi,h,e⟩
noncomputable def gT(gs:qe):GF:=λd _ ρ=>match d with
 |.tup ds=>gs ds ρ
 |_=>none
section
variable{X:Cx}{pos:Pos}
theorem bQ(i:Nat){x:Str}(hN:X.N.Nodup)(hi:X.N[i]? = some x:=by rfl)(hx:Loc X.env.scope x:=by first|exact Or.inl rfl|exact Or.inr rfl)(hf:X.fn x=true\/X.env.scope.names.lookup x=some .local:=by first|exact .inl rfl|exact .inr rfl)(mV:j7 X x=false:=by rfl):FG X (.Name x pos) (gN i) [i]:=by
 refine⟨λj m y e=>by rw[aaX.mp m,hi] at e;have e:=abO e;subst e;exact mV,_,RB hN hi hx hf,@λH0 S z aq ρ σ H H1 v d tag fp Q ρ' ok s r g e k=>?_⟩;cases e;exact ok.stored s r g λz' aT=>k z' _ aT ⟨aet ..,λj hj=>acO λe=>hj (by rw[e];exact aam)⟩
theorem rq:y_ X [] lZ []:=by
 refine⟨λj m=>(nomatch m),_,RN,λds ρ ρ' e=>?_,@λH0 S z aq ρ σ H vs ds fp Q ρ' ok r e k=>?_⟩
 .cases ds with
  |nil=>rfl
  |cons _ _=>cases e
 .cases ds with
  |nil=>cases r;cases e;exact⟨rfl,k z σ ok ⟨rfl,λ_ _=>rfl⟩⟩
  |cons _ _=>cases e
theorem gC{e:Expr}{es:List Expr}{g:GF}{gs:qe}{is ks:List Nat}(h1:FG X e g is)(h2:y_ X es gs ks)(hs:(assignEach (e::es) X.env).map (·.2)=assign e X.env::(assignEach es X.env).map (·.2):=by rfl):y_ X (e::es) (d7 g gs) (is++ks):=by
 obtain⟨n1,t,p,q⟩:=h1;obtain⟨n2,t',p',l',q'⟩:=h2;refine⟨λj m=>(abo.mp m).elim (n1 j) (n2 j),_,ac0 p p' hs,λds ρ ρ' e=>?_,@λH0 S z aq ρ σ H vs ds fp Q ρ' ok r e k=>?_⟩
 .obtain⟨d,r,aM,rfl,_,_,h⟩:=Ib e;rw[abQ,abQ,l' r aM ρ' h]
 .obtain⟨d,dr,aM,rfl,hi,h1,h2⟩:=Ib e;cases r with
  | @cons _ v _ vr f1 f2 r1 r2=>
   have hn:=r1.aD hi;subst hn;exact⟨v,vr,rfl,q ok (aF.refl H) r1 .nil h1 λz1 l6 b8 a1=>q' b8 r2 h2 λz2 gj n_ a2=>k z2 gj n_ ⟨a2.1.trans a1.1,λj hj=>(a2.2 j λm=>hj (aat _ m)).trans (a1.2 j λm=>hj (abb _ m))⟩⟩
theorem qz{es:List Expr}{gs:qe}{is:List Nat}(hc:X.calm=true)(h:y_ X es gs is)(hn:(assignEach es X.env).length=es.length:=by rfl)(iw:(assignEach es X.env).findIdx? (·.1)=none:=by rfl):FG X (.Tuple es k pos) (gT gs) is:=by
 obtain⟨n1,t,p,l,q⟩:=h;refine⟨n1,_,Zd hc p hn iw,@λH0 S z aq ρ σ H H1 v d tag fp Q ρ' ok s r g e k=>?_⟩;cases r with
 | @tup a xs ds fp hq rs=>
  have e:=e;exact⟨a,xs,rfl,hq,by rw[<- rs.length];exact l ds ρ ρ' e,q (ok.same s) rs e k⟩
 |_=>cases e
end
structure Hv where
 d:D
 v:V
 fp:List Addr
def qS(K:PySem.W.Frag)(J:It)(ds:List D)(hv:List Hv):Prop:=∀(H:Hp) (i:Nat),(∀h∈hv,Rep K H h.d h.v h.fp)->
 (∀d,ds[i]? = some d->J.go i H/\∀x H1,J.xw i H x H1->aF H H1/\∃fp,Rep K H1 d x fp/\∀a∈fp,∃h∈hv,a∈h.fp)/\(ds.length<=i->J.stop i H)
abbrev IF:=av->Option (List D×Tag)
def FI(X:Cx)(tg iter:Expr)(f:IF):Prop:=∃wi,PI X tg iter wi/\∀{H0:Hp}{S:List Addr}{z:Addr->Option Nat}{aq:List bX}{ρ:av}{σ:St}{H:Hp}{R:It->Hp->Prop}{ds:List D}{t:Tag},
 Ok X.K H0 S z aq ρ σ H->f ρ=some (ds,t)->(∀H1 J hv,aF H H1->(∀h∈hv,Rep X.K H1 h.d h.v h.fp/\∀a∈h.fp,∀j,z a=some j->∃o,t=.sh o/\j∈o)->qS X.K J ds hv->R J H1)->wi σ H R
noncomputable def f7(f:EF):IF:=λρ=>match f ρ with
 |some (.lst ds,t)=>some (ds,t)
 |some (.gz ds,t)=>some (ds,t)
 |some (.tup ds,t)=>some (ds,t)
 |_=>none
def aci(K:PySem.W.Frag)(tl:TE):TI:=λσ H R=>tl σ H λx H1=>∃a,x=.ref a/\(((∃xs,bR K H1 a xs)/\R (BC K a) H1)\/((∃xs,bZ K H1 a xs)/\R (Cg K a) H1))
section
variable{X:Cx}{tg:Expr}
theorem aaN{tl:TE}(hl:PE X l tl):PI X tg l (aci X.K tl):=by
 intro af s σ H R I h;refine aL (hl af s σ H _ I h) λv s1 ⟨x,H1,I1,r1,q1⟩=>?_
 obtain⟨a,e,q⟩:=q1;subst e;cases r1;rcases q with⟨⟨xs,hq⟩,q⟩|⟨⟨xs,hq⟩,q⟩
 .obtain⟨au,rv,p,hz⟩:=I1.list hq;refine wpAny_pyIter_list p.isList ?_;refine⟨s1.heap.objs.size,[s1.heap.objs.size],_,_,H1,rfl,I1.kept (λb o e=>aao _ e),abR a _,⟨_,ab2 _ rfl,rfl,rfl⟩,λb hb=>?_,q⟩;obtain rfl:b=s1.heap.objs.size:=by simpa using hb
  exact I1.rC (abu _) (I1.aH.fresh (abu _))
 .obtain⟨au,rv,p,hz⟩:=I1.tuple hq;refine wpAny_pyIter_tuple (show s1.heap.IsTuple a au.toArray from p) ?_;refine⟨s1.heap.objs.size,[s1.heap.objs.size],_,_,H1,rfl,I1.kept (λb o e=>aao _ e),abr a _,⟨_,ab2 _ rfl,rfl,rfl⟩,λb hb=>?_,q⟩;obtain rfl:b=s1.heap.objs.size:=by simpa using hb
  exact I1.rC (abu _) (I1.aH.fresh (abu _))
theorem Rep.dF{K:PySem.W.Frag}{H:Hp}(r:Rep K H (.lst ds) v fp):∃a xs f,v=.ref a/\bR K H a xs/\az K H ds xs f/\∀b∈f,b∈fp:=by
 cases r with
 |lst h rs=>exact⟨_,_,_,rfl,bR.of h,rs,λb m=>aal _ m⟩
theorem Rep.uB{K:PySem.W.Frag}(r:Rep K H (.gz ds) v fp):∃a xs,v=.ref a/\bR K H a xs/\az K H ds xs fp:=by
 cases r with
 |yG h rs=>exact⟨_,_,rfl,h.sq,rs⟩
theorem Rep.i8{K:PySem.W.Frag}(r:Rep K H (.tup ds) v fp):∃a xs,v=.ref a/\bZ K H a xs/\az K H ds xs fp:=by
 cases r with
 |tup h rs=>exact⟨_,_,rfl,h,rs⟩
theorem Vb{K:PySem.W.Frag}:qS K (BC K a) ds [⟨.lst ds,.ref a,fp⟩]:=by
 intro H i hh;have r:=hh ⟨.lst ds,.ref a,fp⟩ aam;obtain⟨a',xs,f,e,hq,rs,sub⟩:=r.dF;cases e;refine⟨λd hd=>?_,λhl=>⟨xs,hq,by rw[<- rs.length];exact hl⟩⟩;obtain⟨v,f',hv,rv,s'⟩:=rs.get hd;refine⟨⟨xs,v,hq,hv⟩,λx H1 y=>?_⟩;obtain⟨e1,y⟩:=y;subst e1;have e2:=y xs hq;rw[hv] at e2;cases e2;exact⟨aF.refl _,f',rv,λb m=>⟨_,aam,sub b (s' b m)⟩⟩
theorem Zq{K:PySem.W.Frag}:qS K (BC K a) ds [⟨.gz ds,.ref a,fp⟩]:=by
 intro H i hh;have r:=hh ⟨.gz ds,.ref a,fp⟩ aam;obtain⟨a',xs,e,hq,rs⟩:=r.uB;cases e;refine⟨λd hd=>?_,λhl=>⟨xs,hq,by rw[<- rs.length];exact hl⟩⟩;obtain⟨v,f',hv,rv,s'⟩:=rs.get hd;refine⟨⟨xs,v,hq,hv⟩,λx H1 y=>?_⟩;obtain⟨e1,y⟩:=y;subst e1;have e2:=y xs hq;rw[hv] at e2;cases e2;exact⟨aF.refl _,f',rv,λb m=>⟨_,aam,s' b m⟩⟩
theorem aaI{K:PySem.W.Frag}:qS K (Cg K a) ds [⟨.tup ds,.ref a,fp⟩]:=by
 intro H i hh;have r:=hh ⟨.tup ds,.ref a,fp⟩ aam;obtain⟨a',xs,e,hq,rs⟩:=r.i8;cases e;refine⟨λd hd=>?_,λhl=>⟨xs,hq,by rw[<- rs.length];exact hl⟩⟩;obtain⟨v,f',hv,rv,s'⟩:=rs.get hd;refine⟨⟨xs,v,hq,hv⟩,λx H1 y=>?_⟩;obtain⟨e1,y⟩:=y;subst e1;have e2:=y xs hq;rw[hv] at e2;cases e2;exact⟨aF.refl _,f',rv,λb m=>⟨_,aam,s' b m⟩⟩
theorem L3{K:PySem.W.Frag}{lo:Int}:qS K (yk lo n) ((List.range n).map λi:Nat=>D.int (lo+(i:Int))) []:=by
 intro H i _;refine⟨λd hd=>?_,λhl=>?_⟩
 .rw[ab6] at hd
  by_cases hi:i<n
  .rw[List.getElem?_range hi] at hd;cases hd;refine⟨hi,λx H1 y=>?_⟩;obtain⟨e1,e2⟩:=y;subst e1 e2;exact⟨aF.refl _,[],.int _,λb m=>nomatch m⟩
  .rw[List.getElem?_eq_none (by simpa using hi)] at hd;cases hd
 .rw[List.length_map,aeQ] at hl;exact hl
theorem cu.over{K:PySem.W.Frag}(ok:Ok K H0 S z aq ρ σ H)(g:cu z H t fp):∀a∈fp,∀j,z a=some j->∃o,t=.sh o/\j∈o:=by
 intro a m j q;cases t with
 |sh o=>exact⟨o,rfl,g a m j q⟩
 |own=>obtain⟨⟨o,w⟩,_⟩:=ok.zd a j q;rw[g.2 a m] at w;cases w
 |lk=>obtain⟨⟨o,w⟩,_⟩:=ok.zd a j q;rw[g.2 a m] at w;cases w
theorem eS{l:Expr}{f:EF}(hl:FP X l f):FI X tg l (f7 f):=by
 obtain⟨t,p,q⟩:=hl;exists 24,aaN p;unfold f7 at e;exists h,f ρ,w,e,0;obtain⟨d,LU⟩:=w;rw[h] at e;cases d with
 |lst es=>
  cases e;refine q ok h λH1 v fp s1 r1 g1=>?_
  obtain⟨a,xs,f,rfl,hq,rs,sub⟩:=r1.dF;exact⟨a,rfl,.inl ⟨⟨xs,hq⟩,k H1 _ [⟨.lst ds,.ref a,fp⟩] s1 (λh m=>by cases aaX.mp m;exact⟨r1,g1.over ok⟩) Vb⟩⟩
 |gz es=>
  cases e;refine q ok h λH1 v fp s1 r1 g1=>?_
  obtain⟨a,xs,rfl,hq,rs⟩:=r1.uB;exact⟨a,rfl,.inl ⟨⟨xs,hq⟩,k H1 _ [⟨.gz ds,.ref a,fp⟩] s1 (λh m=>by cases aaX.mp m;exact⟨r1,g1.over ok⟩) Zq⟩⟩
 |tup es=>
  cases e;refine q ok h λH1 v fp s1 r1 g1=>?_
  obtain⟨a,xs,rfl,hq,rs⟩:=r1.i8;exact⟨a,rfl,.inr ⟨⟨xs,hq⟩,k H1 _ [⟨.tup ds,.ref a,fp⟩] s1 (λh m=>by cases aaX.mp m;exact⟨r1,g1.over ok⟩) aaI⟩⟩
 |_=>cases e
noncomputable def small(i:Int):Bool:=decide (-(2 ^ 62)<=i)&&decide (i<2 ^ 62)
def tE(g:EF):IF:=λρ=>match g ρ with
 |some (.int j,_)=>if small j=true then some ((List.range j.toNat).map λi:Nat=>D.int (0+(i:Int)),.own) else none
 |_=>none
def mZ(f g:EF):IF:=λρ=>match f ρ,g ρ with
 |some (.int i,_),some (.int j,_)=>if(small i&&small j)=true then some ((List.range (j-i).toNat).map λk:Nat=>D.int (i+(k:Int)),.own) else none
 |_,_=>none
theorem uN(h:small i=true):-(2 ^ 62)<=i/\i<2 ^ 62:=by
 obtain⟨a,b⟩:=(aaH _ _).mp h;exact⟨aaK a,aaK b⟩
theorem Fp{a:Expr}{g:EF}{p pos:Pos}(hm:X.mg "range"=none)(ha:FP X a g)(hg:Gl X "range":=by rfl)(hs:starEach [a] X.env=[(false,eval a X.env)]:=by rfl):FI X tg (.Call (.Name "range" p) [a] [] pos) (tE g):=by
 obtain⟨t,pa,q⟩:=ha;exists 24,Qu hg hm (dY pa fU hs) hs;unfold tE at e;exists h,g ρ,w,e,0;obtain⟨d,LU⟩:=w;rw[h] at e;cases d with
 |int j=>
  dsimp only at e;obtain⟨hj,e⟩:=ci e;cases e;refine q ok h λH1 v fp s1 r1 g1=>?_
  cases r1;exact⟨j,rfl,(uN hj).1,(uN hj).2,k H1 _ [] s1 (λh m=>nomatch m) L3⟩
 |_=>cases e
theorem xX{a b:Expr}(hm:X.mg "range"=none)(ha:FP X a f)(hb:FP X b g)(hg:Gl X "range":=by rfl)(hs:starEach [a,b] X.env=[(false,eval a X.env),(false,eval b X.env)]:=by rfl)(dG:starEach [b] X.env=[(false,eval b X.env)]:=by rfl):
  FI X tg (.Call (.Name "range" p) [a,b] [] pos) (mZ f g):=by
 obtain⟨t,pa,q⟩:=ha;obtain⟨t',pb,q'⟩:=hb;exists 24,U8 hg hm (dY pa (dY pb fU dG) (by rw[hs,dG])) hs dG;unfold mZ at e;exists h,f ρ,w,e,0;obtain⟨d,LU⟩:=w;cases h2:g ρ with
 |none=>rw[h,h2] at e;cases d<;>cases e
 |some w=>
  obtain⟨d2,tg2⟩:=w;rw[h,h2] at e;cases d with
  |int i=>
   cases d2 with
   |int j=>
    dsimp only at e;obtain⟨hj,e⟩:=ci e;cases e;obtain⟨si,sj⟩:=(aaH _ _).mp hj;refine q ok h λH1 v fp s1 r1 g1=>?_
    cases r1;refine q' (ok.same s1) h2 λH2 v fp s2 r2 g2=>?_
    cases r2;exact⟨i,j,rfl,⟨(uN si).1,(uN si).2,(uN sj).1,(uN sj).2⟩,k H2 _ [] (s1.trans s2) (λh m=>nomatch m) L3⟩
   |_=>cases e
  |_=>cases e
end
noncomputable def k8:Tag->List Nat
 |.sh o=>o
 |_=>[]
def kH(t:Tag):Tag:=.sh (k8 t)
noncomputable def ownAt(ρ:av)(j:Nat):Bool:=match ρ[j]? with
 |some (some (_,.own))=>true
 |_=>false
def lT(o:List Nat)(ρ:av):List Nat:=o.filter (ownAt ρ)
noncomputable def MD:Tag->Tag
 |.own=>.lk
 |t=>t
noncomputable def Kf:Tag->Tag
 |.lk=>.own
 |t=>t
noncomputable def ze(f:Tag->Tag):Slot->Slot
 |some (d,t)=>some (d,f t)
 |none=>none
def mU:List Nat->av->av
 |[],ρ=>ρ
 |j::r,ρ=>mU r (ρ.modify j (ze MD))
def qZ:List Nat->av->av
 |[],ρ=>ρ
 |j::r,ρ=>qZ r (ρ.modify j (ze Kf))
noncomputable def cX(g:GF)(t:Tag)(f:SF):List D->SF
 |[],ρ=>some (.nx ρ)
 |d::ds,ρ=>match g d t ρ with
  |none=>none
  |some aM=>match f aM with
   |some (.nx aZ)=>cX g t f ds aZ
   |some (.ct aZ)=>cX g t f ds aZ
   |some (.bk aZ)=>some (.nx aZ)
   |some (.rt r)=>some (.rt r)
   |some (.er raw cn aZ)=>some (.er raw cn aZ)
   |none=>none
def jg(it:IF)(g:GF)(f:SF):SF:=λρ=>match it ρ with
 |none=>none
 |some (ds,t)=>match cX g (kH t) f ds (mU (lT (k8 t) ρ) ρ) with
  |some (.nx ρ')=>some (.nx (qZ (lT (k8 t) ρ) ρ'))
  |some (.rt d)=>some (.rt d)
  |some (.er raw cn ρ')=>some (.er raw cn (qZ (lT (k8 t) ρ) ρ'))
  |_=>none
theorem yI:∀{ks:List Nat}{ρ:av}{i:Nat}{d:D}{t:Tag},(mU ks ρ)[i]? = some (some (d,t))->∃t',ρ[i]? = some (some (d,t'))/\(t=t'\/(t'=.own/\t=.lk))/\(i∈ks->t≠.own)
 |[],ρ,i,d,t,h=>⟨t,h,.inl rfl,λm=>nomatch m⟩
 |j::r,ρ,i,d,t,h=>by
  obtain⟨t1,h1,h2,h3⟩:=yI (ks:=r) h;rw[List.getElem?_modify] at h1;exists e,ρ[i]?,s,h1;have gb:(if j=i then ze MD s else s)=some (d,t1):=abO h1
  by_cases hj:j=i
  .rw[if_pos hj] at gb;cases s with
   |none=>cases gb
   |some p=>
    obtain⟨d0,t0⟩:=p;cases gb;refine⟨t0,rfl,?_,λ_=>?_⟩
    .rcases h2 with h2|⟨h2,mK⟩
     .cases t0<;>first|exact .inl h2|exact .inr ⟨rfl,h2⟩
     .cases t0<;>cases h2
    .rcases h2 with h2|⟨h2,mK⟩
     .rw[h2];cases t0<;>(intro z;cases z)
     .rw[mK];intro z;cases z
  .rw[if_neg hj] at gb;subst gb;refine⟨t1,rfl,h2,λm=>?_⟩;rcases aaV.mp m with z|z
   .exact absurd z.symm hj
   .exact h3 z
theorem JZ:∀{ks:List Nat}{ρ:av},(mU ks ρ).length=ρ.length
 |[],_=>rfl
 |_::r,ρ=>(JZ (ks:=r)).trans (List.length_modify ..)
theorem Jg:∀{ks:List Nat}{ρ:av},(qZ ks ρ).length=ρ.length
 |[],_=>rfl
 |_::r,ρ=>(Jg (ks:=r)).trans (List.length_modify ..)
theorem HF:∀{ks:List Nat}{ρ:av}{i:Nat}{d:D}{t:Tag},(qZ ks ρ)[i]? = some (some (d,t))->∃t',ρ[i]? = some (some (d,t'))/\(t=t'\/(t'=.lk/\t=.own/\i∈ks))
 |[],ρ,i,d,t,h=>⟨t,h,.inl rfl⟩
 |j::r,ρ,i,d,t,h=>by
  obtain⟨t1,h1,h2⟩:=HF (ks:=r) h;rw[List.getElem?_modify] at h1;exists e,ρ[i]?,s,h1;have gb:(if j=i then ze Kf s else s)=some (d,t1):=abO h1
  by_cases hj:j=i
  .rw[if_pos hj] at gb;cases s with
   |none=>cases gb
   |some p=>
    obtain⟨d0,t0⟩:=p;cases gb;refine⟨t0,rfl,?_⟩;rcases h2 with h2|⟨h2,mK,h3⟩
    .cases t0<;>first|exact .inl h2|exact .inr ⟨rfl,h2,by rw[hj];exact aam⟩
    .cases t0<;>cases h2
  .rw[if_neg hj] at gb;subst gb;refine⟨t1,rfl,?_⟩;rcases h2 with h2|⟨h2,mK,h3⟩
   .exact .inl h2
   .exact .inr ⟨h2,mK,aal _ h3⟩
noncomputable def sX(z:Addr->Option Nat)(hv:List Hv):List bX:=hv.map λh=>⟨h.d,h.v,h.fp,z⟩
noncomputable def xN(z:Addr->Option Nat)(aq:List bX):List bX:=aq.map λh=>{ h with z0:=z }
section
variable{K:PySem.W.Frag}{H0:Hp}{S:List Addr}{z:Addr->Option Nat}{aq:List bX}{ρ:av}{σ:St}{H:Hp}
theorem Ok.begin{hv:List Hv}(ok:Ok K H0 S z aq ρ σ H)(hh:∀h∈hv,Rep K H h.d h.v h.fp/\∀a∈h.fp,∀j,z a=some j->∃o,t=.sh o/\j∈o):
  Ok K H0 S z (sX z hv++xN z aq) (mU (lT (k8 t) ρ) ρ) σ H:=by
 refine⟨λi d tg e=>?_,λp m=>?_,ok.zd,ok.en,by rw[JZ];exact ok.ln⟩
 .obtain⟨t',e',h,_⟩:=yI e;obtain⟨v,fp,a,b,c⟩:=ok.sl i d t' e';refine⟨v,fp,a,b,?_⟩;rcases h with h|⟨h,h'⟩
  .subst h;exact c
  .subst h h';exact c
 .have Q8:∀j,uK ρ j->uK (mU (lT (k8 t) ρ) ρ) j:=λj n d e=>by
   obtain⟨t',e',h,_⟩:=yI e;rcases h with h|⟨h,h'⟩
   .subst h;exact n d e'
   .cases h'
  rcases abo.mp m with m|m
  .obtain⟨h,hm,rfl⟩:=abw.mp m;refine⟨(hh h hm).1,λa ha j q=>⟨q,λd e=>?_⟩⟩;obtain⟨o,rfl,hj⟩:=(hh h hm).2 a ha j q;obtain⟨t',e',h',n⟩:=yI e;rcases h' with h'|⟨h',sA⟩
   .subst h';exact n (ab5.mpr ⟨hj,by unfold ownAt;rw[e']⟩) rfl
   .cases sA
  .obtain⟨h,hm,rfl⟩:=abw.mp m;obtain⟨r,hz⟩:=ok.hl h hm;exact⟨r,λa ha j q=>⟨q,Q8 j (hz a ha j q).2⟩⟩
theorem Ok.fin{hv:List Hv}{t:Tag}{z':Addr->Option Nat}{ρ':av}{aC:St}{H':Hp}(ok:Ok K H0 S z aq ρ σ H)(aT:Ok K H0 S z' (sX z hv++xN z aq) ρ' aC H'):Ok K H0 S z' aq (qZ (lT (k8 t) ρ) ρ') aC H':=by
 refine⟨λi d tg e=>?_,λp m=>?_,aT.zd,aT.en,by rw[Jg];exact aT.ln⟩
 .obtain⟨t',e',h⟩:=HF e;obtain⟨v,fp,a,b,c⟩:=aT.sl i d t' e';refine⟨v,fp,a,b,?_⟩;rcases h with h|⟨h,h',_⟩
  .subst h;exact c
  .subst h h';exact c
 .obtain⟨r,hz⟩:=aT.hl { p with z0:=z } (aat _ (abw.mpr ⟨p,m,rfl⟩));refine⟨r,λa ha j q=>?_⟩;obtain⟨h1,h2⟩:=hz a ha j q;have h1:=h1;obtain⟨h3,h4⟩:=(ok.hl p m).2 a ha j h1;refine⟨h3,λd e=>?_⟩;obtain⟨t',e',h⟩:=HF e;rcases h with h|⟨h,_,hk⟩
  .subst h;exact h2 d e'
  .have ho:=(ab5.mp hk).2;unfold ownAt at ho;exists e0,ρ[j]?,s,ho;cases s with
   |none=>cases ho
   |some p=>
    obtain⟨d0,t0⟩:=p;cases t0<;>first|exact h4 d0 e0|cases ho
end
section
variable{X:Cx}{pos:Pos}
theorem jt{tg iter:Expr}{body:List Stmt}{is:List Nat}(hc:X.calm=true)(hi:FI X tg iter it)(hg:FG X tg g is)(hb:FS X body f)(hp:PassesOwn (model X.prog X.w) X.A X.env X.xe:=by exact PassesOwn.never)
  (hs:∀x,foldedSetIterable iter X.env x=pure x:=by intro _;rfl):eO X (.For tg iter body [] pos) (jg it g f):=by
 obtain⟨wi,pi,si⟩:=hi;obtain⟨n1,tgt,pg,sg⟩:=hg;obtain⟨tb,pb,sb⟩:=hb;exists 23,Vu hp hc pi pg pb hs;unfold jg at e;exists h,it ρ,w,e,0;obtain⟨ds,t⟩:=w;rw[h] at e;dsimp only at e;refine si ok h λH1 J hv s1 hh BO=>?_
 exists ho,cX g (kH t) f ds (mU (lT (k8 t) ρ) ρ),out,e;have b8:=ok.same s1;have n_:=b8.begin hh;have fin:∀{z':Addr->Option Nat}{ρ':av}{aC:St}{H':Hp},Ok X.K H0 S z' (sX z hv++xN z aq) ρ' aC H'->out=.nx ρ'->Kp X σ aC->E.nx aC H':=λ{z' ρ' aC H'} aT eo kp=>by
  subst eo;cases e;exact k z' aC H' (b8.fin aT) kp
 refine⟨λi m aC H'=>m=ds.length-i/\∃z' ρ',Ok X.K H0 S z' (sX z hv++xN z aq) ρ' aC H'/\cX g (kH t) f (ds.drop i) ρ'=some out/\Kp X σ aC,⟨ds.length,rfl,z,_,n_,ho,.refl _ _⟩,?_⟩
 rintro i m aC H' ⟨rfl,z',ρ',aT,e',kp⟩
 have hH:∀h∈hv,Rep X.K H' h.d h.v h.fp:=λh m=>(aT.hl _ (abb _ (abw.mpr ⟨h,m,rfl⟩))).1
 obtain⟨go,stop⟩:=BO H' i hH
 by_cases hl:ds.length<=i
 .refine .inl ⟨stop hl,?_⟩;rw[List.drop_eq_nil_of_le hl] at e';cases e';exact fin aT rfl kp
 .have cQ:i<ds.length:=Nat.lt_of_not_le hl;rw[aeB cQ] at e';obtain⟨g1,g2⟩:=go ds[i] (aaQ cQ);refine .inr ⟨g1,λgj H2=>∃z' ρ',Ok X.K H0 S z' (sX z hv++xN z aq) ρ' gj H2/\cX g (kH t) f (ds.drop (i+1)) ρ'=some out/\Kp X σ gj,λgj H2 hn=>⟨ds.length-(i+1),by omega,rfl,hn⟩,λx H2 y=>?_⟩;obtain⟨s2,fp,r2,sub⟩:=g2 x H2 y;unfold cX at e';cases qW:g ds[i] (kH t) ρ' with
  |none=>rw[qW] at e';cases e'
  |some aM=>
   rw[qW] at e';dsimp only at e';refine sg (tag:=kH t) aT s2 r2 (λa ha j q=>?_) qW λz2 gj iN a3=>?_
   .obtain⟨h,hm,Nv⟩:=sub a ha;obtain⟨_,hz⟩:=aT.hl _ (abb _ (abw.mpr ⟨h,hm,rfl⟩));obtain⟨q0,_⟩:=hz a Nv j q;obtain⟨o',rfl,hj⟩:=(hh h hm).2 a Nv j q0;exact hj
   .cases hf:f aM with
    |none=>rw[hf] at e';cases e'
    |some o1=>
     rw[hf] at e';refine sb iN hf ?_;cases o1 with
     |nx aZ=>exact λz3 cE H3 iu b=>⟨z3,aZ,iu,e',(kp.trans (.off n1 a3.2)).trans b⟩
     |ct aZ=>exact λz3 cE H3 iu b=>⟨z3,aZ,iu,e',(kp.trans (.off n1 a3.2)).trans b⟩
     |bk aZ=>
      cases e';exact λz3 cE H3 iu b=>fin iu rfl ((kp.trans (.off n1 a3.2)).trans b)
     |rt d=>
      cases e';cases e;exact k
     |er raw cn aZ=>
      cases e';cases e;obtain⟨ES,th,q⟩:=k;exact⟨ES,th,λz3 cE H3 C iu b hC=>q z3 cE H3 C (b8.fin iu) ((kp.trans (.off n1 a3.2)).trans b) hC⟩
noncomputable def gx(c:TF)(f:SF):Nat->SF
 |0,_=>none
 |n+1,ρ=>match c ρ with
  |some false=>some (.nx ρ)
  |some true=>match f ρ with
   |some (.nx ρ')=>gx c f n ρ'
   |some (.ct ρ')=>gx c f n ρ'
   |some (.bk ρ')=>some (.nx ρ')
   |some (.rt d)=>some (.rt d)
   |some (.er raw cn ρ')=>some (.er raw cn ρ')
   |none=>none
  |none=>none
theorem CK(n:Nat){c:Expr}{body:List Stmt}{tc:TF}{f:SF}(hc:FT X c tc)(hb:FS X body f)(hp:PassesOwn (model X.prog X.w) X.A X.env X.xe:=by exact PassesOwn.never):eO X (.While c body [] pos) (gx tc f n):=by
 obtain⟨t,p,q⟩:=hc;obtain⟨tb,pb,qb⟩:=hb;exists 23,OR hp p pb;refine⟨λm aC H'=>∃z' ρ',Ok X.K H0 S z' aq ρ' aC H'/\gx tc f m ρ'=some o/\Kp X σ aC,⟨n,z,ρ,ok,e,.refl _ _⟩,?_⟩
 rintro m aC H' ⟨z',ρ',aT,e',kp⟩
 cases m with
 |zero=>cases e'
 |succ m=>
  unfold gx at e';exists hc,tc ρ',b,e';refine q aT hc λH1 s1=>?_
  cases b with
  |false=>
   cases e';rw[if_neg aa9];exact k z' aC H1 (aT.same s1) kp
  |true=>
   rw[if_pos rfl];dsimp only at e';exists hf,f ρ',o1,e';refine⟨λgj H2=>∃z2 aZ,Ok X.K H0 S z2 aq aZ gj H2/\gx tc f m aZ=some o/\Kp X σ gj,λgj H2 hn=>⟨m,aen m,hn⟩,?_⟩;refine qb (aT.same s1) hf ?_;cases o1 with
   |nx aZ=>exact λz3 cE H3 iu b=>⟨z3,aZ,iu,e',kp.trans b⟩
   |ct aZ=>exact λz3 cE H3 iu b=>⟨z3,aZ,iu,e',kp.trans b⟩
   |bk aZ=>
    cases e';exact λz3 cE H3 iu b=>k z3 cE H3 iu (kp.trans b)
   |rt d=>
    cases e';exact k
   |er raw cn aZ=>
    cases e';obtain⟨ES,th,q⟩:=k;exact⟨ES,th,λz3 cE H3 C iu b hC=>q z3 cE H3 C iu (kp.trans b) hC⟩
end
def AO(K:PySem.W.Frag)(f:EF):TE:=λσ H Q=>∃H0 S z aq ρ d tg,Ok K H0 S z aq ρ σ H/\f ρ=some (d,tg)/\∀H' v fp,aF H H'->Rep K H' d v fp->cu z H tg fp->Q v H'
def yi(K:PySem.W.Frag)(f:TF):TT:=λσ H Q=>∃H0 S z aq ρ b,Ok K H0 S z aq ρ σ H/\f ρ=some b/\∀H',aF H H'->Q b H'
def BV(K:PySem.W.Frag)(g:GF)(is:List Nat):TG:=λv σ H1 Q=>∃H0 S z aq ρ H d tag fp ρ',Ok K H0 S z aq ρ σ H/\aF H H1/\Rep K H1 d v fp/\cu z H tag fp/\g d tag ρ=some ρ'/\
 ∀z' aC,Ok K H0 S z' aq ρ' aC H1->(aC.length=σ.length/\∀j,j∉is->aC[j]? = σ[j]?)->Q aC H1
section
variable{X:Cx}
theorem FP.pe{e:Expr}{f:EF}(h:FP X e f):PE X e (AO X.K f):=by
 obtain⟨t,p,q⟩:=h
 rintro af s σ H Q I ⟨H0,S,z,aq,ρ,d,tg,ok,e,k⟩
 exact p af s σ H Q I (q ok e k)
theorem FT.pt(h:FT X e f):PT X e (yi X.K f):=by
 obtain⟨t,p,q⟩:=h
 rintro af s σ H Q I ⟨H0,S,z,aq,ρ,b,ok,e,k⟩
 exact p af s σ H Q I (q ok e k)
theorem FG.pg{is:List Nat}(h:FG X e g is):PG X e (BV X.K g is):=by
 obtain⟨_,t,p,q⟩:=h
 rintro af s σ H1 v u Q I r ⟨H0,S,z,aq,ρ,H,d,tag,fp,ρ',ok,sm,rp,tk,e,k⟩
 exact p af s σ H1 v u Q I r (q ok sm rp tk e k)
end
def AG(X:Cx)(ifs:List Expr)(f:TF):Prop:=xj X ifs (yi X.K f)
noncomputable def jC:TF:=λ_=>some true
theorem kM{X:Cx}:AG X [] jC:=by
 rintro af s σ H Q I ⟨H0,S,z,aq,ρ,b,ok,e,k⟩
 cases e;exact wpAny_tests_nil ⟨H,I,k H (aF.refl H)⟩
theorem o6{X:Cx}{c:Expr}{f:TF}(h:FT X c f):AG X [c] f:=Qs h.pt
noncomputable def jc(js:List (Option Nat))(ρ:av):av:=js.map λj=>match j with
 |none=>none
 |some j=>match ρ[j]? with
  |some (some (d,_))=>some (d,.sh [])
  |_=>none
def jl(g:GF)(tt:TF)(te:EF)(ρ:av)(d:D):Option (Option D):=match g d (.sh []) ρ with
 |none=>none
 |some aM=>match tt aM with
  |none=>none
  |some false=>some none
  |some true=>match te aM with
   |none=>none
   |some (e,t)=>if j_ t=true then some (some e) else if aD e=true then some (some e) else none
noncomputable def oE(h:D->Option (Option D)):List D->Option (List D)
 |[]=>some []
 |d::ds=>match h d with
  |none=>none
  |some none=>oE h ds
  |some (some e)=>match oE h ds with
   |none=>none
   |some es=>some (e::es)
def gY(js:List (Option Nat))(it:IF)(g:GF)(tt:TF)(te:EF):EF:=λρ=>match it ρ with
 |none=>none
 |some (ds,_)=>if ds.length<sizeLine then(oE (jl g tt te (jc js ρ)) ds).map λes=>(.lst es,.own) else none
theorem Px{h:D->Option (Option D)}{k:D->Option D}:∀{ds:List D},(∀d∈ds,h d=some (k d))->oE h ds=some (ds.filterMap k)
 |[],_=>rfl
 |d::ds,e=>by
  unfold oE;rw[e d aam,Px λx m=>e x (aal _ m),adv];cases k d<;>rfl
section
variable{X:Cx}{pos:Pos}
theorem JN{wi:TI}{it:IF}{js:List (Option Nat)}{g:GF}{tt:TF}{te:EF}{is:List Nat}(xE:∀i∈is,js[i]? = some none)
  (si:∀{H0:Hp}{S:List Addr}{z:Addr->Option Nat}{aq:List bX}{ρ:av}{σ:St}{H:Hp}{R:It->Hp->Prop}{ds:List D}{t:Tag},
   Ok X.K H0 S z aq ρ σ H->it ρ=some (ds,t)->(∀H1 J hv,aF H H1->(∀h∈hv,Rep X.K H1 h.d h.v h.fp/\∀a∈h.fp,∀j,z a=some j->∃o,t=.sh o/\j∈o)->qS X.K J ds hv->R J H1)->wi σ H R)
  {H0:Hp}{S:List Addr}{z:Addr->Option Nat}{aq:List bX}{ρ:av}{σ:St}{H:Hp}{Q:VK}{d:D}{tg:Tag} (ok:Ok X.K H0 S z aq ρ σ H) (e:gY js it g tt te ρ=some (d,tg))
  (k:∀H' v fp,aF H H'->Rep X.K H' d v fp->cu z H tg fp->Q v H'):CM wi js (BV X.K g is) (yi X.K tt) (AO X.K te) σ H Q:=by
 unfold gY at e;cases h:it ρ with
 |none=>rw[h] at e;cases e
 |some w=>
  obtain⟨ds,t⟩:=w;rw[h] at e;dsimp only at e
  by_cases hz:ds.length<sizeLine
  .rw[if_pos hz] at e;cases DY:oE (jl g tt te (jc js ρ)) ds with
   |none=>rw[DY] at e;cases e
   |some es=>
    rw[DY] at e;cases e;refine si ok h λH1 J hv s1 hh BO Dd tP=>?_
    have b8:=ok.same s1;have inner:∀(aC:St) (H2:Hp),aF H1 H2->(∃o,H2 Dd=some o)->aC.length=js.length->(∀j,j∉is->aC[j]? = (lK js σ)[j]?)->Ok X.K H1 [] (λa=>if a=Dd then some js.length else none) (sX (λ_=>none) hv) (jc js ρ) aC H2:=by
     intro aC H2 s2 DK hlen zA;have nD:∀{a:Addr}{o:HO},H1 a=some o->a≠Dd:=λe=>cK e tP
     refine⟨λi d t e=>?_,λp m=>?_,λa j e=>?_,λa o e _=>s2 _ _ e,by unfold jc;rw[List.length_map,hlen]⟩
     .unfold jc at e;rw[ab6] at e;cases hj:js[i]? with
      |none=>rw[hj] at e;cases e
      |some o=>
       rw[hj] at e;cases o with
       |none=>cases e
       |some j=>
        have e:(match ρ[j]? with|some (some (d,_))=>some (d,Tag.sh [])|_=>none)=some (d,t):=abO e;cases hr:ρ[j]? with
        |none=>rw[hr] at e;cases e
        |some s=>
         rw[hr] at e;cases s with
         |none=>cases e
         |some p=>
          obtain⟨d0,t0⟩:=p;have e1:d0=d/\Tag.sh []=t:=Prod.mk.inj (abO e);obtain⟨rfl,rfl⟩:=e1;obtain⟨v,fp,hs,r,_⟩:=b8.sl j d0 t0 hr;have hi:i∉is:=λm=>by rw[xE i m] at hj;cases hj
          refine⟨v,fp,?_,r.same s2,λa m q e=>?_⟩
          .rw[zA i hi];unfold lK;rw[ab6,hj];show some ((σ[j]?).join)=some (some v);rw[hs];rfl
          .obtain⟨o,w,_⟩:=r.b7 a m;dsimp only at e;rw[if_neg (nD w)] at e;cases e
     .obtain⟨h,hm,rfl⟩:=abw.mp m;refine⟨(hh h hm).1.same s2,λa ha q e=>?_⟩;obtain⟨o,w,_⟩:=(hh h hm).1.b7 a ha;rw[if_neg (nD w)] at e;cases e
     .by_cases w:a=Dd
      .rw[w];exact⟨DK,.inl tP⟩
      .rw[if_neg w] at e;cases e
    refine⟨λi m aC H'=>m=ds.length - i/\aF H1 H'/\aC.length=js.length/\(∀j,j∉is->aC[j]? = (lK js σ)[j]?)/\∃done rest vs fp,H' Dd=some (.lst vs)/\az X.K H' done vs fp/\fp.Nodup/\(∀a∈fp,H1 a=none/\a≠Dd)/\
     oE (jl g tt te (jc js ρ)) (ds.drop i)=some rest/\done++rest=es/\done.length<=i,?_,?_⟩
    .refine⟨ds.length,rfl,λb o e=>by rw[aO (cK e tP)];exact e,by unfold lK;rw[List.length_map],λ_ _=>rfl,[],es,[],[],cG,.nil,aco,(λa m=>nomatch m),DY,rfl,abu _⟩
    .rintro i m aC H' ⟨rfl,sH,hlen,zA,done,rest,vs,fp,hD,rs,nd,fr,hr,rfl,hle⟩
     obtain⟨go,stop⟩:=BO H' i λh m=>(hh h m).1.same sH
     by_cases hl:ds.length<=i
     .refine .inl ⟨stop hl,?_⟩;rw[List.drop_eq_nil_of_le hl] at hr;cases hr;rw[acH] at k;refine k H' (.ref Dd) (Dd::fp) (s1.trans sH) (.lst hD rs) ⟨aby.mpr ⟨λm=>(fr Dd m).2 rfl,nd⟩,λa m=>?_⟩;rcases aaV.mp m with e|m
      .rw[e];exact s1.free tP
      .exact s1.free (fr a m).1
     .have cQ:i<ds.length:=Nat.lt_of_not_le hl;rw[aeB cQ] at hr;obtain⟨g1,g2⟩:=go ds[i] (aaQ cQ);refine .inr ⟨g1,λx H2 y=>?_⟩;obtain⟨s2,mE,r2,sub⟩:=g2 x H2 y;have n_:=inner aC H' sH ⟨_,hD⟩ hlen zA;unfold oE at hr;cases hE:jl g tt te (jc js ρ) ds[i] with
      |none=>rw[hE] at hr;cases hr
      |some oe=>
       rw[hE] at hr;unfold jl at hE;cases qW:g ds[i] (.sh []) (jc js ρ) with
       |none=>rw[qW] at hE;cases hE
       |some aM=>
        rw[qW] at hE;dsimp only at hE;have SI:cu (λa=>if a=Dd then some js.length else none) H' (.sh []) mE:=λa m j e=>by
         obtain⟨h,hm,ha⟩:=sub a m;obtain⟨o,w,_⟩:=(hh h hm).1.b7 a ha;dsimp only at e;rw[if_neg (cK w tP)] at e;cases e
        refine⟨H1,[],_,_,jc js ρ,H',ds[i],.sh [],mE,aM,n_,s2,r2,SI,qW,λz3 cE iN MH=>?_⟩;have LX:cE.length=js.length:=MH.1.trans hlen;have Jp:∀j,j∉is->cE[j]? = (lK js σ)[j]? :=λj hj=>(MH.2 j hj).trans (zA j hj)
        cases ht:tt aM with
        |none=>rw[ht] at hE;cases hE
        |some b=>
         rw[ht] at hE;refine⟨H1,[],z3,_,aM,b,iN,ht,λH4 s4=>?_⟩;have GJ:aF H1 H4:=(sH.trans s2).trans s4;have yp:aF H' H4:=s2.trans s4;cases b with
         |false=>
          cases hE;refine ac5 ?_;exact⟨ds.length-(i+1),by lia,rfl,GJ,LX,Jp,done,rest,vs,fp,yp _ _ hD,rs.same yp,nd,fr,hr,rfl,Nat.le_succ_of_le hle⟩
         |true=>
          refine Xv ?_;dsimp only at hE;cases Hh:te aM with
          |none=>rw[Hh] at hE;cases hE
          |some w=>
           obtain⟨y,ty⟩:=w;rw[Hh] at hE;dsimp only at hE;refine⟨H1,[],z3,_,aM,y,ty,iN.same s4,Hh,λH5 yv fy s5 ry gy=>?_⟩;have oe':oe=some y/\fy.Nodup/\∀a∈fy,H4 a=none:=by
            by_cases ho:j_ ty=true
            .rw[if_pos ho] at hE;cases hE;exact⟨rfl,by cases ty<;>first|exact gy|cases ho⟩
            .rw[if_neg ho] at hE
             by_cases hi:aD y=true
             .rw[if_pos hi] at hE;cases hE;have hn:=ry.aD hi;subst hn;exact⟨rfl,aco,λa m=>nomatch m⟩
             .rw[if_neg hi] at hE;cases hE
           obtain⟨rfl,ndy,Fq⟩:=oe';dsimp only at hr;cases wu:oE (jl g tt te (jc js ρ)) (ds.drop (i+1)) with
           |none=>rw[wu] at hr;cases hr
           |some r'=>
            rw[wu] at hr;cases hr;have Qi:aF H' H5:=yp.trans s5;have Mb:H5 Dd=some (.lst vs):=Qi _ _ hD;have lv:vs.length<sizeLine:=by rw[<- rs.length];lia
            have im:aU H5 (upd H5 Dd (.lst (vs++[yv]))):=aU.upd Mb rfl;have n1:∀a∈fp++fy,a≠Dd:=λa m=>by
             rcases abo.mp m with m|m
             .exact(fr a m).2
             .intro e;have:=Fq a m;rw[e,yp _ _ hD] at this;cases this
            have Vn:az X.K H5 (done++[y]) (vs++[yv]) (fp++fy):=by
             have q:=az.append (rs.same Qi) (az.cons ry .nil);rw[acH] at q;exact q
            refine⟨vs,Mb,lv,ds.length-(i+1),by lia,rfl,λb o e=>?_,LX,Jp,done++[y],r',vs++[yv],fp++fy,cG,Vn.frame (λa m=>aO (n1 a m)) im,?_,λa m=>?_,wu,?_,?_⟩
            .rw[aO (cK e tP)];exact s5 _ _ (GJ _ _ e)
            .refine acE.mpr ⟨nd,ndy,λa m b m' e=>?_⟩;subst e;obtain⟨o,w,_⟩:=(rs.same yp).b7 a m;rw[Fq a m'] at w;cases w
            .refine⟨?_,n1 a m⟩;rcases abo.mp m with m|m
             .exact(fr a m).1
             .exact GJ.free (Fq a m)
            .rw[adJ];rfl
            .rw[abq,adn];lia
  .rw[if_neg hz] at e;cases e
theorem iH{M:List Str}{js:List (Option Nat)}{it:IF}{g:GF}{tt:TF}{te:EF}{is:List Nat}(S:nE X M js sc)(hc:X.calm=true)(hi:FI X tg iter it)(xE:∀i∈is,js[i]? = some none)
  (hb:∀s3 H3 fp,FG (eF X M sc s3 H3 fp) tg g is/\AG (eF X M sc s3 H3 fp) ifs tt/\FP (eF X M sc s3 H3 fp) elt te) (hs:∀x,foldedSetIterable iter X.env x=pure x:=by intro _;rfl) :
  FP X (.ListComp elt [⟨tg,iter,ifs,0⟩] sc pos) (gY js it g tt te):=by
 obtain⟨wi,pi,si⟩:=hi;exact⟨_,aaL (tt:=yi X.K tt) (te:=AO X.K te) S hc pi (λs3 H3 fp=>⟨(hb s3 H3 fp).1.pg,(hb s3 H3 fp).2.1,(hb s3 H3 fp).2.2.pe⟩) hs,@λH0 S z aq ρ σ H Q d tg ok e k=>JN xE si ok e k⟩
theorem A7(i:Nat){y:Str}{sc:Scope}{js:List (Option Nat)}{it:IF}{is:List Nat}(hN:X.N.Nodup)(S:nE X M js sc)(hc:X.calm=true)(hi:FI X tg iter it)
  (xE:∀i∈is,js[i]? = some none) (hb:∀s3 H3 fp,FG (eF X M sc s3 H3 fp) tg g is/\AG (eF X M sc s3 H3 fp) ifs tt/\FP (eF X M sc s3 H3 fp) elt te) (hy:X.N[i]? = some y:=by rfl) (hl:X.env.scope.names.lookup y=some .local:=by rfl)
  (jM:swapsWith (.ListComp elt [⟨tg,iter,ifs,0⟩] sc pos) (some (.Name y py)) CI.line X.env=pure true:=by rfl) (hs:∀x,foldedSetIterable iter X.env x=pure x:=by intro _;rfl) (mV:j7 X y=false:=by rfl) :
  eO X (.Assign [.Name y py] (.ListComp elt [⟨tg,iter,ifs,0⟩] sc pos) CI) (c8 i (gY js it g tt te)):=by
 obtain⟨wi,pi,si⟩:=hi;exists 23,YH (g:=BV X.K g is) (tt:=yi X.K tt) (te:=AO X.K te) hN hy hl S hc pi (λs3 H3 fp=>⟨(hb s3 H3 fp).1.pg,(hb s3 H3 fp).2.1,(hb s3 H3 fp).2.2.pe⟩) jM hs;unfold c8 at e;exists h,gY js it g tt te ρ,w,e,0;obtain⟨d,tg⟩:=w;rw[h] at e;cases e;refine JN xE si ok h λH1 v fp s1 r1 g1=>?_
 exact ok.stored s1 r1 g1 λz' aT=>k z' _ H1 aT (.set hy mV)
end
noncomputable def EU(n:Nat)(ds:List D):av:=ds.map (λd=>some (d,.sh []))++List.replicate (n-ds.length) none
def bK(n N:Nat)(b:SF):List D->Option D:=λds=>if ds.length=n then(match b (EU N ds) with
 |some (.rt d)=>some d
 |some (.nx _)=>some .aA
 |_=>none) else none
noncomputable abbrev CF:=List D->List D->Option D
noncomputable def Ai(N:Nat)(es ds:List D):av:=es.map (λd=>some (d,.own))++(ds.map (λd=>some (d,.sh []))++List.replicate (N-(ds.length+es.length)) none)
def runC(n N:Nat)(b:SF):CF:=λes ds=>if ds.length + es.length=n then(match b (Ai N es ds) with
 |some (.rt d)=>some d
 |some (.nx _)=>some .aA
 |_=>none) else none
def WZ(K:PySem.W.Frag)(G:CF):Sp:=λvs H Q _=>∃us ws es ds a_ dw d,vs=us++ws/\az K H es us a_/\a_.Nodup/\az K H ds ws dw/\(∀b∈dw,b∉a_)/\G es ds=some d/\
 ∀H' v fp,(∀a o,H a=some o->a∉a_->H' a=some o)->Rep K H' d v fp->fp.Nodup->(∀a∈fp,H a=none\/a∈a_)->Q v H'
theorem az.own{K:PySem.W.Frag}{H:Hp}:∀{es:List D}{us:List V}{fp:List Addr} (k:Nat),az K H es us fp->fp.Nodup->∃z:Addr->Option Nat,(∀i d,es[i]? = some d->∃v f,us[i]? = some v/\Rep K H d v f/\f.Nodup/\∀a∈f,z a=some (k+i))/\∀a j,z a=some j->a∈fp
 |_,_,_,_,.nil,_=>⟨λ_=>none,λi d e=>by simp at e,λ_ _ e=>nomatch e⟩
 |_,_,_,k,.cons (f1:=f1) (f2:=f2) r t,n=>by
  classical
  obtain⟨n1,n2,n3⟩:=acE.mp n;obtain⟨z,h1,h2⟩:=t.own (k+1) n2;refine⟨λa=>if a∈f1 then some k else z a,λi d e=>?_,λa j e=>?_⟩
  .cases i with
   |zero=>cases e;exact⟨_,f1,rfl,r,n1,λa m=>if_pos m⟩
   |succ i=>
    obtain⟨v,f,a1,a2,a3,a4⟩:=h1 i d e;exact⟨v,f,a1,a2,a3,λa m=>(if_neg λq=>n3 a q a (h2 a _ (a4 a m)) rfl).trans ((a4 a m).trans (by rw[Nat.add_assoc,Nat.add_comm 1]))⟩
  .dsimp only at e
   split at e
   .exact abb _ (by assumption)
   .exact aat _ (h2 a j e)
section
variable{P:Program}{w:World}{K:PySem.W.Frag}{mg:Str->Option Value}{base:Heap}
theorem Ok.jL{H:Hp}{N:List Str}{us ws:List V}{es ds:List D}{a_ dw:List Addr}(r0:az K H es us a_)(nd:a_.Nodup)(rs:az K H ds ws dw)(dj:∀b∈dw,b∉a_):∃z,Ok K H a_ z [] (Ai N.length es ds) (start N (us++ws)) H:=by
 obtain⟨z,h1,h2⟩:=r0.own 0 nd;have l0:=r0.length;have l1:=rs.length;unfold Ai start;rw[adb,adJ];refine⟨z,λi d' t' e'=>?_,(λp m=>by cases m),(λa j e=>⟨let⟨o,w,_⟩:=r0.b7 a (h2 a j e);⟨o,w⟩,.inr (h2 a j e)⟩),(λa o e _=>e),?_⟩
 .by_cases hi:i<es.length
  .rw[adi (by rw[List.length_map];exact hi),ab6,aaQ hi] at e';cases e';obtain⟨v,g,hv,rv,n',hz⟩:=h1 i _ (aaQ hi);rw[aeU] at hz;exact⟨v,g,(adi (by rw[List.length_map];lia)).trans (by rw[ab6,hv];rfl),rv,n',hz⟩
  .rw[ads (by rw[List.length_map];lia),List.length_map] at e';rw[ads (by rw[List.length_map];lia),List.length_map,<- l0];generalize i-es.length=i at e' ⊢
   by_cases hi:i<ds.length
   .rw[adi (by rw[List.length_map];exact hi),ab6,aaQ hi] at e';cases e';obtain⟨v,g,hv,rv,sub⟩:=rs.get (aaQ hi);exact⟨v,g,(adi (by rw[List.length_map];lia)).trans (by rw[ab6,hv];rfl),rv,λa m j e=>(dj a (sub a m) (h2 a j e)).elim⟩
   .rw[ads (by rw[List.length_map];lia),aek] at e'
    split at e'<;>cases e'
 .simp only[abq,List.length_map,List.length_replicate]
  lia
theorem RJ{st:Stmt}(F:jJ K x qual st f fd)(S:pO N ps (cB st))
  (hb:∀(aR:{c:Value // c=fd.code}) (A:Around) (outer:List Env) (s:Shared) (H:Hp) (E:XK),bq k (A.deeper (envOfC qual (cB st) s.heap.objs.size f aR)) cm->FS (iQ cT P w K mg base N qual (cB st) f aR A outer s H E cm).fX (gH st) b) :
  b_ P w K mg base cT (k+1) f fd ps (WZ K (runC ps.length N.length b)) cm:=by
 refine F.ok S (λvs H Q E ⟨us,ws,es,ds,a_,dw,d,e0,r0,_,rs,_,e,_⟩=>?_) (λaR A outer s H vs Q E hr ⟨us,ws,es,ds,a_,dw,d,e0,r0,nd,rs,dj,e,q⟩=>?_)
 .unfold runC at e
  split at e
  .rename_i h;rw[e0,abq,<- r0.length,<- rs.length,Nat.add_comm,h]
  .cases e
 .obtain⟨t,p,sd⟩:=hb aR A outer s H E hr;refine⟨t,p,?_⟩;obtain⟨z,ok⟩:=Ok.jL r0 nd rs dj;rw[e0];unfold runC at e
  split at e
  .cases ho:b (Ai N.length es ds) with
   |none=>rw[ho] at e;cases e
   |some o=>
    rw[ho] at e;refine sd ok ho ?_;cases o with
    |rt d'=>cases e;exact q
    |nx ρ'=>cases e;exact λz' aC H' aT _=>q H' .aA [] aT.en .aA aco λa m=>nomatch m
    |bk _=>cases e
    |ct _=>cases e
    |er _ _ _=>cases e
  .cases e
theorem Ni{st:Stmt}(F:jJ K x qual st f fd)(S:pO N ps (cB st))
  (hb:∀(aR:{c:Value // c=fd.code}) (A:Around) (outer:List Env) (s:Shared) (H:Hp) (E:XK),bq k (A.deeper (envOfC qual (cB st) s.heap.objs.size f aR)) cm->FS (iQ cT P w K mg base N qual (cB st) f aR A outer s H E cm).fX (gH st) b) :
  b_ P w K mg base cT (k+1) f fd ps (bh K (bK ps.length N.length b)) cm:=
 (RJ F S hb).imp λvs H Q E ⟨ds,fp,d,rs,e,q⟩=>⟨[],vs,[],ds,[],fp,d,rfl,.nil,.nil,rs,(λ_ _ m=>nomatch m),e,λH' v fp en r n fr=>q H' v fp (λa o e=>en a o e λm=>nomatch m) r n λa m=>(fr a m).resolve_right λm=>nomatch m⟩
end
noncomputable def ur(f:Int->Int->Int):D->D->Option D
 |.int i,.int j=>some (.int (f i j))
 |_,_=>none
noncomputable def vz(C:Int->Int->Bool)(f:Int->Int->Int):D->D->Option D
 |.int i,.int j=>if C i j=true then some (.int (f i j)) else none
 |_,_=>none
noncomputable def sR(f:Int->Int->Bool):D->D->Option D
 |.int i,.int j=>some (.bl (f i j))
 |_,_=>none
noncomputable def o7(i j:Int):Bool:=(decide (-(2 ^ 64)<i)&&decide (i<2 ^ 64))||(decide (-(2 ^ 64)<j)&&decide (j<2 ^ 64))
noncomputable def F9(_ j:Int):Bool:=decide (0<j)
def fZ:=ur λi j=>i+j
def j8:=ur λi j=>i-j
def vU:=vz o7 λi j=>i*j
def oMod:=vz F9 λi j=>i % j
def oLt:=sR λi j=>decide (i<j)
def oLe:=sR λi j=>decide (i<=j)
def qY:=sR λi j=>decide (j<i)
def zB:=sR λi j=>decide (j<=i)
noncomputable def oEq:D->D->Option D
 |.int i,.int j=>some (.bl (i==j))
 |.bl i,.bl j=>some (.bl (i==j))
 |.str i,.str j=>some (.bl (i==j))
 |.aA,.aA=>some (.bl true)
 |_,_=>none
noncomputable def l5:D->D->Option D
 |.int i,.int j=>some (.bl (!(i==j)))
 |.bl i,.bl j=>some (.bl (!(i==j)))
 |.str i,.str j=>some (.bl (!(i==j)))
 |.aA,.aA=>some (.bl false)
 |_,_=>none
noncomputable def n8:D->Bool
 |.aA=>true
 |_=>false
def iF:D->D->Option D
 |d,.aA=>some (.bl (n8 d))
 |_,_=>none
def Bs:D->D->Option D
 |d,.aA=>some (.bl (!n8 d))
 |_,_=>none
section
variable{K:PySem.W.Frag}
theorem Pp{g:Int->Int->Int}:fL K (lP λi j=>.int (g i j)) (ur g):=by
 intro H x y d1 d2 f1 f2 d Q r1 r2 e k;unfold ur at e
 split at e
 .cases e;exact⟨_,_,r1.iM.1,r2.iM.1,k H _ (aF.refl H) (.int _)⟩
 .cases e
theorem pN{g:Int->Int->Bool}:fL K (lP λi j=>.bl (g i j)) (sR g):=by
 intro H x y d1 d2 f1 f2 d Q r1 r2 e k;unfold sR at e
 split at e
 .cases e;exact⟨_,_,r1.iM.1,r2.iM.1,k H _ (aF.refl H) (.bl _)⟩
 .cases e
theorem G9{C:Int->Int->Prop}{c:Int->Int->Bool}{g:Int->Int->Int}(h:∀i j,c i j=true->C i j):fL K (rI C λi j=>.int (g i j)) (vz c g):=by
 intro H x y d1 d2 f1 f2 d Q r1 r2 e k;unfold vz at e
 split at e
 .rename_i i j;obtain⟨hc,e⟩:=ci e;cases e;exact⟨i,j,r1.iM.1,r2.iM.1,h i j hc,k H _ (aF.refl H) (.int _)⟩
 .cases e
theorem ac3(i j:Int)(h:o7 i j=true):vd i j:=by
 unfold o7 at h;unfold vd;rcases(aeK _ _).mp h with h|h
 .obtain⟨a,b⟩:=(aaH _ _).mp h;exact .inl ⟨aaK a,aaK b⟩
 .obtain⟨a,b⟩:=(aaH _ _).mp h;exact .inr ⟨aaK a,aaK b⟩
theorem Pd:fL K Lc oEq:=by
 intro H x y d1 d2 f1 f2 d Q r1 r2 e k;unfold oEq at e
 split at e
 .cases e;rw[r1.iM.1,r2.iM.1];refine⟨rfl,?_⟩;rw[zM];exact k H _ (aF.refl H) (.bl _)
 .cases e;rw[r1.yO.1,r2.yO.1];refine⟨rfl,?_⟩;rw[yV];exact k H _ (aF.refl H) (.bl _)
 .cases e;rw[r1.yh.1,r2.yh.1];refine⟨rfl,?_⟩;rw[Bo];exact k H _ (aF.refl H) (.bl _)
 .cases e;rw[r1.Bg.1,r2.Bg.1];exact⟨rfl,by have:=k H (.bl true) (aF.refl H) (.bl _);simpa using this⟩
 .cases e
theorem acu:fL K Oe l5:=by
 intro H x y d1 d2 f1 f2 d Q r1 r2 e k;unfold l5 at e
 split at e
 .cases e;rw[r1.iM.1,r2.iM.1];refine⟨rfl,?_⟩;rw[zM];exact k H _ (aF.refl H) (.bl _)
 .cases e;rw[r1.yO.1,r2.yO.1];refine⟨rfl,?_⟩;rw[yV];exact k H _ (aF.refl H) (.bl _)
 .cases e;rw[r1.yh.1,r2.yh.1];refine⟨rfl,?_⟩;rw[Bo];exact k H _ (aF.refl H) (.bl _)
 .cases e;rw[r1.Bg.1,r2.Bg.1];exact⟨rfl,by have:=k H (.bl false) (aF.refl H) (.bl _);simpa using this⟩
 .cases e
theorem Rep.n8(r:Rep K H d v fp):decide (v=.aA)=n8 d:=by
 cases r<;>first|rfl|exact abD (λe=>nomatch e)
theorem Kz:fL K (λx y H Q=>y=.aA/\Q (.bl (decide (x=.aA))) H) iF:=by
 intro H x y d1 d2 f1 f2 d Q r1 r2 e k;unfold iF at e
 split at e
 .cases e;cases r2;refine⟨rfl,?_⟩;rw[r1.n8];exact k H _ (aF.refl H) (.bl _)
 .cases e
theorem acV:fL K (λx y H Q=>y=.aA/\Q (.bl (!decide (x=.aA))) H) Bs:=by
 intro H x y d1 d2 f1 f2 d Q r1 r2 e k;unfold Bs at e
 split at e
 .cases e;cases r2;refine⟨rfl,?_⟩;rw[r1.n8];exact k H _ (aF.refl H) (.bl _)
 .cases e
end
section
variable{X:Cx}{a b:Expr}{fa fb:EF}{pos:Pos}
theorem dZ(ha:FP X a fa)(hb:FP X b fb):FP X (.BinOp a .Add b pos) (e2 fZ fa fb):=yc U1 Pp ha hb
theorem sE(ha:FP X a fa)(hb:FP X b fb):FP X (.BinOp a .Sub b pos) (e2 j8 fa fb):=yc Xk Pp ha hb
theorem m5(ha:FP X a fa)(hb:FP X b fb):FP X (.BinOp a .Mult b pos) (e2 vU fa fb):=yc WL (G9 ac3) ha hb
theorem uO(ha:FP X a fa)(hb:FP X b fb):FP X (.BinOp a .Mod b pos) (e2 oMod fa fb):=yc Vq (G9 λ_ _ h=>aaK h) ha hb
theorem wQ(ha:FP X a fa)(hb:FP X b fb):FT X (.Compare a [.Lt] [b] pos) (tV (e2 oLt fa fb)):=jh Mg pN ha hb (iY _)
theorem Ti(ha:FP X a fa)(hb:FP X b fb):FT X (.Compare a [.LtE] [b] pos) (tV (e2 oLe fa fb)):=jh yF pN ha hb (iY _)
theorem uS(ha:FP X a fa)(hb:FP X b fb):FT X (.Compare a [.Gt] [b] pos) (tV (e2 qY fa fb)):=jh YV pN ha hb (iY _)
theorem Bx(ha:FP X a fa)(hb:FP X b fb):FT X (.Compare a [.GtE] [b] pos) (tV (e2 zB fa fb)):=jh Ud pN ha hb (iY _)
theorem lS(ha:FP X a fa)(hb:FP X b fb):FT X (.Compare a [.Eq] [b] pos) (tV (e2 oEq fa fb)):=jh Jf Pd ha hb (iY _)
theorem zH(ha:FP X a fa)(hb:FP X b fb):FT X (.Compare a [.NotEq] [b] pos) (tV (e2 l5 fa fb)):=jh aaW acu ha hb (iY _)
theorem zq(ha:FP X a fa)(hb:FP X b fb):FT X (.Compare a [.Is] [b] pos) (tV (e2 iF fa fb)):=jh OH Kz ha hb (iY _)
theorem abZ(ha:FP X a fa)(hb:FP X b fb):FT X (.Compare a [.IsNot] [b] pos) (tV (e2 Bs fa fb)):=jh Wm acV ha hb (iY _)
theorem Sw(ha:FP X a fa)(hb:FP X b fb):FP X (.Compare a [.Eq] [b] pos) (e2 oEq fa fb):=pQ Jf Pd ha hb (iY _)
noncomputable def e1(op:D->Option D)(fa:EF):EF:=λρ=>match fa ρ with
 |some (d1,_)=>(op d1).map λd=>(d,.own)
 |none=>none
theorem xy{op:D->Option D}(e:e1 op fa ρ=some (d,tg)):∃d1 t1,fa ρ=some (d1,t1)/\op d1=some d/\tg=.own:=by
 unfold e1 at e;exists h1,fa ρ,p,e,0;obtain⟨d1,t1⟩:=p;rw[h1] at e;dsimp only at e;exists h3,op d1,d3,e;cases e;exact⟨d1,t1,rfl,h3,rfl⟩
def qB(K:PySem.W.Frag)(r:List V->Hp->VK->Prop)(op:D->Option D):Prop:=∀(H:Hp) (x:V) (d1:D) (f1:List Addr) (d:D) (Q:VK),Rep K H d1 x f1->op d1=some d->
 (∀H' v fp,aF H H'->Rep K H' d v fp->fp.Nodup->(∀a∈fp,H a=none)->Q v H')->r [x] H Q
theorem fp_1{e:Expr}{r:List V->Hp->VK->Prop}{op:D->Option D}(dd:qB X.K r op)(ha:FP X a fa)(he:∀ta,PE X a ta->PE X e (FH r (Ka ta r6))):FP X e (e1 op fa):=by
 obtain⟨t,p,q⟩:=ha;exists 21,he t p;obtain⟨d1,t1,h1,h2,rfl⟩:=xy e;refine q ok h1 λH1 x f1 s1 r1 _=>?_
 exact dd H1 x d1 f1 d Q r1 h2 λH2 v fp s2 r2 nd fr=>k H2 v fp (s1.trans s2) r2 ⟨nd,λa m=>s1.free (fr a m)⟩
noncomputable def gk:D->Option D
 |.lst ds=>some (.int ds.length)
 |.gz ds=>some (.int ds.length)
 |.tup ds=>some (.int ds.length)
 |.bH es=>some (.int es.length)
 |_=>none
theorem g_.or'{r r':List V->Hp->VK->Prop}(h:g_ X f r)(h':g_ X f r'):g_ X f (λxs H Q=>r xs H Q\/r' xs H Q):=by
 intro af s σ H xs us Q I rv q;rcases q with q|q
 .exact h af s σ H xs us Q I rv q
 .exact h' af s σ H xs us Q I rv q
theorem YJ:qB X.K (λxs H Q=>(∃p ys,xs=[V.ref p]/\(bR X.K H p ys\/bZ X.K H p ys)/\Q (.int ys.length) H)\/(∃a ak,xs=[V.ref a]/\H a=some (.dK ak)/\Q (.int ak.length) H)) gk:=by
 intro H x d1 f1 d Q r e k;have fin:∀n:Nat,d=.int n->Q (.int n) H:=λn e=>by subst e;exact k H _ [] (aF.refl H) (.int _) aco λa m=>nomatch m
 cases d1 with
 |lst ds=>
  obtain⟨a,xs,f,rfl,hq,rs,_⟩:=r.dF;cases e;exact .inl ⟨a,xs,rfl,.inl hq,by rw[<- rs.length];exact fin _ rfl⟩
 |gz ds=>
  obtain⟨a,xs,rfl,hq,rs⟩:=r.uB;cases e;exact .inl ⟨a,xs,rfl,.inl hq,by rw[<- rs.length];exact fin _ rfl⟩
 |tup ds=>
  obtain⟨a,xs,rfl,hq,rs⟩:=r.i8;cases e;exact .inl ⟨a,xs,rfl,.inr hq,by rw[<- rs.length];exact fin _ rfl⟩
 |bH es=>
  cases r with
  |bH h hk rs=>
   cases e;refine .inr ⟨_,_,rfl,h,?_⟩;have hl:=congrArg List.length hk;rw[List.length_map,List.length_map] at hl;rw[<- hl];exact fin _ rfl
 |_=>cases e
theorem gK{p:Pos}(hm:X.mg "len"=none)(ha:FP X a fa)(hg:Gl X "len":=by rfl)(hs:starEach [a] X.env=[(false,eval a X.env)]:=by rfl):FP X (.Call (.Name "len" p) [a] [] pos) (e1 gk fa):=
 fp_1 YJ ha λta pa=>wj (g_.or' aae XO) hg hm PySem.boot_len (dY pa fU hs) (he:=hs) (hpl:=rfl)
def sF:D->Option D
 |.lst ds=>if aN ds=true then some (.lst ds) else none
 |.tup ds=>if aN ds=true then some (.lst ds) else none
 |_=>none
theorem RV:qB X.K (λxs H Q=>∃p ys,xs=[V.ref p]/\(bR X.K H p ys\/bZ X.K H p ys)/\∀l,H l=none->Q (.ref l) (upd H l (.lst ys))) sF:=by
 intro H x d1 f1 d Q r e k;have fin:∀{ds:List D}{xs:List V}{f:List Addr},az X.K H ds xs f->(if aN ds=true then some (D.lst ds) else none)=some d->∀l,H l=none->Q (.ref l) (upd H l (.lst xs)):=λ{ds xs f} rs e l hl=>by
  obtain⟨hi,e⟩:=ci e;cases e;have hn:=rs.aD hi;subst hn;have s2:aF H (upd H l (.lst xs)):=λb o e=>by rw[aO (cK e hl)];exact e
  exact k _ _ [l] s2 (.lst cG (rs.same s2)) (aby.mpr ⟨(λm=>by cases m),aco⟩) λa m=>by cases aaX.mp m;exact hl
 cases d1 with
 |lst ds=>
  obtain⟨a,xs,f,rfl,hq,rs,_⟩:=r.dF;exact⟨a,xs,rfl,.inl hq,fin rs e⟩
 |tup ds=>
  obtain⟨a,xs,rfl,hq,rs⟩:=r.i8;exact⟨a,xs,rfl,.inr hq,fin rs e⟩
 |_=>cases e
theorem jN{p:Pos}(hm:X.mg "list"=none)(ha:FP X a fa)(hg:Gl X "list":=by rfl)(hs:starEach [a] X.env=[(false,eval a X.env)]:=by rfl):FP X (.Call (.Name "list" p) [a] [] pos) (e1 sF fa):=
 fp_1 RV ha λta pa=>DH YW hg hm (by rfl) (dY pa fU hs) (he:=hs) (hpl:=rfl)
end
def dW:D->D->Option D
 |.gz ds,.int i=>(dU ds i).bind λd=>if aD d=true then some d else none
 |.lst ds,.int i=>(dU ds i).bind λd=>if aD d=true then some d else none
 |.tup ds,.int i=>(dU ds i).bind λd=>if aD d=true then some d else none
 |_,_=>none
theorem Wb{K:PySem.W.Frag}:fL K (λx y H Q=>EB K x y H Q\/DO K x y H Q\/DP x y H Q) dW:=by
 intro H x y d1 d2 f1 f2 d Q r1 r2 e k;have key:∀{ds:List D}{xs:List V}{f:List Addr}{i:Int},az K H ds xs f->((dU ds i).bind λd=>if aD d=true then some d else none)=some d->∃v,dU xs i=some v/\Rep K H d v []:=λ{ds xs f i} rs e=>by
  unfold dU at e ⊢;rw[<- rs.length];exists h,j6 ds.length i,j,e,0;rw[h,acQ] at e;rw[acQ];exists h2,ds[j]?,d',e,0;rw[h2,acQ] at e
  by_cases hi:aD d'=true
  .rw[if_pos hi] at e;cases e;obtain⟨v,f',hv,rv,_⟩:=rs.get h2;have hn:=rv.aD hi;subst hn;exact⟨v,hv,rv⟩
  .rw[if_neg hi] at e;cases e
 unfold dW at e
 split at e
 .obtain⟨a,xs,rfl,hq,rs⟩:=r1.uB;obtain⟨v,hv,rv⟩:=key rs e;exact .inl ⟨a,xs,_,v,rfl,r2.iM.1,hq,hv,k H v (aF.refl H) rv⟩
 .obtain⟨a,xs,f,rfl,hq,rs,_⟩:=r1.dF;obtain⟨v,hv,rv⟩:=key rs e;exact .inl ⟨a,xs,_,v,rfl,r2.iM.1,hq,hv,k H v (aF.refl H) rv⟩
 .obtain⟨a,xs,rfl,hq,rs⟩:=r1.i8;obtain⟨v,hv,rv⟩:=key rs e;exact .inr (.inl ⟨a,xs,_,v,rfl,r2.iM.1,hq,hv,k H v (aF.refl H) rv⟩)
 .cases e
theorem eZ{X:Cx}{a b:Expr}{fa fb:EF}{pos:Pos}(ha:FP X a fa)(hb:FP X b fb)(hs:Eh b:=by exact λ_ _=>rfl):FP X (.Subscript a b pos) (e2 dW fa fb):=fp_2 Wb ha hb λ_ _ pa pb=>LW Lu pa pb hs
section
variable{ρ ρ':av}{i j:Nat}{d d1 d2:D}{t t1 t2:Tag}{zm:D->D->Option D}{yU:D->Option D}{f g fa fb:EF}{tf tg:TF}{sf sg:SF}{o:Out}
theorem EK:eC d ρ=some (d,.own):=rfl
noncomputable def k1(op:D->Option D):Option (D×Tag)->Option (D×Tag)
 |some (d,_)=>(op d).map λd=>(d,.own)
 |none=>none
theorem vV:e1 yU fa ρ=k1 yU (fa ρ):=by unfold e1 k1;cases fa ρ<;>rfl
theorem KH:k1 yU (some (d,t))=(yU d).map λd=>(d,.own):=rfl
noncomputable def k2(op:D->D->Option D):Option (D×Tag)->Option (D×Tag)->Option (D×Tag)
 |some (d1,_),some (d2,_)=>(op d1 d2).map λd=>(d,.own)
 |_,_=>none
theorem jQ:e2 zm fa fb ρ=k2 zm (fa ρ) (fb ρ):=by unfold e2 k2;cases fa ρ<;>cases fb ρ<;>rfl
theorem yf:k2 zm (some (d1,t1)) (some (d2,t2))=(zm d1 d2).map λd=>(d,.own):=rfl
theorem Kg{α β:Type}{f:α->β}{a:α}:(some a).map f=some (f a):=rfl
noncomputable def kV:Option (D×Tag)->Option Bool
 |some (.bl b,_)=>some b
 |_=>none
theorem x8:tV fa ρ=Ev.kV (fa ρ):=by
 unfold tV Ev.kV;cases fa ρ with
 |none=>rfl
 |some p=>obtain⟨d,t⟩:=p;cases d<;>rfl
theorem LI(h:tf ρ=some true):jY tf tg ρ=tg ρ:=by unfold jY;rw[h]
theorem GO(h:tf ρ=some false):lM tf tg ρ=tg ρ:=by unfold lM;rw[h]
theorem tL(h:tf ρ=some a)(h2:tg ρ=some b):jY tf tg ρ=some (a&&b):=by unfold jY;rw[h];cases a<;>first|exact h2|rfl
theorem Qc(h:tf ρ=some a)(h2:tg ρ=some b):lM tf tg ρ=some (a||b):=by unfold lM;rw[h];cases a<;>first|exact h2|rfl
theorem C0:l7 tf ρ=(tf ρ).map λb=>!b:=rfl
theorem abd:gO ρ=some (.nx ρ):=rfl
noncomputable def zh(g:SF):Option Out->Option Out
 |some (.nx ρ)=>g ρ
 |o=>o
theorem jo:bV sf sg ρ=zh sg (sf ρ):=by
 unfold bV zh;cases sf ρ with
 |none=>rfl
 |some o=>cases o<;>rfl
theorem nu:zh sg (some (.nx ρ))=sg ρ:=rfl
noncomputable def A0(sf sg:SF)(ρ:av):Option Bool->Option Out
 |some true=>sf ρ
 |some false=>sg ρ
 |none=>none
theorem iK:eN tf sf sg ρ=A0 sf sg ρ (tf ρ):=by unfold eN A0;cases tf ρ<;>rfl
theorem P9:A0 sf sg ρ (some true)=sf ρ:=rfl
theorem Ol:A0 sf sg ρ (some false)=sg ρ:=rfl
def K9:Option (D×Tag)->Option Out
 |some (d,t)=>if j_ t=true then some (.rt d) else if aD d=true then some (.rt d) else none
 |none=>none
theorem Aj:oq fa ρ=K9 (fa ρ):=by unfold oq K9;cases fa ρ<;>rfl
def zp(i:Nat)(ρ:av):Option (D×Tag)->Option Out
 |some (d,t)=>some (.nx (iC ρ i d t))
 |none=>none
theorem mO:c8 i fa ρ=zp i ρ (fa ρ):=by unfold c8 zp;cases fa ρ<;>rfl
theorem ya:aI ρ=some []:=rfl
noncomputable def lI:Option (D×Tag)->Option (List (D×Tag))->Option (List (D×Tag))
 |some p,some ps=>some (p::ps)
 |_,_=>none
theorem aW:ay fa a ρ=lI (fa ρ) (a ρ):=by unfold ay lI;cases fa ρ<;>cases a ρ<;>rfl
theorem Bh{p:D×Tag}{ps:List (D×Tag)}:lI (some p) (some ps)=some (p::ps):=rfl
theorem s_call{F:List D->Option D}:cC F a ρ=(a ρ).bind λps=>(F (ps.map (·.1))).map λd=>(d,.own):=rfl
theorem Mh{α β:Type}{f:α->Option β}{a:α}:(some a).bind f=f a:=rfl
theorem o_:kr a ρ=(a ρ).map λps=>(.tup (ps.map (·.1)),ju ps):=rfl
variable{m n:Int}
theorem jv:fZ (.int m) (.int n)=some (.int (m+n)):=rfl
theorem n9(h:o7 m n=true):vU (.int m) (.int n)=some (.int (m*n)):=by show(if o7 m n=true then some (D.int (m*n)) else none)=_;rw[if_pos h]
theorem tR(h:0<n):oMod (.int m) (.int n)=some (.int (m % n)):=by show(if F9 m n=true then some (D.int (m % n)) else none)=_;rw[if_pos (show F9 m n=true from aaD h)]
theorem Pz:oLt (.int m) (.int n)=some (.bl (decide (m<n))):=rfl
theorem V3:oLe (.int m) (.int n)=some (.bl (decide (m<=n))):=rfl
theorem xF:qY (.int m) (.int n)=some (.bl (decide (n<m))):=rfl
theorem aah:zB (.int m) (.int n)=some (.bl (decide (n<=m))):=rfl
theorem zV:gk (.lst ds)=some (.int ds.length):=rfl
theorem qT(h:dU ds m=some d)(hi:aD d=true):dW (.lst ds) (.int m)=some d:=by show((dU ds m).bind λd=>if aD d=true then some d else none)=_;rw[h,acQ,if_pos hi]
theorem abk{ds:List D}(h:dU ds m=some d)(hi:aD d=true):dW (.gz ds) (.int m)=some d:=by show((dU ds m).bind λd=>if aD d=true then some d else none)=_;rw[h,acQ,if_pos hi]
theorem cg{n N:Nat}{b:SF}{ds:List D}(hl:ds.length=n)(h:b (EU N ds)=some (.rt d)):bK n N b ds=some d:=by unfold bK;rw[if_pos hl,h]
end
noncomputable def dI(ns:List Int):D:=.gz (ns.map D.int)
theorem LV{ns:List Int}{i:Int}(h0:0<=i)(h1:i<ns.length):dU (ns.map D.int) i=some (.int (ns.getD i.toNat 0)):=by
 unfold dU j6;have h2:i.toNat<ns.length:=by omega
 rw[List.length_map,if_pos h0,if_pos h1,acQ,ab6,aaQ h2,ac8,aaQ h2];rfl
section
variable{κ:Type}[DecidableEq κ]
def aY(es:List (κ×D))(k:κ):Option D:=(es.find? λkv=>decide (kv.1=k)).map (·.2)
def putD(es:List (κ×D))(k:κ)(d:D):List (κ×D):=
 if(es.any λkv=>decide (kv.1=k))=true then es.map (λkv=>if kv.1=k then(kv.1,d) else kv) else es++[(k,d)]
theorem oV{K:PySem.W.Frag}{k:κ}:∀{es:List (κ×D)}{ak:List (κ×V)}{fp:List Addr},es.map (·.1)=ak.map (·.1)->az K H (es.map (·.2)) (ak.map (·.2)) fp->
  (∀d,aY es k=some d->∃v f,dz ak k=some v/\Rep K H d v f/\∀a∈f,a∈fp)/\(aY es k=none->dz ak k=none)
 |[],[],_,_,_=>⟨λd e=>(nomatch e),λ_=>rfl⟩
 |[],_::_,_,e,_=>by simp at e
 |_::_,[],_,e,_=>by simp at e
 |(q,d0)::es,(q',v0)::ak,fp,e,r=>by
  simp only[aas,adQ] at e;obtain⟨rfl,e⟩:=e;simp only[aas] at r;cases r with
  | @cons _ _ _ _ f1 f2 r1 r2=>
   obtain⟨i1,i2⟩:=oV e r2
   by_cases h:q=k
   .have e1:aY ((q,d0)::es) k=some d0:=by unfold aY;rw[ac9,aaD h];rfl
    refine⟨λd ed=>?_,λen=>?_⟩
    .rw[e1] at ed;cases ed;exact⟨v0,f1,wA h,r1,λa m=>abb _ m⟩
    .rw[e1] at en;cases en
   .have e1:aY ((q,d0)::es) k=aY es k:=by unfold aY;rw[ac9,abD h]
    rw[e1,vE h];exact⟨λd ed=>let⟨v,f,a,b,c⟩:=i1 d ed;⟨v,f,a,b,λx m=>aat _ (c x m)⟩,i2⟩
theorem vg{es:List (κ×D)}{ak:List (κ×V)}{k:κ}(e:es.map (·.1)=ak.map (·.1)):(putD es k d).map (·.1)=(putK ak k v).map (·.1):=by
 have any:(es.any λkv=>decide (kv.1=k))=ak.any λkv=>decide (kv.1=k):=by
  have h1:(es.any λkv=>decide (kv.1=k))=(es.map (·.1)).any λx=>decide (x=k):=by rw[aei];rfl
  have h2:(ak.any λkv=>decide (kv.1=k))=(ak.map (·.1)).any λx=>decide (x=k):=by rw[aei];rfl
  rw[h1,h2,e]
 have m1:∀l:List (κ×D),(l.map λkv=>if kv.1=k then(kv.1,d) else kv).map (·.1)=l.map (·.1):=λl=>by
  rw[ac7];congr 1;funext kv;show(if kv.1=k then(kv.1,d) else kv).1=kv.1;split<;>rfl
 have m2:∀l:List (κ×V),(l.map λkv=>if kv.1=k then(kv.1,v) else kv).map (·.1)=l.map (·.1):=λl=>by
  rw[ac7];congr 1;funext kv;show(if kv.1=k then(kv.1,v) else kv).1=kv.1;split<;>rfl
 unfold putD putK;rw[any]
 by_cases h:(ak.any λkv=>decide (kv.1=k))=true
 .rw[if_pos h,if_pos h,m1,m2,e]
 .rw[if_neg h,if_neg h,adb,adb,e];rfl
theorem Af{K:PySem.W.Frag}{H:Hp}{k:κ}{es:List (κ×D)}{ak:List (κ×V)}(e:es.map (·.1)=ak.map (·.1))(r:az K H (es.map (·.2)) (ak.map (·.2)) [])(rv:Rep K H d v []):
  az K H ((putD es k d).map (·.2)) ((putK ak k v).map (·.2)) []:=by
 have any:(es.any λkv=>decide (kv.1=k))=ak.any λkv=>decide (kv.1=k):=by
  have h1:(es.any λkv=>decide (kv.1=k))=(es.map (·.1)).any λx=>decide (x=k):=by rw[aei];rfl
  have h2:(ak.any λkv=>decide (kv.1=k))=(ak.map (·.1)).any λx=>decide (x=k):=by rw[aei];rfl
  rw[h1,h2,e]
 have go:∀(es:List (κ×D)) (ak:List (κ×V)),es.map (·.1)=ak.map (·.1)->az K H (es.map (·.2)) (ak.map (·.2)) []->az K H ((es.map λkv=>if kv.1=k then(kv.1,d) else kv).map (·.2)) ((ak.map λkv=>if kv.1=k then(kv.1,v) else kv).map (·.2)) []:=by
  intro es
  induction es with
  |nil=>
   intro ak e r;cases ak with
   |nil=>exact .nil
   |cons _ _=>simp at e
  |cons p es ih=>
   intro ak e r;cases ak with
   |nil=>simp at e
   |cons p' ak=>
    obtain⟨q,d0⟩:=p;obtain⟨q',v0⟩:=p';simp only[aas,adQ] at e;obtain⟨rfl,e⟩:=e;simp only[aas] at r ⊢;generalize hf:([]:List Addr)=fp at r;cases r with
    | @cons _ _ _ _ f1 f2 r1 r2=>
     obtain⟨h1,h2⟩:=aes.mp hf.symm;subst h1 h2;have t:=ih ak e r2
     by_cases h:q=k
     .rw[if_pos h,if_pos h];exact az.cons (f1:=[]) (f2:=[]) rv t
     .rw[if_neg h,if_neg h];exact az.cons (f1:=[]) (f2:=[]) r1 t
 unfold putD putK;rw[any]
 by_cases h:(ak.any λkv=>decide (kv.1=k))=true
 .rw[if_pos h,if_pos h];exact go es ak e r
 .rw[if_neg h,if_neg h,adb,adb];exact az.append r (az.cons (f1:=[]) (f2:=[]) rv .nil)
end
noncomputable def gQ:D->Option Key
 |.int i=>some (.inl i)
 |.str x=>some (.inr x)
 |_=>none
theorem Rep.key{K:PySem.W.Frag}{H:Hp}{d:D}(r:Rep K H d y fp)(e:gQ d=some k):y=L2.kV k:=by
 cases r<;>cases e<;>rfl
def kh:D->D->Option D
 |.bH es,kd=>match gQ kd with
  |some k=>(aY es k).bind λd=>if aD d=true then some d else none
  |none=>none
 |_,_=>none
def We:R2:=λx y H Q=>∃a v,x=.ref a/\gq H a y (some v)/\Q v H
theorem YN{K:PySem.W.Frag}:fL K We kh:=by
 intro H x y d1 d2 f1 f2 d Q r1 r2 e k;cases r1 with
 | @bH a ak es fp h hk rs=>
  have e:(match gQ d2 with|some k=>(aY es k).bind λd=>if aD d=true then some d else none|none=>none)=some d:=e;exists wN,gQ d2,key,e;dsimp only at e;exists hv,aY es key,d',e,0;rw[hv,acQ] at e
  by_cases hi:aD d'=true
  .rw[if_pos hi] at e;cases e;obtain⟨v,f,h1,r,_⟩:=(oV (k:=key) hk rs).1 d hv;have hn:=r.aD hi;subst hn;have ek:=r2.key wN;subst ek;have g:=gq.k (k:=key) h;rw[h1] at g;exact⟨a,v,rfl,g,k H v (aF.refl H) r⟩
  .rw[if_neg hi] at e;cases e
 |_=>cases e
section
variable{X:Cx}{a b c:Expr}{fa fb fc:EF}{pos:Pos}
theorem yM(hu:X.A.units+1<cLine)(ha:FP X a fa)(hb:FP X b fb)(hs:yb b:=by exact λ_ _=>rfl):FP X (.Subscript a b pos) (e2 kh fa fb):=
 fp_2 YN ha hb λ_ _ pa pb=>aan hu pa pb hs
def qU(d1 d2 d3:D):Option D:=match d1,gQ d2 with
 |.bH es,some k=>match aY es k with
  |some d=>if aD d=true then some d else none
  |none=>if aD d3=true then some d3 else none
 |_,_=>none
noncomputable def e3(op:D->D->D->Option D)(fa fb fc:EF):EF:=λρ=>match fa ρ,fb ρ,fc ρ with
 |some (d1,_),some (d2,_),some (d3,_)=>(op d1 d2 d3).map λd=>(d,.own)
 |_,_,_=>none
theorem Oo{op:D->D->D->Option D}(e:e3 op fa fb fc ρ=some (d,tg)):∃d1 t1 d2 t2 d3 t3,fa ρ=some (d1,t1)/\fb ρ=some (d2,t2)/\fc ρ=some (d3,t3)/\op d1 d2 d3=some d/\tg=.own:=by
 unfold e3 at e;exists h1,fa ρ,p,e,0;cases h2:fb ρ with
 |none=>rw[h1,h2] at e;cases e
 |some q=>
  cases h3:fc ρ with
  |none=>rw[h1,h2,h3] at e;cases e
  |some r=>
   obtain⟨d1,t1⟩:=p;obtain⟨d2,t2⟩:=q;obtain⟨d3,t3⟩:=r;rw[h1,h2,h3] at e;dsimp only at e;exists h4,op d1 d2 d3,d4,e;cases e;exact⟨d1,t1,d2,t2,d3,t3,rfl,rfl,rfl,h4,rfl⟩
theorem K8{apos fS:Pos}(hu:X.A.units+1<cLine)(ha:FP X a fa)(hb:FP X b fb)(hc:FP X c fc)(m:M2 X a "get" apos b c fS:=by exact⟨rfl,rfl,rfl,rfl⟩):FP X (.Call (.Attribute a "get" apos) [b,c] [] fS) (e3 qU fa fb fc):=by
 obtain⟨ta,pa,sa⟩:=ha;obtain⟨tb,pb,sb⟩:=hb;obtain⟨tc,pc,sc⟩:=hc;exists 21,Em hu pa pb pc m;obtain⟨d1,t1,d2,t2,d3,t3,h1,h2,h3,h4,rfl⟩:=Oo e;refine sa ok h1 λH1 x f1 s1 r1 _=>?_
 cases d1 with
 |bH es=>
  cases r1 with
  | @bH p ak _ fp h hk rs=>
   refine⟨p,rfl,.inl ⟨ak,.inl h⟩,?_⟩;refine sb (ok.same s1) h2 λH2 y f2 s2 r2 _=>?_
   refine sc ((ok.same s1).same s2) h3 λH3 w f3 s3 r3 _=>?_
   unfold qU at h4;exists wN,gQ d2,key,h4;dsimp only at h4;have ek:=r2.key wN;subst ek;have Aa:=s3 _ _ (s2 _ _ h);have g:=gq.k (k:=key) Aa;refine⟨_,g,?_⟩;have uW:=(s1.trans s2).trans s3;obtain⟨i1,i2⟩:=oV hk ((rs.same s2).same s3);cases hv:aY es key with
   |some d'=>
    rw[hv] at h4;dsimp only at h4;obtain⟨hi,h4⟩:=ci h4;cases h4;obtain⟨v,f,e1,r,_⟩:=i1 d hv;have hn:=r.aD hi;subst hn;rw[e1];exact k H3 v [] uW r .nil
   |none=>
    rw[hv] at h4;dsimp only at h4;obtain⟨hi,h4⟩:=ci h4;cases h4;rw[i2 hv];have hn:=r3.aD hi;subst hn;exact k H3 w [] uW r3 .nil
 |_=>cases h4
theorem Ho:FP X (.Dict [] [] pos) (eC (.bH [])):=by
 refine⟨_,XW,@λH0 S z aq ρ σ H Q d tg ok e k p hp=>?_⟩;cases e;have s2:aF H (upd H p (.dK [])):=λb o e=>by rw[aO (cK e hp)];exact e
 exact k _ _ [p] s2 (.bH cG rfl .nil) ⟨aby.mpr ⟨(λm=>by cases m),aco⟩,λa m=>by cases aaX.mp m;exact hp⟩
end
noncomputable def cD(i:Nat):Slot->Slot
 |some (d,.sh o)=>if o.contains i=true then none else some (d,.sh o)
 |s=>s
def bP(ρ:av)(i:Nat)(d:D):av:=(ρ.map (cD i)).set i (some (d,.own))
theorem CV(e:cD i s=some (d,t)):s=some (d,t)/\∀o,t=.sh o->i∉o:=by
 cases s with
 |none=>cases e
 |some w=>
  obtain⟨d',t'⟩:=w;cases t' with
  |sh o=>
   have e:(if o.contains i=true then none else some (d',Tag.sh o))=some (d,t):=e
   split at e
   .cases e
   .rename_i hc;cases e;exact⟨rfl,λo' eo m=>by cases eo;exact hc (ada.mpr m)⟩
  |own=>cases e;exact⟨rfl,λo eo=>by cases eo⟩
  |lk=>cases e;exact⟨rfl,λo eo=>by cases eo⟩
theorem CA(hj:j≠i)(e:(bP ρ i d1)[j]? = some (some (d,t))):ρ[j]? = some (some (d,t))/\(P\/∀o,t=.sh o->i∉o):=by
 unfold bP at e;rw[acO (adW hj),ab6] at e;obtain⟨s,e0,e⟩:=ab8.mp e;obtain⟨rfl,n⟩:=CV e;exact⟨e0,.inr n⟩
theorem ET(h:ρ[i]? = some d0):(bP ρ i d1)[i]? = some (some (d1,.own)):=adB (by rw[List.length_map];exact(abf.mp h).1)
theorem zc:(bP ρ i d1).length=ρ.length:=by unfold bP;rw[aet,List.length_map]
theorem Ok.put{K:PySem.W.Frag}{H0:Hp}{S:List Addr}{z:Addr->Option Nat}{aq:List bX}{ρ:av}(ok:Ok K H0 S z aq ρ σ H)(h:ρ[i]? = some (some (d0,.own)))
  (hs:σ[i]? = some (some v)) (zz:uR z i .own a_) (im:aU H H') (keep:∀b o,b∉a_->H b=some o->H' b=some o) (r1:Rep K H' d1 v bN) (nd:bN.Nodup) (fr:∀b∈bN,b∈a_\/H b=none):∃z',Ok K H0 S z' aq (bP ρ i d1) σ H':=
 ⟨_,ok.chg (ET h) hs zz.2 im keep r1 ⟨nd,λa m=>if_pos m⟩ (Gb zz.2) (λa m=>⟨fr a m,let⟨o,w,_⟩:=r1.b7 a m;⟨o,w⟩⟩) CA (λ_ _=>rfl) (.inr λn=>n _ h) (zc.trans ok.ln)⟩
theorem Ok.zQ{K:PySem.W.Frag}{o o':HO}(ok:Ok K H0 S z aq ρ σ H)(h:ρ[i]? = some (some (d0,.own)))
  (hs:σ[i]? = some (some v)) (zz:uR z i .own fp) (hp:p∈fp) (ho:H p=some o) (mo:gS o=true) (r1:Rep K (upd H p o') d1 v fp):Ok K H0 S z aq (bP ρ i d1) σ (upd H p o'):=
 ok.chg (ET h) hs zz.2 (aU.upd ho mo) (λb o n e=>by rw[aO λq:b=p=>n (q ▸ hp)];exact e) r1 zz (λa n=>.inr ⟨rfl,n,λ_ n=>n _ h⟩) (λa m=>⟨.inl m,let⟨o,w,_⟩:=r1.b7 a m;⟨o,w⟩⟩) CA (λ_ _=>rfl) (.inr λn=>n _ h) (zc.trans ok.ln)
section
variable{X:Cx}{pos:Pos}
def pI(i:Nat)(fk fv:EF):SF:=λρ=>match fv ρ,ρ[i]?,fk ρ with
 |some (d,_),some (some (.bH es,.own)),some (kd,_)=>match gQ kd with
  |some k=>if(aD d&&aN (es.map (·.2))&&decide (es.length<sizeLine))=true then some (.nx (bP ρ i (.bH (putD es k d)))) else none
  |none=>none
 |_,_,_=>none
theorem zw(i:Nat){x:Str}(hu:X.A.units+1<cLine)(hk:FP X k fk)(hv:FP X v fv)(va:VA X i x:=by walk_at "va")(hs:swapsWith v (some (.Subscript (.Name x p1) k pos')) pos.line X.env=pure false:=by rfl):
  eO X (.Assign [.Subscript (.Name x p1) k pos'] v pos) (pI i fk fv):=by
 obtain⟨tk,pk,sk⟩:=hk;obtain⟨tv,lG,sv⟩:=hv;exists 25,As hu va.pe pk lG hs;unfold pI at e
 split at e
 .rename_i d td es kd M6 h1 h2 h3;exists h4,gQ kd,key,e;dsimp only at e;obtain⟨hc,e⟩:=ci e;cases e;obtain⟨qN,CC⟩:=(aaH _ _).mp hc;obtain⟨qN,uV⟩:=(aaH _ _).mp qN;have hz:=aaK CC;refine sv ok h1 λH1 v HU s1 rv _=>?_
  obtain⟨xv,fp,cz,r,zz⟩:=(ok.same s1).sl i _ _ h2;refine⟨xv,cz,?_⟩;refine sk (ok.same s1) h3 λH2 y HW s2 rk _=>?_
  have ek:=rk.key h4;subst ek;have r':=r.same s2;cases r' with
  | @bH a ak _ f h fY rs=>
   have hn:=rs.aD uV;subst hn;have yj:=rv.aD qN;subst yj;have hl:ak.length=es.length:=by have:=congrArg List.length fY;simpa using this.symm
   refine⟨a,_,rfl,oA.k h (by rw[hl];exact hz),?_⟩;have im:aU H2 (upd H2 a (.dK (putK ak key v))):=aU.upd h rfl;refine q z σ _ (Ok.zQ ((ok.same s1).same s2) h2 cz zz aam h rfl (.bH cG (vg fY) ?_)) (.refl _ _);exact Af fY (rs.frame (λa m=>nomatch m) im) ((rv.same s2).frame (λa m=>nomatch m) im)
 .cases e
end
noncomputable def tu(x:Int):List Int->List Int
 |[]=>[x]
 |y::r=>if x<=y then x::y::r else y::tu x r
def cj:List Int->List Int
 |[]=>[]
 |x::r=>tu x (cj r)
theorem BP(x:Int):∀l:List Int,(tu x l).Perm (x::l)
 |[]=>.refl _
 |y::r=>by
  unfold tu
  split
  .exact .refl _
  .exact((BP x r).cons y).trans (.swap x y r)
theorem oX:∀l:List Int,(cj l).Perm l
 |[]=>.refl _
 |x::r=>(BP x (cj r)).trans ((oX r).cons x)
theorem Nt(x:Int):∀{l:List Int},l.Pairwise (·<=·)->(tu x l).Pairwise (·<=·)
 |[],_=>List.pairwise_singleton _ _
 |y::r,h=>by
  obtain⟨h1,h2⟩:=adf.mp h;unfold tu
  split
  .rename_i hx;exact adf.mpr ⟨λz m=>(aaV.mp m).elim (λe=>e ▸ hx) λm=>Int.le_trans hx (h1 z m),h⟩
  .rename_i hx;refine adf.mpr ⟨λz m=>?_,Nt x h2⟩;rcases aaV.mp ((BP x r).mem_iff.mp m) with e|m
   .rw[e];lia
   .exact h1 z m
theorem zj:∀l:List Int,(cj l).Pairwise (·<=·)
 |[]=>.nil
 |x::r=>Nt x (zj r)
theorem Bw(p:a.Perm b)(s:a.Pairwise (·<=·)):a=cj b:=by
 have q:=p.trans (oX b).symm;exact q.eq_of_pairwise (λx y _ _ h1 h2=>Int.le_antisymm h1 h2) s (zj b)
theorem uv(l:List Int):(cj l).length=l.length:=(oX l).length_eq
noncomputable def dM:List D->Option (List Int)
 |[]=>some []
 |.int i::r=>(dM r).map (i::·)
 |_=>none
noncomputable def iI{α:Type}:List (Key×α)->Option (List Int)
 |[]=>some []
 |(.inl i,_)::r=>(iI r).map (i::·)
 |_=>none
theorem qP{K:PySem.W.Frag}:∀{ds:List D}{xs:List V}{fp:List Addr}{ns:List Int},az K H ds xs fp->dM ds=some ns->xs=ns.map V.int
 |_,_,_,ns,.nil,e=>by cases e;rfl
 |_,_,_,ns,.cons (d:=d) h t,e=>by
  cases d with
  |int i=>
   unfold dM at e;exists q,dM _,r,e;cases e;cases h;rw[qP t q];rfl
  |_=>cases e
theorem tQ(ns:List Int):dM (ns.map D.int)=some ns:=by
 induction ns with
 |nil=>rfl
 |cons n r ih=>rw[aas];unfold dM;rw[ih];rfl
theorem N7{α:Type}:∀{es:List (Key×α)}{ks:List Int},iI es=some ks->es.map (·.1)=ks.map Sum.inl
 |[],ks,e=>by cases e;rfl
 |(.inl i,_)::r,ks,e=>by
  unfold iI at e;exists q,iI r,l,e;cases e;rw[aas,N7 q];rfl
 |(.inr _,_)::_,_,e=>by cases e
def lJ:D->Option D
 |.lst ds=>match dM ds with
  |some ns=>if ns.length<64 then some (.lst ((cj ns).map D.int)) else none
  |none=>none
 |.bH es=>match iI es with
  |some ns=>if ns.length<64 then some (.lst ((cj ns).map D.int)) else none
  |none=>none
 |_=>none
theorem xH{K:PySem.W.Frag}:∀ns:List Int,az K H (ns.map D.int) (ns.map V.int) []
 |[]=>.nil
 |n::r=>az.cons (f1:=[]) (f2:=[]) (.int n) (xH r)
theorem abv{K:PySem.W.Frag}:qB K (M4 K) lJ:=by
 intro H x d1 f1 d Q r e k;have fin:∀(ns:List Int),(if ns.length<64 then some (D.lst ((cj ns).map D.int)) else none)=some d->ns.length<64/\∀l (ou:List Int),H l=none->ou.Perm ns->ou.Pairwise (·<=·)->Q (.ref l) (upd H l (.lst (ou.map V.int))):=λns e=>by
  by_cases h:ns.length<64
  .rw[if_pos h] at e;cases e;refine⟨h,λl ou hl p s=>?_⟩;have eq:=Bw p s;subst eq;have s2:aF H (upd H l (.lst ((cj ns).map V.int))):=λb o e=>by rw[aO (cK e hl)];exact e
   exact k _ _ [l] s2 (.lst cG (xH _)) (aby.mpr ⟨(λm=>by cases m),aco⟩) λa m=>by cases aaX.mp m;exact hl
  .rw[if_neg h] at e;cases e
 cases d1 with
 |lst ds=>
  obtain⟨a,xs,f,rfl,hq,rs,_⟩:=r.dF;have e:(match dM ds with|some ns=>if ns.length<64 then some (D.lst ((cj ns).map D.int)) else none|none=>none)=some d:=e;cases h:dM ds with
  |none=>rw[h] at e;cases e
  |some ns=>
   rw[h] at e;obtain⟨h1,h2⟩:=fin ns e;have ex:=qP rs h;subst ex;exact⟨a,ns,rfl,h1,.inr hq,h2⟩
 |bH es=>
  cases r with
  | @bH a ak _ fp h hk rs=>
   have e:(match iI es with|some ns=>if ns.length<64 then some (D.lst ((cj ns).map D.int)) else none|none=>none)=some d:=e;cases h':iI es with
   |none=>rw[h'] at e;cases e
   |some ns=>
    rw[h'] at e;obtain⟨h1,h2⟩:=fin ns e;exact⟨a,ns,rfl,h1,.inl ⟨ak,h,by rw[<- hk];exact N7 h'⟩,h2⟩
 |_=>cases e
def jm:List D->Option (List (Key×D))
 |[]=>some []
 |.tup [kd,d]::r=>match gQ kd,jm r with
  |some k,some ps=>if aD d=true then some ((k,d)::ps) else none
  |_,_=>none
 |_=>none
def wX:D->Option D
 |.lst ds=>(jm ds).map λps=>.bH (ps.foldl (λm p=>putD m p.1 p.2) [])
 |.tup ds=>(jm ds).map λps=>.bH (ps.foldl (λm p=>putD m p.1 p.2) [])
 |.bH es=>if aN (es.map (·.2))=true then some (.bH es) else none
 |_=>none
theorem abA:bootBuiltins "min"=some (.builtin "min"):=by decide +kernel
theorem Su:bootBuiltins "sorted"=some (.builtin "sorted"):=by decide +kernel
section
variable{X:Cx}{a b:Expr}{fa fb:EF}{pos:Pos}
theorem vK{p:Pos}(hc:X.calm=true)(hm:X.mg "sorted"=none)(ha:FP X a fa)(hg:Gl X "sorted":=by rfl)(hs:starEach [a] X.env=[(false,eval a X.env)]:=by rfl):FP X (.Call (.Name "sorted" p) [a] [] pos) (e1 lJ fa):=
 fp_1 abv ha λta pa=>wj (Vx hc) hg hm Su (dY pa fU hs) (he:=hs) (hpl:=rfl)
def sQ:D->D->Option D:=ur λi j=>if j<i then j else i
noncomputable def jR:List Int->Int
 |[]=>0
 |[x]=>x
 |x::r=>if x<=jR r then x else jR r
theorem G4:∀{l:List Int},l≠[]->jR l∈l/\∀x∈l,jR l<=x
 |[x],_=>⟨aam,λy m=>by rw[aaX.mp m];exact Int.le_refl _⟩
 |x::y::r,_=>by
  obtain⟨h1,h2⟩:=G4 (l:=y::r) (by simp);show(if x<=jR (y::r) then x else jR (y::r))∈_/\∀z∈_,(if x<=jR (y::r) then x else jR (y::r))<=z
  by_cases h:x<=jR (y::r)
  .rw[if_pos h];exact⟨aam,λz m=>(aaV.mp m).elim (λe=>by rw[e];exact Int.le_refl _) λm=>Int.le_trans h (h2 z m)⟩
  .rw[if_neg h];exact⟨aal _ h1,λz m=>(aaV.mp m).elim (λe=>by rw[e];lia) λm=>h2 z m⟩
def Rq:D->D->Option D
 |.lst ds,z=>match dM ds with
  |some []=>if aD z=true then some z else none
  |some (n::r)=>some (.int (jR (n::r)))
  |none=>none
 |_,_=>none
theorem C1{p:Pos}(hc:X.calm=true)(hm:X.mg "min"=none)(ha:FP X a fa)(hb:FP X b fb)(hg:Gl X "min":=by rfl)(hs:starEach [a,b] X.env=[(false,eval a X.env),(false,eval b X.env)]:=by rfl)(dG:starEach [b] X.env=[(false,eval b X.env)]:=by rfl)(hpl:(backTo pos (starEach [b] X.env)).any (·.1)=false:=by rfl):
  FP X (.Call (.Name "min" p) [a,b] [] pos) (e2 sQ fa fb):=by
 obtain⟨ta,pa,sa⟩:=ha;obtain⟨tb,pb,sb⟩:=hb;exists 21,wj (QM hc) hg hm abA (dY pa (dY pb fU dG) (by rw[hs,dG])) (he:=by rw[hs,dG]) (hpl:=hpl);obtain⟨d1,t1,d2,t2,h1,h2,h3,rfl⟩:=pL e;refine sa ok h1 λH1 x f1 s1 r1 _=>?_
 refine sb (ok.same s1) h2 λH2 y f2 s2 r2 _=>?_
 unfold sQ ur at h3
 split at h3
 .cases h3;exact⟨_,_,by rw[r1.iM.1,r2.iM.1],k H2 _ [] (s1.trans s2) (.int _) .nil⟩
 .cases h3
theorem abT(hc:X.calm=true)(hm:X.mg "min"=none)(ha:FP X a fa)(hb:FP X b fb)(hg:Gl X "min":=by rfl)(hs:starEach [a] X.env=[(false,eval a X.env)]:=by rfl)
  (h1:backTo pos (starEach [a] X.env)=(false,eval a X.env)::backTo pos (starEach [] X.env):=by rfl) (h2:(backTo pos (starEach [a] X.env)).any (·.1)=false:=by rfl)
  (h3:(backToKw pos (keywordEach [⟨some "default",b,kp⟩] X.env)).all (·.1.isSome)=true:=by rfl) (h4:(backToKw pos (keywordEach [⟨some "default",b,kp⟩] X.env)).any (·.1.isNone)=false:=by rfl)
  (h5:(backToKw pos (keywordEach [⟨some "default",b,kp⟩] X.env)).filterMap (·.1)=[("default":Str)]:=by rfl) :
  FP X (.Call (.Name "min" p) [a] [⟨some "default",b,kp⟩] pos) (e2 Rq fa fb):=by
 obtain⟨ta,pa,sa⟩:=ha;obtain⟨tb,pb,sb⟩:=hb;exists 21,abg hc hm pa pb hg hs h1 h2 h3 h4 h5;obtain⟨d1,t1,d2,t2,g1,g2,g3,rfl⟩:=pL e;refine sa ok g1 λH1 x f1 s1 r1 _=>?_
 refine sb (ok.same s1) g2 λH2 y f2 s2 r2 _=>?_
 cases d1 with
 |lst ds=>
  obtain⟨l,xs,f,rfl,hq,rs,_⟩:=(r1.same s2).dF;have g3:(match dM ds with|some []=>if aD d2=true then some d2 else none|some (n::r)=>some (.int (jR (n::r)))|none=>none)=some d:=g3;cases h:dM ds with
  |none=>rw[h] at g3;cases g3
  |some ns=>
   rw[h] at g3;have ex:=qP rs h;subst ex;refine⟨l,ns,rfl,hq,?_⟩;cases ns with
   |nil=>
    have g3:=g3
    by_cases hi:aD d2=true
    .rw[if_pos hi] at g3;cases g3;have hn:=r2.aD hi;subst hn;exact .inl ⟨rfl,k H2 y [] (s1.trans s2) r2 .nil⟩
    .rw[if_neg hi] at g3;cases g3
   |cons n r=>
    cases g3;refine .inr ⟨by simp,λm nI sY=>?_⟩;obtain⟨q1,q2⟩:=G4 (l:=n::r) (by simp);have em:=Int.le_antisymm (sY _ q1) (q2 m nI);rw[em];exact k H2 _ [] (s1.trans s2) (.int _) .nil
 |_=>cases g3
end
theorem MP{K:PySem.W.Frag}:∀{ds:List D}{xs:List V}{fp:List Addr}{ps:List (Key×D)},az K H ds xs fp->jm ds=some ps->
  ∃qs:List (Key×V),Paired (λy (q:Key×V)=>∃a,y=.ref a/\bZ K H a [L2.kV q.1,q.2]) xs qs/\ps.map (·.1)=qs.map (·.1)/\az K H (ps.map (·.2)) (qs.map (·.2)) []
 |_,_,_,ps,.nil,e=>by cases e;exact⟨[],.nil,rfl,.nil⟩
 |_,_,_,ps,.cons (d:=d) (ds:=dr) h t,e=>by
  unfold jm at e
  split at e
  .rename_i heq;cases heq
  .rename_i kd d' r heq;cases heq;exists h1,gQ kd,k,e,0;cases h2:jm dr with
   |none=>rw[h1,h2] at e;cases e
   |some pr=>
    rw[h1,h2] at e;dsimp only at e;obtain⟨hi,e⟩:=ci e;cases e;obtain⟨qs,a1,a2,a3⟩:=MP t h2;obtain⟨a,ys,rfl,hq,rs⟩:=h.i8;cases rs with
    |cons rk rs=>
     cases rs with
     |cons rv rs=>
      cases rs with
      |nil=>
       have ek:=rk.key h1;subst ek;have hn:=rv.aD hi;subst hn;exact⟨(k,_)::qs,.cons ⟨a,rfl,hq⟩ a1,by rw[aas,aas,a2],az.cons (f1:=[]) (f2:=[]) rv a3⟩
  .cases e
theorem JV{K:PySem.W.Frag}:∀{ps:List (Key×D)}{qs:List (Key×V)}{es:List (Key×D)}{ak:List (Key×V)},ps.map (·.1)=qs.map (·.1)->az K H (ps.map (·.2)) (qs.map (·.2)) []->es.map (·.1)=ak.map (·.1)->az K H (es.map (·.2)) (ak.map (·.2)) []->
  (ps.foldl (λm p=>putD m p.1 p.2) es).map (·.1)=(qs.foldl (λm q=>putK m q.1 q.2) ak).map (·.1)/\az K H ((ps.foldl (λm p=>putD m p.1 p.2) es).map (·.2)) ((qs.foldl (λm q=>putK m q.1 q.2) ak).map (·.2)) []
 |[],[],_,_,_,_,h1,h2=>⟨h1,h2⟩
 |[],_::_,_,_,e,_,_,_=>by simp at e
 |_::_,[],_,_,e,_,_,_=>by simp at e
 |(k,d)::ps,(k',v)::qs,es,ak,e,r,h1,h2=>by
  simp only[aas,adQ] at e;obtain⟨rfl,e⟩:=e;simp only[aas] at r;generalize hf:([]:List Addr)=fp at r;cases r with
  | @cons _ _ _ _ f1 f2 r1 r2=>
   obtain⟨z1,z2⟩:=aes.mp hf.symm;subst z1 z2;rw[adx,adx];exact JV e r2 (vg h1) (Af h1 h2 r1)
theorem Yx{K:PySem.W.Frag}:qB K (λxs H Q=>Ds K xs H Q\/∃a ak,xs=[V.ref a]/\H a=some (.dK ak)/\∀l,H l=none->Q (.ref l) (upd H l (.dK ak))) wX:=by
 intro H x d1 f1 d Q r e k;have fresh:∀{o:HO}{l:Addr},H l=none->aF H (upd H l o):=λhl b o e=>by rw[aO (cK e hl)];exact e
 have Js:∀l:Addr,([l]:List Addr).Nodup:=λl=>aby.mpr ⟨(λm=>by cases m),aco⟩
 have seq:∀{ds:List D}{xs:List V}{f:List Addr}{p:Addr},az K H ds xs f->(bR K H p xs\/bZ K H p xs)->((jm ds).map λps=>D.bH (ps.foldl (λm p=>putD m p.1 p.2) []))=some d->Ds K [.ref p] H Q:=λ{ds xs f p} rs hq e=>by
  exists h,jm ds,ps,e;cases e;obtain⟨qs,a1,a2,a3⟩:=MP rs h;refine⟨p,xs,qs,rfl,hq,a1,λl hl=>?_⟩;obtain⟨b1,b2⟩:=JV (es:=[]) (ak:=[]) a2 a3 rfl .nil;exact k _ _ [l] (fresh hl) (.bH cG b1 (b2.same (fresh hl))) (Js l) λa m=>by cases aaX.mp m;exact hl
 cases d1 with
 |lst ds=>
  obtain⟨a,xs,f,rfl,hq,rs,_⟩:=r.dF;exact .inl (seq rs (.inl hq) e)
 |tup ds=>
  obtain⟨a,xs,rfl,hq,rs⟩:=r.i8;exact .inl (seq rs (.inr hq) e)
 |bH es=>
  cases r with
  | @bH a ak _ fp h hk rs=>
   have e:(if aN (es.map (·.2))=true then some (D.bH es) else none)=some d:=e;obtain⟨hi,e⟩:=ci e;cases e;have hn:=rs.aD hi;subst hn;exact .inr ⟨a,ak,rfl,h,λl hl=>k _ _ [l] (fresh hl) (.bH cG hk (rs.same (fresh hl))) (Js l) λa m=>by cases aaX.mp m;exact hl⟩
 |_=>cases e
section
variable{X:Cx}{a b:Expr}{fa fb:EF}{pos:Pos}
theorem Xn:g_ X (.type "dict") (λxs H Q=>∃a ak,xs=[V.ref a]/\H a=some (.dK ak)/\∀l,H l=none->Q (.ref l) (upd H l (.dK ak))):=by
 intro af s σ H xs us Q I r h;obtain⟨a,ak,rfl,ha,q⟩:=h;obtain⟨u,rfl,ru⟩:=vals1 r;cases ru;exact Y8 I (.inl ha) λp s' hp I'=>⟨.ref p,_,I',rfl,q p hp⟩
theorem Bq{p:Pos}(hc:X.calm=true)(hm:X.mg "dict"=none)(ha:FP X a fa)(hg:Gl X "dict":=by rfl)(hs:starEach [a] X.env=[(false,eval a X.env)]:=by rfl):FP X (.Call (.Name "dict" p) [a] [] pos) (e1 wX fa):=
 fp_1 Yx ha λta pa=>DH (g_.or' (XZ hc) Xn) hg hm (show bootBuiltins "dict"=some (.type "dict") by decide +kernel) (dY pa fU hs) (he:=hs) (hpl:=rfl)
def vM:D->Option D
 |.lst ds=>if aN ds=true then some (.tup ds) else none
 |.tup ds=>if aN ds=true then some (.tup ds) else none
 |_=>none
theorem Yp:qB X.K (λxs H Q=>∃p ys,xs=[V.ref p]/\((bR X.K H p ys/\∀l,H l=none->Q (.ref l) (upd H l (.tup ys)))\/(bZ X.K H p ys/\Q (.ref p) H))) vM:=by
 intro H x d1 f1 d Q r e k;cases d1 with
 |lst ds=>
  obtain⟨a,xs,f,rfl,hq,rs,_⟩:=r.dF;have e:(if aN ds=true then some (D.tup ds) else none)=some d:=e;obtain⟨hi,e⟩:=ci e;cases e;have hn:=rs.aD hi;subst hn;refine⟨a,xs,rfl,.inl ⟨hq,λl hl=>?_⟩⟩;have s2:aF H (upd H l (.tup xs)):=λb o e=>by rw[aO (cK e hl)];exact e
  exact k _ _ [] s2 (.tup (bZ.of cG) (rs.same s2)) aco λa m=>nomatch m
 |tup ds=>
  obtain⟨a,xs,rfl,hq,rs⟩:=r.i8;have e:(if aN ds=true then some (D.tup ds) else none)=some d:=e;obtain⟨hi,e⟩:=ci e;cases e;have hn:=rs.aD hi;subst hn;exact⟨a,xs,rfl,.inr ⟨hq,k H _ [] (aF.refl H) (.tup hq rs) aco λa m=>nomatch m⟩⟩
 |_=>cases e
theorem uT{p:Pos}(hm:X.mg "tuple"=none)(ha:FP X a fa)(hg:Gl X "tuple":=by rfl)(hs:starEach [a] X.env=[(false,eval a X.env)]:=by rfl):FP X (.Call (.Name "tuple" p) [a] [] pos) (e1 vM fa):=
 fp_1 Yp ha λta pa=>DH S9 hg hm (show bootBuiltins "tuple"=some (.type "tuple") by decide +kernel) (dY pa fU hs) (he:=hs) (hpl:=rfl)
end
section
variable{X:Cx}{af:List (Addr×Obj)}{σ:St}{H:Hp}{s:Shared}
def xK(N:List Str)(uF sc:Scope)(M:List Str)(js:List (Option Nat)):Bool:=
 (sc.kind == .function)&&sc.names.all (λy=>y.2 != .cell)&&sc.names.all (λy=>if y.2 == .local then sc.names.lookup y.1==some .local else true)&&nV N sc M js&&(frees sc).all (λx=>uF.names.lookup x==some .cell||uF.names.lookup x==some .free)&&decide M.Nodup
theorem Wl(h1:X.N=N)(h2:X.env.scope=uF)(h3:X.env.kindOf=λx=>uF.names.lookup x)(h:xK N uF sc M js=true):nE X M js sc:=by
 unfold xK at h;obtain⟨h,a6⟩:=(aaH _ _).mp h;obtain⟨h,a5⟩:=(aaH _ _).mp h;obtain⟨h,a4⟩:=(aaH _ _).mp h;obtain⟨h,a3⟩:=(aaH _ _).mp h;obtain⟨a1,a2⟩:=(aaH _ _).mp h;refine⟨?_,λy hy=>?_,λy hy hl=>?_,?_,λx hx=>?_,aaK a6⟩
 .cases hk:sc.kind<;>rw[hk] at a1<;>first|rfl|exact absurd a1 (by decide)
 .have:=ac6.mp a2 y hy;intro z;rw[z] at this;exact absurd this (by decide)
 .have:=ac6.mp a3 y hy;rw[hl] at this;have this:=this;cases q:sc.names.lookup y.1 with
  |none=>rw[q] at this;exact absurd this (by decide)
  |some k=>rw[q] at this;cases k<;>first|rfl|exact absurd this (by decide)
 .rw[h1];exact a4
 .have:=ac6.mp a5 x hx;rw[h3];dsimp only;cases q:uF.names.lookup x with
  |none=>rw[q] at this;exact absurd this (by decide)
  |some k=>rw[q] at this;cases k<;>first|exact .inl rfl|exact .inr rfl|exact absurd this (by decide)
end
theorem cu.back(g:cu z H1 t fp)(s:aF H H1):cu z H t fp:=by
 cases t with
 |sh o=>exact g
 |own=>exact⟨g.1,λa m=>s.free (g.2 a m)⟩
 |lk=>exact⟨g.1,λa m=>s.free (g.2 a m)⟩
section
variable{X:Cx}{a b:Expr}{fa fb:EF}{pos:Pos}
noncomputable def xr(fa fb:EF):EF:=λρ=>match fa ρ with
 |some (.bl true,_)=>fb ρ
 |some (.bl false,_)=>some (.bl false,.own)
 |_=>none
noncomputable def Uv:D->Option D
 |.bl b=>some (.bl (!b))
 |_=>none
theorem sP{op}(h:FP X a fa):FP X (.BoolOp op [a] pos) fa:=let⟨t,p,q⟩:=h;⟨t,MC p,q⟩
theorem oB{rest:List Expr}(ha:FP X a fa)(hb:FP X (.BoolOp .And (b::rest) pos) fb):FP X (.BoolOp .And (a::b::rest) pos) (xr fa fb):=by
 obtain⟨t,p,q⟩:=ha;obtain⟨t',p',q'⟩:=hb;exists 21,Rb p p';unfold xr at e
 split at e
 .rename_i tt h;refine q ok h λH1 v fp s1 r1 _=>?_
  cases r1;refine⟨true,rfl,?_⟩;rw[if_pos rfl];exact q' (ok.same s1) e λH2 v fp s2 r2 g2=>k H2 v fp (s1.trans s2) r2 (g2.back s1)
 .rename_i tt h;cases e;refine q ok h λH1 v fp s1 r1 _=>?_
  cases r1;refine⟨false,rfl,?_⟩;rw[if_neg aa9];exact k H1 _ [] s1 (.bl _) .nil
 .cases e
theorem Yr(ha:FP X a fa):FP X (.UnaryOp .Not a pos) (e1 Uv fa):=by
 obtain⟨t,p,q⟩:=ha;exists 21,VZ p;obtain⟨d1,t1,h1,h2,rfl⟩:=xy e;refine q ok h1 λH1 v fp s1 r1 _=>?_
 cases r1<;>cases h2
 exact⟨_,rfl,k H1 _ [] s1 (.bl _) .nil⟩
def fP:D->D->Option D
 |.lst ds,.lst es=>if(aN ds&&aN es&&decide (ds.length+es.length<=sizeLine))=true then some (.lst (ds++es)) else none
 |_,_=>none
theorem pK(ha:FP X a fa)(hb:FP X b fb):FP X (.BinOp a .Add b pos) (e2 fP fa fb):=by
 obtain⟨ta,pa,sa⟩:=ha;obtain⟨tb,pb,sb⟩:=hb;exists 20,LR Q4 pa pb;obtain⟨d1,t1,d2,t2,e1,jj,e3,rfl⟩:=pL e;refine sa ok e1 λH1 x f1 s1 r1 _=>?_
 refine sb (ok.same s1) jj λH2 y f2 s2 r2 _=>?_
 unfold fP at e3
 split at e3
 .rename_i ds es;obtain⟨hc,e3⟩:=ci e3;cases e3;obtain⟨c1,c3⟩:=(aaH _ _).mp hc;obtain⟨c1,c2⟩:=(aaH _ _).mp c1;have r1:=r1.same s2;cases r1 with
  | @lst p xs _ f h rs=>
   cases r2 with
   | @lst p' ys _ f' h' HD=>
    have n1:=rs.aD c1;have n2:=HD.aD c2;subst n1 n2;refine⟨p,p',xs,ys,rfl,rfl,h,h',by rw[<- rs.length,<- HD.length];exact aaK c3,λl hl=>?_⟩;have s3:aF H2 (upd H2 l (.lst (xs++ys))):=λb o e=>by rw[aO (cK e hl)];exact e
    have rr:az X.K H2 (ds++es) (xs++ys) []:=az.append rs HD;refine q _ _ [l] ((s1.trans s2).trans s3) (.lst cG (rr.same s3)) ⟨aby.mpr ⟨(λm=>by cases m),aco⟩,λa m=>?_⟩;cases aaX.mp m;exact(s1.trans s2).free hl
 .cases e3
noncomputable def CY:D->Option String
 |.int _=>some "int"
 |.bl _=>some "bool"
 |.str _=>some "str"
 |.aA=>some "NoneType"
 |.lst _=>some "list"
 |.bH _=>some "dict"
 |_=>none
def L6(T:String)(d:D):Option D:=match CY d with
 |some t=>some (.bl (t==T||(t == "bool"&&T == "int")))
 |none=>none
def Df(T:String):Prop:=∀(K:PySem.W.Frag) (t:String),t∈["int","bool","str","NoneType","list","dict"]->PySem.W.kitOne K (.type t) (.type T)=some (t==T||(t == "bool"&&T == "int"))
theorem XM:Df "int":=by
 intro K t m;simp only[aaV,adp,aeV] at m;rcases m with rfl|rfl|rfl|rfl|rfl|rfl<;>rfl
theorem VH:Df "bool":=by
 intro K t m;simp only[aaV,adp,aeV] at m;rcases m with rfl|rfl|rfl|rfl|rfl|rfl<;>rfl
theorem Qy(T:String):g_ X (.builtin "isinstance") (λxs H Q=>∃x t b,xs=[x,V.ty T]/\jz X.K H x t/\PySem.W.kitOne X.K t (.type T)=some b/\Q (.bl b) H):=by
 intro af s σ H xs us Q I r h;obtain⟨x,t,bb,rfl,ty,e,q⟩:=h;obtain⟨u,w',rfl,ru,fQ⟩:=vals2 r;cases fQ;exact U3 I ru ty e λtk=>⟨.bl bb,H,I.tok tk,rfl,q⟩
theorem Rep.ty{K:PySem.W.Frag}{H:Hp}{d:D}{v:V}{fp:List Addr}{t:String}(r:Rep K H d v fp)(e:CY d=some t):jz K H v (.type t)/\t∈["int","bool","str","NoneType","list","dict"]:=by
 cases r with
 |aA=>cases e;exact⟨.aA,by decide⟩
 |bl b=>cases e;exact⟨.bl b,by decide⟩
 |int i=>cases e;exact⟨.int i,by decide⟩
 |str x=>cases e;exact⟨.str x,by decide⟩
 |lst h _=>cases e;exact⟨.lst h,by decide⟩
 |bH h _ _=>cases e;exact⟨.dK h,by decide⟩
 |tup _ _=>cases e
 |yG _ _=>cases e
 |cU _ _ _=>cases e
 |ins _ _ _ _=>cases e
 |exc _ _ _=>cases e
theorem OO{T:String}{x:Str}(hT:Df T)(hm:X.mg "isinstance"=none)(hmT:X.mg x=none)(ha:FP X a fa)(hbT:bootBuiltins x=some (.type T):=by decide +kernel)(hg:Gl X "isinstance":=by rfl)(Yj:Gl X x:=by rfl)(hn:x≠"__name__":=by decide)(lE:(x==("__debug__":Str))=false:=by decide)
  (hs:starEach [a,.Name x p2] X.env=[(false,eval a X.env),(false,eval (.Name x p2) X.env)]:=by rfl) (hpl:(backTo pos (starEach [.Name x p2] X.env)).any (·.1)=false:=by rfl):FP X (.Call (.Name "isinstance" p) [a,.Name x p2] [] pos) (e1 (L6 T) fa):=by
 obtain⟨ta,pa,sa⟩:=ha;have dG:starEach [.Name x p2] X.env=[(false,eval (.Name x p2) X.env)]:=rfl;exists 21,wj (Qy T) hg hm (show bootBuiltins "isinstance"=some (.builtin "isinstance") by decide +kernel) (dY pa (dY (Xm (v:=.ty T) Yj hmT hbT rfl hn lE) fU) (by rw[hs,dG])) (he:=by rw[hs,dG]) (hpl:=hpl);obtain⟨d1,t1,h1,h2,rfl⟩:=xy e;refine sa ok h1 λH1 v fp s1 r1 _=>?_
 unfold L6 at h2;exists ht,CY d1,t,h2;cases h2;obtain⟨ty,mem⟩:=r1.ty ht;exact⟨v,_,_,rfl,ty,hT X.K t mem,k H1 _ [] s1 (.bl _) .nil⟩
end
end L2.Ev
namespace L2.Ev
open PySem
section
variable{ρ:av}{fa fb fc:EF}{d d1 d2 d3:D}{t t1 t2 t3:Tag}{Pa:D->D->D->Option D}{tf tg:TF}
noncomputable def k3(op:D->D->D->Option D):Option (D×Tag)->Option (D×Tag)->Option (D×Tag)->Option (D×Tag)
 |some (d1,_),some (d2,_),some (d3,_)=>(op d1 d2 d3).map λd=>(d,.own)
 |_,_,_=>none
theorem EA:e3 Pa fa fb fc ρ=k3 Pa (fa ρ) (fb ρ) (fc ρ):=by unfold e3 k3;cases fa ρ<;>cases fb ρ<;>cases fc ρ<;>rfl
noncomputable def N9(fb:EF)(ρ:av):Option (D×Tag)->Option (D×Tag)
 |some (.bl true,_)=>fb ρ
 |some (.bl false,_)=>some (.bl false,.own)
 |_=>none
theorem Tv:xr fa fb ρ=N9 fb ρ (fa ρ):=by
 unfold xr N9;cases fa ρ with
 |none=>rfl
 |some w=>obtain⟨d,t⟩:=w;cases d<;>first|rfl|(rename_i b;cases b<;>rfl)
theorem Z1:iF d .aA=some (.bl (n8 d)):=rfl
end
section
variable{g:GF}{t:Tag}{f:SF}
theorem Mj(P:Nat->av->Prop):∀{ds:List D}{ρ:av}{n:Nat},P n ρ->(∀j ρ d,ds[j]? = some d->P (n+j) ρ->∃aM aZ,g d t ρ=some aM/\(f aM=some (.nx aZ)\/f aM=some (.ct aZ))/\P (n+j+1) aZ)->
  ∃ρ',cX g t f ds ρ=some (.nx ρ')/\P (n+ds.length) ρ'
 |[],ρ,n,h,_=>⟨ρ,rfl,h⟩
 |d::ds,ρ,n,h,hs=>by
  obtain⟨aM,aZ,h1,h2,h3⟩:=hs 0 ρ d rfl h;obtain⟨ρ',h4,h5⟩:=Mj P (ds:=ds) (ρ:=aZ) (n:=n+1) h3 λj ρ d hd hp=>by
   have:=hs (j+1) ρ d hd (by rw[show n+(j+1)=n+1+j by lia];exact hp);rw[show n+(j+1)+1=n+1+j+1 by lia] at this;exact this
  refine⟨ρ',?_,by rw[abQ,show n+(ds.length+1)=n+1+ds.length by lia];exact h5⟩;unfold cX;rw[h1];rcases h2 with h2|h2<;>(dsimp only;rw[h2];exact h4)
theorem uX(hi:it ρ=some (ds,t))(h:cX g (kH t) f ds (mU (lT (k8 t) ρ) ρ)=some (.nx ρ')):jg it g f ρ=some (.nx (qZ (lT (k8 t) ρ) ρ')):=by unfold jg;rw[hi];dsimp only;rw[h]
theorem NN(hi:it ρ=some (ds,t))(h:cX g (kH t) f ds (mU (lT (k8 t) ρ) ρ)=some (.rt r)):jg it g f ρ=some (.rt r):=by unfold jg;rw[hi];dsimp only;rw[h]
theorem wY(hi:it ρ=some (ds,.own))(h:cX g (.sh []) f ds ρ=some (.nx ρ')):jg it g f ρ=some (.nx ρ'):=uX hi h
theorem L5(hi:it ρ=some (ds,.own))(h:cX g (.sh []) f ds ρ=some (.rt r)):jg it g f ρ=some (.rt r):=NN hi h
theorem XU(h:e ρ=some (.int n,t))(hs:small n=true):tE e ρ=some ((List.range n.toNat).map λi:Nat=>D.int (0+(i:Int)),.own):=by unfold tE;rw[h];dsimp only;rw[if_pos hs]
theorem iP(h:e ρ=some (.lst ds,t)):f7 e ρ=some (ds,t):=by unfold f7;rw[h]
theorem ach{e:EF}{ρ:av}{ds:List D}(h:e ρ=some (.tup ds,t)):f7 e ρ=some (ds,t):=by unfold f7;rw[h]
theorem jr{k:D->Option D}(hi:it ρ=some (ds,t))(hl:ds.length<sizeLine)(h:∀d∈ds,jl g tt te (jc js ρ) d=some (k d)):
  gY js it g tt te ρ=some (.lst (ds.filterMap k),.own):=by unfold gY;rw[hi];dsimp only;rw[if_pos hl,Px h];rfl
theorem AX(h1:g d (.sh []) ρ=some aM)(h2:tt aM=some false):jl g tt te ρ d=some none:=by unfold jl;rw[h1];dsimp only;rw[h2]
theorem lX(h1:g d (.sh []) ρ=some aM)(h2:tt aM=some true)(h3:te aM=some (e,.own)):jl g tt te ρ d=some (some e):=by unfold jl;rw[h1];dsimp only;rw[h2];dsimp only;rw[h3];rfl
theorem sM(h1:g d (.sh []) ρ=some aM)(h2:tt aM=some true)(h3:te aM=some (e,tg))(hi:aD e=true):jl g tt te ρ d=some (some e):=by
 unfold jl;rw[h1];dsimp only;rw[h2];dsimp only;rw[h3];dsimp only
 by_cases ho:j_ tg=true
 .rw[if_pos ho]
 .rw[if_neg ho,if_pos hi]
end
noncomputable def kI(p:Int×Int):Key×D:=(Sum.inl p.1,.int p.2)
def bu(es:List (Int×Int)):D:=.bH (es.map kI)
noncomputable def bJ(es:List (Int×Int))(k:Int):Option Int:=(es.find? λp=>decide (p.1=k)).map (·.2)
noncomputable def fW(es:List (Int×Int))(k v:Int):List (Int×Int):=if(es.any λp=>decide (p.1=k))=true then es.map (λp=>if p.1=k then(p.1,v) else p) else es++[(k,v)]
theorem sy:((Sum.inl a:Key)=Sum.inl k)↔a=k:=⟨λh=>aeN h,λh=>by rw[h]⟩
theorem IU(es:List (Int×Int))(k:Int):aY (es.map kI) (Sum.inl k:Key)=(bJ es k).map D.int:=by
 unfold aY bJ
 induction es with
 |nil=>rfl
 |cons p r ih=>
  rw[aas,ac9,ac9]
  by_cases h:p.1=k
  .rw[aaD (show(kI p).1=Sum.inl k from sy.mpr h),aaD h];rfl
  .rw[abD (show ¬(kI p).1=Sum.inl k from λe=>h (sy.mp e)),abD h];exact ih
theorem MG(es:List (Int×Int))(k v:Int):putD (es.map kI) (Sum.inl k:Key) (.int v)=(fW es k v).map kI:=by
 unfold putD fW;have e:((es.map kI).any λkv=>decide (kv.1=(Sum.inl k:Key)))=es.any λp=>decide (p.1=k):=by
  rw[aei]
  congr 1
  funext p
  exact aep.mpr sy
 rw[e]
 by_cases h:(es.any λp=>decide (p.1=k))=true
 .rw[if_pos h,if_pos h,ac7,ac7]
  congr 1
  funext p
  show(if(kI p).1=Sum.inl k then((kI p).1,D.int v) else kI p)=kI (if p.1=k then(p.1,v) else p)
  by_cases hp:p.1=k
  .rw[if_pos hp,if_pos (show(kI p).1=Sum.inl k from sy.mpr hp)];rfl
  .rw[if_neg hp,if_neg (show ¬(kI p).1=Sum.inl k from λe=>hp (sy.mp e))]
 .rw[if_neg h,if_neg h,adb];rfl
theorem L8:qU (bu es) (.int k) (.int z)=some (.int ((bJ es k).getD z)):=by
 show(match aY (es.map kI) (Sum.inl k:Key) with|some d=>if aD d=true then some d else none|none=>if aD (.int z)=true then some (.int z) else none)=_;rw[IU];cases bJ es k<;>rfl
theorem acU(h:bJ es k=some v):kh (bu es) (.int k)=some (.int v):=by
 show((aY (es.map kI) (Sum.inl k:Key)).bind λd=>if aD d=true then some d else none)=_;rw[IU,h];rfl
theorem Io:∀es:List (Int×Int),iI (es.map kI)=some (es.map (·.1))
 |[]=>rfl
 |p::r=>by rw[aas];show(iI (r.map kI)).map (p.1::·)=_;rw[Io r];rfl
theorem Ro{es:List (Int×Int)}(h:es.length<64):lJ (bu es)=some (.lst ((cj (es.map (·.1))).map D.int)):=by
 show(match iI (es.map kI) with|some ns=>if ns.length<64 then some (D.lst ((cj ns).map D.int)) else none|none=>none)=_;rw[Io];dsimp only;rw[if_pos (by rw[List.length_map];exact h)]
theorem O_:∀es:List (Int×Int),aN ((es.map kI).map (·.2))=true
 |[]=>rfl
 |p::r=>by rw[aas,aas];unfold aN;rw[O_ r];rfl
theorem CQ(h1:fv ρ=some (.int v,t1))(h2:ρ[i]? = some (some (bu es,.own)))(h3:fk ρ=some (.int k,t2))(hl:es.length<sizeLine):
  pI i fk fv ρ=some (.nx (bP ρ i (bu (fW es k v)))):=by
 unfold pI;rw[h1,h2,h3];unfold bu;dsimp only[gQ];rw[if_pos (by rw[O_,List.length_map,aaD hl];rfl),MG]
theorem Bk(es:List (Int×Int))(k v j:Int):bJ (fW es k v) j=if j=k then some v else bJ es j:=by
 unfold fW
 by_cases h:(es.any λp=>decide (p.1=k))=true
 .rw[if_pos h];unfold bJ
  induction es with
  |nil=>cases h
  |cons p r ih=>
   rw[aas,ac9,ac9]
   by_cases hp:p.1=k
   .rw[if_pos hp];dsimp only
    by_cases hj:j=k
    .rw[aaD (hp.trans hj.symm),if_pos hj];rfl
    .have qE:¬p.1=j:=λe=>hj (e.symm.trans hp)
     rw[abD qE,if_neg hj];dsimp only
     by_cases hr:(r.any λp=>decide (p.1=k))=true
     .rw[ih hr,if_neg hj]
     .congr 1
      have:r.map (λp=>if p.1=k then(p.1,v) else p)=r:=by
       conv=>rhs;rw[<- List.map_id r]
       refine adN λq m=>?_
       rw[if_neg λe=>hr (adj.mpr ⟨q,m,aaD e⟩)];rfl
      rw[this]
   .rw[if_neg hp];have hr:(r.any λp=>decide (p.1=k))=true:=by
     rw[ael,abD hp] at h;exact h
    by_cases hj:p.1=j
    .rw[aaD hj,if_neg λe=>hp (hj.trans e)]
    .rw[abD hj];exact ih hr
 .rw[if_neg h];unfold bJ;rw[List.find?_append]
  by_cases hj:j=k
  .have:(es.find? λp=>decide (p.1=j))=none:=adR.mpr λq m hq=>h (adj.mpr ⟨q,m,by rw[<- hj];exact hq⟩)
   rw[this,if_pos hj,hj];simp
  .rw[if_neg hj];have:([(k,v)].find? λp=>decide (p.1=j))=none:=adR.mpr λq m hq=>hj (by cases aaX.mp m;exact(aaK hq).symm)
   rw[this,Option.or_none]
theorem L0(es:List (Int×Int))(k v:Int):(fW es k v).map (·.1)=if k∈es.map (·.1) then es.map (·.1) else es.map (·.1)++[k]:=by
 unfold fW
 by_cases h:(es.any λp=>decide (p.1=k))=true
 .have hm:k∈es.map (·.1):=by
   obtain⟨p,m,hp⟩:=adj.mp h;exact abw.mpr ⟨p,m,aaK hp⟩
  rw[if_pos h,if_pos hm,ac7];refine adN λp m=>?_
  show(if p.1=k then(p.1,v) else p).1=p.1
  split<;>rfl
 .have hm:k∉es.map (·.1):=λm=>by
   obtain⟨p,m,hp⟩:=abw.mp m;exact h (adj.mpr ⟨p,m,aaD hp⟩)
  rw[if_neg h,if_neg hm,adb];rfl
theorem NV(h:(es.map (·.1)).Nodup):((fW es k v).map (·.1)).Nodup:=by
 rw[L0]
 by_cases hm:k∈es.map (·.1)
 .rw[if_pos hm];exact h
 .rw[if_neg hm];exact acE.mpr ⟨h,aby.mpr ⟨(λm=>by cases m),aco⟩,λa ha b hb e=>hm (by cases aaX.mp hb;exact e ▸ ha)⟩
theorem ZK{es:List (Int×Int)}{k v:Int}:(fW es k v).length<=es.length+1:=by
 have:=congrArg List.length (L0 es k v);rw[List.length_map] at this;rw[this]
 split
 .rw[List.length_map];lia
 .rw[abq,List.length_map];exact abu _
theorem qV:(∃v,bJ es k=some v)↔k∈es.map (·.1):=by
 unfold bJ;constructor
 .rintro⟨v,h⟩
  cases e:es.find? λp=>decide (p.1=k) with
  |none=>rw[e] at h;cases h
  |some p=>exact abw.mpr ⟨p,adK e,aaK (aeu e :)⟩
 .intro h;obtain⟨p,m,hp⟩:=abw.mp h;cases e:es.find? λp=>decide (p.1=k) with
  |none=>exact absurd (aaD hp) (adR.mp e p m)
  |some q=>exact⟨q.2,rfl⟩
def iD(ps:List (Int×Int)):List (Int×Int):=ps.foldl (λm p=>fW m p.1 p.2) []
theorem foldI:∀(ps m:List (Int×Int)),(ps.map kI).foldl (λm p=>putD m p.1 p.2) (m.map kI)=(ps.foldl (λm p=>fW m p.1 p.2) m).map kI
 |[],_=>rfl
 |p::r,m=>by rw[aas,adx,adx];show(r.map kI).foldl _ (putD (m.map kI) (Sum.inl p.1) (.int p.2))=_;rw[MG];exact foldI r _
noncomputable def dP(p:Int×Int):D:=.tup [.int p.1,.int p.2]
theorem Pw:∀ps:List (Int×Int),jm (ps.map dP)=some (ps.map kI)
 |[]=>rfl
 |p::r=>by
  rw[aas];show(match gQ (.int p.1),jm (r.map dP) with|some k,some ps=>if aD (.int p.2)=true then some ((k,D.int p.2)::ps) else none|_,_=>none)=_;rw[Pw r];rfl
theorem M1:wX (.lst (ps.map dP))=some (bu (iD ps)):=by
 show(jm (ps.map dP)).map _=_;rw[Pw];show some (D.bH ((ps.map kI).foldl (λm p=>putD m p.1 p.2) []))=_;rw[show([]:List (Key×D))=([]:List (Int×Int)).map kI from rfl,foldI];rfl
theorem Na(hn:(ps.map (·.1)).Nodup)(k:Int):bJ (iD ps) k=bJ ps k:=by
 have go:∀(ps m:List (Int×Int)),(ps.map (·.1)).Nodup->bJ (ps.foldl (λm p=>fW m p.1 p.2) m) k=(bJ ps k).or (bJ m k):=by
  intro ps
  induction ps with
  |nil=>intro m _;rfl
  |cons p r ih=>
   intro m h;rw[aas] at h;obtain⟨h1,h2⟩:=aby.mp h;rw[adx,ih _ h2,Bk]
   by_cases hk:k=p.1
   .have hr:bJ r k=none:=by
     cases e:bJ r k with
     |none=>rfl
     |some v=>exact absurd (qV.mp ⟨v,e⟩) (hk ▸ h1)
    rw[hr,if_pos hk];unfold bJ;rw[ac9,aaD hk.symm];rfl
   .rw[if_neg hk];have:bJ (p::r) k=bJ r k:=by unfold bJ;rw[ac9,abD λe=>hk e.symm]
    rw[this]
 unfold iD;rw[go ps [] hn];cases bJ ps k<;>rfl
open PySem PySem.Spec PyProof.Rows
mutual
noncomputable def py:D->PyData
 |.bl b=>.bool b
 |.int i=>.int i
 |.str x=>.str x
 |.tup ds=>.tuple (eY ds)
 |.lst ds=>.list (eY ds)
 |.gz ds=>.list (eY ds)
 |_=>.none
noncomputable def eY:List D->List PyData
 |[]=>[]
 |d::ds=>py d::eY ds
end
mutual
noncomputable def f6:D->Bool
 |.aA|.bl _|.int _|.str _=>true
 |.tup ds|.lst ds|.gz ds=>n6 ds
 |_=>false
noncomputable def n6:List D->Bool
 |[]=>true
 |d::ds=>f6 d&&n6 ds
end
section
variable{X:Cx}{af:List (Addr×Obj)}{σ:St}{H:Hp}{s:Shared}
mutual
theorem m8(I:Inv X af σ H s):∀{d:D}{v:V}{f:List Addr}{u:Value},Rep X.K H d v f->RelV v u->f6 d=true->∃as,Reads s.heap u (py d) as
 |.aA,_,_,_,r,q,_=>by cases r;cases q;exact⟨_,by unfold py;exact .none⟩
 |.bl b,_,_,_,r,q,_=>by cases r;cases q;exact⟨_,by unfold py;exact .bool b⟩
 |.int i,_,_,_,r,q,_=>by cases r;obtain⟨t,rfl⟩:=q;exact⟨_,by unfold py;exact .int i t⟩
 |.str x,_,_,_,r,q,_=>by cases r;obtain⟨t,rfl⟩:=q;exact⟨_,by unfold py;exact .str x t⟩
 |.tup ds,_,_,_,r,q,e=>by
  obtain⟨a,xs,rfl,hq,rs⟩:=r.i8;cases q;obtain⟨us,v1,⟨o,h1,h2,n,h3⟩,_⟩:=I.tuple hq;obtain⟨as,ra⟩:=Be I rs v1 (by unfold f6 at e;exact e);exact⟨_,by unfold py;exact .tuple h1 h2 h3 (by simpa using ra)⟩
 |.lst ds,_,_,_,r,q,e=>by
  obtain⟨a,xs,f,rfl,hq,rs,_⟩:=r.dF;cases q;obtain⟨us,v1,⟨o,n,h1,h2,_,h3⟩,_⟩:=I.list hq;obtain⟨as,ra⟩:=Be I rs v1 (by unfold f6 at e;exact e);exact⟨_,by unfold py;exact .list h1 h2 h3 (by simpa using ra)⟩
 |.gz ds,_,_,_,r,q,e=>by
  obtain⟨a,xs,rfl,hq,rs⟩:=r.uB;cases q;obtain⟨us,v1,⟨o,n,h1,h2,_,h3⟩,_⟩:=I.list hq;obtain⟨as,ra⟩:=Be I rs v1 (by unfold f6 at e;exact e);exact⟨_,by unfold py;exact .list h1 h2 h3 (by simpa using ra)⟩
 |.bH _,_,_,_,_,_,e=>by unfold f6 at e;cases e
 |.cU _,_,_,_,_,_,e=>by unfold f6 at e;cases e
 |.ins _ _,_,_,_,_,_,e=>by unfold f6 at e;cases e
 |.exc _,_,_,_,_,_,e=>by unfold f6 at e;cases e
theorem Be(I:Inv X af σ H s):∀{ds:List D}{xs:List V}{f:List Addr}{us:List Value},az X.K H ds xs f->aQ xs us->n6 ds=true->∃as,ReadsAll s.heap us (eY ds) as
 |[],_,_,_,r,q,_=>by cases r;cases q;exact⟨_,by unfold eY;exact .nil⟩
 |d::ds,_,_,_,r,q,e=>by
  cases r with
  |cons r1 r2=>
   cases q with
   |cons q1 q2=>
    unfold n6 at e;obtain⟨e1,e2⟩:=(aaH _ _).mp e;obtain⟨as,h1⟩:=m8 I r1 q1 e1;obtain⟨bs,h2⟩:=Be I r2 q2 e2;exact⟨_,by unfold eY;exact .cons h1 h2⟩
end
end
noncomputable def ue(r:List Int):D:=.tup (r.map D.int)
def bB(rs:List (List Int)):List D:=rs.map ue
theorem vL:∀r:List Int,eY (r.map D.int)=r.map PyData.int
 |[]=>rfl
 |i::r=>by rw[aas,aas];unfold eY;rw[vL r];unfold py;rfl
theorem AI:∀r:List Int,n6 (r.map D.int)=true
 |[]=>rfl
 |i::r=>by rw[aas];unfold n6;rw[AI r];rfl
theorem depthAll_ints:∀r:List Int,PyData.depthAll (r.map PyData.int)=0
 |[]=>rfl
 |i::r=>by rw[aas];simp only[PyData.depthAll,PyData.depth,depthAll_ints r];rfl
noncomputable def jw(r:List Int):PyData:=.tuple (r.map PyData.int)
theorem aay(r:List Int):py (ue r)=jw r:=by unfold ue jw;unfold py;rw[vL]
theorem HA:∀rs:List (List Int),eY (bB rs)=rs.map jw
 |[]=>rfl
 |r::rs=>by
  show eY (ue r::bB rs)=jw r::rs.map jw;unfold eY;rw[aay,HA rs]
theorem Om:∀rs:List (List Int),n6 (bB rs)=true
 |[]=>rfl
 |r::rs=>by
  show n6 (ue r::bB rs)=true;unfold n6;rw[Om rs,Bool.and_true];unfold ue f6;exact AI r
def cR(d:D):Bool:=f6 d&&(py d).canLay0&&decide ((py d).depth<=40)
def uu(d1 d2:D):Option D:=if(cR d1&&cR d2)=true then some (.bl (PyData.eqv (py d1) (py d2))) else none
def jG(d1 d2:D):Option D:=if(cR d1&&cR d2)=true then some (.bl (!PyData.eqv (py d1) (py d2))) else none
def zI(K:PySem.W.Frag)(neg:Bool):R2:=λx y H Q=>∃d1 d2 f1 f2,Rep K H d1 x f1/\Rep K H d2 y f2/\cR d1=true/\cR d2=true/\Q (.bl (if neg=true then !PyData.eqv (py d1) (py d2) else PyData.eqv (py d1) (py d2))) H
section
variable{X:Cx}{a b:Expr}{fa fb:EF}{pos:Pos}
theorem lay_of(h:cR d=true):f6 d=true/\(py d).canLay0=true/\(py d).depth<=40:=by
 unfold cR at h;obtain⟨h,h3⟩:=(aaH _ _).mp h;obtain⟨h1,h2⟩:=(aaH _ _).mp h;exact⟨h1,h2,aaK h3⟩
theorem OL(hu:X.A.units+64<cLine):cO X (compareOp .NotEq) (zI X.K true):=by
 intro af s σ H x y v u Q I rx ry h;obtain⟨d1,d2,f1,f2,r1,r2,l1,l2,q⟩:=h;obtain⟨a1,a2,a3⟩:=lay_of l1;obtain⟨b1,b2,b3⟩:=lay_of l2;obtain⟨as,ra⟩:=m8 I r1 rx a1;obtain⟨bs,rb⟩:=m8 I r2 ry b1;exact SeqAt.compareNe_reads ra rb a2 b2 (by omega) ⟨.bl _,H,I,rfl,q⟩
theorem S3(hu:X.A.units+64<cLine):cO X (compareOp .Eq) (zI X.K false):=by
 intro af s σ H x y v u Q I rx ry h;obtain⟨d1,d2,f1,f2,r1,r2,l1,l2,q⟩:=h;obtain⟨a1,a2,a3⟩:=lay_of l1;obtain⟨b1,b2,b3⟩:=lay_of l2;obtain⟨as,ra⟩:=m8 I r1 rx a1;obtain⟨bs,rb⟩:=m8 I r2 ry b1;exact SeqAt.compareEq_reads ra rb a2 b2 (by omega) ⟨.bl _,H,I,rfl,q⟩
theorem IV{K:PySem.W.Frag}:fL K (zI K true) jG:=by
 intro H x y d1 d2 f1 f2 d Q r1 r2 e k;unfold jG at e
 by_cases hc:(cR d1&&cR d2)=true
 .rw[if_pos hc] at e;cases e;obtain⟨c1,c2⟩:=(aaH _ _).mp hc;exact⟨d1,d2,f1,f2,r1,r2,c1,c2,k H _ (aF.refl H) (.bl _)⟩
 .rw[if_neg hc] at e;cases e
theorem Wi{K:PySem.W.Frag}:fL K (zI K false) uu:=by
 intro H x y d1 d2 f1 f2 d Q r1 r2 e k;unfold uu at e;obtain⟨hc,e⟩:=ci e;cases e;obtain⟨c1,c2⟩:=(aaH _ _).mp hc;exact⟨d1,d2,f1,f2,r1,r2,c1,c2,k H _ (aF.refl H) (.bl _)⟩
theorem vn(hu:X.A.units+64<cLine)(ha:FP X a fa)(hb:FP X b fb):FT X (.Compare a [.NotEq] [b] pos) (tV (e2 jG fa fb)):=jh (OL hu) IV ha hb (iY _)
theorem Z7(hu:X.A.units+64<cLine)(ha:FP X a fa)(hb:FP X b fb):FP X (.Compare a [.NotEq] [b] pos) (e2 jG fa fb):=pQ (OL hu) IV ha hb (iY _)
theorem CL(hu:X.A.units+64<cLine)(ha:FP X a fa)(hb:FP X b fb):FP X (.Compare a [.Eq] [b] pos) (e2 uu fa fb):=pQ (S3 hu) Wi ha hb (iY _)
end
theorem Wc{d:D}(h:cR d=true):jG d d=some (.bl false):=by unfold jG;rw[h,ad0,if_pos rfl,SeqAt.eqv_refl _ (lay_of h).2.1];rfl
theorem zg:∀r:List Int,PyData.canLayAll0 (r.map PyData.int)=true
 |[]=>rfl
 |i::r=>by rw[aas];simp only[PyData.canLayAll0,PyData.canLay0,zg r,ad0]
theorem NC:∀rs:List (List Int),PyData.canLayAll0 (rs.map jw)=true/\PyData.depthAll (rs.map jw)<=1
 |[]=>⟨rfl,by simp[PyData.depthAll]⟩
 |r::rs=>by
  obtain⟨h1,h2⟩:=NC rs;rw[aas];refine⟨by simp only[PyData.canLayAll0,jw,PyData.canLay0,h1,Bool.and_true];exact zg r,?_⟩;simp only[PyData.depthAll,jw,PyData.depth,depthAll_ints r];omega
theorem Xf(rs:List (List Int)):cR (.lst (bB rs))=true:=by
 obtain⟨h1,h2⟩:=NC rs;have e:py (.lst (bB rs))=.list (rs.map jw):=by unfold py;rw[HA]
 unfold cR;rw[e];have a1:f6 (.lst (bB rs))=true:=by unfold f6;exact Om rs
 have a2:(PyData.list (rs.map jw)).canLay0=true:=by simp only[PyData.canLay0];exact h1
 have a3:(PyData.list (rs.map jw)).depth<=40:=by simp only[PyData.depth];omega
 rw[a1,a2,aaD a3];rfl
end L2.Ev
namespace L2.Ev
open PySem PySem.Spec PyProof.Rows
section
variable{X:Cx}{a b c:Expr}{fa fb:EF}{tc:TF}{pos:Pos}
noncomputable def nO(t:TF)(fa fb:EF):EF:=λρ=>match t ρ with
 |some true=>fa ρ
 |some false=>fb ρ
 |none=>none
theorem Ky(hc:FT X c tc)(ha:FP X a fa)(hb:FP X b fb):FP X (.IfExp c a b pos) (nO tc fa fb):=by
 obtain⟨t,p,q⟩:=hc;obtain⟨t1,p1,q1⟩:=ha;obtain⟨t2,p2,q2⟩:=hb;exists 21,aaa p p1 p2;unfold nO at e;cases h:tc ρ with
 |none=>rw[h] at e;cases e
 |some y=>
  rw[h] at e;refine q ok h λH1 s1=>?_
  cases y with
  |true=>rw[if_pos rfl];exact q1 (ok.same s1) e λH2 v fp s2 r2 g2=>k H2 v fp (s1.trans s2) r2 (g2.back s1)
  |false=>rw[if_neg aa9];exact q2 (ok.same s1) e λH2 v fp s2 r2 g2=>k H2 v fp (s1.trans s2) r2 (g2.back s1)
theorem Kq{ρ:av}(h:tc ρ=some true):nO tc fa fb ρ=fa ρ:=by unfold nO;rw[h]
theorem LZ{ρ:av}(h:tc ρ=some false):nO tc fa fb ρ=fb ρ:=by unfold nO;rw[h]
noncomputable def C4(_ j:Int):Bool:=decide (0<j)&&decide (j<1073741824)
def oDiv:=vz C4 λi j=>i / j
theorem WN(ha:FP X a fa)(hb:FP X b fb):FP X (.BinOp a .FloorDiv b pos) (e2 oDiv fa fb):=yc Uy (G9 λi j h=>by
 obtain⟨h1,h2⟩:=(aaH _ _).mp h;exact⟨aaK h1,aaK h2⟩) ha hb
theorem Z5{m n:Int}(h:0<n)(h2:n<1073741824):oDiv (.int m) (.int n)=some (.int (m / n)):=by
 show(if C4 m n=true then some (D.int (m / n)) else none)=_;rw[if_pos (by unfold C4;rw[aaD h,aaD h2];rfl)]
def jB(neg:Bool):D->D->Option D
 |.int i,.lst ds=>(dM ds).map λns=>.bl (if neg=true then !(ns.any (· == i)) else ns.any (· == i))
 |_,_=>none
theorem QL(i:Int)(ns:List Int):sI (.int i) (ns.map V.int)=ns.any (· == i):=by
 unfold sI;rw[aei];rfl
theorem Xa(ns:List Int):(ns.map V.int).all lY=true:=by
 rw[aeF];exact ac6.mpr λ_ _=>rfl
theorem D3{K:PySem.W.Frag}:fL K (Bp K neg) (jB neg):=by
 intro H x y d1 d2 f1 f2 d Q r1 r2 e k;cases d1 with
 |int i=>
  cases d2 with
  |lst ds=>
   have e:((dM ds).map λns=>D.bl (if neg=true then !(ns.any (· == i)) else ns.any (· == i)))=some d:=e;exists h,dM ds,ns,e;cases e;obtain⟨p,xs,f,rfl,hq,rs,_⟩:=r2.dF;cases r1;have ex:=qP rs h;subst ex;refine⟨p,_,rfl,.inl hq,rfl,Xa ns,?_⟩;rw[QL];exact k H _ (aF.refl H) (.bl _)
  |_=>cases e
 |_=>cases e
theorem K7(ha:FP X a fa)(hb:FP X b fb)(hm:behindInMarks .In b=false:=by rfl):FT X (.Compare a [.In] [b] pos) (tV (e2 (jB false) fa fb)):=jh Ln D3 ha hb hm
theorem Ve(ha:FP X a fa)(hb:FP X b fb)(hm:behindInMarks .NotIn b=false:=by rfl):FT X (.Compare a [.NotIn] [b] pos) (tV (e2 (jB true) fa fb)):=jh DU D3 ha hb hm
theorem MW(ha:FP X a fa)(hb:FP X b fb)(hm:behindInMarks .NotIn b=false:=by rfl):FP X (.Compare a [.NotIn] [b] pos) (e2 (jB true) fa fb):=pQ DU D3 ha hb hm
theorem yL{neg:Bool}{i:Int}{ns:List Int}:jB neg (.int i) (.lst (ns.map D.int))=some (.bl (if neg=true then !(ns.any (· == i)) else ns.any (· == i))):=by
 show((dM (ns.map D.int)).map _)=_;rw[tQ];rfl
def k_(i:Nat)(fv:EF):SF:=λρ=>match fv ρ,ρ[i]? with
 |some (d,_),some (some (.lst ds,.own))=>if(aD d&&aN ds&&decide (ds.length<sizeLine))=true then some (.nx (bP ρ i (.lst (ds++[d])))) else none
 |_,_=>none
theorem Ei(i:Nat){x:Str}(hv:FP X a fv)(va:VA X i x:=by walk_at "va")(hs:starEach [a] X.env=[(false,eval a X.env)]:=by rfl)
  (k7:attributeBase (.Name x p1) "append" X.env (eval (.Name x p1) X.env)=eval (.Name x p1) X.env:=by rfl)
  (kY:((backTo p3 (starEach [a] X.env)).all (λx=>!x.1)&&(backToKw p3 (keywordEach [] X.env)).all (λx=>x.1.isSome)&&decide ([a].length+([]:List Keyword).length+(if([]:List Keyword).isEmpty then 0 else 1)<30))=true:=by rfl)
  (kT:(p2.endLine==p3.line)=true:=by rfl) (jM:swapsWith (.Call (.Attribute (.Name x p1) "append" p2) [a] [] p3) none pos.line X.env=pure false:=by rfl) :
  eO X (.Expr (.Call (.Attribute (.Name x p1) "append" p2) [a] [] p3) pos) (k_ i fv):=by
 obtain⟨tv,lG,sv⟩:=hv;exists 25,zE (x6 PySem.F.plainAttrs_list PySem.F.slot_list_append PySem.F.type_list_append Dr va.pe (dY lG fU hs) k7 kY kT hs rfl) jM;unfold k_ at e
 split at e
 .rename_i d td ds g1 g2;obtain⟨hc,e⟩:=ci e;cases e;obtain⟨c1,c3⟩:=(aaH _ _).mp hc;obtain⟨c1,c2⟩:=(aaH _ _).mp c1;obtain⟨xv,fp,cz,r,zz⟩:=ok.sl i _ _ g2;refine⟨xv,cz,?_⟩;obtain⟨l,xs,f,rfl,hq,_,_⟩:=r.dF;refine⟨.inl ⟨rfl,_,hq⟩,?_⟩;refine sv ok g1 λH1 v HU s1 rv _=>?_
  have r':=r.same s1;have b8:=ok.same s1;generalize hw:(V.ref l)=w at r' cz;cases r' with
  | @lst a' ys _ f' h rs=>
   cases hw;have hn:=rs.aD c2;subst hn;have yj:=rv.aD c1;subst yj;refine⟨_,ys,v,rfl,rfl,h,by rw[<- rs.length];exact aaK c3,?_⟩;have im:aU H1 (upd H1 l (.lst (ys++[v]))):=aU.upd h rfl;refine q z σ _ (Ok.zQ b8 g2 cz zz aam h rfl (.lst cG ?_)) (.refl _ _);exact az.append (rs.frame (λa m=>nomatch m) im) (az.cons (f1:=[]) (f2:=[]) (rv.frame (λa m=>nomatch m) im) .nil)
 .cases e
theorem BZ(h1:fv ρ=some (.int n,t1))(h2:ρ[i]? = some (some (.lst (ns.map D.int),.own)))(hl:ns.length<sizeLine):
  k_ i fv ρ=some (.nx (bP ρ i (.lst ((ns++[n]).map D.int)))):=by
 unfold k_;rw[h1,h2];dsimp only;have Vg:∀ns:List Int,aN (ns.map D.int)=true:=λns=>by
  induction ns with
  |nil=>rfl
  |cons n r ih=>rw[aas];unfold aN;rw[ih];rfl
 rw[if_pos (by rw[Vg,List.length_map,aaD hl];rfl),adb];rfl
def cutD(ds:List D)(lo hi:Option Int):List D:=(ds.drop (HT.fR ds.length 0 lo)).take (HT.fR ds.length ds.length hi-HT.fR ds.length 0 lo)
def m6(lo hi:Option Int):D->Option D
 |.lst ds=>if aN ds=true then some (.lst (cutD ds lo hi)) else none
 |.gz ds=>if aN ds=true then some (.lst (cutD ds lo hi)) else none
 |_=>none
theorem az.Aq{K:PySem.W.Frag}:∀{ds:List D}{xs:List V} (n:Nat),az K H ds xs []->az K H (ds.drop n) (xs.drop n) []
 |ds,xs,0,r=>r
 |[],_,n+1,r=>by cases r;exact .nil
 |d::ds,xs,n+1,r=>by
  generalize hf:([]:List Addr)=fp at r;cases r with
  | @cons _ _ _ _ f1 f2 r1 r2=>
   obtain⟨z1,z2⟩:=aes.mp hf.symm;subst z1 z2;exact az.Aq n r2
theorem az.Al{K:PySem.W.Frag}:∀{ds:List D}{xs:List V} (n:Nat),az K H ds xs []->az K H (ds.take n) (xs.take n) []
 |ds,xs,0,r=>.nil
 |[],_,n+1,r=>by cases r;exact .nil
 |d::ds,xs,n+1,r=>by
  generalize hf:([]:List Addr)=fp at r;cases r with
  | @cons _ _ _ _ f1 f2 r1 r2=>
   obtain⟨z1,z2⟩:=aes.mp hf.symm;subst z1 z2;exact az.cons (f1:=[]) (f2:=[]) r1 (az.Al n r2)
def yC(X:Cx)(e:Option Expr)(v:Option Int):Prop:=∃t,PO X e t/\∀σ H Q,Q v H->t σ H Q
theorem OP:yC X none none:=⟨_,Fg,λ_ _ _ q=>q⟩
theorem JC{i:Int}{j p}:yC X (some (.Constant (.int i) j p)) (some i):=⟨_,C9 OE,λ_ _ _ q=>⟨i,rfl,q⟩⟩
theorem Ih{lo hi:Option Expr}{l h:Option Int}{p2:Pos}(hl:yC X lo l)(hh:yC X hi h)(ha:FP X a fa):FP X (.Subscript a (.Slice lo hi none p2) pos) (e1 (m6 l h) fa):=by
 obtain⟨t,p,q⟩:=ha;obtain⟨tl,pl,ql⟩:=hl;obtain⟨th,ph,qh⟩:=hh;exists 21,CT Ga p pl ph;obtain⟨d1,t1,g1,g2,rfl⟩:=xy e;refine q ok g1 λH1 x f1 s1 r1 _=>?_
 refine ql σ H1 _ (qh σ H1 _ ?_);have fin:∀{ds:List D}{xs:List V}{f:List Addr}{w:Addr},az X.K H1 ds xs f->bR X.K H1 w xs->(if aN ds=true then some (D.lst (cutD ds l h)) else none)=some d->N1 X.K (.ref w) l h H1 Q:=λ{ds xs f w} rs hq e=>by
  obtain⟨hi,e⟩:=ci e;cases e;have hn:=rs.aD hi;subst hn;refine⟨w,xs,rfl,hq,λp hp=>?_⟩;have s2:aF H1 (upd H1 p (.lst (kK xs l h))):=λb o e=>by rw[aO (cK e hp)];exact e
  have rr:az X.K H1 (cutD ds l h) (kK xs l h) []:=by
   unfold cutD kK;rw[rs.length];exact az.Al _ (az.Aq _ rs)
  refine k _ _ [p] (s1.trans s2) (.lst cG (rr.same s2)) ⟨aby.mpr ⟨(λm=>by cases m),aco⟩,λa m=>?_⟩;cases aaX.mp m;exact s1.free hp
 cases d1 with
 |lst ds=>
  obtain⟨w,xs,f,rfl,hq,rs,_⟩:=r1.dF;exact fin rs hq g2
 |gz ds=>
  obtain⟨w,xs,rfl,hq,rs⟩:=r1.uB;exact fin rs hq g2
 |_=>cases g2
end
end L2.Ev
namespace L2
open PySem PySem.Spec PyProof.Rows
section
variable{X:Cx}{a:Expr}{ta:TE}{p1 p2 p3 pos:Pos}
theorem Inv.abS{ch:List Addr}{o:HO}(I:Inv X af σ H s)(hf:∀b∈ch,h_ X af H b)(k:∀b o,b∉ch->s.heap.get? b=some o->h'.get? b=some o)
  (hT:s.heap.objs.size<=T) (new:cZ X.prog X.w (upd H T o) h' T o):Inv X af σ (upd H T o) { s with heap:=h',toks:=t' }:=by
 have nT:=I.aH.fresh hT;have k9:∀b u,H b=some u->b∉ch:=λb u e m=>by rw[(hf b m).1] at e;cases e
 refine I.step (g':=s.gens) (d':=s.drawn) (ch:=ch) (λb m=>⟨(hf b m).2.2.2.1,(hf b m).2.1,(hf b m).2.2.2.2.1,(hf b m).2.2.2.2.2⟩) (λb o _ _ m e _=>k b o m e) (λb o _ _ m e _=>⟨o.slots,k b o m e⟩)
  (λb o _ e n=>by rw[aO (acC (ac1 (abh e) hT))];exact n) (λb o m e=>⟨o,k b o m e⟩) (λb xs e=>by rw[aO (cK e nT)];exact e) (λb o u e=>by rw[aO (cK e nT)];exact e)
  (λb ps e=>⟨#[],by rw[aO (cK e nT),e];simp⟩) (λm hm=>?_) (λb u e=>?_) I.bare
 .obtain⟨o,es,ep,ho,r⟩:=hm;exact⟨o,es,ep,k _ o (λm=>(hf _ m).2.1 rfl) ho,r⟩
 .by_cases hb:b=T
  .subst hb;rw[cG] at e;cases e;exact new
  .rw[aO hb] at e;refine(I.aH b u e).lQ (λc v hc q=>k c v ?_ q) (λc q=>by rw[aO (cK q nT)];exact q) λc xs q=>by rw[aO (cK q nT)];exact q
   rcases hc with z|z
   .rw[z];exact k9 b u e
   .exact k9 c _ z
theorem Inv.P_{ch:List Addr}(I:Inv X af σ H s)(hf:∀b∈ch,h_ X af H b)(k:∀b o,b∉ch->s.heap.get? b=some o->h'.get? b=some o):Inv X af σ H { s with heap:=h',toks:=t' }:=by
 have k9:∀b u,H b=some u->b∉ch:=λb u e m=>by rw[(hf b m).1] at e;cases e
 refine I.step (g':=s.gens) (d':=s.drawn) (ch:=ch) (λb m=>⟨(hf b m).2.2.2.1,(hf b m).2.1,(hf b m).2.2.2.2.1,(hf b m).2.2.2.2.2⟩) (λb o _ _ m e _=>k b o m e) (λb o _ _ m e _=>⟨o.slots,k b o m e⟩)
  (λb o _ e n=>n) (λb o m e=>⟨o,k b o m e⟩) (λb xs e=>e) (λb o u e=>e) (λb ps e=>⟨#[],by rw[e];simp⟩) (λm hm=>?_) (λb u e=>?_) I.bare
 .obtain⟨o,es,ep,ho,r⟩:=hm;exact⟨o,es,ep,k _ o (λm=>(hf _ m).2.1 rfl) ho,r⟩
 .refine(I.aH b u e).lQ (λc v hc q=>k c v ?_ q) (λc q=>q) λc xs q=>q
  rcases hc with z|z
  .rw[z];exact k9 b u e
  .exact k9 c _ z
end
def EH(K:PySem.W.Frag)(l1 l2:Addr):It:=
  ⟨λi H=>∃xs ys x y,bR K H l1 xs/\bR K H l2 ys/\xs[i]? = some x/\ys[i]? = some y,
   λi H v H'=>∃T a b,H T=none/\v=.ref T/\H'=upd H T (.tup [a,b])/\(∀xs,bR K H l1 xs->xs[i]? = some a)/\∀ys,bR K H l2 ys->ys[i]? = some b,
   λi H=>∃xs ys,bR K H l1 xs/\bR K H l2 ys/\(xs.length<=i\/ys.length<=i),false⟩
def aaq(z TI TO i1 i2 l1 l2:Addr)(i:Nat)(h:Heap):Prop:=IsZip h z TI TO .none/\IsPair h TI (.ref i1) (.ref i2)/\(∃a b,IsPair h TO a b)/\h.IsListIter i1 l1 i/\h.IsListIter i2 l2 i
theorem acd{P:Program}{w:World}{K:PySem.W.Frag}{elts:List Expr}{x1}{pos:Pos}{z TI TO i1 i2 l1 l2:Addr}(D:ZipApart z TI TO i1 i2 l1 l2):
  Turn P w K (.Tuple elts x1 pos) (EH K l1 l2) [z,TI,TO,i1,i2] z (aaq z TI TO i1 i2 l1 l2) where
 mem:=by simp
 obj:=λi h st b hb=>by
  obtain⟨s1,s2,⟨a,b',s3⟩,⟨o4,e4,c4,d4⟩,⟨o5,e5,c5,d5⟩⟩:=st;simp only[aaV,adp,aeV] at hb;rcases hb with rfl|rfl|rfl|rfl|rfl
  .exact⟨_,s1,λv q=>by cases q⟩
  .exact⟨_,s2,λv q=>by cases q⟩
  .exact⟨_,s3,λv q=>by cases q⟩
  .exact⟨o4,e4,λv q=>by rw[d4] at q;cases q⟩
  .exact⟨o5,e5,λv q=>by rw[d5] at q;cases q⟩
 keep:=λi h h' st k=>by
  obtain⟨s1,s2,⟨a,b',s3⟩,s4,s5⟩:=st;exact⟨k _ (by simp) _ s1,k _ (by simp) _ s2,⟨a,b',k _ (by simp) _ s3⟩,s4.at λo e=>k _ (by simp) o e,s5.at λo e=>k _ (by simp) o e⟩
 item:=by
  intro X hP hw hK hc i af s σ H E I hf st hg;subst hP hw hK;obtain⟨s1,s2,⟨a,b',s3⟩,s4,s5⟩:=st;obtain⟨xs,ys,x,y,q1,q2,e1,e2⟩:=hg;obtain⟨us,v1,p1,z1⟩:=I.list q1;obtain⟨ws,v2,p2,z2⟩:=I.list q2;obtain⟨u,hu,ru⟩:=v1.get e1;obtain⟨t,ht,rt⟩:=v2.get e2;refine wpAny_pyNext_zip_item D s1 s2 s3 s4 s5 p1.isList p2.isList (x:=u) (y:=t) (by simpa using hu) (by simpa using ht) λh' a1 a2 a3 a4 a5 a6 a7=>⟨_,rfl,?_⟩
  refine wpAny_letOwnedTupleGo_zip a1 λsA b1 b2=>?_
  have lz:z < s.heap.objs.size:=abh s1;have nz:s.heap.objs.size≠z:=ad1 lz;have T2:IsPair sA s.heap.objs.size u t:=b2.extBut _ _ nz a5;have nT:H s.heap.objs.size=none:=I.aH.fresh (abu _);have I1:Inv X af σ (upd H s.heap.objs.size (.tup [x,y])) { s with heap:=sA }:=I.abS (t':=s.toks) (ch:=[z,TO,i1,i2]) (λb m=>hf b (by
    simp only[aaV,adp,aeV] at m ⊢;rcases m with rfl|rfl|rfl|rfl<;>simp)) (λb o m e=>by
    simp only[aaV,adp,aeV,not_or] at m;exact b2.extBut _ _ m.1 (a7 b o m.1 m.2.1 m.2.2.1 m.2.2.2 e)) (abu _) (show cZ X.prog X.w _ sA _ (.tup [x,y]) from⟨show 2<=sizeLine by unfold sizeLine;lia,[u,t],.cons ru (.cons rt .nil),⟨_,T2,rfl,rfl,_,rfl⟩⟩)
  refine⟨.ref s.heap.objs.size,_,I1,rfl,⟨_,x,y,nT,rfl,rfl,λQU h=>by rw[I.Cw h q1];exact e1,λys' h=>by rw[I.Cw h q2];exact e2⟩,?_,λb m=>?_⟩
  .have up:∀c o,c≠z->h'.get? c=some o->sA.get? c=some o:=λc o n e=>b2.extBut _ _ n e
   exact⟨b1,up _ _ D.TIz (a7 TI _ D.TIz D.TITO D.TIi1 D.TIi2 s2),⟨u,t,up _ _ D.TOz a2⟩,a3.at λo e=>up _ o D.i1z e,a4.at λo e=>up _ o D.i2z e⟩
  .rw[aO]
   .exact(hf b m).1
   .rintro rfl
    obtain⟨o4,e4,_⟩:=id s4;obtain⟨o5,e5,_⟩:=id s5;simp only[aaV,adp,aeV] at m;rcases m with m|m|m|m|m
    .exact nz m
    .exact absurd (abh s2) (by rw[<- m];exact adC _)
    .exact absurd (abh s3) (by rw[<- m];exact adC _)
    .exact absurd (abh e4) (by rw[<- m];exact adC _)
    .exact absurd (abh e5) (by rw[<- m];exact adC _)
 done:=by
  intro X hP hw hK hc i af s σ H E I hf st hg;subst hP hw hK;obtain⟨s1,s2,⟨a,b',s3⟩,s4,s5⟩:=st;obtain⟨xs,ys,q1,q2,e⟩:=hg;obtain⟨us,v1,p1,z1⟩:=I.list q1;obtain⟨ws,v2,p2,z2⟩:=I.list q2;have l1:=v1.length;have l2:=v2.length;refine wpAny_pyNext_zip_end (I.ok.hd (hc.resolve_right λz=>aa9 z)) D s1 s2 s3 s4 s5 p1.isList p2.isList (e.imp (λe=>by simp;lia) λe=>by simp;lia) λh' k=>⟨rfl,I.P_ (t':=s.toks) (ch:=[z,TO,i1,i2]) (λb m=>hf b (by
    simp only[aaV,adp,aeV] at m ⊢;rcases m with rfl|rfl|rfl|rfl<;>simp)) λb o m e=>?_⟩
  simp only[aaV,adp,aeV,not_or] at m;exact k b o m.1 m.2.1 m.2.2.1 m.2.2.2 e
 self:=λ_ _ _ _ _ st h=>wpAny_pyIter_zip st.1 h
section
variable{X:Cx}{elts:List Expr}{tp:Pos}{a b:Expr}{ta:TA}{p pos:Pos}
def X_(K:PySem.W.Frag)(ta:TA):TI:=λσ H R=>ta σ H λvs H1=>∃l1 l2 xs ys,vs=[.ref l1,.ref l2]/\bR K H1 l1 xs/\bR K H1 l2 ys/\R (EH K l1 l2) H1
theorem Yk{x1}(hg:Gl X "zip")(hm:X.mg "zip"=none)(ha:PA X [a,b] ta)(hs:starEach [a,b] X.env=[(false,eval a X.env),(false,eval b X.env)]:=by rfl)(dG:starEach [b] X.env=[(false,eval b X.env)]:=by rfl):
  PI X (.Tuple elts x1 tp) (.Call (.Name "zip" p) [a,b] [] pos) (X_ X.K ta):=by
 intro af s σ H R I h;refine adP (qu I hg hm boot_zip (ad5 (aL (ha pos af s σ H _ I h) λus s1 ⟨vs,H1,I1,r1,q1⟩=>?_) (by rw[hs,dG]) (by rw[dG];rfl)));obtain⟨l1,l2,xs,ys,rfl,h1,h2,q⟩:=q1;obtain⟨u,v,rfl,ru,rv⟩:=vals2 r1;cases ru;cases rv;obtain⟨us,v1,p1,z1⟩:=I1.list h1;obtain⟨ws,v2,p2,z2⟩:=I1.list h2;have b1:=let⟨o,n,e,_⟩:=p1;abh e
 have b2:l2<s1.heap.objs.size:=let⟨o,n,e,_⟩:=p2;abh e
 refine call_zip_2 p1.isList p2.isList λh' g1 g2 g3 g4 g5 g6 k=>?_
 refine wpAny_pyIter_zip g1 ?_;refine⟨_,_,_,_,H1,rfl,I1.kept k,acd (zipApart_new b1 b2),⟨g1,g2,⟨_,_,g3⟩,g4,g5⟩,λc hc=>?_,q⟩;have up:∀j,h_ X af H1 (s1.heap.objs.size+j):=λj=>I1.rC (Nat.le_add_right _ _) (I1.aH.fresh (Nat.le_add_right _ _))
 simp only[aaV,adp,aeV] at hc;rcases hc with rfl|rfl|rfl|rfl|rfl
 .exact up 4
 .exact up 2
 .exact up 3
 .exact up 0
 .exact up 1
end
end L2
namespace L2.Ev
open PySem PySem.Spec PyProof.Rows
section
variable{X:Cx}{elts:List Expr}{tp:Pos}{a b:Expr}{fa fb:EF}{p pos:Pos}
def pJ(fa fb:EF):IF:=λρ=>match fa ρ,fb ρ with
 |some (.lst ds,t1),some (.lst es,t2)=>if(aN ds&&aN es)=true then some ((ds.zip es).map λp=>.tup [p.1,p.2],ju [(.lst ds,t1),(.lst es,t2)]) else none
 |_,_=>none
theorem az.Qf{K:PySem.W.Frag}{vs:List V}{i:Nat}(r:az K H ds vs [])(e:ds[i]? = some d):∃v,vs[i]? = some v/\Rep K H d v []:=by
 obtain⟨v,f,e1,r1,s⟩:=r.get e;have:f=[]:=adX.mpr λa m=>by have:=s a m;cases this
 subst this;exact⟨v,e1,r1⟩
theorem QX{K:PySem.W.Frag}{l1 l2:Addr}{ds es:List D}{f1 f2:List Addr}(c1:aN ds=true)(c2:aN es=true):
  qS K (EH K l1 l2) ((ds.zip es).map λp=>.tup [p.1,p.2]) [⟨.lst ds,.ref l1,f1⟩,⟨.lst es,.ref l2,f2⟩]:=by
 intro H i hh;obtain⟨p1,xs,g1,e1,q1,r1,_⟩:=(hh _ aam).dF;obtain⟨p2,ys,g2,e2,q2,r2,_⟩:=(hh _ (aal _ aam)).dF;cases e1;cases e2;have n1:=r1.aD c1;have n2:=r2.aD c2;subst n1 n2;refine⟨λd hd=>?_,λhl=>?_⟩
 .rw[ab6] at hd;cases hz:(ds.zip es)[i]? with
  |none=>rw[hz] at hd;cases hd
  |some pr=>
   rw[hz] at hd;cases hd;obtain⟨k1,k2⟩:=List.getElem?_zip_eq_some.mp hz;obtain⟨x,hx,rx⟩:=r1.Qf k1;obtain⟨y,hy,ry⟩:=r2.Qf k2;refine⟨⟨xs,ys,x,y,q1,q2,hx,hy⟩,λv H1 hv=>?_⟩;obtain⟨T,a,b,hT,rfl,rfl,ha,hb⟩:=hv;have ea:=ha xs q1;have eb:=hb ys q2;rw[hx] at ea;rw[hy] at eb;cases ea;cases eb;have s2:aF H (upd H T (.tup [x,y])):=λb o e=>by rw[aO (cK e hT)];exact e
   exact⟨s2,[],.tup (bZ.of cG) (az.cons (f1:=[]) (f2:=[]) (rx.same s2) (az.cons (f1:=[]) (f2:=[]) (ry.same s2) .nil)),λa m=>nomatch m⟩
 .rw[List.length_map,List.length_zip,r1.length,r2.length] at hl;exact⟨xs,ys,q1,q2,by lia⟩
theorem LO{x1}(hm:X.mg "zip"=none)(ha:FP X a fa)(hb:FP X b fb)(hg:Gl X "zip":=by rfl)(hs:starEach [a,b] X.env=[(false,eval a X.env),(false,eval b X.env)]:=by rfl)(dG:starEach [b] X.env=[(false,eval b X.env)]:=by rfl):
  FI X (.Tuple elts x1 tp) (.Call (.Name "zip" p) [a,b] [] pos) (pJ fa fb):=by
 obtain⟨t,pa,hlen,q⟩:=ao ha (ao hb aG dG) (by rw[hs,dG]);exists 24,Yk hg hm pa hs dG;unfold pJ at e
 split at e
 .rename_i d1 t1 d2 t2 h1 h2;obtain⟨hc,e⟩:=ci e;cases e;obtain⟨c1,c2⟩:=(aaH _ _).mp hc;refine q ok (by unfold ay aI;rw[h1,h2]) λH1 vs fp s1 r g=>?_
  cases r with
  | @cons _ v1 _ _ f1 _ r1 r=>
   cases r with
   | @cons _ v2 _ _ f2 _ r2 r=>
    cases r;obtain⟨l1,xs,g1,rfl,q1,_,_⟩:=r1.dF;obtain⟨l2,ys,g2,rfl,q2,_,_⟩:=r2.dF;refine⟨l1,l2,xs,ys,rfl,q1,q2,k H1 _ [⟨.lst d1,.ref l1,f1⟩,⟨.lst d2,.ref l2,f2⟩] s1 (λh m=>?_) (QX c1 c2)⟩;have go:=g.over ok;rcases aaV.mp m with rfl|m
    .exact⟨r1,λa ma=>go a (abb _ ma)⟩
    .cases aaX.mp m;exact⟨r2,λa ma=>go a (aat _ (abb _ ma))⟩
 .cases e
end
end L2.Ev
namespace L2
open PySem PySem.Spec PyProof.Rows
section
variable{X:Cx}
theorem KU:∀{bs:List Bool}{us:List Value},aQ (bs.map V.bl) us->us=bs.map Value.bool
 |[],_,r=>by rw[aeT] at r;cases r;rfl
 |b::bs,_,r=>by
  rw[aas] at r;cases r with
  |cons r1 r2=>cases r1;rw[KU r2];rfl
theorem range_all(bs:List Bool):(List.range bs.length).all (λj=>bs.getD j true)=bs.all id:=by
 induction bs with
 |nil=>rfl
 |cons b r ih=>
  rw[abQ,List.range_succ_eq_map,aeI,aeF,aeI,<- ih];rfl
theorem aaJ(hc:X.calm=true):g_ X (.builtin "all") (λxs H Q=>∃(p:Addr) (bs:List Bool),xs=[V.ref p]/\bR X.K H p (bs.map V.bl)/\Q (.bl (bs.all id)) H):=by
 intro af s σ H xs us Q I r h;obtain⟨p,bs,rfl,hq,q⟩:=h;obtain⟨u,rfl,ru⟩:=vals1 r;cases ru;obtain⟨au,v1,pl,hz⟩:=I.list hq;have ei:=KU v1;subst ei;have lp:=let⟨o,n,e,_⟩:=pl;abh e
 have hh:X.A.in1.handled=none:=I.ok.hd hc;refine call_all_walk (wpAny_pyIter_list pl.isList ?_);refine⟨s.heap.objs.size,_,_,_,_,_,λj=>bs.getD j true,rfl,Walks.list hh s.heap.objs.size p (acC lp) (bs.map Value.bool).toArray,⟨⟨_,ab2 _ rfl,rfl,rfl⟩,pl.isList.at λo e=>aao _ e⟩,?_,λh' tk hk=>?_⟩
 .intro i v s' Q' E' hv hQ;rw[List.getElem?_toArray,ab6] at hv;exists e,bs[i]?,b,hv;cases hv;dsimp only at hQ;rw[ac8,e] at hQ;exact adI hQ
 .have f:=I.rC (H':=H) (abu s.heap.objs.size) (I.aH.fresh (abu _));have I1:Inv X af σ H { s with heap:=s.heap.push { cls:=.type "list_iterator",data:=.fields #[.ref p,.int 0 0] } }:=I.kept λb o e=>aao _ e
  rw[abG,List.length_map,range_all];exact⟨.bl _,H,I1.P_ (ch:=[s.heap.objs.size]) (λb m=>by rw[aaX.mp m];exact f) λb o m e=>hk b o m e,rfl,q⟩
end
end L2
namespace L2.Ev
open PySem PySem.Spec PyProof.Rows
section
variable{X:Cx}{a b c:Expr}{fa fb:EF}{p pos:Pos}
noncomputable def lU:List D->Option (List Bool)
 |[]=>some []
 |.bl b::r=>(lU r).map (b::·)
 |_=>none
theorem PY{K:PySem.W.Frag}:∀{ds:List D}{xs:List V}{fp:List Addr}{bs:List Bool},az K H ds xs fp->lU ds=some bs->xs=bs.map V.bl
 |[],_,_,bs,r,e=>by cases r;cases e;rfl
 |d::ds,_,_,bs,r,e=>by
  cases r with
  |cons h t=>
   cases d<;>try (cases e;done)
   cases h;unfold lU at e;exists q,lU ds,r,e;cases e;rw[PY t q];rfl
def vH:D->Option D
 |.lst ds=>(lU ds).map λbs=>.bl (bs.all id)
 |_=>none
theorem Tz{K:PySem.W.Frag}:qB K (λxs H Q=>∃(p:Addr) (bs:List Bool),xs=[V.ref p]/\bR K H p (bs.map V.bl)/\Q (.bl (bs.all id)) H) vH:=by
 intro H x d1 f1 d Q r e k;cases d1 with
 |lst ds=>
  obtain⟨p,xs,f,rfl,hq,rs,_⟩:=r.dF;have e:(lU ds).map (λbs=>D.bl (bs.all id))=some d:=e;exists h,lU ds,bs,e;cases e;have ex:=PY rs h;subst ex;exact⟨p,bs,rfl,hq,k H _ [] (aF.refl H) (.bl _) aco λa m=>nomatch m⟩
 |_=>cases e
theorem Hj(hc:X.calm=true)(hm:X.mg "all"=none)(ha:FP X a fa)(hg:Gl X "all":=by rfl)(hs:starEach [a] X.env=[(false,eval a X.env)]:=by rfl):FP X (.Call (.Name "all" p) [a] [] pos) (e1 vH fa):=
 fp_1 Tz ha λta pa=>wj (aaJ hc) hg hm boot_all (dY pa fU hs) (he:=hs) (hpl:=rfl)
end
abbrev XF:=av->Option (D×av)
section
variable{X:Cx}{a b:Expr}{fa fb:EF}{pos:Pos}
theorem Q6(ha:FP X a fa)(hb:FP X b fb):FP X (.Compare a [.Lt] [b] pos) (e2 oLt fa fb):=pQ Mg pN ha hb (iY _)
theorem SA(ha:FP X a fa)(hb:FP X b fb):FP X (.Compare a [.LtE] [b] pos) (e2 oLe fa fb):=pQ yF pN ha hb (iY _)
theorem TR(ha:FP X a fa)(hb:FP X b fb):FP X (.Compare a [.Is] [b] pos) (e2 iF fa fb):=pQ OH Kz ha hb (iY _)
end
end L2.Ev
namespace L2.Ev
open PySem
theorem eE:∀ns:List Int,aN (ns.map D.int)=true
 |[]=>rfl
 |n::r=>by rw[aas];unfold aN;rw[eE r];rfl
theorem sS{as bs:List Int}(h:as.length+bs.length<=PySem.sizeLine):fP (.lst (as.map D.int)) (.lst (bs.map D.int))=some (.lst ((as++bs).map D.int)):=by
 show(if(aN (as.map D.int)&&aN (bs.map D.int)&&decide ((as.map D.int).length+(bs.map D.int).length<=PySem.sizeLine))=true then some (D.lst (as.map D.int++bs.map D.int)) else none)=_;rw[eE,eE,List.length_map,List.length_map,aaD h,adb];rfl
theorem K2{ns:List Int}(h:ns.length<64):lJ (.lst (ns.map D.int))=some (.lst ((cj ns).map D.int)):=by
 show(match dM (ns.map D.int) with|some ns=>if ns.length<64 then some (D.lst ((cj ns).map D.int)) else none|none=>none)=_;rw[tQ];dsimp only;rw[if_pos h]
theorem uf{ns:List Int}:sF (.lst (ns.map D.int))=some (.lst (ns.map D.int)):=by show(if aN (ns.map D.int)=true then some (D.lst (ns.map D.int)) else none)=_;rw[if_pos (eE ns)]
theorem Ie{ns:List Int}:sF (.tup (ns.map D.int))=some (.lst (ns.map D.int)):=by show(if aN (ns.map D.int)=true then some (D.lst (ns.map D.int)) else none)=_;rw[if_pos (eE ns)]
theorem yK{ns:List Int}:vM (.lst (ns.map D.int))=some (.tup (ns.map D.int)):=by show(if aN (ns.map D.int)=true then some (D.tup (ns.map D.int)) else none)=_;rw[if_pos (eE ns)]
open PySem PySem.Spec PyProof.Rows
theorem az.look{K:PySem.W.Frag}{H:Hp}:∀{es:List (Str×D)}{fs:List (Str×V)}{fp:List Addr}{f:Str}{d:D},es.map (·.1)=fs.map (·.1)->az K H (es.map (·.2)) (fs.map (·.2)) fp->es.lookup f=some d->∃v g,fs.lookup f=some v/\Rep K H d v g/\∀a∈g,a∈fp
 |[],[],_,_,_,_,_,e=>by cases e
 |[],_::_,_,_,_,k,_,_=>by simp at k
 |_::_,[],_,_,_,k,_,_=>by simp at k
 |(x,d0)::es,(y,v0)::fs,fp,f,d,k,r,e=>by
  simp only[aas,adQ] at k;obtain⟨rfl,k⟩:=k;cases r with
  |cons r1 r2=>
   by_cases hx:(f==x)=true
   .simp only[List.lookup,hx] at e ⊢;cases e;exact⟨v0,_,rfl,r1,λa m=>abb _ m⟩
   .have hx:(f==x)=false:=by simpa using hx
    simp only[List.lookup,hx] at e ⊢;obtain⟨v,g,h1,h2,h3⟩:=az.look (d:=d) k r2 e;exact⟨v,g,h1,h2,λa m=>aat _ (h3 a m)⟩
theorem tX:∀{es:List (Str×D)}{fs:List (Str×V)}{f:Str},es.map (·.1)=fs.map (·.1)->es.lookup f=none->fs.lookup f=none
 |[],[],_,_,_=>rfl
 |[],_::_,_,k,_=>by simp at k
 |_::_,[],_,k,_=>by simp at k
 |(x,d0)::es,(y,v0)::fs,f,k,e=>by
  simp only[aas,adQ] at k;obtain⟨rfl,k⟩:=k
  by_cases hx:(f==x)=true
  .simp only[List.lookup,hx] at e;cases e
  .have hx:(f==x)=false:=by simpa using hx
   simp only[List.lookup,hx] at e ⊢;exact tX k e
structure ClsAt(K:PySem.W.Frag)(cn:Str)(C:Addr):Prop where
 ns:PySem.W.nsIn K mainGlobals cn=some (some (.ref C))
 cl:kF K C
theorem Rep.lR{K:PySem.W.Frag}{H:Hp}{cn:Str}(r:Rep K H (.ins cn es) v fp)(hn:PySem.W.nsIn K mainGlobals cn=some (some (.ref C))):
  ∃a dx fs g,v=.ref a/\fp=a::dx::g/\H a=some (.ins C dx fs)/\H dx=some (.own a)/\es.map (·.1)=fs.map (·.1)/\az K H (es.map (·.2)) (fs.map (·.2)) g:=by
 cases r with
 | @ins _ a C' dx fs _ g h0 h1 h2 h3 h4=>
  rw[hn] at h0;cases h0;exact⟨a,dx,fs,g,rfl,rfl,h1,h2,h3,h4⟩
def bA(cn f:Str)(fa:EF):EF:=λρ=>match fa ρ with
 |some (.ins c es,t)=>if c=cn then(es.lookup f).map λd=>(d,kH t) else none
 |_=>none
section
variable{X:Cx}{a:Expr}{fa:EF}{pos:Pos}
theorem cu.sub(hz:∀a j,z a=some j->∃o,H a=some o)(h:cu z H t f)(s:∀a∈g,a∈f):cu z H (kH t) g:=by
 cases t with
 |sh o=>exact λa m j q=>h a (s a m) j q
 |own=>exact λa m j q=>by obtain⟨o,w⟩:=hz a j q;rw[h.2 a (s a m)] at w;cases w
 |lk=>exact λa m j q=>by obtain⟨o,w⟩:=hz a j q;rw[h.2 a (s a m)] at w;cases w
theorem bz{cn f:Str}{C:Addr}(hC:ClsAt X.K cn C)(na:ji X.K C f)(ha:FP X a fa)(hb:attributeBase a f X.env (eval a X.env)=eval a X.env:=by rfl):FP X (.Attribute a f pos) (bA cn f fa):=by
 obtain⟨t,p,q⟩:=ha;exists 21,sN p hb;unfold bA at e;exists h,fa ρ,w,e,0;obtain⟨d0,t0⟩:=w;rw[h] at e;cases d0<;>try (cases e;done)
 rename_i c es;dsimp only at e
 by_cases hc:c=cn
 .subst hc;rw[if_pos rfl] at e;exists hl,es.lookup f,d1,e;cases e;refine q ok h λH1 v fp s1 r1 g1=>?_
  obtain⟨b,dx,fs,g,rfl,rfl,h1,h2,h3,h4⟩:=r1.lR hC.ns;obtain⟨u,gf,h5,h6,h7⟩:=az.look h3 h4 hl;exact⟨b,C,dx,fs,u,rfl,h1,hC.cl,na,h5,k H1 u gf s1 h6 (cu.sub (λa j e=>(ok.zd a j e).1) g1 λa m=>aal _ (aal _ (h7 a m)))⟩
 .rw[if_neg hc] at e;cases e
end
noncomputable def bY(cn m:Str)(F:List D->Option D)(fo:EF)(g:AF):EF:=λρ=>match fo ρ with
 |some (.ins c es,_)=>if c=cn/\es.lookup m=none then(g ρ).bind λps=>(F (.ins c es::ps.map (·.1))).map λd=>(d,.own) else none
 |_=>none
section
variable{X:Cx}{o e:Expr}{es:List Expr}{fo:EF}{g:AF}{m cn:Str}{apos pos:Pos}{k:Nat}{C f:Addr}{fd:FuncData}{ps:List Str}{F:List D->Option D}{pl:Sem Bool}
theorem Lr{ta:TA}(hC:ClsAt X.K cn C)(q:∀{H0:Hp}{S:List Addr}{z:Addr->Option Nat}{Q:VK}{d:D}{tg:Tag},Ok X.K H0 S z aq ρ σ H->fo ρ=some (d,tg)->(∀H' v fp,aF H H'->Rep X.K H' d v fp->cu z H tg fp->Q v H')->t σ H Q)
  (qa:∀{H0:Hp}{S:List Addr}{z:Addr->Option Nat}{aq:List bX}{ρ:av}{σ:St}{H:Hp}{Q:List V->Hp->Prop}{ps:List (D×Tag)},Ok X.K H0 S z aq ρ σ H->g ρ=some ps->(∀H' vs fp,aF H H'->az X.K H' (ps.map (·.1)) vs fp->cu z H (ju ps) fp->Q vs H')->ta σ H Q)
  (ok:Ok X.K H0 S z aq ρ σ H) (e0:bY cn m F fo g ρ=some (d,tg)) (kk:∀H' v fp,aF H H'->Rep X.K H' d v fp->cu z H tg fp->Q v H') :
  BE C m (bh X.K F) [] E0 t ta σ H Q:=by
 unfold bY at e0;cases h:fo ρ with
 |none=>rw[h] at e0;cases e0
 |some w=>
  obtain⟨d0,t0⟩:=w;rw[h] at e0;cases d0<;>try (cases e0;done)
  rename_i c zG;dsimp only at e0
  by_cases hc:c=cn/\zG.lookup m=none
  .rw[if_pos hc] at e0;obtain⟨rfl,hm⟩:=hc;cases h2:g ρ with
   |none=>rw[h2] at e0;cases e0
   |some qs=>
    rw[h2,acQ] at e0;cases h3:F (.ins c zG::qs.map (·.1)) with
    |none=>rw[h3] at e0;cases e0
    |some d1=>
     rw[h3] at e0;cases e0;refine q ok h λH1 v fp s1 r1 g1=>?_
     obtain⟨b,dx,fs,gf,rfl,rfl,h4,h5,h6,h7⟩:=r1.lR hC.ns;refine⟨b,dx,fs,rfl,h4,tX h6 hm,?_⟩;refine qa (ok.same s1) h2 λH2 vs mE s2 r2 _=>?_
     rw[acH];exact⟨_,_,d,.cons (r1.same s2) r2,h3,λH3 u jW s3 r3 nd fr=>kk H3 u jW ((s1.trans s2).trans s3) r3 ⟨nd,λa m=>s1.free (s2.free (fr a m))⟩⟩
  .rw[if_neg hc] at e0;cases e0
theorem fq(hC:ClsAt X.K cn C)(hm:lD X.K C m f)(G:b_ X.prog X.w X.K X.mg X.base cT k f fd ps (bh X.K F))(hr:bq k X.A)(hb:Binds X.K fd ps [])(ho:FP X o fo)(ha:FA X (e::es) g)
  (iw:SE X e es pos:=by exact⟨rfl,rfl⟩)
  (ht:vG X o m apos (e::es) pos pl:=by exact rfl):FP X (.Call (.Attribute o m apos) (e::es) [] pos) (bY cn m F fo g):=by
 obtain⟨t,p,q⟩:=ho;obtain⟨ta,pa,_,qa⟩:=ha;exact⟨_,yP (pl:=pl) p hC.cl hm G hr hb .nil mz pa iw.1 iw.2 ht,@λH0 S z aq ρ σ H Q d tg ok e0 kk=>Lr hC q qa ok e0 kk⟩
theorem dg(hC:ClsAt X.K cn C)(hm:lD X.K C m f)(G:b_ X.prog X.w X.K X.mg X.base cT k f fd ps (bh X.K F))(hr:bq k X.A)(hb:Binds X.K fd ps [])(ho:FP X o fo)
  (ht:vG X o m apos [] pos pl:=by exact rfl):FP X (.Call (.Attribute o m apos) [] [] pos) (bY cn m F fo aI):=by
 obtain⟨t,p,q⟩:=ho;obtain⟨ta,pa,_,qa⟩:=aG (X:=X);refine⟨_,My (pl:=pl) p hC.cl hm G hr hb .nil mz ht,@λH0 S z aq ρ σ H Q d tg ok e0 kk=>Lr (ta:=r6) (g:=aI) hC q (@λ_ _ _ _ _ _ H _ _ _ e q=>by cases e;exact q H _ _ (aF.refl H) .nil .nil) ok e0 kk⟩
end
noncomputable abbrev MF:=D->List D->Option (D×D)
def cY(K:PySem.W.Frag)(G:MF):Sp:=λvs H Q _=>∃a ws d0 a_ ds dw r d1,vs=V.ref a::ws/\Rep K H d0 (.ref a) a_/\a_.Nodup/\az K H ds ws dw/\(∀b∈dw,b∉a_)/\G d0 ds=some (r,d1)/\
 ∀H' v bN,aU H H'->(∀b o,b∉a_->H b=some o->H' b=some o)->Rep K H' d1 (.ref a) bN->bN.Nodup->(∀b∈bN,b∈a_\/H b=none)->Rep K H' r v []->Q v H'
def apart(i:Nat)(ps:List (D×Tag)):Bool:=match ju ps with
 |.sh o=>!o.contains i
 |_=>true
theorem Fy{K:PySem.W.Frag}{H0:Hp}{S:List Addr}{z:Addr->Option Nat}{aq:List bX}{ps:List (D×Tag)}(ok:Ok K H0 S z aq ρ σ H)(h:apart i ps=true)(g:cu z H (ju ps) fp)(zz:uR z i .own a_):∀b∈fp,b∉a_:=by
 intro b m n;unfold apart at h;have zb:=zz.2 b n;cases ht:ju ps with
 |sh o=>
  rw[ht] at h g;have:=g b m i zb;simp at h;exact h this
 |own=>
  rw[ht] at g;obtain⟨⟨o,w⟩,_⟩:=ok.zd b i zb;rw[g.2 b m] at w;cases w
 |lk=>
  rw[ht] at g;obtain⟨⟨o,w⟩,_⟩:=ok.zd b i zb;rw[g.2 b m] at w;cases w
def xO(i:Nat)(cn m:Str)(G:MF)(g:AF):XF:=λρ=>match ρ[i]?,g ρ with
 |some (some (.ins c es,.own)),some ps=>if c=cn/\es.lookup m=none/\apart i ps=true then(G (.ins c es) (ps.map (·.1))).map λw=>(w.1,bP ρ i w.2) else none
 |_,_=>none
theorem LH{i:Nat}{cn m:Str}{G:MF}{g:AF}{ρ ρ':av}{r:D}(e:xO i cn m G g ρ=some (r,ρ')):∃es ps d1,ρ[i]? = some (some (.ins cn es,.own))/\g ρ=some ps/\es.lookup m=none/\apart i ps=true/\G (.ins cn es) (ps.map (·.1))=some (r,d1)/\ρ'=bP ρ i d1:=by
 unfold xO at e
 split at e
 .rename_i c es ps h1 h2
  by_cases hc:c=cn/\es.lookup m=none/\apart i ps=true
  .rw[if_pos hc] at e;obtain⟨rfl,hm,ha⟩:=hc;exists h3,G (.ins c es) (ps.map (·.1)),w,e;cases e;exact⟨es,ps,w.2,h1,h2,hm,ha,h3,rfl⟩
  .rw[if_neg hc] at e;cases e
 .cases e
def FZ(X:Cx)(e:Expr)(f:XF):Prop:=∃t,PE X e t/\∀{H0:Hp}{S:List Addr}{z:Addr->Option Nat}{aq:List bX}{ρ:av}{σ:St}{H:Hp}{Q:VK}{d:D}{ρ':av},
 Ok X.K H0 S z aq ρ σ H->f ρ=some (d,ρ')->(∀z' H' v,Ok X.K H0 S z' aq ρ' σ H'->Rep X.K H' d v []->Q v H')->t σ H Q
section
variable{X:Cx}{e:Expr}{es:List Expr}{g:AF}{m cn x:Str}{p1 apos pos:Pos}{k:Nat}{C f:Addr}{fd:FuncData}{ps:List Str}{G:MF}{pl:Sem Bool}{fx:XF}
theorem aa6{i:Nat}{ta:TA}(hC:ClsAt X.K cn C)(hN:X.N[i]? = some x)
  (qa:∀{H0:Hp}{S:List Addr}{z:Addr->Option Nat}{aq:List bX}{ρ:av}{σ:St}{H:Hp}{Q:List V->Hp->Prop}{ps:List (D×Tag)},Ok X.K H0 S z aq ρ σ H->g ρ=some ps->(∀H' vs fp,aF H H'->az X.K H' (ps.map (·.1)) vs fp->cu z H (ju ps) fp->Q vs H')->ta σ H Q)
  {H0:Hp} (ok:Ok X.K H0 S z aq ρ σ H) (e0:xO i cn m G g ρ=some (d,ρ')) (kk:∀z' H' v,Ok X.K H0 S z' aq ρ' σ H'->Rep X.K H' d v []->Q v H') :
  BE C m (cY X.K G) [] E0 (Ck i) ta σ H Q:=by
 obtain⟨zG,qs,d1,h1,h2,hm,ow,hG,rfl⟩:=LH e0;obtain⟨v,a_,hs,r0,zz⟩:=ok.sl i _ _ h1;refine⟨v,hs,?_⟩;obtain⟨b,dx,fs,gf,rfl,Er,h4,h5,h6,h7⟩:=r0.lR hC.ns;refine⟨b,dx,fs,rfl,h4,tX h6 hm,?_⟩;refine qa ok h2 λH2 vs mE s2 r2 g2=>?_
 rw[acH];have n_:=ok.same s2;refine⟨b,vs,_,a_,_,mE,d,d1,rfl,r0.same s2,zz.1,r2,Fy ok ow g2 zz,hG,λH3 u bN im kp r1 nd fr rr=>?_⟩;obtain⟨z',iN⟩:=n_.put h1 hs zz im kp r1 nd fr;exact kk z' H3 u iN rr
theorem jd(i:Nat)(hC:ClsAt X.K cn C)(hm:lD X.K C m f)(GG:b_ X.prog X.w X.K X.mg X.base cT k f fd ps (cY X.K G))(hr:bq k X.A)(hb:Binds X.K fd ps [])(va:VA X i x:=by walk_at "va")
  (ht:vG X (.Name x p1) m apos [] pos pl:=by exact rfl):FZ X (.Call (.Attribute (.Name x p1) m apos) [] [] pos) (xO i cn m G aI):=
 ⟨_,My (pl:=pl) va.pe hC.cl hm GG hr hb .nil mz ht,@λH0 S z aq ρ σ H Q d ρ' ok e0 kk=>aa6 (ta:=r6) (g:=aI) hC va.N (@λ_ _ _ _ _ _ H _ _ _ e q=>by cases e;exact q H _ _ (aF.refl H) .nil .nil) ok e0 kk⟩
noncomputable def sZ(f:XF):SF:=λρ=>(f ρ).map λw=>.nx w.2
theorem iE(he:FZ X e fx)(jM:swapsWith e none pos.line X.env=pure false:=by rfl):eO X (.Expr e pos) (sZ fx):=by
 obtain⟨t,p,q⟩:=he;exists 23,zE p jM;unfold sZ at e;exists h,fx ρ,w,e,0;obtain⟨d,aM⟩:=w;rw[h] at e;cases e;exact q ok h λz' H1 v b8 r1=>k z' σ H1 b8 (.refl _ _)
def Po(i:Nat)(f:XF):SF:=λρ=>match f ρ with
 |some (d,ρ')=>some (.nx (iC ρ' i d .own))
 |none=>none
theorem Tp(i:Nat){pos':Pos}(he:FZ X e fx)(hN:X.N.Nodup)(hi:X.N[i]? = some x:=by rfl)(hx:Loc X.env.scope x:=by first|exact Or.inl rfl|exact Or.inr rfl)
  (hs:swapsWith e (some (.Name x pos')) pos.line X.env=pure false:=by rfl) (hf:X.fn x=true\/X.env.scope.names.lookup x=some .local:=by first|exact .inl rfl|exact .inr rfl) (mV:j7 X x=false:=by rfl):eO X (.Assign [.Name x pos'] e pos) (Po i fx):=by
 obtain⟨t,p,q⟩:=he;exists 23,zT (i:=i) hN hi hx p hs hf;unfold Po at e;cases h:fx ρ with
 |none=>rw[h] at e;cases e
 |some w=>
  obtain⟨d,aM⟩:=w;rw[h] at e;cases e;refine q ok h λz1 H1 v b8 r1=>?_
  exact b8.stored (t:=.own) (aF.refl H1) r1 .nil λz' aT=>k z' _ H1 aT (.set hi mV)
end
noncomputable def rJ(cn:Str)(G:MF)(g:AF):EF:=λρ=>(g ρ).bind λps=>match G (.ins cn []) (ps.map (·.1)) with
 |some (.aA,d)=>some (d,.own)
 |_=>none
section
variable{X:Cx}{e:Expr}{es:List Expr}{g:AF}{cn x:Str}{p pos:Pos}{k:Nat}{C f:Addr}{fd:FuncData}{ps:List Str}{G:MF}
theorem make_core{H1:Hp}{vs:List V}{fp:List Addr}{Q:VK}(hn:PySem.W.nsIn X.K mainGlobals cn=some (some (.ref C)))(r1:az X.K H1 ds vs fp)(h3:G (.ins cn []) ds=some (.aA,d))(kk:∀H' v fp,aF H1 H'->Rep X.K H' d v fp->fp.Nodup->(∀a∈fp,H1 a=none)->Q v H'):
  ∀x dx,H1 x=none->H1 dx=none->dx≠x->cY X.K G (.ref x::(vs++[])) (upd (upd H1 dx (.own x)) x (.ins C dx [])) (λv H2=>v=.aA/\Q (.ref x) H2) E0:=by
 intro b dx nb Bd ne;rw[acH];have s2:aF H1 (upd (upd H1 dx (.own b)) b (.ins C dx [])):=λc o e=>by rw[aO (cK e nb),aO (cK e Bd)];exact e
 refine⟨b,vs,.ins cn [],[b,dx],_,fp,.aA,d,rfl,.ins hn cG (by rw[aO ne];exact cG) rfl .nil,?_,r1.same s2,λc m n=>?_,h3,λH3 u bN im kp r3 nd fr rr=>?_⟩
 .exact aby.mpr ⟨λm=>ne (aaX.mp m).symm,aby.mpr ⟨(λm=>nomatch m),aco⟩⟩
 .obtain⟨o,w,_⟩:=r1.b7 c m;rcases aaV.mp n with e|n
  .rw[e,nb] at w;cases w
  .rw[aaX.mp n,Bd] at w;cases w
 .cases rr;refine⟨rfl,kk H3 _ bN (λc o e=>?_) r3 nd λc m=>?_⟩
  .refine kp c o (λn=>?_) (s2 c o e);rcases aaV.mp n with q|n
   .rw[q,nb] at e;cases e
   .rw[aaX.mp n,Bd] at e;cases e
  .rcases fr c m with q|q
   .rcases aaV.mp q with q|q
    .rw[q];exact nb
    .rw[aaX.mp q];exact Bd
   .exact s2.free q
theorem OS{ta:TA}(hn:PySem.W.nsIn X.K mainGlobals cn=some (some (.ref C)))
  (qa:∀{H0:Hp}{S:List Addr}{z:Addr->Option Nat}{aq:List bX}{ρ:av}{σ:St}{H:Hp}{Q:List V->Hp->Prop}{ps:List (D×Tag)},Ok X.K H0 S z aq ρ σ H->g ρ=some ps->(∀H' vs fp,aF H H'->az X.K H' (ps.map (·.1)) vs fp->cu z H (ju ps) fp->Q vs H')->ta σ H Q)
  {H0:Hp}{S:List Addr}{z:Addr->Option Nat}{aq:List bX}{ρ:av}{σ:St}{H:Hp}{Q:VK}{d:D}{tg:Tag} (ok:Ok X.K H0 S z aq ρ σ H) (e0:rJ cn G g ρ=some (d,tg)) (kk:∀H' v fp,aF H H'->Rep X.K H' d v fp->cu z H tg fp->Q v H') :
  Ct C (cY X.K G) [] E0 ta σ H Q:=by
 unfold rJ at e0;exists h2,g ρ,qs,e0,0;rw[h2,acQ] at e0;exists h3,G (.ins cn []) (qs.map (·.1)),w,e0,0;obtain⟨r,d1⟩:=w;rw[h3] at e0;cases r<;>try (cases e0;done)
 cases e0;refine qa ok h2 λH1 vs fp s1 r1 _=>?_
 exact make_core hn r1 h3 λH' v fp s2 r3 nd fr=>kk H' v fp (s1.trans s2) r3 ⟨nd,λa m=>s1.free (fr a m)⟩
theorem RC(hn:PySem.W.nsIn X.K mainGlobals cn=some (some (.ref C)))(M:Mk X.K C f)(GG:b_ X.prog X.w X.K X.mg X.base cT k f fd ps (cY X.K G))(hr:bq (k+1) X.A)(hm:X.mg x=some (.ref C))(hb:Binds X.K fd ps [])(hg:GD X x:=by exact⟨rfl,by decide⟩):
  FP X (.Call (.Name x p) [] [] pos) (rJ cn G aI):=
 ⟨_,Vf M GG hr hg.1 hm hb .nil mz hg.2,@λH0 S z aq ρ σ H Q d tg ok e0 kk=>OS (ta:=r6) (g:=aI) hn (@λ_ _ _ _ _ _ H _ _ _ e q=>by cases e;exact q H _ _ (aF.refl H) .nil .nil) ok e0 kk⟩
theorem Mp(hn:PySem.W.nsIn X.K mainGlobals cn=some (some (.ref C)))(M:Mk X.K C f)(GG:b_ X.prog X.w X.K X.mg X.base cT k f fd ps (cY X.K G))(hr:bq (k+1) X.A)(hm:X.mg x=some (.ref C))(hb:Binds X.K fd ps [])(ha:FA X (e::es) g)(hg:GD X x:=by exact⟨rfl,by decide⟩)
  (he:SE X e es pos:=by exact⟨rfl,rfl⟩):FP X (.Call (.Name x p) (e::es) [] pos) (rJ cn G g):=by
 obtain⟨ta,pa,_,qa⟩:=ha;exact⟨_,YG M GG hr hg.1 hm hb .nil mz pa hg.2 he.1 he.2,@λH0 S z aq ρ σ H Q d tg ok e0 kk=>OS hn qa ok e0 kk⟩
end
end L2.Ev
namespace L2
open PySem PySem.Spec PyProof.Rows
section
variable{X:Cx}
noncomputable abbrev Cx.jO(X:Cx)(xs:List Str):Cx:={ X with fn:=λy=>!(xs.contains y) }
theorem gJ.jO{st:List Stmt}(hX:X.fn=λ_=>true)(h:gJ (X.jO xs) st t):gJ X st t:=λaf s σ H W I hw=>by
 have I':Inv (X.jO xs) af σ H s:=⟨⟨I.ok.mod,I.ok.kind,I.ok.glob,I.ok.blt,I.ok.above,I.ok.inj,I.ok.has,λx c _ e=>I.ok.sU x c (by rw[hX]) e,I.ok.hd,I.ok.frames,I.ok.wC,I.ok.Br,I.ok.bs,I.ok.jP,I.ok.tF,I.ok.ux,I.ok.jX,I.ok.qq⟩,I.os,I.bare,I.base,I.loc,I.cell,I.free,I.jq,I.pin,I.aH,I.len,I.hq⟩
 have back:∀{aC:St}{H':Hp}{s':Shared},Inv (X.jO xs) af aC H' s'->Inv X af aC H' s':=λJ=>⟨I.ok,J.os,J.bare,J.base,J.loc,J.cell,J.free,J.jq,J.pin,J.aH,J.len,J.hq⟩
 refine adH (h af s σ H W I' hw) (λf s' q=>?_) λ_ _ z=>z
 cases f with
 |next=>obtain⟨a,b,J,q⟩:=q;exact⟨a,b,back J,q⟩
 |brk=>obtain⟨a,b,J,q⟩:=q;exact⟨a,b,back J,q⟩
 |cont=>obtain⟨a,b,J,q⟩:=q;exact⟨a,b,back J,q⟩
 |ret u=>obtain⟨v,a,b,J,r,q⟩:=q;exact⟨v,a,b,back J,r,q⟩
end
end L2
namespace L2.Ev
open PySem PySem.Spec PyProof.Rows
noncomputable def jT:List Nat->av->Option (List D)
 |[],_=>some []
 |i::J,ρ=>match ρ[i]? with
  |some (some (d,Tag.own))=>(jT J ρ).map (d::·)
  |_=>none
def vP(J:List Nat)(im:Bool)(X:Cx)(H0:Hp)(S:List Addr)(aq:List bX)(n5:St)(E:Ends):Out->Prop
 |.rt p=>∃r es,p=.tup (r::es)/\∀z ρ σ H v ck,Ok X.K H0 S z aq ρ σ H->jT J ρ=some es->Kp X n5 σ->Rep X.K H r v ck->ck.Nodup->(∀b∈ck,(H0 b=none\/b∈S)/\∀i∈J,z b≠some i)->(im=true->ck=[])->E.rt v H
 |o=>nZ X H0 S aq n5 E o
def FJ(J:List Nat)(im:Bool)(X:Cx)(st:List Stmt)(f:SF):Prop:=∃t,gJ X st t/\∀{H0:Hp}{S:List Addr}{z:Addr->Option Nat}{aq:List bX}{ρ:av}{σ:St}{H:Hp}{E:Ends}{o:Out},
 Ok X.K H0 S z aq ρ σ H->f ρ=some o->vP J im X H0 S aq σ E o->t E σ H
def pA(J:List Nat)(im:Bool)(X:Cx)(st:Stmt)(f:SF):Prop:=∃t,PS X st t/\∀{H0:Hp}{S:List Addr}{z:Addr->Option Nat}{aq:List bX}{ρ:av}{σ:St}{H:Hp}{E:Ends}{o:Out},
 Ok X.K H0 S z aq ρ σ H->f ρ=some o->vP J im X H0 S aq σ E o->t E σ H
noncomputable abbrev EC:=FJ [0]
noncomputable abbrev FM:=FJ [0] true
theorem vP.of{J:List Nat}{im:Bool}{X:Cx}{H0:Hp}{S:List Addr}{aq:List bX}{σ aC:St}{E:Ends}{o:Out}(k:vP J im X H0 S aq σ E o)(a:Kp X σ aC):vP J im X H0 S aq aC E o:=by
 cases o with
 |nx ρ=>exact nZ.of (o:=.nx ρ) k a
 |bk ρ=>exact nZ.of (o:=.bk ρ) k a
 |ct ρ=>exact nZ.of (o:=.ct ρ) k a
 |er raw cn ρ=>exact tG.of k a
 |rt d=>obtain⟨r,d0,e,k⟩:=k;exact⟨r,d0,e,λz ρ s H v ck ok h b=>k z ρ s H v ck ok h (a.trans b)⟩
noncomputable def ir(f:SF):SF:=λρ=>match f ρ with
 |some (.nx ρ')=>some (.nx ρ')
 |some (.bk ρ')=>some (.bk ρ')
 |some (.ct ρ')=>some (.ct ρ')
 |some (.er raw cn ρ')=>some (.er raw cn ρ')
 |_=>none
section
variable{J:List Nat}{im:Bool}{X:Cx}{pos:Pos}{st:Stmt}{rest:List Stmt}{f g:SF}
theorem bf(h:eO X st f):pA J im X st (ir f):=by
 obtain⟨t,p,q⟩:=h;refine⟨t,p,@λH0 S z aq ρ σ H E o ok e k=>?_⟩;unfold ir at e;cases h:f ρ with
 |none=>rw[h] at e;cases e
 |some w=>
  rw[h] at e;refine q ok h ?_;cases w<;>first|(cases e;done)|(cases e;exact k)
theorem iZ:FJ J im X [] gO:=⟨_,Il,@λ_ _ z _ _ σ H _ _ ok e k=>by cases e;exact k z σ H ok (.refl _ _)⟩
theorem cN(h:pA J im X st f):FJ J im X [st] f:=let⟨t,p,q⟩:=h;⟨t,K6 p,q⟩
theorem bg(h1:pA J im X st f)(h2:FJ J im X rest g):FJ J im X (st::rest) (bV f g):=by
 obtain⟨t,p,q⟩:=h1;obtain⟨t',p',q'⟩:=h2;exists 23,xx p p';unfold bV at e;cases h:f ρ with
 |none=>rw[h] at e;cases e
 |some w=>
  refine q ok h ?_;rw[h] at e;cases w with
  |nx ρ'=>exact λz' aC H' aT a=>q' aT e (k.of a)
  |rt d=>cases e;exact k
  |bk ρ'=>cases e;exact k
  |ct ρ'=>cases e;exact k
  |er _ _ _=>cases e;exact k
theorem gu{c:Expr}{a b:List Stmt}{tc:TF}(hc:FT X c tc)(ha:FJ J im X a f)(hb:FJ J im X b g):pA J im X (.If c a b pos) (eN tc f g):=by
 obtain⟨t,p,q⟩:=hc;obtain⟨t1,p1,q1⟩:=ha;obtain⟨t2,p2,q2⟩:=hb;exists 23,Lj p p1 p2;unfold eN at e;cases h:tc ρ with
 |none=>rw[h] at e;cases e
 |some y=>
  rw[h] at e;refine q ok h λH1 s1=>?_
  cases y with
  |true=>rw[if_pos rfl];exact q1 (ok.same s1) e k
  |false=>rw[if_neg aa9];exact q2 (ok.same s1) e k
theorem nN:pA J im X st Fo:=⟨_,M3,@λ_ _ _ _ _ _ _ _ _ _ e _=>by cases e⟩
def uw(f:EF)(J:List Nat:=[0]):SF:=λρ=>match f ρ,jT J ρ with
 |some (r,_),some es=>if aD r=true then some (.rt (.tup (r::es))) else none
 |_,_=>none
theorem pV{e:Expr}{f:EF}(he:FP X e f):pA J im X (.Return (some e) pos) (uw f J):=by
 obtain⟨t,p,q⟩:=he;exists 23,vY p;unfold uw at e
 split at e
 .rename_i r tg es h1 h2
  by_cases hi:aD r=true
  .rw[if_pos hi] at e;cases e;obtain⟨r',qf,ee,k⟩:=k;cases ee;refine q ok h1 λH1 v fp s1 r1 _=>?_
   have hn:=r1.aD hi;subst hn;exact k z ρ σ H1 v [] (ok.same s1) h2 (.refl _ _) r1 aco (λb m=>nomatch m) λ_=>rfl
  .rw[if_neg hi] at e;cases e
 .cases e
def A2(f:XF)(J:List Nat:=[0]):SF:=λρ=>match f ρ with
 |some (r,ρ')=>(jT J ρ').map λes=>.rt (.tup (r::es))
 |none=>none
theorem Tw{e:Expr}{f:XF}(he:FZ X e f):pA J im X (.Return (some e) pos) (A2 f J):=by
 obtain⟨t,p,q⟩:=he;exists 23,vY p;unfold A2 at e;cases h1:f ρ with
 |none=>rw[h1] at e;cases e
 |some w=>
  rw[h1] at e;obtain⟨es,h2,rfl⟩:=ab8.mp e;obtain⟨r',qf,ee,k⟩:=k;cases ee;exact q ok h1 λz' H1 v b8 r1=>k z' w.2 σ H1 v [] b8 h2 (.refl _ _) r1 aco (λb m=>nomatch m) λ_=>rfl
def NZ(i:Nat)(J:List Nat:=[0]):SF:=λρ=>match ρ[i]?,jT J ρ with
 |some (some (r,Tag.own)),some es=>if J.contains i=true then none else some (.rt (.tup (r::es)))
 |_,_=>none
theorem aa0(i:Nat){x:Str}{p1:Pos}(va:VA X i x:=by walk_at "va"):pA J false X (.Return (some (.Name x p1)) pos) (NZ i J):=by
 exists 23,vY va.pe;unfold NZ at e
 split at e
 .rename_i r es h1 h0
  by_cases hj:J.contains i=true
  .rw[if_pos hj] at e;cases e
  .rw[if_neg hj] at e;cases e;obtain⟨r',qf,ee,k⟩:=k;cases ee;obtain⟨v,fp,hs,rr,zz⟩:=ok.sl i _ _ h1;refine⟨v,hs,k z ρ σ H v fp ok h0 (.refl _ _) rr zz.1 (λb m=>⟨(ok.zd b i (zz.2 b m)).2,λj mj q=>?_⟩) λq=>nomatch q⟩;rw[zz.2 b m] at q;cases q;exact hj (ada.mpr mj)
 .cases e
end
noncomputable def yY(n:Nat)(d0:D)(ds:List D):av:=some (d0,.own)::(ds.map (λd=>some (d,.sh []))++List.replicate (n-(ds.length+1)) none)
def runM(n N:Nat)(b:SF):MF:=λd0 ds=>if ds.length + 1=n then(match b (yY N d0 ds) with
 |some (.rt (.tup [r,d1]))=>some (r,d1)
 |some (.nx ρ)=>match ρ[0]? with
  |some (some (d1,Tag.own))=>some (.aA,d1)
  |_=>none
 |_=>none) else none
theorem Wf{ρ:av}{d:D}(h:jT [0] ρ=some [d]):ρ[0]? = some (some (d,.own)):=by
 unfold jT at h
 split at h
 .rename_i d' e;cases h;exact e
 .cases h
def GC(im:Bool)(K:PySem.W.Frag)(G:MF):Sp:=λvs H Q _=>∃v0 ws d0 a_ ds dw r d1,vs=v0::ws/\Rep K H d0 v0 a_/\a_.Nodup/\az K H ds ws dw/\(∀b∈dw,b∉a_)/\G d0 ds=some (r,d1)/\
 ∀H' v bN ck,aU H H'->(∀b o,b∉a_->H b=some o->H' b=some o)->Rep K H' d1 v0 bN->bN.Nodup->(∀b∈bN,b∈a_\/H b=none)->Rep K H' r v ck->ck.Nodup->(∀b∈ck,(b∈a_\/H b=none)/\b∉bN)->(im=true->ck=[])->Q v H'
section
variable{P:Program}{w:World}{K:PySem.W.Frag}{mg:Str->Option Value}{base:Heap}
theorem aag:∀vs H Q E,cY K G vs H Q E->GC true K G vs H Q E:=λ_ _ _ _ ⟨a,ws,d0,a_,ds,dw,r,d1,h1,h2,h3,h4,h5,h6,q⟩=>⟨.ref a,ws,d0,a_,ds,dw,r,d1,h1,h2,h3,h4,h5,h6,λH' v bN ck a1 a2 a3 a4 a5 a6 _ _ e=>q H' v bN a1 a2 a3 a4 a5 (by rw[<- e rfl];exact a6)⟩
theorem VW{im:Bool}{x qual x0:Str}{st:Stmt}{f:Addr}{fd:FuncData}{N ps:List Str}{k:Nat}{b:SF}(F:jJ K x qual st f fd)(S:pO N ps (cB st))(h0:N[0]? = some x0)
  (hb:∀(aR:Value) (A:Around) (outer:List Env) (s:Shared) (H:Hp) (E:XK),bq k (A.deeper (envOfC qual (cB st) s.heap.objs.size f aR))->EC im ((iQ cT P w K mg base N qual (cB st) f aR A outer s H E).fX.jO [x0]) (gH st) b) :
  b_ P w K mg base cT (k+1) f fd ps (GC im K (runM ps.length N.length b)):=by
 have qO:∀{d0:D}{ds:List D}{r:D×D},runM ps.length N.length b d0 ds=some r->ds.length+1=ps.length:=λ{d0 ds r} e=>by
  unfold runM at e
  split at e
  .assumption
  .cases e
 refine F.ok S (λvs H Q E ⟨v0,ws,d0,a_,ds,dw,r,d1,e0,_,_,rs,_,e,_⟩=>?_) λaR A outer s H vs Q E hr ⟨v0,ws,d0,a_,ds,dw,r,d1,e0,r0,WD,rs,dj,e,q⟩=>?_
 .rw[e0,abQ,<- rs.length,qO e]
 .obtain⟨t,pt,sd⟩:=hb aR A outer s H E hr;refine⟨t,pt.jO rfl,?_⟩;have R8:az K H [d0] [v0] a_:=by have:=az.cons r0 .nil;rwa [acH] at this
  obtain⟨z,ok⟩:=Ok.jL (N:=N) R8 WD rs dj;rw[e0];have fin:∀{z:Addr->Option Nat}{ρ:av}{σ:St}{H':Hp}{v:V}{ck:List Addr},Ok K H a_ z [] ρ σ H'->ρ[0]? = some (some (d1,.own))->Kp ((iQ cT P w K mg base N qual (cB st) f aR A outer s H E).fX.jO [x0]) (start N (v0::ws)) σ->Rep K H' r v ck->ck.Nodup->(∀b∈ck,(H b=none\/b∈a_)/\z b≠some 0)->(im=true->ck=[])->Q v H':=by
   intro z ρ σ H' v ck aT h1 kp rr wV pM hi;obtain⟨u,bN,hs,r1,zz⟩:=aT.sl 0 d1 .own h1;have hk:σ[0]? = some (some v0):=kp 0 _ h0 (by
    show(x0==("self":Str)||(!([x0].contains ("self":Str))&&!(!([x0].contains x0))))=true
    by_cases h:x0=("self":Str)
    .rw[h];rfl
    .simp[adW h])
   rw[hk] at hs;cases hs;have st:∀{c:Addr}{o:HO},H c=some o->gS o=false->H' c=some o:=λ{c o} e' mo=>aT.en c _ e' λm=>by
    obtain⟨o',w,lA⟩:=r0.b7 c m;rw[e'] at w;cases w;rw[mo] at lA;cases lA
   exact q H' v bN ck ⟨λc xs e'=>st e' rfl,λc o u e'=>st e' rfl,λc φ e'=>st e' rfl⟩ (λc o n e'=>aT.en c o e' n) r1 zz.1 (λc m=>((aT.zd c 0 (zz.2 c m)).2).symm.imp id id) rr wV (λc m=>⟨(pM c m).1.symm.imp id id,λm'=>(pM c m).2 (zz.2 c m')⟩) hi
  have hl:=qO e;unfold runM at e;rw[if_pos hl] at e;cases ho:b (yY N.length d0 ds) with
  |none=>rw[ho] at e;cases e
  |some o=>
   rw[ho] at e;refine sd ok ho ?_;cases o with
   |rt p=>
    have hp:p=.tup [r,d1]:=by
     split at e<;>rename_i hh
     .cases e;cases hh;rfl
     .cases hh
     .cases e
    exact⟨r,[d1],hp,λz ρ σ H' v ck aT h1 kp rr nd fr=>fin aT (Wf h1) kp rr nd λb m=>⟨(fr b m).1,(fr b m).2 0 aam⟩⟩
   |nx ρ'=>
    dsimp only at e
    split at e
    .rename_i dd h1;cases e;exact λz σ H' aT kp=>fin aT h1 kp .aA aco (λb m=>nomatch m) λ_=>rfl
    .cases e
   |bk _=>cases e
   |ct _=>cases e
   |er _ _ _=>cases e
end
noncomputable def dD(f:Str)(d:D):List (Str×D)->List (Str×D)
 |[]=>[(f,d)]
 |(g,x)::r=>if g=f then(g,d)::r else(g,x)::dD f d r
theorem Lg:∀{es:List (Str×D)}{fs:List (Str×V)},es.map (·.1)=fs.map (·.1)->(dD f d es).map (·.1)=(d9 f v fs).map (·.1)
 |[],[],_=>rfl
 |[],_::_,k=>by simp at k
 |_::_,[],k=>by simp at k
 |(x,d0)::es,(y,v0)::fs,k=>by
  simp only[aas,adQ] at k;obtain⟨rfl,k⟩:=k;unfold dD d9
  by_cases hx:x=f
  .rw[if_pos hx,if_pos hx,aas,aas,k]
  .rw[if_neg hx,if_neg hx,aas,aas,Lg k]
theorem KE:∀{es:List (Str×D)},es.lookup f=some d0->(dD f d es).map (·.1)=es.map (·.1)
 |[],e=>by cases e
 |(x,d1)::es,e=>by
  unfold dD
  by_cases hx:x=f
  .rw[if_pos hx];rfl
  .have hb:=adg.mpr λq=>hx q.symm
   simp only[List.lookup,hb] at e;rw[if_neg hx,aas,KE e];rfl
section
variable{K:PySem.W.Frag}{H H':Hp}
theorem az.d9(rd:Rep K H d v fd):∀{es:List (Str×D)}{fs:List (Str×V)}{g:List Addr},es.map (·.1)=fs.map (·.1)->az K H (es.map (·.2)) (fs.map (·.2)) g->
  ∃g',az K H ((dD f d es).map (·.2)) ((L2.d9 f v fs).map (·.2)) g'/\(∀a∈g',a∈g\/a∈fd)/\(g.Nodup->fd.Nodup->(∀a∈fd,a∉g)->g'.Nodup)
 |[],[],_,_,r=>by
  cases r;exact⟨fd++[],.cons rd .nil,λa m=>.inr (by simpa using m),λ_ n _=>by simpa using n⟩
 |[],_::_,_,k,_=>by simp at k
 |_::_,[],_,k,_=>by simp at k
 |(x,d0)::es,(y,v0)::fs,_,k,r=>by
  simp only[aas,adQ] at k;obtain⟨rfl,k⟩:=k;cases r with
  | @cons _ _ _ _ f1 f2 r1 r2=>
   unfold dD L2.d9
   by_cases hx:x=f
   .rw[if_pos hx,if_pos hx];refine⟨fd++f2,.cons rd r2,λa m=>(abo.mp m).elim .inr λm=>.inl (aat _ m),λn1 n2 n3=>?_⟩;exact acE.mpr ⟨n2,(acE.mp n1).2.1,λa ma b mb e=>n3 a ma (aat _ (e ▸ mb))⟩
   .rw[if_neg hx,if_neg hx];obtain⟨g',h1,h2,h3⟩:=az.d9 rd k r2;refine⟨f1++g',.cons r1 h1,λa m=>?_,λn1 n2 n3=>?_⟩
    .rcases abo.mp m with m|m
     .exact .inl (abb _ m)
     .exact(h2 a m).imp (aat _) id
    .obtain⟨a1,a2,a3⟩:=acE.mp n1;refine acE.mpr ⟨a1,h3 a2 n2 (λa m q=>n3 a m (aat _ q)),λa ma b mb e=>?_⟩;rcases h2 b mb with q|q
     .exact a3 a ma b q e
     .exact n3 b q (abb _ (e ▸ ma))
theorem az.place{f:Str}{d0:D}:∀{es:List (Str×D)}{fs:List (Str×V)}{g:List Addr},es.map (·.1)=fs.map (·.1)->az K H (es.map (·.2)) (fs.map (·.2)) g->g.Nodup->es.lookup f=some d0->
  ∃v gf,fs.lookup f=some v/\Rep K H d0 v gf/\gf.Nodup/\(∀a∈gf,a∈g)/\∀(H':Hp) (d1:D) (g1:List Addr),aU H H'->(∀b o,b∉gf->H b=some o->H' b=some o)->Rep K H' d1 v g1->g1.Nodup->(∀b∈g1,b∈gf\/H b=none)->
   ∃g',az K H' ((dD f d1 es).map (·.2)) (fs.map (·.2)) g'/\g'.Nodup/\∀b∈g',b∈g\/H b=none
 |[],_,_,_,_,_,e=>by cases e
 |_::_,[],_,k,_,_,_=>by simp at k
 |(x,d)::es,(y,v0)::fs,_,k,r,nd,e=>by
  simp only[aas,adQ] at k;obtain⟨rfl,k⟩:=k;cases r with
  | @cons _ _ _ _ f1 f2 r1 r2=>
   obtain⟨a1,a2,a3⟩:=acE.mp nd
   by_cases hx:x=f
   .subst hx;have hb:=ad9 x;simp only[List.lookup,hb] at e ⊢;cases e;refine⟨v0,f1,rfl,r1,a1,λa m=>abb _ m,λH' d1 g1 im kp rr n1 fr=>?_⟩;refine⟨g1++f2,?_,acE.mpr ⟨n1,a2,λa ma b mb e=>?_⟩,λb m=>?_⟩
    .unfold dD;rw[if_pos rfl];refine .cons rr (r2.frame (λa m=>?_) im);obtain⟨o,w,_⟩:=r2.b7 a m;rw[kp a o (λq=>a3 a q a m rfl) w,w]
    .subst e;obtain⟨o,w,_⟩:=r2.b7 a mb;rcases fr a ma with q|q
     .exact a3 a q a mb rfl
     .rw[q] at w;cases w
    .rcases abo.mp m with m|m
     .exact(fr b m).imp (abb _) id
     .exact .inl (aat _ m)
   .have hb:=adg.mpr λq=>hx q.symm
    simp only[List.lookup,hb] at e ⊢;obtain⟨v,gf,h1,h2,h3,h4,h5⟩:=az.place k r2 a2 e;refine⟨v,gf,h1,h2,h3,λa m=>aat _ (h4 a m),λH' d1 g1 im kp rr n1 fr=>?_⟩;obtain⟨g',c1,c2,c3⟩:=h5 H' d1 g1 im kp rr n1 fr;refine⟨f1++g',?_,acE.mpr ⟨a1,c2,λa ma b mb e=>?_⟩,λb m=>?_⟩
    .unfold dD;rw[if_neg hx];refine .cons (r1.frame (λa m=>?_) im) c1;obtain⟨o,w,_⟩:=r1.b7 a m;rw[kp a o (λq=>a3 a m a (h4 a q) rfl) w,w]
    .subst e;obtain⟨o,w,_⟩:=r1.b7 a ma;rcases c3 a mb with q|q
     .exact a3 a ma a q rfl
     .rw[q] at w;cases w
    .rcases abo.mp m with m|m
     .exact .inl (abb _ m)
     .exact(c3 b m).imp (aat _) id
theorem Rep.JQ{cn f:Str}(r:Rep K H (.ins cn es) v fp)(hn:PySem.W.nsIn K mainGlobals cn=some (some (.ref C)))(nd:fp.Nodup)(e:es.lookup f=some d0):
  ∃a dx fs u gf,(a∉gf/\dx∉gf)/\v=.ref a/\H a=some (.ins C dx fs)/\fs.lookup f=some u/\Rep K H d0 u gf/\gf.Nodup/\(∀b∈gf,b∈fp)/\∀(H':Hp) (d1:D) (g1:List Addr),aU H H'->(∀b o,b∉gf->H b=some o->H' b=some o)->Rep K H' d1 u g1->g1.Nodup->(∀b∈g1,b∈gf\/H b=none)->
   ∃bN,Rep K H' (.ins cn (dD f d1 es)) v bN/\bN.Nodup/\∀b∈bN,b∈fp\/H b=none:=by
 obtain⟨a,dx,fs,g,rfl,rfl,h1,h2,h3,h4⟩:=r.lR hn;obtain⟨n1,n2⟩:=aby.mp nd;obtain⟨n3,n4⟩:=aby.mp n2;obtain⟨u,gf,c1,c2,c3,c4,c5⟩:=az.place h3 h4 n4 e;refine⟨a,dx,fs,u,gf,⟨λm=>n1 (aal _ (c4 _ m)),λm=>n3 (c4 _ m)⟩,rfl,h1,c1,c2,c3,λb m=>aal _ (aal _ (c4 b m)),λH' d1 g1 im kp rr m1 fr=>?_⟩;obtain⟨g',e1,e2,e3⟩:=c5 H' d1 g1 im kp rr m1 fr;have ka:=kp a _ (λq=>n1 (aal _ (c4 a q))) h1;have kd:=kp dx _ (λq=>n3 (c4 dx q)) h2;refine⟨a::dx::g',.ins hn ka kd (by rw[KE e];exact h3) e1,?_,λb m=>?_⟩
 .refine aby.mpr ⟨λm=>?_,aby.mpr ⟨λm=>?_,e2⟩⟩
  .rcases aaV.mp m with q|m
   .exact n1 (by rw[q];exact aam)
   .rcases e3 a m with q|q
    .exact n1 (aal _ q)
    .rw[h1] at q;cases q
  .rcases e3 dx m with q|q
   .exact n3 q
   .rw[h2] at q;cases q
 .rcases aaV.mp m with q|m
  .exact .inl (by rw[q];exact aam)
  .rcases aaV.mp m with q|m
   .exact .inl (by rw[q];exact aal _ aam)
   .exact(e3 b m).imp (λq=>aal _ (aal _ q)) id
theorem Rep.place{cn f:Str}{es:List (Str×D)}{v:V}{fp:List Addr}{d0:D}{C:Addr}(r:Rep K H (.ins cn es) v fp)(hn:PySem.W.nsIn K mainGlobals cn=some (some (.ref C)))(nd:fp.Nodup)(e:es.lookup f=some d0):
  ∃a dx fs u gf,v=.ref a/\H a=some (.ins C dx fs)/\fs.lookup f=some u/\Rep K H d0 u gf/\gf.Nodup/\(∀b∈gf,b∈fp)/\∀(H':Hp) (d1:D) (g1:List Addr),aU H H'->(∀b o,b∉gf->H b=some o->H' b=some o)->Rep K H' d1 u g1->g1.Nodup->(∀b∈g1,b∈gf\/H b=none)->
   ∃bN,Rep K H' (.ins cn (dD f d1 es)) v bN/\bN.Nodup/\∀b∈bN,b∈fp\/H b=none:=
 let⟨a,dx,fs,u,gf,_,h⟩:=r.JQ hn nd e;⟨a,dx,fs,u,gf,h⟩
end
theorem Ok.fld{K:PySem.W.Frag}{fs:List (Str×V)}(hC:ClsAt K cn C)(ok:Ok K H0 S z aq ρ σ H)(h:ρ[i]? = some (some (.ins cn es,.own)))
  (hs:σ[i]? = some (some (.ref b))) (hb:H b=some (.ins C dx fs)) (s1:aF H H1) (r1:Rep K H1 d y fd) (nd:fd.Nodup) (fr:∀c∈fd,H c=none):∃z',Ok K H0 S z' aq (bP ρ i (.ins cn (dD f d es))) σ (upd H1 b (.ins C dx (L2.d9 f y fs))):=by
 obtain⟨v,a_,cz,r0,zz⟩:=ok.sl i _ _ h;rw[hs] at cz;cases cz;obtain⟨b',vm,pU,g,e,rfl,h3,h4,h5,h6⟩:=(r0.same s1).lR hC.ns;cases e;rw[s1 _ _ hb] at h3;cases h3;have h3:=s1 _ _ hb;have AW:∀c∈fd,c∉b::dx::g:=λc m n=>by
  obtain⟨⟨o,w⟩,_⟩:=ok.zd c i (zz.2 c n);rw[fr c m] at w;cases w
 have me:b∈b::dx::g:=aam;have md:dx∈b::dx::g:=aal _ aam;have mg:∀{c},c∈g->c∈b::dx::g:=λm=>aal _ (aal _ m)
 obtain⟨n1,n2⟩:=aby.mp zz.1;obtain⟨n3,n4⟩:=aby.mp n2;have ne:∀{c},c∈g->c≠b:=λm q=>n1 (q ▸ aal _ m)
 have im:aU H1 (upd H1 b (.ins C dx (L2.d9 f y fs))):=aU.upd h3 rfl;obtain⟨g',c1,c2,c3⟩:=az.d9 (r1.frame (λc m=>aO λq:c=b=>AW c m (q ▸ me)) im) h5 (h6.frame (λc m=>aO (ne m)) im);have out:∀{c},c∈g'->c∈g\/c∈fd:=λ{c} m=>c2 c m
 refine ok.put (bN:=b::dx::g') h hs zz ((aU.of s1).trans im) (λc o n e=>by rw[aO λq:c=b=>n (q ▸ me)];exact s1 c o e) (.ins hC.ns cG (by rw[aO λq:dx=b=>n1 (q ▸ aam)];exact h4) (Lg h5) c1) ?_ λc m=>?_
 .refine aby.mpr ⟨λm=>?_,aby.mpr ⟨λm=>(out m).elim n3 λq=>AW dx q md,c3 n4 nd λc m n=>AW c m (mg n)⟩⟩;rcases aaV.mp m with q|m
  .exact n1 (q ▸ aam)
  .exact(out m).elim (λq=>n1 (aal _ q)) λq=>AW b q me
 .rcases aaV.mp m with q|m
  .exact .inl (q ▸ me)
  .rcases aaV.mp m with q|m
   .exact .inl (q ▸ md)
   .exact(out m).imp mg (fr c)
def xS(i:Nat)(cn f:Str)(fv:EF):SF:=λρ=>match fv ρ,ρ[i]? with
 |some (d,t),some (some (.ins c es,.own))=>if c=cn/\es.length<1000/\(j_ t||aD d)=true then some (.nx (bP ρ i (.ins c (dD f d es)))) else none
 |_,_=>none
section
variable{X:Cx}{a:Expr}{fv:EF}{pos pos' p1 p2 p3:Pos}{x cn f:Str}{C:Addr}
theorem eB(i:Nat)(hC:ClsAt X.K cn C)(na:ji X.K C f)(hv:FP X a fv)(va:VA X i x:=by walk_at "va")(hs:swapsWith a (some (.Attribute (.Name x p1) f pos')) pos.line X.env=pure false:=by rfl):eO X (.Assign [.Attribute (.Name x p1) f pos'] a pos) (xS i cn f fv):=by
 obtain⟨t,p,q⟩:=hv;exists 23,XJ va.pe p hs;unfold xS at e
 split at e
 .rename_i d tg c es h1 h2
  by_cases hc:c=cn/\es.length<1000/\(j_ tg||aD d)=true
  .rw[if_pos hc] at e;cases e;obtain⟨rfl,hl,ho⟩:=hc;obtain⟨v,a_,cz,r0,zz⟩:=ok.sl i _ _ h2;refine q ok h1 λH1 y fd s1 r1 g1=>⟨v,cz,?_⟩
   obtain⟨b,dx,fs,g,rfl,rfl,h3,h4,h5,h6⟩:=r0.lR hC.ns;have lf:fs.length<1000:=by have:=congrArg List.length h5;rw[List.length_map,List.length_map] at this;lia
   refine⟨b,C,dx,fs,rfl,s1 _ _ h3,hC.cl,na,lf,?_⟩;have g:fd.Nodup/\∀a∈fd,H a=none:=by
    rcases(aeK _ _).mp ho with h|h
    .cases tg<;>first|exact g1|cases h
    .rw[r1.aD h];exact⟨aco,λc m=>nomatch m⟩
   obtain⟨z',aT⟩:=ok.fld (f:=f) hC h2 cz h3 s1 r1 g.1 g.2;exact k z' σ _ aT (.refl _ _)
  .rw[if_neg hc] at e;cases e
 .cases e
end
section
variable{X:Cx}{a b:Expr}{fa fb:EF}{p pos:Pos}
noncomputable def zC:D->Option D
 |.int i=>some (.int (-i))
 |_=>none
theorem ON(ha:FP X a fa):FP X (.UnaryOp .USub a pos) (e1 zC fa):=by
 obtain⟨t,pa,q⟩:=ha;exists 21,acT SX pa;obtain⟨d1,t1,g1,g2,rfl⟩:=xy e;refine q ok g1 λH1 x f1 s1 r1 _=>?_
 cases r1<;>cases g2
 exact⟨_,rfl,k H1 _ [] s1 (.int _) .nil⟩
end
section
variable{X:Cx}{a b c:Expr}{fa fb fc fv:EF}{p p1 p2 p3 pos:Pos}
theorem Rv{tk:Tok}(hm:X.mg x=some (.int n tk))(hg:GD X x:=by exact⟨rfl,by decide⟩):FP X (.Name x pos) (eC (.int n)):=
 ⟨_,KZ hg.1 hm (v:=.int n) ⟨_,rfl⟩ hg.2,@λ_ _ _ _ _ _ H _ _ _ _ e q=>by cases e;exact q H _ _ (aF.refl H) (.int n) .nil⟩
noncomputable def Dk(o o':D->D->Option D)(fa fb fc:EF):EF:=λρ=>match fa ρ,fb ρ with
 |some (d1,_),some (d2,_)=>match o d1 d2 with
  |some (.bl true)=>match fc ρ with
   |some (d3,_)=>(o' d2 d3).map λd=>(d,.own)
   |none=>none
  |some (.bl false)=>some (.bl false,.own)
  |_=>none
 |_,_=>none
theorem ab1{op qv:CmpOp}{r r':R2}{o o':D->D->Option D}(ho:cO X (compareOp op) r)(ly:cO X (compareOp qv) r')(dd:fL X.K r o)(kc:fL X.K r' o')(ha:FP X a fa)(hb:FP X b fb)(hc:FP X c fc)(hm:lastMarks [op,qv] [b,c]=false:=by with_unfolding_all rfl):
  FP X (.Compare a [op,qv] [b,c] pos) (Dk o o' fa fb fc):=by
 obtain⟨ta,pa,sa⟩:=ha;obtain⟨tb,pb,sb⟩:=hb;obtain⟨tc,pc,sc⟩:=hc;exists 21,ab3 ho ly pa pb pc hm;unfold Dk at e
 split at e
 .rename_i d1 t1 d2 t2 e1 e2;refine sa ok e1 λH1 x f1 s1 r1 _=>?_
  refine sb (ok.same s1) e2 λH2 y f2 s2 r2 _=>?_
  exists h,o d1 d2,w,e,0;refine dd H2 x y d1 d2 f1 f2 w _ (r1.same s2) r2 h λH3 u s3 r3=>?_
  rw[h] at e;cases w<;>try (cases e;done)
  rename_i b';cases r3;refine⟨b',rfl,?_⟩;cases b' with
  |false=>
   cases e;rw[if_neg aa9];exact k H3 _ [] ((s1.trans s2).trans s3) (.bl false) .nil
  |true=>
   rw[if_pos rfl];dsimp only at e;exists h3,fc ρ,w3,e,0;obtain⟨d3,t3⟩:=w3;rw[h3] at e;dsimp only at e;cases h4:o' d2 d3 with
   |none=>rw[h4] at e;cases e
   |some d4=>
    rw[h4] at e;cases e;refine sc (((ok.same s1).same s2).same s3) h3 λH4 w' f4 s4 r4 _=>?_
    exact kc H4 y w' d2 d3 f2 f4 d Q ((r2.same s3).same s4) r4 h4 λH5 v5 s5 r5=>k H5 v5 [] ((((s1.trans s2).trans s3).trans s4).trans s5) r5 .nil
 .cases e
theorem Yn(ha:FP X a fa)(hb:FP X b fb)(hc:FP X c fc)(hm:lastMarks [.LtE,.LtE] [b,c]=false:=by with_unfolding_all rfl):FP X (.Compare a [.LtE,.LtE] [b,c] pos) (Dk oLe oLe fa fb fc):=ab1 yF yF pN pN ha hb hc hm
def pC(neg:Bool):D->D->Option D:=λkd dd=>match dd with
 |.bH es=>(gQ kd).map λk=>.bl (if neg=true then !(aY es k).isSome else(aY es k).isSome)
 |_=>none
def Fd(neg:Bool):R2:=λy x H Q=>∃a o,x=.ref a/\gq H a y o/\Q (.bl (if neg=true then !o.isSome else o.isSome)) H
theorem FO{K:PySem.W.Frag}:fL K (Fd neg) (pC neg):=by
 intro H y x d1 d2 f1 f2 d Q r1 r2 e k;cases r2 with
 | @bH a ak es fp h hk rs=>
  have e:((gQ d1).map λk=>D.bl (if neg=true then !(aY es k).isSome else(aY es k).isSome))=some d:=e;exists wN,gQ d1,key,e;cases e;have ek:=r1.key wN;subst ek;have ev:(dz ak key).isSome=(aY es key).isSome:=by
   obtain⟨h1,h2⟩:=oV hk rs;cases hv:aY es key with
   |none=>rw[h2 hv];rfl
   |some dv=>obtain⟨v,f,jD,_⟩:=h1 dv hv;rw[jD];rfl
  refine⟨a,dz ak key,rfl,gq.k h,?_⟩;rw[ev];exact k H _ (aF.refl H) (.bl _)
 |_=>cases e
theorem Uo(hu:X.A.units+1<cLine)(ha:FP X a fa)(hb:FP X b fb)(hm:behindInMarks .In b=false:=by rfl):FP X (.Compare a [.In] [b] pos) (e2 (pC false) fa fb):=
 fp_2 FO ha hb λta tb pa pb=>KL (Iw hu pa pb) hm
theorem Ov(hu:X.A.units+1<cLine)(ha:FP X a fa)(hb:FP X b fb)(hm:behindInMarks .In b=false:=by rfl):FT X (.Compare a [.In] [b] pos) (tV (e2 (pC false) fa fb)):=by
 obtain⟨ta,pa,sa⟩:=ha;obtain⟨tb,pb,sb⟩:=hb;exists 22,YQ (t:=rR (Fd false) ta tb) (Iw hu pa pb) hm;obtain⟨tg,e0⟩:=Cz e;obtain⟨d1,t1,d2,t2,e1,jj,e3,rfl⟩:=pL e0;refine sa ok e1 λH1 x f1 s1 r1 _=>?_
 refine sb (ok.same s1) jj λH2 y f2 s2 r2 _=>?_
 refine FO H2 x y d1 d2 f1 f2 _ _ (r1.same s2) r2 e3 λH3 v s3 r3=>?_
 cases r3;exact⟨c,rfl,k H3 ((s1.trans s2).trans s3)⟩
end
section
variable{X:Cx}{a b o:Expr}{fa fb fv fo:EF}{p p1 p2 p3 pos:Pos}{x cn f:Str}{C:Addr}
def AB(i:Nat)(cn f:Str)(fv:EF):SF:=λρ=>match fv ρ,ρ[i]? with
 | some (d,_),some (some (.ins c es,.own))=>if c=cn then(match es.lookup f with
  |some (.lst ds)=>if(aD d&&aN ds&&decide (ds.length<sizeLine))=true then some (.nx (bP ρ i (.ins c (dD f (.lst (ds++[d])) es)))) else none
  |_=>none) else none
 |_,_=>none
theorem zS(i:Nat)(hC:ClsAt X.K cn C)(na:ji X.K C f)(hv:FP X a fv)(va:VA X i x:=by walk_at "va")(hs:starEach [a] X.env=[(false,eval a X.env)]:=by rfl)
  (hb:attributeBase (.Name x p) f X.env (eval (.Name x p) X.env)=eval (.Name x p) X.env:=by rfl)
  (k7:attributeBase (.Attribute (.Name x p) f p1) "append" X.env (eval (.Attribute (.Name x p) f p1) X.env)=eval (.Attribute (.Name x p) f p1) X.env:=by rfl)
  (kY:((backTo p3 (starEach [a] X.env)).all (λx=>!x.1)&&(backToKw p3 (keywordEach [] X.env)).all (λx=>x.1.isSome)&&decide ([a].length+([]:List Keyword).length+(if([]:List Keyword).isEmpty then 0 else 1)<30))=true:=by rfl)
  (kT:(p2.endLine==p3.line)=true:=by rfl) (jM:swapsWith (.Call (.Attribute (.Attribute (.Name x p) f p1) "append" p2) [a] [] p3) none pos.line X.env=pure false:=by rfl) :
  eO X (.Expr (.Call (.Attribute (.Attribute (.Name x p) f p1) "append" p2) [a] [] p3) pos) (AB i cn f fv):=by
 obtain⟨tv,lG,sv⟩:=hv;exists 25,zE (x6 PySem.F.plainAttrs_list PySem.F.slot_list_append PySem.F.type_list_append Dr (sN va.pe hb) (dY lG fU hs) k7 kY kT hs rfl) jM;unfold AB at e
 split at e
 .rename_i d td c es g1 g2
  by_cases hc:c=cn
  .subst hc;rw[if_pos rfl] at e
   split at e
   .rename_i ds hl;obtain⟨hc,e⟩:=ci e;cases e;obtain⟨c1,c3⟩:=(aaH _ _).mp hc;obtain⟨c1,c2⟩:=(aaH _ _).mp c1;obtain⟨xv,fp,cz,r,zz⟩:=ok.sl i _ _ g2;refine⟨xv,cz,?_⟩;obtain⟨b0,dx,fs,u,gf,rfl,h1,h2,h3,h4,h5,h6⟩:=r.place hC.ns zz.1 hl;refine⟨b0,C,dx,fs,u,rfl,h1,hC.cl,na,h2,?_⟩;obtain⟨l,xs,f0,rfl,hq,_,_⟩:=h3.dF;refine⟨.inl ⟨rfl,_,hq⟩,?_⟩;refine sv ok g1 λH1 v fd s1 rv gv=>?_
    have hn:=rv.aD c1;subst hn;generalize hw:(V.ref l)=w at h3 h6;cases h3 with
    | @lst a' ys _ f' h rs=>
     cases hw;have hn:=rs.aD c2;subst hn;have Fe:=s1 _ _ h;refine⟨_,ys,v,rfl,rfl,Fe,by rw[<- rs.length];exact aaK c3,?_⟩;have im:aU H1 (upd H1 l (.lst (ys++[v]))):=aU.upd Fe rfl;obtain⟨bN,k1,k2,k3⟩:=h6 (upd H1 l (.lst (ys++[v]))) (.lst (ds++[d])) [l] ((aU.of s1).trans im) (λc o n e=>by rw[aO λq=>n (by rw[q];exact aam)];exact s1 c o e)
      (.lst cG (az.append ((rs.same s1).frame (λa m=>nomatch m) im) (az.cons (f1:=[]) (f2:=[]) (rv.frame (λa m=>nomatch m) im) .nil))) h4 (λc m=>.inl m)
     obtain⟨z',aT⟩:=ok.put g2 cz zz ((aU.of s1).trans im) (λc o n e=>by rw[aO λq=>n (by rw[q];exact h5 l aam)];exact s1 c o e) k1 k2 k3;exact q z' σ _ aT (.refl _ _)
   .cases e
  .rw[if_neg hc] at e;cases e
 .cases e
end
end L2.Ev
namespace L2
open PySem PySem.Spec PyProof.Rows
section
variable{X:Cx}{elts:List Expr}{tp:Pos}{a b:Expr}{ta:TA}{p pos:Pos}
def acF:V->List V->Hp->VK->Prop:=λx vs H Q=>∃(l:Addr) (ns:List Int) (n:Int),x=.ref l/\vs=[.int n]/\H l=some (.lst (ns.map V.int))/\n∈ns/\Q .aA (upd H l (.lst ((ns.erase n).map V.int)))
noncomputable def Y4(n:Int):Value->Bool
 |.int a _=>a==n
 |_=>false
theorem C8{ns:List Int}(r:aQ (ns.map V.int) us)(h:m<us.length)(h2:m<ns.length):∃t,us[m]=.int ns[m] t:=by
 obtain⟨u,hu,ru⟩:=r.get (by rw[ab6,aaQ h2];rfl);rw[aaQ h] at hu;obtain⟨t,rt⟩:=ru;exact⟨t,by rw[<- rt];exact abO hu⟩
theorem IS:∀{ns:List Int}{n:Int}{m:Nat} (h:m<ns.idxOf n) (h2:m<ns.length),ns[m]≠n
 |[],_,_,_,h2=>absurd h2 (Nat.not_lt_zero _)
 |a::ns,n,m,h,h2=>by
  rw[List.idxOf_cons] at h
  by_cases ha:(a==n)=true
  .rw[ha] at h;exact absurd h (Nat.not_lt_zero _)
  .have ha:(a==n)=false:=by simpa using ha
   rw[ha] at h;cases m with
   |zero=>exact adg.mp ha
   |succ m=>exact IS (Nat.lt_of_succ_lt_succ h) (Nat.lt_of_succ_lt_succ h2)
theorem ZC{α β:Type}{f:α->β}{l:List α}:(l.map f).eraseIdx k=(l.eraseIdx k).map f:=by
 rw[List.eraseIdx_eq_take_drop_succ,List.eraseIdx_eq_take_drop_succ,adb,List.map_take,List.map_drop]
theorem WU:Ox X "list.remove" acF:=by
 intro af s σ H x vs v us Q I rx rv h;obtain⟨l,ns,n,rfl,rfl,hH,hn,q⟩:=h;cases rx;obtain⟨u,rfl,ru⟩:=rv.one;obtain⟨t,rfl⟩:=ru;obtain⟨z,au,nn,r,hl,e⟩:=I.A9 hH;have hi:ns.idxOf n<ns.length:=List.idxOf_lt_length_of_mem hn;rw[List.length_map] at hl z;have hj:ns.idxOf n<au.toArray.size:=by rw[abG];lia
 refine call_meets F.slot_list_remove ⟨_,e,rfl⟩ F.entry_list_remove (F.args_list_remove_2 _ _)
  (MeetsSeq.list_remove l au.toArray nn (.int n t) (Y4 n) (λy my=>?_) (ns.idxOf n) hj ?_ (λm hm h2=>?_) (by rw[abG];lia)) ⟨e,?_⟩
 .obtain⟨m,hm,em⟩:=Array.mem_iff_getElem.mp my;rw[abG] at hm;rw[List.getElem_toArray] at em;obtain⟨t',et⟩:=C8 r hm (by lia);rw[<- em,et];exact MeetsSeq.EqGives.int _ _ _ _
 .rw[List.getElem_toArray];obtain⟨t',et⟩:=C8 r (by lia) hi;rw[et];show(ns[ns.idxOf n]==n)=true;rw[List.getElem_idxOf hi];exact ad9 n
 .rw[List.getElem_toArray];rw[abG] at hm;obtain⟨t',et⟩:=C8 r hm (by lia);rw[et];show(ns[m]==n)=false;exact adg.mpr (IS h2 (by lia))
 .refine⟨.aA,_,I.N8 (its':=au.eraseIdx (ns.idxOf n)) hH e ?_ ?_ ?_,rfl,q⟩
  .show au.toArray.eraseIdxIfInBounds _=(au.eraseIdx _).toArray;rw[List.eraseIdxIfInBounds_toArray]
  .rw[List.erase_eq_eraseIdx_of_idxOf (l:=ns) (a:=n) rfl,<- ZC];exact r.eraseIdx _
  .rw[List.length_map];have:=List.length_erase_le (a:=n) (l:=ns)
   lia
end
end L2
namespace L2.Ev
open PySem PySem.Spec PyProof.Rows
noncomputable def z_(env:Env):Str×NameKind->Str×NameKind:=λ(n,k)=>if(k==NameKind.free&&env.scope.kind == .function&&env.kindOf n==some .cell) then(n,NameKind.cell) else(n,k)
theorem Kw{env:Env}:∀{names:List (Str×NameKind)}{x:Str},(names.lookup x=some .cell\/names.lookup x=some .free)->(names.map (z_ env)).lookup x=some .cell\/(names.map (z_ env)).lookup x=some .free
 |[],_,h=>by simp at h
 |(n,k)::r,x,h=>by
  rw[aas];have e:z_ env (n,k)=(n,.cell)\/z_ env (n,k)=(n,k):=by
   show(if(k==NameKind.free&&env.scope.kind == .function&&env.kindOf n==some .cell)=true then(n,NameKind.cell) else(n,k))=_\/(if(k==NameKind.free&&env.scope.kind == .function&&env.kindOf n==some .cell)=true then(n,NameKind.cell) else(n,k))=_
   split
   .exact .inl rfl
   .exact .inr rfl
  cases hx:x==n with
  |true=>
   simp only[adm,hx] at h;rcases e with e|e<;>rw[e]<;>simp only[adm,hx]
   .exact .inl trivial
   .exact h
  |false=>
   simp only[adm,hx] at h;have ih:=Kw (env:=env) (names:=r) h;rcases e with e|e<;>rw[e]<;>simp only[adm,hx]<;>exact ih
theorem V5{X:Cx}{M0 M:List Str}{zF sc:Scope}{s3:Shared}{H3:Hp}{fp:List Addr}{js:List (Option Nat)}(h:xK M0 zF sc M js=true):nE (eF X M0 zF s3 H3 fp) M js sc:=by
 unfold xK at h;obtain⟨h,a6⟩:=(aaH _ _).mp h;obtain⟨h,a5⟩:=(aaH _ _).mp h;obtain⟨h,a4⟩:=(aaH _ _).mp h;obtain⟨h,a3⟩:=(aaH _ _).mp h;obtain⟨a1,a2⟩:=(aaH _ _).mp h;refine⟨?_,λy hy=>?_,λy hy hl=>?_,a4,λx hx=>?_,aaK a6⟩
 .cases hk:sc.kind<;>rw[hk] at a1<;>first|rfl|exact absurd a1 (by decide)
 .have:=ac6.mp a2 y hy;intro z;rw[z] at this;exact absurd this (by decide)
 .have:=ac6.mp a3 y hy;rw[hl] at this;have this:=this;cases q:sc.names.lookup y.1 with
  |none=>rw[q] at this;exact absurd this (by decide)
  |some k=>rw[q] at this;cases k<;>first|rfl|exact absurd this (by decide)
 .have:=ac6.mp a5 x hx;refine Kw (env:=X.env) (names:=zF.names) ?_;cases q:zF.names.lookup x with
  |none=>rw[q] at this;exact absurd this (by decide)
  |some k=>rw[q] at this;cases k<;>first|exact .inl rfl|exact .inr rfl|exact absurd this (by decide)
section
variable{X:Cx}{elts:List Expr}{tp:Pos}{a b c:Expr}{fa fb fv:EF}{p p1 p2 p3 pos pos':Pos}{x:Str}
def xY(i:Nat)(fv:EF):SF:=λρ=>match fv ρ,ρ[i]? with
 |some (.int n,_),some (some (.lst ds,.own))=>match dM ds with
  |some ns=>if n∈ns then some (.nx (bP ρ i (.lst ((ns.erase n).map D.int)))) else none
  |none=>none
 |_,_=>none
theorem Qp:∀{ds:List D}{ns:List Int},dM ds=some ns->ds=ns.map D.int
 |[],_,e=>by cases e;rfl
 |d::ds,ns,e=>by
  cases d<;>try (cases e;done)
  rename_i i;unfold dM at e;exists h,dM ds,r,e;cases e;rw[Qp h];rfl
theorem WJ(i:Nat)(hv:FP X a fv)(va:VA X i x:=by walk_at "va")(hs:starEach [a] X.env=[(false,eval a X.env)]:=by rfl)
  (k7:attributeBase (.Name x p1) "remove" X.env (eval (.Name x p1) X.env)=eval (.Name x p1) X.env:=by rfl)
  (kY:((backTo p3 (starEach [a] X.env)).all (λx=>!x.1)&&(backToKw p3 (keywordEach [] X.env)).all (λx=>x.1.isSome)&&decide ([a].length+([]:List Keyword).length+(if([]:List Keyword).isEmpty then 0 else 1)<30))=true:=by rfl)
  (kT:(p2.endLine==p3.line)=true:=by rfl) (jM:swapsWith (.Call (.Attribute (.Name x p1) "remove" p2) [a] [] p3) none pos.line X.env=pure false:=by rfl) :
  eO X (.Expr (.Call (.Attribute (.Name x p1) "remove" p2) [a] [] p3) pos) (xY i fv):=by
 obtain⟨tv,lG,sv⟩:=hv;exists 25,zE (x6 PySem.F.plainAttrs_list PySem.F.slot_list_remove PySem.F.type_list_remove WU va.pe (dY lG fU hs) k7 kY kT hs rfl) jM;unfold xY at e
 split at e
 .rename_i n td ds g1 g2;exists hI,dM ds,ns,e;dsimp only at e;obtain⟨hc,e⟩:=ci e;cases e;have:=Qp hI;subst this;obtain⟨xv,fp,cz,r,zz⟩:=ok.sl i _ _ g2;refine⟨xv,cz,?_⟩;obtain⟨l,xs,f,rfl,hq,_,_⟩:=r.dF;refine⟨.inl ⟨rfl,_,hq⟩,?_⟩;refine sv ok g1 λH1 v fd s1 rv gv=>?_
  cases rv;have r':=r.same s1;have b8:=ok.same s1;generalize hw:(V.ref l)=w at r' cz;cases r' with
  | @lst a' ys _ f' h rs=>
   cases hw;have ey:=qP rs hI;subst ey;have hn:=rs.aD (eE ns);subst hn;refine⟨_,ns,n,rfl,rfl,h,hc,?_⟩;have im:aU H1 (upd H1 l (.lst ((ns.erase n).map V.int))):=aU.upd h rfl;exact q z σ _ (Ok.zQ b8 g2 cz zz aam h rfl (.lst cG (xH _))) (.refl _ _)
 .cases e
def sV(fa fh:EF):EF:=λρ=>match fa ρ,fh ρ with
 |some (.lst ds,_),some (.int i,_)=>if aN ds=true then some (.lst (cutD ds none (some i)),.own) else none
 |_,_=>none
theorem MZ{fh:EF}(ha:FP X a fa)(hh:FP X b fh):FP X (.Subscript a (.Slice none (some b) none p2) pos) (sV fa fh):=by
 obtain⟨t,p,q⟩:=ha;obtain⟨th,ph,qh⟩:=hh;exists 21,CT Ga p Fg (C9 ph);unfold sV at e
 split at e
 .rename_i ds t1 i t2 e1 e2;obtain⟨hi,e⟩:=ci e;cases e;refine q ok e1 λH1 x f1 s1 r1 _=>?_
  refine qh (ok.same s1) e2 λH2 y f2 s2 r2 _=>?_
  cases r2;refine⟨i,rfl,?_⟩;obtain⟨w,xs,f,rfl,hq,rs,_⟩:=(r1.same s2).dF;have hn:=rs.aD hi;subst hn;refine⟨w,xs,rfl,hq,λp hp=>?_⟩;have s3:aF H2 (upd H2 p (.lst (kK xs none (some i)))):=λb o e=>by rw[aO (cK e hp)];exact e
  have rr:az X.K H2 (cutD ds none (some i)) (kK xs none (some i)) []:=by
   unfold cutD kK;rw[rs.length];exact az.Al _ (az.Aq _ rs)
  refine k _ _ [p] ((s1.trans s2).trans s3) (.lst cG (rr.same s3)) ⟨aby.mpr ⟨(λm=>by cases m),aco⟩,λa m=>?_⟩;cases aaX.mp m;exact s1.free (s2.free hp)
 .cases e
end
theorem Sg(h:l.Nodup):(cj l).Pairwise (· < ·):=by
 have n:=(oX l).nodup_iff.mpr h;exact(List.Pairwise.and (zj l) n).imp λ⟨a,b⟩=>Int.lt_iff_le_and_ne.mpr ⟨a,b⟩
end L2.Ev
namespace L2
open PySem PySem.Spec PyProof.Rows
def LM(K:PySem.W.Frag)(C D:Addr):Prop:=∃nm q N bs bm jx sn sub ab col dd k0 k1 k2 k3 k5 newId,K.lookup C=some (excClassObj nm q C N bs bm jx sn sub ab col dd k0 k1 k2 k3 k5 newId)/\
 ∃GP q' N' Cs Bv EW E2 Ez EM Ea kc j0 j1 j2 j3 j5 CO,K.lookup D=some (excClassObj GP q' D N' Cs Bv EW E2 Ez EM Ea kc j0 j1 j2 j3 j5 CO)/\Bv.contains (.type "BaseException")=true/\(Value.ref C::bm).contains (.ref D)=true
open PySem PySem.Spec PySem.W PySem.Calls PyProof.Rows Builtin Builtin.ObjectAttr Builtin.Getset_descriptor
structure C_(K:Frag)(C:Addr):Prop where
 ga:findIn K (.ref C) "__getattribute__"=some (some (.builtin "BaseException.__getattribute__"))
 gh:findIn K (.ref C) "__getattr__"=some none
 at_:findIn K (.ref C) "__class__"=some (some (.builtin "object.__class__"))
 get:specialIn K (.builtin "object.__class__") "__get__"=some (some (.builtin "getset_descriptor.__get__"))
 tk:takesIn K (.builtin "object.__class__")=some true
 mo:mroIn K C (.type "object")=some true
 mb:mroIn K C (.type "BaseException")=some true
 cl:(clsIn K C).isSome=true
end L2
namespace L2.Ev
open PySem PySem.Spec PyProof.Rows
def wk(X:Cx)(st:Stmt):TS:=λW σ H=>∀(af:List (Addr×Obj)) (s:Shared),Inv X af σ H s->wpAny (model X.prog X.w) X.A (exec st X.env) (SP X af W) X.xe s
theorem JL{st:Stmt}:PS X st (wk X st):=λaf s _ _ _ I h=>h af s I
inductive ER where
 |ok (d:D) (ρ:av)|er (cn:XN) (ρ:av)
def Yo(X:Cx)(H0:Hp)(S:List Addr)(aq:List bX)(σ:St)(Q:VK)(E:XK):ER->Prop
 |.ok d ρ=>∀z H1 H' v fp,Ok X.K H0 S z aq ρ σ H1->aF H1 H'->Rep X.K H' d v fp->cu z H1 .own fp->Q v H'
 |.er cn ρ=>∀z H' C,Ok X.K H0 S z aq ρ σ H'->PySem.W.nsIn X.K mainGlobals cn.1=some (some (.ref C))->E (.ref C) cn.2 H'
abbrev XR:=av->Option ER
def FE(X:Cx)(e:Expr)(f:XR):Prop:=∃t,PX X e t/\∀{H0:Hp}{S:List Addr}{z:Addr->Option Nat}{aq:List bX}{ρ:av}{σ:St}{H:Hp}{Q:VK}{E:XK}{r:ER},
 Ok X.K H0 S z aq ρ σ H->f ρ=some r->Yo X H0 S aq σ Q E r->t σ H Q E
theorem Ik:yq X (λ_ _ _ _=>False):=λ_ _ _ _ _ _ _ _ z=>z.elim
def yD(i:Nat)(f:XR):SF:=λρ=>match f ρ with
 |some (.ok d ρ')=>some (.nx (iC ρ' i d .own))
 |some (.er cn ρ')=>some (.er false cn ρ')
 |none=>none
noncomputable def v9(f:XR):SF:=λρ=>match f ρ with
 |some (.ok d ρ')=>some (.nx ρ')
 |some (.er cn ρ')=>some (.er false cn ρ')
 |none=>none
section
variable{X:Cx}{e:Expr}{f:XR}{pos:Pos}
theorem JE(i:Nat){x:Str}{pos':Pos}(he:FE X e f)(hN:X.N.Nodup)(hi:X.N[i]? = some x:=by rfl)(hx:Loc X.env.scope x:=by first|exact Or.inl rfl|exact Or.inr rfl)
  (hs:swapsWith e (some (.Name x pos')) pos.line X.env=pure false:=by rfl) (hf:X.fn x=true\/X.env.scope.names.lookup x=some .local:=by first|exact .inl rfl|exact .inr rfl) (mV:j7 X x=false:=by rfl):eO X (.Assign [.Name x pos'] e pos) (yD i f):=by
 obtain⟨t,p,q⟩:=he;exists 23,JL;unfold yD at e;cases h:f ρ with
 |none=>rw[h] at e;cases e
 |some r=>
  rw[h] at e;intro af s I;cases r with
  |ok d aM=>
   cases e;refine P6 Ik hN hi hx p hs hf af s σ H E I ?_;exact q ok h λz1 H1 H2 v fp b8 s1 r1 g1=>b8.stored s1 r1 g1 λz' aT=>k z' _ H2 aT (.set hi mV)
  |er cn aM=>
   cases e;obtain⟨ES,th,kk⟩:=k;refine P6 th hN hi hx p hs hf af s σ H E I ?_;exact q ok h λz1 H1 C b8 hC=>kk z1 σ H1 C b8 (.refl _ _) hC
theorem E4(he:FE X e f)(hs:swapsWith e none pos.line X.env=pure false:=by rfl):eO X (.Expr e pos) (v9 f):=by
 obtain⟨t,p,q⟩:=he;exists 23,JL;unfold v9 at e;cases h:f ρ with
 |none=>rw[h] at e;cases e
 |some r=>
  rw[h] at e;intro af s I;cases r with
  |ok d aM=>
   cases e;refine Ny Ik p hs af s σ H E I ?_;exact q ok h λz1 H1 H2 v fp b8 s1 r1 g1=>k z1 σ H2 (b8.same s1) (.refl _ _)
  |er cn aM=>
   cases e;obtain⟨ES,th,kk⟩:=k;refine Ny th p hs af s σ H E I ?_;exact q ok h λz1 H1 C b8 hC=>kk z1 σ H1 C b8 (.refl _ _) hC
end
def aaO(K:PySem.W.Frag)(T:List (Str×Bool))(c:Value):Prop:=∀cn b C,T.lookup cn=some b->PySem.W.nsIn K mainGlobals cn=some (some (.ref C))->C_ K C/\PySem.W.kitOne K (.ref C) c=some b
noncomputable def jS:List D->Option (List Str)
 |[]=>some []
 |.str x::r=>(jS r).map λm=>x::m
 |_::_=>none
theorem xP{K:PySem.W.Frag}{H:Hp}:∀{ds:List D}{xs:List V}{fp:List Addr}{ys:List Str},az K H ds xs fp->jS ds=some ys->xs=ys.map V.str
 |_,_,_,_,.nil,e=>by cases e;rfl
 |_,_,_,ys,.cons (d:=d) h t,e=>by
  cases d with
  |str x=>
   unfold jS at e;cases q:jS _ with
   |none=>rw[q] at e;cases e
   |some m=>
    rw[q] at e;cases e;cases h;rw[xP t q];rfl
  |_=>cases e
theorem Iu:∀ys:List Str,jS (ys.map D.str)=some ys
 |[]=>rfl
 |y::ys=>by
  show(jS (ys.map D.str)).map (λm=>y::m)=_;rw[Iu ys];rfl
theorem Jb:∀{ys:List Str}{us:List Value},aQ (ys.map V.str) us->StrsAre us ys
 |[],_,r=>by cases r;exact .nil
 |y::ys,_,r=>by
  cases r with
  |cons h t=>
   obtain⟨tk,rfl⟩:=h;exact .cons y tk (Jb t)
noncomputable def j9(k:Str)(ys:List Str):Nat:=ys.countP (· == k)
theorem count_eq(k:Str):∀ys:List Str,countIn (.str k) (ys.map PyData.str)=(j9 k ys:Int)
 |[]=>rfl
 |y::ys=>by
  rw[aas,countIn,count_eq k ys];unfold j9;rw[List.countP_cons];have e:same (.str y) (.str k)=(y==k):=by simp[same]
  rw[e];cases h:(y==k)
  .simp
  .simp;omega
def W_(K:PySem.W.Frag):V->List V->Hp->VK->Prop:=λx vs H Q=>∃(l:Addr) (ys:List Str) (k:Str),x=.ref l/\vs=[.str k]/\bR K H l (ys.map V.str)/\Q (.int (j9 k ys)) H
theorem abn{X:Cx}:Gh X "list.count" (W_ X.K):=by
 intro af s σ H x vs v us Q I rx rv h;obtain⟨l,ys,k,rfl,rfl,hH,q⟩:=h;cases rx;obtain⟨u,rfl,ru⟩:=rv.one;obtain⟨t,rfl⟩:=ru;obtain⟨au,r,pl,hz⟩:=I.list hH;refine count_list_strs pl.isList (Jb r) ?_;rw[count_eq];exact⟨.int (j9 k ys),H,I.tok _,⟨_,rfl⟩,q⟩
def Ay:D->D->Option D
 |.lst ds,.str k=>(jS ds).map λys=>.int (j9 k ys)
 |_,_=>none
section
variable{X:Cx}{o a b c d:Expr}{fo fa fb fc fd:EF}{p p1 p2 p3 p4 pos:Pos}
theorem HX(ho:FP X o fo)(ha:FP X a fa)(hs:starEach [a] X.env=[(false,eval a X.env)]:=by rfl)(k7:attributeBase o "count" X.env (eval o X.env)=eval o X.env:=by rfl)
  (kY:((backTo p3 (starEach [a] X.env)).all (λx=>!x.1)&&(backToKw p3 (keywordEach [] X.env)).all (λx=>x.1.isSome)&&decide ([a].length+([]:List Keyword).length+(if([]:List Keyword).isEmpty then 0 else 1)<30))=true:=by rfl)
  (kT:(p2.endLine==p3.line)=true:=by rfl):FP X (.Call (.Attribute o "count" p2) [a] [] p3) (e2 Ay fo fa):=by
 obtain⟨to,po,so⟩:=ho;obtain⟨ta,pa,sa⟩:=ha;refine⟨_,x6 PySem.F.plainAttrs_list PySem.F.slot_list_count PySem.F.type_list_count abn po (dY pa fU hs) k7 kY kT hs rfl,@λH0 S z aq ρ σ H Q dd tg ok e k=>?_⟩;obtain⟨d1,t1,d2,t2,e1,jj,e3,rfl⟩:=pL e;unfold Ay at e3
 split at e3
 .rename_i ds ky;cases hS:jS ds with
  |none=>rw[hS] at e3;cases e3
  |some ys=>
   rw[hS] at e3;cases e3;refine so ok e1 λH1 v fp s1 r1 _=>?_
   obtain⟨l,xs,f,rfl,hq,rs,_⟩:=r1.dF;have ex:=xP rs hS;subst ex;refine⟨.inl ⟨rfl,_,hq⟩,?_⟩;refine sa (ok.same s1) jj λH2 u mE s2 r2 _=>?_
   cases r2;obtain⟨l',QU,f',e',hq2,xU,_⟩:=(r1.same s2).dF;cases e';have ex:=xP xU hS;subst ex;exact⟨l,ys,ky,rfl,rfl,hq2,k H2 _ [] (s1.trans s2) (.int _) .nil⟩
 .cases e3
def yN(K:PySem.W.Frag)(t:Addr)(ys:List Str):Prop:=∃(o:Obj) (au:Array Value) (n:Nat),K.lookup t=some o/\o.cls=.type "tuple"/\o.dict=none/\o.data=.seq au n/\au.size<=sizeLine/\aQ (ys.map V.str) au.toList
theorem Of{K:PySem.W.Frag}{H:Hp}:∀ys:List Str,az K H (ys.map D.str) (ys.map V.str) []
 |[]=>.nil
 |y::ys=>.cons (.str y) (Of ys)
theorem Rp{x:Str}{t:Addr}{ys:List Str}(hm:X.mg x=some (.ref t))(ht:yN X.K t ys)(hg:GD X x:=by exact⟨rfl,by decide⟩):FP X (.Name x pos) (eC (.tup (ys.map D.str))):=
 ⟨_,KZ hg.1 hm (v:=.ref t) rfl hg.2,@λ_ _ _ _ _ _ H _ _ _ _ e q=>by cases e;exact q H _ _ (aF.refl H) (.tup (.inr ht) (Of ys)) .nil⟩
def uA(neg:Bool):D->D->Option D
 |.str i,.lst ds=>(jS ds).map λns=>.bl (if neg=true then !(ns.any (· == i)) else ns.any (· == i))
 |.str i,.tup ds=>(jS ds).map λns=>.bl (if neg=true then !(ns.any (· == i)) else ns.any (· == i))
 |_,_=>none
theorem O8(i:Str)(ns:List Str):sI (.str i) (ns.map V.str)=ns.any (· == i):=by
 unfold sI;rw[aei];rfl
theorem Lq(ns:List Str):(ns.map V.str).all lY=true:=by
 rw[aeF];exact ac6.mpr λ_ _=>rfl
theorem Ja{K:PySem.W.Frag}{neg:Bool}:fL K (Bp K neg) (uA neg):=by
 intro H x y d1 d2 f1 f2 d Q r1 r2 e k;unfold uA at e
 split at e
 .rename_i i ds;cases hS:jS ds with
  |none=>rw[hS] at e;cases e
  |some ys=>
   rw[hS] at e;cases e;cases r1;obtain⟨l,xs,f,rfl,hq,rs,_⟩:=r2.dF;have ex:=xP rs hS;subst ex;refine⟨l,_,rfl,.inl hq,rfl,Lq ys,?_⟩;rw[O8];exact k H _ (aF.refl H) (.bl _)
 .rename_i i ds;cases hS:jS ds with
  |none=>rw[hS] at e;cases e
  |some ys=>
   rw[hS] at e;cases e;cases r1;cases r2 with
   |tup hq rs=>
    have ex:=xP rs hS;subst ex;refine⟨_,_,rfl,.inr hq,rfl,Lq ys,?_⟩;rw[O8];exact k H _ (aF.refl H) (.bl _)
 .cases e
theorem Rl(ha:FP X a fa)(hb:FP X b fb)(hm:behindInMarks .In b=false:=by rfl):FT X (.Compare a [.In] [b] pos) (tV (e2 (uA false) fa fb)):=jh Ln Ja ha hb hm
theorem Xo(ha:FP X a fa)(hb:FP X b fb)(hm:behindInMarks .NotIn b=false:=by rfl):FT X (.Compare a [.NotIn] [b] pos) (tV (e2 (uA true) fa fb)):=jh DU Ja ha hb hm
end
end L2.Ev
namespace L2.Ev
open PySem PySem.W
theorem MX{K:Frag}{newId:String}(q:excIn K C xT newId=true):∃nm qn N bs bm jx sn sub ab col dd k0 k1 k2 k3 k5,K.lookup C=some (excClassObj nm qn C N bs bm jx sn sub ab col dd k0 k1 k2 k3 k5 newId)/\
  tailIn K xT bm=true/\nsOkIn K N=true/\nsIn K N "__init__"=some none:=by
 unfold excIn at q
 split at q
 .rename_i dd cd sl ho
  split at q
  .rename_i C' bm k0 k1 k2 k3 n k5 hm hs;simp only[aaH,ad2,aeR] at q;obtain⟨⟨⟨⟨⟨rfl,rfl⟩,O5⟩,ht⟩,aH⟩,Me⟩:=q;obtain⟨nm,bs,mro,ns,qn,hd,sn,sub,ab,col,del⟩:=cd;dsimp only at hm O5 aH Me;subst hm O5;have yx:sl=#[k0,k1,k2,k3,some (.builtin n),k5]:=by
    obtain⟨l⟩:=sl;simp only at hs;rw[hs]
   subst yx;exact⟨nm,qn,ns,bs,bm,hd,sn,sub,ab,col,dd,k0,k1,k2,k3,k5,ho,ht,aH,Me⟩
  .cases q
 .cases q
theorem Sb{K:Frag}(q:excIn K C OW "ValueError.__new__"=true):NB K C:=by
 obtain⟨nm,qn,N,bs,bm,jx,sn,sub,ab,col,dd,k0,k1,k2,k3,k5,h1,h2,h3,h4⟩:=MX q;exact⟨⟨_,_,_,_,bm,N,nm,qn,bs,jx,sn,sub,ab,col,dd,k0,k1,k2,k3,k5,PySem.F.excBase_ValueError,h1,h3,h4,h2⟩⟩
def Shape(K:Frag)(C:Addr):Prop:=∃nm qn N bs bm jx sn sub ab col dd k0 k1 k2 k3 k5 newId,K.lookup C=some (excClassObj nm qn C N bs bm jx sn sub ab col dd k0 k1 k2 k3 k5 newId)
theorem JD{K:Frag}{newId:String}(q:excIn K C xT newId=true):Shape K C:=by
 obtain⟨nm,qn,N,bs,bm,jx,sn,sub,ab,col,dd,k0,k1,k2,k3,k5,h1,_⟩:=MX q;exact⟨nm,qn,N,bs,bm,jx,sn,sub,ab,col,dd,k0,k1,k2,k3,k5,newId,h1⟩
theorem J6{K:Frag}{sub:List Value}{col:Option Bool}{dd:Option Addr}{k0 k1 k2 k3 k5:Option Value}{newId:String}
  (h:K.lookup C=some (excClassObj nm qn C N bs bm jx sn sub ab col dd k0 k1 k2 k3 k5 newId)) (m:mroIn K C v=some true):(Value.ref C::bm).contains v=true:=by
 unfold mroIn clsIn at m;rw[h] at m;dsimp only at m;rw[acQ,if_neg (by simp)] at m;exact abO m
theorem abP{K:Frag}{C D:Addr}(hC:Shape K C)(hD:Shape K D)(m:mroIn K C (.ref D)=some true)(b:mroIn K D (.type "BaseException")=some true):LM K C D:=by
 obtain⟨nm,qn,N,bs,bm,jx,sn,sub,ab,col,dd,k0,k1,k2,k3,k5,newId,h1⟩:=hC;obtain⟨GP,SN,N',Cs,Bv,EW,E2,Ez,EM,Ea,kc,j0,j1,j2,j3,j5,CO,h2⟩:=hD;refine⟨nm,qn,N,bs,bm,jx,sn,sub,ab,col,dd,k0,k1,k2,k3,k5,newId,h1,GP,SN,N',Cs,Bv,EW,E2,Ez,EM,Ea,kc,j0,j1,j2,j3,j5,CO,h2,?_,J6 h1 m⟩;have:=J6 h2 b;rw[List.contains_cons] at this;rcases(aeK _ _).mp this with q|q
 .cases ad2.mp q
 .exact q
noncomputable def abX(names:List Str):Str->Bool:=λcn=>names.contains cn
def acL(K:Frag)(names:List Str)(Dc:Addr):Prop:=∀cn C,abX names cn=true->nsIn K mainGlobals cn=some (some (.ref C))->LM K C Dc
theorem Zi{K:Frag}(m:mroIn K C v=some b):(clsIn K C).isSome=true:=by
 unfold mroIn at m;cases h:clsIn K C with
 |none=>rw[h] at m;cases m
 |some _=>rfl
end L2.Ev
namespace L2
open PySem PySem.Spec PyProof.Rows
section
variable{X:Cx}{e:Expr}{ES:XS}{pos:Pos}
theorem Mz(h:PE X.fX e t):PX X e (λσ H Q _=>t σ H Q):=λaf s σ H Q E I hw=>
 adH (h af s σ H Q (I.lu _) hw) (λ_ _ ⟨v,H',I',r,q⟩=>⟨v,H',I'.oj,r,q⟩) λ_ _ z=>False.elim z
end
end L2
namespace L2.Ev
open PySem PySem.Spec PyProof.Rows
def yt(fa fh:EF):EF:=λρ=>match fa ρ,fh ρ with
 |some (.lst ds,_),some (.int i,_)=>if aN ds=true then some (.lst (cutD ds (some i) none),.own) else none
 |_,_=>none
section
variable{X:Cx}{a b:Expr}{fa:EF}{p2 pos:Pos}
theorem Tu{fh:EF}(ha:FP X a fa)(hh:FP X b fh):FP X (.Subscript a (.Slice (some b) none none p2) pos) (yt fa fh):=by
 obtain⟨t,p,q⟩:=ha;obtain⟨th,ph,qh⟩:=hh;exists 21,CT Ga p (C9 ph) Fg;unfold yt at e
 split at e
 .rename_i ds t1 i t2 e1 e2;obtain⟨hi,e⟩:=ci e;cases e;refine q ok e1 λH1 x f1 s1 r1 _=>?_
  refine qh (ok.same s1) e2 λH2 y f2 s2 r2 _=>?_
  cases r2;refine⟨i,rfl,?_⟩;obtain⟨w,xs,f,rfl,hq,rs,_⟩:=(r1.same s2).dF;have hn:=rs.aD hi;subst hn;refine⟨w,xs,rfl,hq,λp hp=>?_⟩;have s3:aF H2 (upd H2 p (.lst (kK xs (some i) none))):=λb o e=>by rw[aO (cK e hp)];exact e
  have rr:az X.K H2 (cutD ds (some i) none) (kK xs (some i) none) []:=by
   unfold cutD kK;rw[rs.length];exact az.Al _ (az.Aq _ rs)
  refine k _ _ [p] ((s1.trans s2).trans s3) (.lst cG (rr.same s3)) ⟨aby.mpr ⟨(λm=>by cases m),aco⟩,λa m=>?_⟩;cases aaX.mp m;exact s1.free (s2.free hp)
 .cases e
end
def OM(fa fb:EF):EF:=λρ=>match fa ρ,fb ρ with
 |some (.tup ds,.sh o),some (.int i,_)=>(dU ds i).map λd=>(d,.sh o)
 |_,_=>none
theorem Ac(ha:FP X a fa)(hb:FP X b fb)(hs:Eh b:=by exact λ_ _=>rfl):FP X (.Subscript a b pos) (OM fa fb):=by
 obtain⟨ta,pa,sa⟩:=ha;obtain⟨tb,pb,sb⟩:=hb;exists 20,LW Lu pa pb hs;unfold OM at e
 split at e
 .rename_i ds o i t2 e1 jj;cases h3:dU ds i with
  |none=>rw[h3] at e;cases e
  |some d3=>
   rw[h3] at e;cases e;refine sa ok e1 λH1 x f1 s1 r1 g1=>?_
   refine sb (ok.same s1) jj λH2 y f2 s2 r2 _=>?_
   have r1:=r1.same s2;obtain⟨p,xs,rfl,hq,rs⟩:=r1.i8;cases r2;unfold dU at h3;cases h:j6 ds.length i with
   |none=>rw[h] at h3;cases h3
   |some j=>
    rw[h,acQ] at h3;obtain⟨v,f',hv,rv,hm⟩:=rs.get h3;refine .inr (.inl ⟨p,xs,i,v,rfl,rfl,hq,?_,q H2 v f' (s1.trans s2) rv λa m=>g1 a (hm a m)⟩);unfold dU;rw[<- rs.length,h,acQ];exact hv
 .cases e
def zJ(X:Cx)(e:Expr)(f:av->Option (Bool×av)):Prop:=∃t,PT X e t/\∀{H0:Hp}{S:List Addr}{z:Addr->Option Nat}{aq:List bX}{ρ:av}{σ:St}{H:Hp}{Q:Bool->Hp->Prop}{b:Bool}{ρ':av},
 Ok X.K H0 S z aq ρ σ H->f ρ=some (b,ρ')->(∀z' H',Ok X.K H0 S z' aq ρ' σ H'->Q b H')->t σ H Q
section
variable(P:Program)(w:World)(K:PySem.W.Frag)(mg:Str->Option Value)(base:Heap)(CX:jU)(k:Nat)
def FN(x:Str)(ps:List Str)(sp:Sp)(cm:Bool:=true):Prop:=∃a fd,b_ P w K mg base CX k a fd ps sp cm/\mg x=some (.ref a)/\PySem.W.keepIn K (.ref a)=true/\Binds K fd ps []
def MT(C:Addr)(x:Str)(ps:List Str)(sp:Sp)(cm:Bool:=true):Prop:=∃a fd,b_ P w K mg base CX k a fd ps sp cm/\Binds K fd ps []/\lD K C x a
def MI(C:Addr)(ps:List Str)(sp:Sp)(cm:Bool:=true):Prop:=∃a fd,b_ P w K mg base CX k a fd ps sp cm/\Binds K fd ps []/\Mk K C a
end
def GL(K:PySem.W.Frag)(x q:Str)(st:Stmt)(f:Addr):Prop:=∃oc od kV dc pm an cd ct sl,K.lookup f=some ⟨oc,od,.func (PySem.W.fnOf x q (lF st) (gH st) (cB st) .none kV dc pm an cd ct),sl⟩/\PySem.W.codeIn K cd q=true/\PySem.W.keepIn K (.ref f)=true
def Dh(K:PySem.W.Frag)(x:Str)(st:Stmt):Prop:=∃f,PySem.W.nsIn K mainGlobals x=some (some (.ref f))/\GL K x x st f
def GM(K:PySem.W.Frag)(C:Addr)(x q:Str)(st:Stmt):Prop:=∃f,PySem.W.findIn K (.ref C) x=some (some (.ref f))/\PySem.W.isFn K (.ref f)=true/\GL K x q st f
abbrev BA(x q:Str)(st:Stmt)(ps:List Str):Prop:=∀(kV doc pm:Value) (an:Option Addr) (aR ct:Value) (us:List Value),us.length=ps.length->bindArgs (PySem.W.fnOf x q (lF st) (gH st) (cB st) .none kV doc pm an aR ct) ⟨us,[]⟩=pure (ps.zip us)
theorem Ew{K:PySem.W.Frag}{x q:Str}{st:Stmt}{f:Addr}(l:GL K x q st f):PySem.W.keepIn K (.ref f)=true/\∃fd,jJ K x q st f fd:=by
 obtain⟨oc,od,kV,dc,pm,an,cd,ct,sl,h1,h2,h3⟩:=l;exact⟨h3,_,Pu h1 h2 h3⟩
section
variable{P:Program}{w:World}{K:PySem.W.Frag}{h:Heap}{mg:Str->Option Value}{base:Heap}{CX:jU}{k:Nat}{C:Addr}{x q:Str}{st:Stmt}{ps:List Str}{sp:Sp}{cm:Bool}
theorem Z2(X:K.In h)(G:h.Ns mainGlobals mg)(l:Dh K x st)(ok:∀{f:Addr}{fd:FuncData},jJ K x x st f fd->b_ P w K mg base CX k f fd ps sp cm)(b:BA x x st ps):FN P w K mg base CX k x ps sp cm:=by
 obtain⟨f,a,l⟩:=l;obtain⟨kp,fd,F⟩:=Ew l;exact⟨f,fd,ok F,PySem.W.mg_of X G a,kp,F.binds b⟩
theorem Yu(l:GM K C x q st)(ok:∀{f:Addr}{fd:FuncData},jJ K x q st f fd->b_ P w K mg base CX k f fd ps sp cm)(b:BA x q st ps):MT P w K mg base CX k C x ps sp cm:=by
 obtain⟨f,a,i,l⟩:=l;obtain⟨kp,fd,F⟩:=Ew l;exact⟨f,fd,ok F,F.binds b,⟨a,i,kp⟩⟩
theorem aaB{sp:Heap->Sp}(X:K.In h)(G:h.Ns mainGlobals mg)(GX:mg "law"=some (.ref fa))(l:Dh K "law" st)
  (b:∀(kV doc pm:Value) (an:Option Addr) (aR ct:Value) (s:Shared) (v:Value),BindsTo s (PySem.W.fnOf "law" "law" (lF st) (gH st) (cB st) .none kV doc pm an aR ct) ⟨[v],[]⟩ [(p,v)])
  (ok:∀base:Heap,K.In base->base.Ns mainGlobals mg->∀{f:Addr}{fd:FuncData},jJ K "law" "law" st f fd->b_ P w K mg base CX k f fd [p] (sp base) cm) :
  ∃fd:FuncData,(∀(s:Shared) (v:Value),BindsTo s fd ⟨[v],[]⟩ [(p,v)])/\∀base:Heap,K.In base->base.Ns mainGlobals mg->b_ P w K mg base CX k fa fd [p] (sp base) cm:=by
 obtain⟨f,a,oc,od,kV,dc,pm,an,cd,ct,sl,h1,h2,h3⟩:=l;have e:=GX.symm.trans (PySem.W.mg_of X G a);cases e;exact⟨_,b kV dc pm an cd ct,λbase K1 G1=>ok base K1 G1 (Pu h1 h2 h3)⟩
end
section
variable{g:GF}{t:Tag}{f:SF}{d:D}{ds:List D}{ρ aM aZ:av}
theorem nQ(h1:g d t ρ=some aM)(h2:f aM=some (.nx aZ)):cX g t f (d::ds) ρ=cX g t f ds aZ:=by
 conv=>lhs;unfold cX
 rw[h1];dsimp only;rw[h2]
theorem Jk(h1:g d t ρ=some aM)(h2:f aM=some (.rt r)):cX g t f (d::ds) ρ=some (.rt r):=by
 unfold cX;rw[h1];dsimp only;rw[h2]
end
end L2.Ev
namespace L2
open PySem PySem.Spec PyProof.Rows
namespace Ev
section
variable{X:Cx}{e a b:Expr}{f:EF}{fx:XF}{pos:Pos}
noncomputable def vS(ft:TF)(fz:av->Option (Bool×av)):av->Option (Bool×av):=λρ=>match ft ρ with
 |some true=>fz ρ
 |some false=>some (false,ρ)
 |none=>none
theorem Q7{ft:TF}{fz:av->Option (Bool×av)}(ha:FT X a ft)(hb:zJ X b fz):zJ X (.BoolOp .And [a,b] pos) (vS ft fz):=by
 obtain⟨t,p,q⟩:=ha;obtain⟨t',p',q'⟩:=hb;refine⟨_,(NQ p (Iq p')).pt,@λH0 S z aq ρ σ H Q c ρ' ok e k=>?_⟩;unfold vS at e
 split at e
 .rename_i h1;refine q ok h1 λH1 s1=>?_
  rw[if_pos rfl];exact q' (ok.same s1) e k
 .rename_i h1;cases e;refine q ok h1 λH1 s1=>?_
  rw[if_neg aa9];exact k z H1 (ok.same s1)
 .cases e
end
end Ev
end L2
namespace L2.Ev
open PySem PySem.Spec PyProof.Rows
section
variable{X:Cx}{a b e:Expr}{fa fb fv:EF}{fx:XF}{pos:Pos}
def acS(K:PySem.W.Frag)(T:List (Str×Bool))(cs:List Addr):Prop:=∀cn b C,T.lookup cn=some b->PySem.W.nsIn K mainGlobals cn=some (some (.ref C))->C_ K C/\PySem.W.kitAny K (.ref C) (cs.map Value.ref)=some b
end
end L2.Ev
namespace L2.Ev
open PySem
section
variable{ρ ρ':av}{f:EF}{sf sg:SF}{d d1 d2:D}{t t1 t2:Tag}{i:Nat}{r:Option Out}
theorem sq(h:sf ρ=some (.nx ρ'))(h2:sg ρ'=r):bV sf sg ρ=r:=by rw[jo,h,nu,h2]
theorem jZ(h:f ρ=some (d,t))(h2:sg (iC ρ i d t)=r):bV (c8 i f) sg ρ=r:=sq (by unfold c8;rw[h]) h2
theorem pq(h:tf ρ=some b)(h2:bV (if b=true then sf else gO) sg ρ=r):bV (eN tf sf gO) sg ρ=r:=by
 have e:eN tf sf gO ρ=(if b=true then sf else gO) ρ:=by rw[iK,h];cases b<;>rfl
 rw[jo,e,<- jo,h2]
theorem fC(h:tf ρ=some false)(h2:sg ρ=r):bV (eN tf sf gO) sg ρ=r:=sq (by rw[iK,h];rfl) h2
theorem bT{op:D->Option D}(h:f ρ=some (d,t))(h2:op d=some d1):e1 op f ρ=some (d1,.own):=by rw[vV,h,KH,h2];rfl
theorem aK{op:D->D->Option D}(h:f ρ=some (d1,t1))(h2:g ρ=some (d2,t2))(h3:op d1 d2=some d):e2 op f g ρ=some (d,.own):=by rw[jQ,h,h2,yf,h3];rfl
theorem dJ{F:List D->Option D}{ps:List (D×Tag)}(h:g ρ=some ps)(h2:F (ps.map (·.1))=some d):cC F g ρ=some (d,.own):=by rw[s_call,h,Mh,h2];rfl
theorem bU(h:f ρ=some (.bl b,t)):tV f ρ=some b:=by rw[x8,h];rfl
theorem kN(h:tf ρ=some b):l7 tf ρ=some (!b):=by rw[C0,h];rfl
end
open PySem PySem.Spec PyProof.Rows
section
variable{X:Cx}{x f cn:Str}{C:Addr}{a k v:Expr}{fk fv:EF}{p p1 p2 p3 pos pos':Pos}
def s_(i:Nat)(cn f:Str)(fk fv:EF):SF:=λρ=>match fv ρ,ρ[i]?,fk ρ with
 | some (d,_),some (some (.ins c es,.own)),some (kd,_)=>if c=cn then(match es.lookup f,gQ kd with
  |some (.bH ak),some k=>if(aD d&&aN (ak.map (·.2))&&decide (ak.length<sizeLine))=true then some (.nx (bP ρ i (.ins c (dD f (.bH (putD ak k d)) es)))) else none
  |_,_=>none) else none
 |_,_,_=>none
theorem By(i:Nat)(hu:X.A.units+1<cLine)(hC:ClsAt X.K cn C)(na:ji X.K C f)(hk:FP X k fk)(hv:FP X v fv)(va:VA X i x:=by walk_at "va")
  (hb:attributeBase (.Name x p) f X.env (eval (.Name x p) X.env)=eval (.Name x p) X.env:=by rfl)
  (hs:swapsWith v (some (.Subscript (.Attribute (.Name x p) f p1) k pos')) pos.line X.env=pure false:=by rfl) :
  eO X (.Assign [.Subscript (.Attribute (.Name x p) f p1) k pos'] v pos) (s_ i cn f fk fv):=by
 obtain⟨tk,pk,sk⟩:=hk;obtain⟨tv,lG,sv⟩:=hv;exists 25,As hu (sN va.pe hb) pk lG hs;unfold s_ at e
 split at e
 .rename_i d td c es kd M6 g1 g2 g3
  by_cases hc:c=cn
  .subst hc;rw[if_pos rfl] at e
   split at e
   .rename_i ak key hl wL
    by_cases hc:(aD d&&aN (ak.map (·.2))&&decide (ak.length<sizeLine))=true
    .rw[if_pos hc] at e;cases e;obtain⟨c1,c3⟩:=(aaH _ _).mp hc;obtain⟨c1,c2⟩:=(aaH _ _).mp c1;refine sv ok g1 λH1 v fd s1 rv gv=>?_
     have hn:=rv.aD c1;subst hn;obtain⟨xv,fp,cz,r,zz⟩:=(ok.same s1).sl i _ _ g2;refine⟨xv,cz,?_⟩;obtain⟨b0,dx,fs,u,gf,rfl,h1,h2,h3,h4,h5,h6⟩:=r.place hC.ns zz.1 hl;refine⟨b0,C,dx,fs,u,rfl,h1,hC.cl,na,h2,?_⟩;refine sk (ok.same s1) g3 λH2 y HW s2 rk _=>?_
     have ek:=rk.key wL;subst ek;have r':=h3.same s2;generalize hw:u=w at r' h6;cases r' with
     | @bH l ks _ f' h fY rs=>
      have hn:=rs.aD c2;subst hn;have hlen:ks.length=ak.length:=by have:=congrArg List.length fY;simpa using this.symm
      refine⟨l,_,rfl,oA.k (k:=key) h (by rw[hlen];exact aaK c3),?_⟩;have im:aU H2 (upd H2 l (.dK (putK ks key v))):=aU.upd h rfl;have kp:∀(c:Addr) o,c∉[l]->H1 c=some o->upd H2 l (.dK (putK ks key v)) c=some o:=λc o n e=>by rw[aO λq=>n (by rw[q];exact aam)];exact s2 c o e
      obtain⟨bN,k1,k2,k3⟩:=h6 (upd H2 l (.dK (putK ks key v))) (.bH (putD ak key d)) [l] ((aU.of s2).trans im) kp
       (.bH cG (vg fY) (Af fY (rs.frame (λa m=>nomatch m) im) ((rv.same s2).frame (λa m=>nomatch m) im))) h4 (λc m=>.inl m)
      obtain⟨z',aT⟩:=(ok.same s1).put g2 cz zz ((aU.of s2).trans im) (λc o n e=>kp c o (λm=>n (h5 c m)) e) k1 k2 k3;exact q z' σ _ aT (.refl _ _)
    .rw[if_neg hc] at e;cases e
   .cases e
  .rw[if_neg hc] at e;cases e
 .cases e
def zU(i:Nat)(cn f:Str)(fv:EF):SF:=λρ=>match fv ρ,ρ[i]? with
 | some (.int j,_),some (some (.ins c es,.own))=>if c=cn/\es.length < 1000 then(match es.lookup f with
  |some (.int k)=>some (.nx (bP ρ i (.ins c (dD f (.int (k+j)) es))))
  |_=>none) else none
 |_,_=>none
theorem Cq(i:Nat)(hC:ClsAt X.K cn C)(na:ji X.K C f)(hv:FP X a fv)(va:VA X i x:=by walk_at "va"):eO X (.AugAssign (.Attribute (.Name x p1) f pos') .Add a pos) (zU i cn f fv):=by
 obtain⟨t,p,q⟩:=hv;exists 23,V_ va.pe p QB;unfold zU at e
 split at e
 .rename_i j tg c es h1 h2
  by_cases hc:c=cn/\es.length<1000
  .rw[if_pos hc] at e;obtain⟨rfl,hl⟩:=hc
   split at e
   .rename_i m hf;cases e;obtain⟨v,a_,cz,r0,zz⟩:=ok.sl i _ _ h2;refine⟨v,cz,?_⟩;obtain⟨b,dx,fs,u,gf,rfl,h3,e2,e3,_⟩:=r0.place hC.ns zz.1 hf;obtain⟨b',vm,pU,g,ev,rfl,Aa,h4,h5,h6⟩:=r0.lR hC.ns;cases ev;rw[h3] at Aa;cases Aa;cases e3;have lf:fs.length<1000:=by have:=congrArg List.length h5;rw[List.length_map,List.length_map] at this;omega
    refine⟨b,C,dx,fs,_,rfl,h3,hC.cl,na,e2,q ok h1 λH1 y fd s1 r1 g1=>?_⟩;cases r1;refine⟨m,j,rfl,rfl,dx,fs,s1 _ _ h3,lf,?_⟩;obtain⟨z',aT⟩:=ok.fld (f:=f) hC h2 cz h3 s1 (.int (m+j)) aco λc m=>nomatch m
    exact k z' σ _ aT (.refl _ _)
   .cases e
  .rw[if_neg hc] at e;cases e
 .cases e
noncomputable def qK(f:EF):TF:=λρ=>match f ρ with
 |some (.lst ds,_)=>some (!ds.isEmpty)
 |_=>none
theorem Nh{f:EF}(h:FP X a f)(he:∀whole,isTrue a X.env whole=(do let v <- whole;standAt a.pos;holding [v] (truthy v)):=by intro _;rfl):FT X a (qK f):=by
 obtain⟨t,p,q⟩:=h;refine⟨_,Us p he,@λH0 S z aq ρ σ H Q b ok e k=>?_⟩;unfold qK at e
 split at e
 .rename_i ds tg e1;cases e;refine q ok e1 λH1 v fp s1 r1 _=>?_
  obtain⟨w,xs,f,rfl,hq,rs,_⟩:=r1.dF;have he:(!ds.isEmpty)=!xs.isEmpty:=by cases rs<;>rfl
  exact⟨_,.inl ⟨xs,hq,rfl⟩,he ▸ k H1 s1⟩
 .cases e
theorem QA{b:Expr}{fa fb:EF}(hu:X.A.units+1<cLine)(ha:FP X a fa)(hb:FP X b fb)(hm:behindInMarks .NotIn b=false:=by rfl):FP X (.Compare a [.NotIn] [b] pos) (e2 (pC true) fa fb):=
 fp_2 FO ha hb λta tb pa pb=>KL (t:=rR (Fd true) ta tb) (Xx hu pa pb) hm
end
end L2.Ev
namespace L2
open PySem PySem.Spec PyProof.Rows
section
variable{X:Cx}{af:List (Addr×Obj)}{σ:St}{H:Hp}{s:Shared}{a:Addr}
theorem HS{ks:List Key}(I:Inv X af σ H s)(h:bZ X.K H a (ks.map kV)):(tupleKind (fN X.prog X.w)).is s.heap ks a:=by
 obtain⟨au,r,⟨o,h1,h2,_,n,h3⟩,_⟩:=I.KC h;exact⟨o,au.toArray,n,h1,h2,h3,by simpa using Cr r⟩
def P7(K:PySem.W.Frag)(neg:Bool):R2:=λx y H Q=>∃b a k ak,x=.ref b/\y=.ref a/\bZ K H b (List.map kV k)/\H a=some (.dT ak)/\Q (.bl (if neg=true then !(dz ak k).isSome else(dz ak k).isSome)) H
theorem WE(hu:X.A.units+1<cLine):cO X (compareOp .In) (P7 X.K false):=by
 rintro af s σ H x y v u Q I rx ry ⟨b,a,k,ak,rfl,rfl,hq,e,q⟩
 obtain rfl:v=Value.ref b:=rx;obtain rfl:u=Value.ref a:=ry;obtain⟨z,hd,xs,rel,dd⟩:=nH I.aH (.inl e);refine wpAny_in_heap (adY hu) (HS I hq) hd dd ?_;have w:=(rel.val k).uD;rw[aeh] at w;rw[<- w];exact⟨.bl (dz ak k).isSome,H,I.tok _,rfl,q⟩
def abt(K:PySem.W.Frag)(td ty:TE):TE:=λσ H Q=>td σ H λx H1=>ty σ H1 λy H2=>∃a b k ak v,x=.ref a/\y=.ref b/\bZ K H2 b (List.map kV k)/\H2 a=some (.dT ak)/\dz ak k=some v/\Q v H2
theorem ZT{o i:Expr}{pos:Pos}{td ty:TE}(hu:X.A.units+1<cLine)(ho:PE X o td)(hi:PE X i ty)(hs:yb i):PE X (.Subscript o i pos) (abt X.K td ty):=by
 intro af s σ H Q I h;refine IW PySem.F.slot_dict_getitem.lookup hs (aL (ho af s σ H _ I h) λu s1 ⟨x,H1,I1,rx,q1⟩=>aL (hi af s1 σ H1 _ I1 q1) λiv s2 ⟨y,H2,I2,ry,a,b,k,ak,v,ex,ey,hq,e,l,q2⟩=>?_);subst ex;subst ey;obtain rfl:u=Value.ref a:=rx;obtain rfl:iv=Value.ref b:=ry;obtain⟨z,hd,xs,rel,dd⟩:=nH I2.aH (.inl e);obtain⟨w',hw,fQ⟩:=gm.some_of (v:=v) (o:=(atKey xs k).map (·.2)) (by rw[<- l];exact rel.val k);obtain⟨p,hp,w6⟩:=ab8.mp hw;refine⟨dd.typeIs,wpAny_getItem_heap (adY hu) (HS I2 hq) dd hp ?_⟩;rw[w6];exact⟨v,H2,I2.tok _,fQ,q2⟩
end
namespace Ev
section
variable{X:Cx}{a b:Expr}{fa fb:EF}{pos:Pos}
def gP:List D->Option (List Key)
 |[]=>some []
 |d::ds=>match gQ d,gP ds with
  |some k,some ks=>some (k::ks)
  |_,_=>none
theorem az.keys{K:PySem.W.Frag}{H:Hp}:∀{ds:List D}{xs:List V}{fp:List Addr}{ks:List Key},az K H ds xs fp->gP ds=some ks->xs=ks.map L2.kV
 |[],_,_,_,.nil,e=>by cases e;rfl
 |d::ds,_,_,ks,.cons r rs,e=>by
  unfold gP at e
  split at e
  .rename_i k ou h1 h2;cases e;rw[r.key h1,az.keys rs h2];rfl
  .cases e
def CP(neg:Bool):D->D->Option D
 |.tup ds,.cU es=>(gP ds).map λk=>.bl (if neg=true then !(aY es k).isSome else(aY es k).isSome)
 |_,_=>none
theorem Q0{neg:Bool}{K:PySem.W.Frag}:fL K (P7 K neg) (CP neg):=by
 intro H x y d1 d2 f1 f2 d Q r1 r2 e k;cases d1<;>try (cases e;done)
 cases d2<;>try (cases e;done)
 rename_i ds es;have e:((gP ds).map λk=>D.bl (if neg=true then !(aY es k).isSome else(aY es k).isSome))=some d:=e;obtain⟨w,xs,rfl,hq,rs⟩:=r1.i8;cases hk:gP ds with
 |none=>rw[hk] at e;cases e
 |some ks=>
  rw[hk] at e;cases e;obtain rfl:=az.keys rs hk;cases r2 with
  | @cU a ak _ f h fY xU=>
   have ev:(dz ak ks).isSome=(aY es ks).isSome:=by
    obtain⟨h1,h2⟩:=oV (k:=ks) fY xU;cases hv:aY es ks with
    |none=>rw[h2 hv];rfl
    |some dv=>obtain⟨v,f,jD,_⟩:=h1 dv hv;rw[jD];rfl
   refine⟨w,a,ks,ak,rfl,rfl,hq,h,?_⟩;rw[ev];exact k H _ (aF.refl H) (.bl _)
theorem QF(hu:X.A.units+1<cLine)(ha:FP X a fa)(hb:FP X b fb)(hm:behindInMarks .In b=false:=by rfl):FT X (.Compare a [.In] [b] pos) (tV (e2 (CP false) fa fb)):=jh (WE hu) Q0 ha hb hm
def AL(fa fb:EF):EF:=λρ=>match fa ρ,fb ρ with
 |some (.cU es,t),some (.tup ds,_)=>(gP ds).bind λk=>(aY es k).map λd=>(d,kH t)
 |_,_=>none
theorem MY(hu:X.A.units+1<cLine)(ha:FP X a fa)(hb:FP X b fb)(hs:yb b):FP X (.Subscript a b pos) (AL fa fb):=by
 obtain⟨ta,pa,sa⟩:=ha;obtain⟨tb,pb,sb⟩:=hb;exists 20,ZT hu pa pb hs;unfold AL at e
 split at e
 .rename_i es t ds t2 e1 jj;cases hk:gP ds with
  |none=>rw[hk] at e;cases e
  |some ks=>
   rw[hk,acQ] at e;cases hv:aY es ks with
   |none=>rw[hv] at e;cases e
   |some dv=>
    rw[hv] at e;cases e;refine sa ok e1 λH1 x f1 s1 r1 g1=>?_
    refine sb (ok.same s1) jj λH2 y f2 s2 r2 _=>?_
    obtain⟨w,xs,rfl,hq,rs⟩:=r2.i8;obtain rfl:=az.keys rs hk;have DJ:=r1.same s2;cases DJ with
    | @cU l ak _ f h fY xU=>
     obtain⟨h1,_⟩:=oV (k:=ks) fY xU;obtain⟨v,f,jD,rv,sub⟩:=h1 _ hv;refine⟨l,w,ks,ak,v,rfl,rfl,hq,h,jD,?_⟩;exact q H2 v f (s1.trans s2) rv (cu.sub (λa j e=>(ok.zd a j e).1) g1 λa m=>aal _ (sub a m))
 .cases e
def Ag(neg:Bool):D->D->Option D
 |d1,.lst ds=>if(cR d1&&cR (.lst ds))=true then some (.bl (if neg=true then !(eY ds).any λy=>PyData.eqv y (py d1) else(eY ds).any λy=>PyData.eqv y (py d1))) else none
 |_,_=>none
def G_(K:PySem.W.Frag)(neg:Bool):R2:=λx y H Q=>∃d1 ds f1 f2,Rep K H d1 x f1/\Rep K H (.lst ds) y f2/\cR d1=true/\cR (.lst ds)=true/\Q (.bl (if neg=true then !(eY ds).any λy=>PyData.eqv y (py d1) else(eY ds).any λy=>PyData.eqv y (py d1))) H
theorem Tj(hu:X.A.units+64<cLine):cO X (compareOp .In) (G_ X.K false):=by
 intro af s σ H x y v u Q I rx ry h;obtain⟨d1,ds,f1,f2,r1,r2,l1,l2,q⟩:=h;obtain⟨a1,a2,a3⟩:=lay_of l1;obtain⟨b1,b2,b3⟩:=lay_of l2;obtain⟨as,ra⟩:=m8 I r1 rx a1;obtain⟨bs,rb⟩:=m8 I r2 ry b1;rw[py] at rb b2 b3;simp only[PyData.canLay0] at b2;exact SeqAt.in_list_reads rb ra b2 a2 (by have:=Nat.min_le_right (PyData.depthAll (eY ds)) (py d1).depth;omega) ⟨.bl _,H,I,rfl,q⟩
theorem aaC(hu:X.A.units+64<cLine):cO X (compareOp .NotIn) (G_ X.K true):=by
 intro af s σ H x y v u Q I rx ry h;obtain⟨d1,ds,f1,f2,r1,r2,l1,l2,q⟩:=h;obtain⟨a1,a2,a3⟩:=lay_of l1;obtain⟨b1,b2,b3⟩:=lay_of l2;obtain⟨as,ra⟩:=m8 I r1 rx a1;obtain⟨bs,rb⟩:=m8 I r2 ry b1;rw[py] at rb b2 b3;simp only[PyData.canLay0] at b2;exact SeqAt.notIn_list_reads rb ra b2 a2 (by have:=Nat.min_le_right (PyData.depthAll (eY ds)) (py d1).depth;omega) ⟨.bl _,H,I,rfl,q⟩
theorem Jt{K:PySem.W.Frag}{neg:Bool}:fL K (G_ K neg) (Ag neg):=by
 intro H x y d1 d2 f1 f2 d Q r1 r2 e k;cases d2<;>try (cases e;done)
 rename_i ds;have e:(if(cR d1&&cR (.lst ds))=true then some (D.bl (if neg=true then !(eY ds).any λy=>PyData.eqv y (py d1) else(eY ds).any λy=>PyData.eqv y (py d1))) else none)=some d:=by cases d1<;>exact e
 by_cases hc:(cR d1&&cR (.lst ds))=true
 .rw[if_pos hc] at e;cases e;obtain⟨c1,c2⟩:=(aaH _ _).mp hc;exact⟨d1,ds,f1,f2,r1,r2,c1,c2,k H _ (aF.refl H) (.bl _)⟩
 .rw[if_neg hc] at e;cases e
theorem aak(hu:X.A.units+64<cLine)(ha:FP X a fa)(hb:FP X b fb)(hm:behindInMarks .NotIn b=false:=by rfl):FT X (.Compare a [.NotIn] [b] pos) (tV (e2 (Ag true) fa fb)):=jh (aaC hu) Jt ha hb hm
theorem aac(hu:X.A.units+64<cLine)(ha:FP X a fa)(hb:FP X b fb)(hm:behindInMarks .In b=false:=by rfl):FP X (.Compare a [.In] [b] pos) (e2 (Ag false) fa fb):=pQ (Tj hu) Jt ha hb hm
theorem KA:FP X (.Dict [] [] pos) (eC (.cU [])):=by
 refine⟨_,QZ,@λH0 S z aq ρ σ H Q d tg ok e k p hp=>?_⟩;cases e;have s2:aF H (upd H p (.dT [])):=λb o e=>by rw[aO (cK e hp)];exact e
 exact k _ _ [p] s2 (.cU cG rfl .nil) ⟨aby.mpr ⟨(λm=>by cases m),aco⟩,λa m=>by cases aaX.mp m;exact hp⟩
end
end Ev
end L2
namespace L2
open PySem PySem.W PyProof.Rows
structure nU(r:Nat->Nat->Bool)(n:Nat):Prop where
 tr:∀i j k,i<n->j<n->k<n->r i j=true->r j k=true->r i k=true
 tt:∀i j,i<n->j<n->i≠j->r i j=false->r j i=true
def jK(r:Nat->Nat->Bool)(p:Array Nat)(m:Nat):Prop:=∀i j,i<j->j<m->r (p.getD i 0) (p.getD j 0)=true
def vI(r:Nat->Nat->Bool)(p:Array Nat)(m:Nat):Prop:=∀i j,i<j->j<m->r (p.getD j 0) (p.getD i 0)=true
noncomputable abbrev aV(n:Nat)(p:Array Nat):Prop:=p.Perm (List.range n).toArray
section
variable{cmp:Nat->Nat->(Bool->Shared->Prop)->Shared->Prop}{r:Nat->Nat->Bool}{n:Nat}{s:Shared}{p:Array Nat}
theorem aV.sz(P:aV n p):p.size=n:=by rw[Array.Perm.size_eq P];simp
theorem getD_at(h:i<p.size):p.getD i 0=p[i]:=by simp[Array.getD,h]
theorem aV.lt(P:aV n p)(h:i<n):p.getD i 0<n:=by
 have hs:i<p.size:=by rw[aV.sz P];exact h
 rw[getD_at hs];have m:p[i]∈p.toList:=by simp
 have:=(ad8.mp P).mem_iff.mp m;simpa using this
theorem aV.ne(P:aV n p)(hi:i<n)(hj:j<n)(h:i≠j):p.getD i 0≠p.getD j 0:=λe'=>by
 have hs:i<p.size:=by rw[aV.sz P];exact hi
 have cz:j<p.size:=by rw[aV.sz P];exact hj
 rw[getD_at hs,getD_at cz] at e';have nd:=(ad8.mp P).nodup_iff.mpr (by simpa using List.nodup_range);have w:=aeC.mp nd;rcases Nat.lt_or_gt_of_ne h with q|q
 .exact w i j (by simpa using hs) (by simpa using cz) q (by simpa using e')
 .exact w j i (by simpa using cz) (by simpa using hs) q (by simpa using e'.symm)
def tU(cmp:Nat->Nat->(Bool->Shared->Prop)->Shared->Prop)(r:Nat->Nat->Bool)(n:Nat)(s:Shared):Prop:=∀i j C,i<n->j<n->C (r i j) s->cmp i j C s
theorem jK.snoc{m:Nat}(T:nU r n)(P:aV n p)(h:jK r p m)(h1:1<=m)(hm:m<n)(h2:r (p.getD (m-1) 0) (p.getD m 0)=true):jK r p (m+1):=λi j a b=>by
 by_cases e:j=m
 .subst e
  by_cases e':i=j-1
  .subst e';exact h2
  .exact T.tr _ _ _ (aV.lt P (by lia)) (aV.lt P (by lia)) (aV.lt P (by lia)) (h i (j-1) (by lia) (by lia)) h2
 .exact h i j a (by lia)
theorem vI.snoc{m:Nat}(T:nU r n)(P:aV n p)(h:vI r p m)(h1:1<=m)(hm:m<n)(h2:r (p.getD m 0) (p.getD (m-1) 0)=true):vI r p (m+1):=λi j a b=>by
 by_cases e:j=m
 .subst e
  by_cases e':i=j-1
  .subst e';exact h2
  .exact T.tr _ _ _ (aV.lt P (by lia)) (aV.lt P (by lia)) (aV.lt P (by lia)) h2 (h i (j-1) (by lia) (by lia))
 .exact h i j a (by lia)
theorem Ep(T:nU r n)(A:tU cmp r n s)(P:aV n p):∀(f m:Nat) {G:Nat->Shared->Prop},1<=m->m+f<=n->jK r p m->
  (∀m',m<=m'->m'<=m+f->jK r p m'->(m'=m+f\/r (p.getD m' 0) (p.getD (m'-1) 0)=true)->G m' s)->(kas_asc p f m).kasWp cmp G s
 |0,m,G,_,_,hs,g=>g m (abu _) (abu _) hs (.inl rfl)
 |f+1,m,G,h1,h2,hs,g=>by
  refine A _ _ _ (aV.lt P (by lia)) (aV.lt P (by lia)) ?_;cases c:r (p.getD m 0) (p.getD (m-1) 0) with
  |true=>exact g m (abu _) (by lia) hs (.inr c)
  |false=>
   exact Ep T A P f (m+1) (by lia) (by lia) (hs.snoc T P h1 (by lia) (T.tt _ _ (aV.lt P (by lia)) (aV.lt P (by lia)) (aV.ne P (by lia) (by lia) (by lia)) c)) λm' a b c d=>g m' (by lia) (by lia) c (by rw[show m+1+f=m+(f+1) by lia] at d;exact d)
theorem Oj(T:nU r n)(A:tU cmp r n s)(P:aV n p):∀(f m:Nat) {G:Array Nat×Nat×Nat->Shared->Prop},1<=m->m+f<=n->vI r p m->
  (∀m',m<=m'->m'<=m+f->vI r p m'->G (p,m',0) s)->(kas_desc f p m 0).kasWp cmp G s
 |0,m,G,_,_,hs,g=>g m (abu _) (abu _) hs
 |f+1,m,G,h1,h2,hs,g=>by
  refine A _ _ _ (aV.lt P (by lia)) (aV.lt P (by lia)) ?_;cases c:r (p.getD m 0) (p.getD (m-1) 0) with
  |true=>exact Oj T A P f (m+1) (by lia) (by lia) (hs.snoc T P h1 (by lia) c) λm' a b d=>g m' (by lia) (by lia) d
  |false=>
   refine A _ _ _ (aV.lt P (by lia)) (aV.lt P (by lia)) ?_;rw[T.tt _ _ (aV.lt P (by lia)) (aV.lt P (by lia)) (aV.ne P (by lia) (by lia) (by lia)) c];exact g m (abu _) (by lia) hs
theorem rev_getD{m i:Nat}(hm:m<=p.size)(h:i<m):(kas_rev p 0 m).getD i 0=p.getD (m-1-i) 0:=by
 have e:=getElem?_mirror_all (xs:=p) (i:=0) (j:=m) hm i;rw[if_pos ⟨adq _,h⟩] at e;unfold kas_rev;rw[adF,adF,e]
 congr 2;lia
theorem Zw(T:nU r n)(A:tU cmp r n s)(P:aV n p)(h:1<=n){G:Nat×Array Nat->Shared->Prop}(g:∀m q,1<=m->m<=n->aV n q->jK r q m->G (m,q) s):(kas_count n p).kasWp cmp G s:=by
 unfold kas_count;rw[KasT.kasWp_bind];refine Ep T A P (n-1) 1 (abu _) (by lia) (λi j a b=>by lia) λm a b hs d=>?_
 by_cases e:m=n
 .subst e;rw[if_pos (by simp)];exact g m p a (abu _) P hs
 .rw[if_neg (by simpa using e)]
  by_cases e1:m > 1
  .rw[if_pos e1];refine A _ _ _ (aV.lt P (by lia)) (aV.lt P (by lia)) ?_;rw[hs 0 (m-1) (by lia) (by lia)];exact g m p a (by lia) P hs
  .rw[if_neg e1];obtain rfl:m=1:=by lia
   have d:r (p.getD 1 0) (p.getD (1 - 1) 0)=true:=d.resolve_left (by lia);unfold kas_descPart;rw[KasT.kasWp_bind];refine Oj T A P (n - (1 + 1)) (1 + 1) (by lia) (by lia) (λi j a b=>by
    obtain⟨rfl,rfl⟩:i=0/\j=1:=by lia
    exact d) λm' a' b' hd=>?_
   dsimp only;rw[if_neg (by lia)];unfold kas_tail3;rw[KasT.kasWp_bind];have Q:aV n (kas_rev p 0 m'):=(mirror_perm _ _ _ _).trans P;refine Ep T A Q (n-m') m' (by lia) (by lia) (λi j a b=>?_) λm2 a2 b2 dG _=>g m2 _ (by lia) (by lia) Q dG
   rw[rev_getD (by rw[aV.sz P];lia) (by lia),rev_getD (by rw[aV.sz P];lia) (by lia)];exact hd _ _ (by lia) (by lia)
theorem EL(T:nU r n)(A:tU cmp r n s)(P:aV n p){x:Nat}(hx:x<n)(hs:jK r p x):∀(f l u:Nat) {G:Nat->Shared->Prop},u-l<=f->u<=x->l<=u->(∀i,i<l->r (p.getD i 0) (p.getD x 0)=true)->(∀i,u<=i->i<x->r (p.getD x 0) (p.getD i 0)=true)->
  (∀l,l<=x->(∀i,i<l->r (p.getD i 0) (p.getD x 0)=true)->(∀i,l<=i->i<x->r (p.getD x 0) (p.getD i 0)=true)->G l s)->(kas_place p x f l u).kasWp cmp G s
 |0,l,u,G,h1,h2,h3,lo,hi,g=>g l (by lia) lo λi a b=>hi i (by lia) b
 |f+1,l,u,G,h1,h2,h3,lo,hi,g=>by
  unfold kas_place
  by_cases c:l >= u
  .rw[if_pos c];exact g l (by lia) lo λi a b=>hi i (by lia) b
  .rw[if_neg c];refine A _ _ _ (aV.lt P hx) (aV.lt P (by lia)) ?_;cases d:r (p.getD x 0) (p.getD ((l+u) / 2) 0) with
   |true=>
    refine EL T A P hx hs f l ((l+u) / 2) (by lia) (by lia) (by lia) lo (λi a b=>?_) g
    by_cases e:i=(l+u) / 2
    .rw[e];exact d
    .exact T.tr _ _ _ (aV.lt P (by lia)) (aV.lt P (by lia)) (aV.lt P (by lia)) d (hs _ i (by lia) b)
   |false=>
    have d:=T.tt _ _ (aV.lt P (by lia)) (aV.lt P (by lia)) (aV.ne P (by lia) (by lia) (by lia)) d;refine EL T A P hx hs f ((l+u) / 2+1) u (by lia) h2 (by lia) (λi a=>?_) hi g
    by_cases e:i=(l+u) / 2
    .rw[e];exact d
    .exact T.tr _ _ _ (aV.lt P (by lia)) (aV.lt P (by lia)) (aV.lt P (by lia)) (hs i _ (by lia) (by lia)) d
theorem Kn{x l i:Nat}(hx:x<p.size)(hl:l<=x):(bubble p x (x-l)).getD i 0=if i=l then p.getD x 0 else if l<i/\i<=x then p.getD (i-1) 0 else p.getD i 0:=by
 have e:=getElem?_bubble hx (x-l) (by lia) i;rw[show x-(x-l)=l by lia] at e;rw[adF,e]
 by_cases h1:i=l
 .rw[if_pos h1,if_pos h1,adF]
 .rw[if_neg h1,if_neg h1]
  by_cases h2:l<i/\i<=x
  .rw[if_pos h2,if_pos h2,adF]
  .rw[if_neg h2,if_neg h2,adF]
theorem MR(T:nU r n)(A:tU cmp r n s):∀(f:Nat) (p:Array Nat) (x:Nat) {G:Array Nat->Shared->Prop},aV n p->1<=x->x+f=n->jK r p x->(∀q,aV n q->jK r q n->G q s)->(kas_bin f p x).kasWp cmp G s
 |0,p,x,G,P,_,e,hs,g=>g p P (by rw[<- e];exact hs)
 |f+1,p,x,G,P,h1,e,hs,g=>by
  unfold kas_bin;rw[KasT.kasWp_bind];refine EL T A P (by lia) hs x 0 x (by lia) (abu _) (adq _) (λi a=>by lia) (λi a b=>by lia) λl hl lo hi=>?_
  have hz:x<p.size:=by rw[aV.sz P];lia
  refine MR T A f _ (x+1) ((bubble_perm _ _ _).trans P) (by lia) (by lia) (λi j a b=>?_) g;rw[Kn hz hl,Kn hz hl]
  by_cases i1:i=l
  .rw[if_pos i1,if_neg (by lia),if_pos (by lia)];exact hi _ (by lia) (by lia)
  .rw[if_neg i1]
   by_cases j1:j=l
   .rw[if_pos j1,if_neg (by lia)];exact lo _ (by lia)
   .rw[if_neg j1]
    by_cases i2:l<i/\i<=x
    .rw[if_pos i2,if_pos (by lia)];exact hs _ _ (by lia) (by lia)
    .rw[if_neg i2]
     by_cases j2:l<j/\j<=x
     .rw[if_pos j2];exact hs _ _ (by lia) (by lia)
     .rw[if_neg j2];exact hs _ _ (by lia) (by lia)
theorem YE(T:nU r n)(A:tU cmp r n s)(h:1<=n){G:Array Nat->Shared->Prop}(g:∀q,aV n q->jK r q n->G q s):(kas_sort n).kasWp cmp G s:=by
 unfold kas_sort;rw[KasT.kasWp_bind];refine Zw T A (Array.Perm.refl _) h λm q a b Q hs=>?_
 by_cases e:m<n
 .dsimp only;rw[if_pos e,Nat.max_eq_left a];exact MR T A _ q m Q a (by lia) hs g
 .dsimp only;rw[if_neg e];obtain rfl:m=n:=by lia
  exact g q Q hs
end
open PySem PySem.Spec PySem.W PyProof.Rows
noncomputable def lex(x y:Int×Int):Bool:=decide (x.1<y.1\/x.1=y.1/\x.2<y.2)
def IsPair(h:Heap)(q:Addr)(x:Int×Int):Prop:=∃t u,IsTup h q #[.int x.1 t,.int x.2 u]
theorem R1{pr:Nat->Int×Int}{n:Nat}(h:∀i j,i<n->j<n->pr i=pr j->i=j):nU (λi j=>lex (pr i) (pr j)) n where
 tr:=λi j k _ _ _ a b=>by
  have a:=aaK a;have b:=aaK b;exact aaD (by lia)
 tt:=λi j a b ne e=>by
  have e:=of_decide_eq_false e;have n2:¬((pr i).1=(pr j).1/\(pr i).2=(pr j).2):=λz=>ne (h i j a b (Prod.ext z.1 z.2))
  exact aaD (by lia)
section
variable{prog:Program}{w:World}{A:Around}{E:Value->Shared->Prop}{s:Shared}
theorem U4{a b:Int×Int}{Q:Bool->Shared->Prop}(hx:IsPair s.heap x a)(hy:IsPair s.heap y b)(h:Q (lex a b) s):wpAny (model prog w) A (keyLt' (tuples' true) (.ref x) (.ref y)) Q E s:=by
 obtain⟨t,u,o,h1,_,n,h2⟩:=hx;obtain⟨t',u',o',gb,_,n',mK⟩:=hy;refine kat_lt h1 h2 gb mK (kat_cons (wpAny_eqBool_int (kat_go (λe=>kat_yes (kat_cons (wpAny_eqBool_int (kat_go (λe2=>kat_yes (kat_nil ?_)) λe2=>kat_no (kat_one _ _ (lt_int ?_)))))) λe=>kat_no (oneLt_int ?_))))
 .have e:=eq_of_beq e;have e2:=eq_of_beq e2;have:lex a b=false:=abD (by omega);rw[this] at h;exact h
 .have e:=eq_of_beq e;have:lex a b=decide (a.2<b.2):=by unfold lex;congr 1;exact propext ⟨λz=>by omega,λz=>.inr ⟨e,z⟩⟩
  rw[this] at h;exact h
 .have e:=ne_of_beq_false e;have:lex a b=decide (a.1<b.1):=by unfold lex;congr 1;exact propext ⟨λz=>by omega,.inl⟩
  rw[this] at h;exact h
theorem Ks:∀{qs:List Addr}{ps:List (Int×Int)},Paired (IsPair h) qs ps->∃fs,KatTups h (qs.map Value.ref) fs/\fs.length=qs.length/\∀v∈fs,∃i t,v=Value.int i t
 |_,_,.nil=>⟨[],.nil,rfl,λ_ m=>nomatch m⟩
 |_,_,.cons r t=>by
  obtain⟨fs,h1,h2,h3⟩:=Ks t;obtain⟨t,u,o,e1,e2,n,e3⟩:=r;exact⟨_::fs,KatTups.cons e1 e2 e3 rfl h1,by rw[abQ,abQ,h2],λv m=>(aaV.mp m).elim (λz=>⟨_,_,z⟩) (h3 v)⟩
theorem Te{a kS:Addr}{vs:List Value}{qs:List Addr}{ps:List (Int×Int)}{e e1:Nat}{P:PySem.Fin->Shared->Prop}(kU:vs.length<64)(hl:qs.length=vs.length)(hp:Paired (IsPair s.heap) qs ps)(nd:ps.Nodup)
  (hk:s.heap.get? kS=some (seqObj "list" (qs.map Value.ref).toArray e)) (ha:s.heap.get? a=some (seqObj "list" #[] e1)) (ne:a≠kS)
  (h:∀q:Array Nat,aV vs.length q->jK (λi j=>lex (ps.getD i (0,0)) (ps.getD j (0,0))) q vs.length->
   P (.done (.ret .none)) { s with heap:=(s.heap.update kS (Obj.mapSeq λ_=>#[])).update a (Obj.mapSeq λ_=>(q.toList.map λi=>vs.getD i Value.none).toArray) }) :
  wpAny (model prog w) A (ksk_end a false vs.toArray e1 (.ref kS) (qs.map Value.ref).toArray) P E s:=by
 have Am:(qs.map Value.ref).length=vs.length:=by rw[List.length_map];exact hl
 have tail:∀(st:SortSt) (q:Array Nat),aV vs.length q->jK (λi j=>lex (ps.getD i (0,0)) (ps.getD j (0,0))) q vs.length->(arrOf st).map (·.2)=(q.toList.map λi=>vs.getD i Value.none).toArray->failedOf st=none->
   wpAny (model prog w) A (ksk_tail a false e1 (.ref kS) st) P E s:=by
  intro st q hq hs ho hf;have s1:=Heap.SameBut.update s.heap kS (Obj.mapSeq λ_=>(#[]:Array Value));have Qk:=(s1.2 a ne).trans ha;unfold ksk_tail;dsimp only;refine aaT (listUpdate_at hk rfl ?_ (by rw[abG,Am,adM];lia) (adq _));refine aaT (wpAny_letGo ?_);refine aaT (seqEpoch_at Qk rfl ?_);refine aaT (listUpdate_at Qk rfl ?_ (adq _) ?_)
  .rw[hf];simp only[bne_self_eq_false,aee,if_false];rw[ho];exact acI (h q hq hs)
  .simp only[aee,if_false];rw[ho,abG,List.length_map,adE,aV.sz hq,adM];lia
 unfold ksk_end;dsimp only;rw[if_neg aa9]
 by_cases h2:vs.toArray.size<2
 .rw[if_pos h2,if_pos h2];refine aaT (acI ?_);rw[StateT.run_pure];refine aaT (acI ?_);dsimp only;rw[abG] at h2;refine tail _ (List.range vs.length).toArray (Array.Perm.refl _) (λi j a b=>by lia) ?_ rfl;have e:=kat_snds (ks:=qs.map Value.ref) (vs:=vs) Am (st:=kas_st general' ((qs.map Value.ref).toArray.zip vs.toArray) (List.range vs.length).toArray) (p:=(List.range vs.length).toArray) rfl;have er:(List.range vs.length).toArray.map (kas_item ((qs.map Value.ref).toArray.zip vs.toArray))=(qs.map Value.ref).toArray.zip vs.toArray:=by
   have:=kas_range ((qs.map Value.ref).toArray.zip vs.toArray);rw[show((qs.map Value.ref).toArray.zip vs.toArray).size=vs.length by simp[hl]] at this;exact this
  rw[<- e];show((qs.map Value.ref).toArray.zip vs.toArray).map (·.2)=((List.range vs.length).toArray.map (kas_item ((qs.map Value.ref).toArray.zip vs.toArray))).map (·.2);rw[er]
 .rw[if_neg h2,if_neg h2];rw[abG] at h2;obtain⟨fs,k1,k2,k3⟩:=Ks hp;refine aaT (kat_kind (T:=.type "int") k1 (by lia) (λv m=>by obtain⟨i,t,rfl⟩:=k3 v m;exact Looks.of_pure rfl) (by decide) ?_);refine aaT (adH (kat_run (Q:=λst s'=>s'=s/\∃q:Array Nat,aV vs.length q/\jK (λi j=>lex (ps.getD i (0,0)) (ps.getD j (0,0))) q vs.length/\(arrOf st).map (·.2)=(q.toList.map λi=>vs.getD i Value.none).toArray/\failedOf st=none)
   (G:=λq s'=>s'=s/\aV vs.length q/\jK (λi j=>lex (ps.getD i (0,0)) (ps.getD j (0,0))) q vs.length) Am (by lia) kU (λq l_ s' _ ha hf g=>⟨g.1,q,g.2.1,g.2.2,kat_snds Am ha,hf⟩) ?_) ?_ λ_ _ z=>z)
  .have lp:ps.length=vs.length:=by rw[<- Paired.length hp];exact hl
   refine YE (R1 λi j a b e=>?_) (λi j C hi hj hc=>?_) (by lia) λq a b=>⟨rfl,a,b⟩
   .have ei:i<ps.length:=by lia
    have ej:j<ps.length:=by lia
    simp only[ac8,aaQ ei,aaQ ej,aeo] at e;have w:=aeC.mp nd;rcases Nat.lt_trichotomy i j with q|q|q
    .exact absurd e (w i j ei ej q)
    .exact q
    .exact absurd e.symm (w j i ej ei q)
   .have at_:∀i,i<vs.length->∃x,(qs.map Value.ref).getD i Value.none=.ref x/\IsPair s.heap x (ps.getD i (0,0)):=λi hi=>by
     have lq:i<qs.length:=by lia
     have Jd:i<ps.length:=by lia
     refine⟨qs[i],by simp[ac8,lq],?_⟩;rw[ac8,aaQ Jd,aeo];have go:∀{qs:List Addr}{ps:List (Int×Int)},Paired (IsPair s.heap) qs ps->∀(i:Nat) (a:i<qs.length) (b:i<ps.length),IsPair s.heap qs[i] ps[i]:=by
      intro qs ps r
      induction r with
      |nil=>intro i a;exact absurd a (Nat.not_lt_zero _)
      |cons r t ih=>intro i a b;cases i with
       |zero=>exact r
       |succ i=>exact ih i (by simpa using a) (by simpa using b)
     exact go hp i lq Jd
    obtain⟨x,ex,hx⟩:=at_ i hi;obtain⟨y,ey,hy⟩:=at_ j hj;show wpAny (model prog w) A (keyLt' _ ((qs.map Value.ref).getD i Value.none) ((qs.map Value.ref).getD j Value.none)) C _ s;rw[ex,ey];exact U4 hx hy hc
  .rintro⟨⟨⟩,st⟩ s' ⟨rfl,q,h1,h3,h4,h5⟩
   exact tail st q h1 h3 h4 h5
end
section
variable{X:Cx}{af:List (Addr×Obj)}{σ:St}{H:Hp}{s:Shared}{q:Str}{jk:Pos}{args:Arguments}{body:Expr}{sc:Scope}{clos:List (Str×Addr)}
theorem z9:∀{K:PySem.W.Frag},K.lookup a=some o->(a,o)∈K
 |[],h=>by cases h
 |(b,u)::r,h=>by
  by_cases e:(a==b)=true
  .simp only[List.lookup,e] at h;cases h;rw[eq_of_beq e];exact aam
  .simp only[List.lookup,(by simpa using e:(a==b)=false)] at h;exact aal _ (z9 h)
theorem Wa(I:Inv X af σ H s)(lk:X.K.lookup f0=some o0)(sh:uP o0=some (cv,q,jk)):∃cc P,cv=.ref cc/\codeHdIn X.K cc P=true/\H P=some (.ie q jk):=by
 obtain⟨b8,ok⟩:=(aaH _ _).mp I.hq.ok;have b8:=ac6.mp ((aaH _ _).mp b8).2 (f0,o0) (z9 lk);have b8:=b8;rw[sh] at b8;obtain⟨⟨cc,P,q',pos'⟩,e⟩:=aeg.mp (show(Bl X.K (f0,o0)).isSome=true from b8);have hm:(cc,P,q',pos')∈iG X.K:=aeG.mpr ⟨_,z9 lk,e⟩;have e':=e;unfold Bl at e';dsimp only at e';rw[sh] at e'
 split at e'
 .rename_i h;cases h
  split at e'
  .split at e'
   .cases e';refine⟨cc,P,rfl,?_,I.hq.lm _ hm⟩
    split at ok
    .rename_i e;rw[e] at hm;cases hm
    .rename_i r e;rw[e] at hm;cases aaX.mp hm;exact((aaH _ _).mp ok).1
    .cases ok
   .cases e'
  .cases e'
 .cases e'
theorem QW(I:Inv X af σ H s)(lk:X.K.lookup f0=some o0)(sh:uP o0=some (X.env.code,q,jk))(u_:defaultsOf args X.env=([],[]))(uC:closureFor sc X.env=pure clos)(hq:X.env.qual++"<lambda>"=q)
  (h:∀f c' gR pm H' s',Inv X ((f,kla_obj "<lambda>" q args body sc clos pm c' gR)::af) σ H' s'->aF H H'->H' c'=some (.jb q)->Q (.ref f) s'):wpAny (model X.prog X.w) A (eval (.Lambda args body sc jk) X.env) Q E s:=by
 refine kla_eval u_ ?_;rw[hq];obtain⟨cc,P,Ml,hc,hP⟩:=Wa I lk sh;obtain⟨ps,eP,qJ⟩:=I.aH P _ hP;have C:=codeHd_of_K I.dR hc;have g:=I.ok.mod.glob.keeps I.bk;obtain⟨bm,ob,b1,b2,b3,b4,b5,b6⟩:=I.ok.mod.bmn;have nP:∀{b:Addr}{o:Obj},X.base.get? b=some o->b≠P:=λ{b o} e z=>by
  have:=(I.bs b o e).2;rw[z,hP] at this;cases this
 obtain⟨om,es,ep,em,dm,_⟩:=id I.ok.mod.glob;have hb:s.heap.BuiltinsAt X.mg P:=⟨bm,ob,b1,b2,(λz=>by rw[z,em] at b3;cases b3;rw[dm] at b6;cases b6),nP b3,I.bk _ _ b3,b4,b5,b6⟩
 have fin:∀(f:Addr) (o:Obj) (H':Hp) (s':Shared),Inv X af σ H' s'->s'.heap.get? f=some o->s.heap.objs.size<=f->H' f=none->(∀v,o.data≠.cell v)->Inv X ((f,o)::af) σ H' s':=λf o H' s' J e hf hn hd=>by
  refine J.r9 λp hp=>?_
  rcases aaV.mp hp with rfl|hp
  .exact⟨e,hn,ad1 (ac1 I.lt hf),I.Iz hf,hd⟩
  .exact J.pin p (aat _ hp)
 rcases qJ with rfl|⟨c',rfl,qM⟩
 .refine kla_makeFunction uC I.ok.glob g Ml C eP trivial rfl (nP em) hb λc' gR h' tk hx AD cQ TV LD=>?_
  have fc:=I.aH.fresh AD;have ff:=I.aH.fresh (adO (aed AD cQ));have up:∀{b:Addr}{o:HO},H b=some o->upd H c' (.jb q) b=some o:=λ{b o} e=>by rw[aO (cK e fc)];exact e
  have pu:∀(b:Addr) (o:Obj),b≠P->s.heap.get? b=some o->(h'.push (kla_obj "<lambda>" q args body sc clos ((X.mg "__name__").getD .none) c' gR)).get? b=some o:=λb o n e=>aao _ (hx b o n e)
  have Nb:∀{b:Addr},H b=none->b≠P:=λ{b} e z=>by rw[z,hP] at e;cases e
  have J:Inv X af σ (upd H c' (.jb q)) { s with heap:=h'.push (kla_obj "<lambda>" q args body sc clos ((X.mg "__name__").getD .none) c' gR),toks:=tk }:=by
   refine I.un ⟨λb o e n _ _=>pu b o (Nb n) e,λb o e n _ _=>⟨o.slots,pu b o (Nb n) e⟩,λb o e n _=>?_,λb o e _=>?_,λb t e=>up e,λb o u e=>up e,λb ps e=>⟨#[],by rw[up e];simp⟩⟩ λa o e=>?_
   .rw[aO (acC (ac1 (abh e) AD))];exact n
   .by_cases z:b=P
    .rw[z];exact⟨_,aao _ LD⟩
    .exact⟨o,pu b o z e⟩
   .by_cases z:a=c'
    .subst z;rw[cG] at e;cases e;exact TV.push _
    .rw[aO z] at e
     by_cases z2:a=P
     .subst z2;rw[hP] at e;cases e;exact⟨_,aao _ LD,.inr ⟨c',by simp,cG⟩⟩
     .refine(I.aH a o e).lQ (λb u yo q=>pu b u ?_ q) (λb q=>up q) λb t q=>up q
      rcases yo with z3|z3
      .rw[z3];exact z2
      .intro z4;rw[z4,hP] at z3;cases z3
  refine h _ c' gR _ _ _ (fin _ _ _ _ J (ab2 _ rfl) (adO (aed AD cQ)) ?_ (λv z=>by cases z)) (λb o e=>up e) cG;rw[aO (ad1 cQ)];exact ff
 .refine kla_makeFunctionHit (cv:=.ref c') uC I.ok.glob g Ml C eP (TriplesOk_snoc _ _ _ [] trivial) (codeAmong_snoc [] trivial rfl) hb λgR h' tk hk hsz=>?_
  exact h _ c' gR _ H _ (fin _ _ _ _ (I.kept λb u e=>aao _ (hk b u e)) (ab2 _ rfl) hsz (I.aH.fresh hsz) λv z=>by cases z) (aF.refl H) qM
noncomputable def qy(X:Cx)(A:Around)(x y:Str)(q:Str)(sc:Scope)(f:Addr)(cd:Value)(clos:List (Str×Addr))(s:Shared)(H:Hp):Cx where
 prog:=X.prog
 w:=X.w
 K:=X.K
 mg:=X.mg
 base:=X.base
 A:=A.deeper (envX q sc s.heap.objs.size f cd clos)
 N:=[x,y]
 dQ:=s
 sC:=H
 env:=envX q sc s.heap.objs.size f cd clos
 outer:=X.stack
 stack:=envX q sc s.heap.objs.size f cd clos::X.stack
 ex:=[]
 fn:=λ_=>false
 calm:=X.calm
 pn:=[]
 xe:=λ_ _=>False
structure Bc(sc:Scope)(args:Arguments)(x y:Str):Prop where
 kind:sc.kind=.function
 co:sc.isCoroutine=false
 gen:sc.isGenerator=false
 vC:∀z∈sc.names,z.2≠.cell
 loc:sc.names.lookup x=some .local
 xq:sc.names.lookup y=some .free
 one:∀z∈sc.names,z.2=.free->z.1=y
 XT:∀(q:Str) (body:Expr) (clos:List (Str×Addr)) (pm aR gR u:Value),bindArgs (kla_fn "<lambda>" q args body sc clos pm aR gR) ⟨[u],[]⟩=pure [(x,u)]
theorem RM{j:Nat}(I:Inv X af σ H s)(S:Bc sc args x y)(hf:(f,kla_obj "<lambda>" q args body sc [(y,c)] pm c' gR)∈af)(hc:H c'=some (.jb q))
  (nS:X.env.cells.lookup y=some c) (hj:X.N[j]? = some y) (hv:σ[j]? = some (some v1)) (oN:X.env.scope.names.lookup y=some .cell) (ru:RelV v0 u) (hA:A.frames=X.A.frames) (hh:A.handled=X.A.handled) (hr:A.depth<recursionLimit)
  (hb:PE (qy X A x y q sc f (.ref c') [(y,c)] s H) body te) (h:te [some v0,some v1] H Q):wpAny (model X.prog X.w) A (call (.ref f) [u]) (EP X af σ Q) E s:=by
 have Tf:=(I.pin _ (aat _ hf)).1;refine wpAny_call (codeAny_mono (R:=λr s'=>match r with|.ok (.ret v)=>CE X.stack X.prog X.w H s Q v s'|_=>False) ?_ λr s' z=>?_)
 .refine kla_callFunE hr Tf rfl S.co S.gen rfl (I.aH c' _ hc) ?_;rw[S.XT];refine acI (wpAny_newFunctionEnv S.vC (λz m=>by cases aaX.mp m;exact S.loc) (λBu uM D6=>?_) S.kind);have vZ:∀b o,s.heap.get? b=some o->Bu.get? b=some o:=λb o e=>D6.extBut b o (acC (abh e)) (aao _ e)
  refine⟨(I.ok.mod.nolimit.keeps I.bk).keeps vZ,?_⟩;have cl:∀{z:Str}{d:Addr},List.lookup z [(y,c)]=some d->z=y/\d=c:=λ{z d} e=>by
   by_cases w:(z==y)=true
   .simp only[List.lookup,w] at e;cases e;exact⟨eq_of_beq w,rfl⟩
   .simp only[List.lookup,(by simpa using w:(z==y)=false)] at e;cases e
  have cy:List.lookup y [(y,c)]=some c:=by simp[List.lookup]
  have qF:∀b:Addr,b∉(qy X A x y q sc f (.ref c') [(y,c)] s H).ex:=λb z=>absurd (show b∈([]:List Addr) from z) (by simp)
  have J:Inv (qy X A x y q sc f (.ref c') [(y,c)] s H) [] [some v0,some v1] H { s with heap:=Bu,toks:=s.toks+[(x,u)].length }:=by
   refine⟨⟨I.ok.mod,S.kind,rfl,rfl,abu _,λa b d h1 h2=>?_,λa ha=>?_,(λa d h _=>by cases h),λhc=>?_,Around.frames_deeper (hA.trans I.ok.frames),.inr ⟨rfl,rfl⟩,λb z=>absurd z (qF b),I.bs,ado I.ok.jP I.sz,λb _ _=>qF b,λb z=>absurd z (qF b),I.stack,I.BU⟩,
    rfl,I.bare,Un.kept vZ,⟨_,uM,λi z v h1 h2 h3=>?_⟩,λz d e=>?_,I.aH.fresh (abu _),λz d e=>?_,λp hp=>absurd (show p∈([]:List (Addr×Obj)) from hp) (by simp),I.aH.kept vZ,rfl,⟨?_,I.hq.ok,I.hq.lm⟩⟩
   .exact(cl h1).1.trans (cl h2).1.symm
   .have ha:=ha;rcases ha with ha|ha
    .exact absurd rfl (S.vC _ (PySem.mem_of_lookup ha))
    .have e:a=y:=S.one _ (PySem.mem_of_lookup ha) rfl;rw[e];exact⟨c,cy⟩
   .have:=I.ok.hd hc;exact hh.trans this
   .match i,h1,h2 with
    |0,h1,h2=>
     cases h1;cases h2;refine⟨u,ru,.inl ⟨S.loc,by simp[List.lookup]⟩⟩
    |1,h1,h2=>
     cases h1;cases h2;obtain⟨m,_,hl⟩:=I.loc;obtain⟨u1,r1,l⟩:=hl j y v1 hj hv (.inr (.inl oN));refine⟨u1,r1,.inr ⟨.inr S.xq,c,cy,?_⟩⟩;rcases l with⟨kk,_⟩|⟨_,d,e,o,ho,hd⟩
     .rw[show X.env.kindOf y=some .cell from oN] at kk;cases kk
     .rw[nS] at e;cases e;exact⟨o,vZ _ _ ho,hd⟩
    |i+2,h1,h2=>exact absurd h2 (by simp)
   .rw[(cl e).2];obtain⟨w,o,ho,hd⟩:=I.cell y c nS;exact⟨w,o,vZ _ _ ho,hd⟩
   .rw[(cl e).2];exact I.jq y c nS
   .have:=I.hq.hd;unfold vv at this ⊢;rw[show(qy X A x y q sc f (.ref c') [(y,c)] s H).A.handled=X.A.handled from hh];exact this
  refine kla_codeExpr (adH (hb [] _ _ H _ J h) (λv s' ⟨v',H',J',rv,q'⟩=>?_) λ_ _ z=>z.elim);exact⟨v',H',J'.os,J'.bare,J'.base,J'.aH,rv,q'⟩
 .cases r with
  |error e=>exact z.elim
  |ok fl=>
   cases fl with
   |ret w=>exact I.after z
   |next=>exact z
   |brk=>exact z
   |cont=>exact z
end
theorem Y3(r:aQ [.int a,.int b] au):∃t u,au=[.int a t,.int b u]:=by
 cases r with
 |cons h1 r=>cases r with
  |cons h2 r=>cases r;obtain⟨t,rfl⟩:=h1;obtain⟨u,rfl⟩:=h2;exact⟨t,u,rfl⟩
theorem IntsAre.at{vs:List Value}{ns:List Int}(h:IntsAre vs ns):∀{j:Nat}{v:Value},vs[j]? = some v->∃n t,ns[j]? = some n/\v=.int n t:=by
 induction h with
 |nil=>intro j v e;simp at e
 |cons n t _ ih=>
  intro j v e;cases j with
  |zero=>cases e;exact⟨n,t,rfl,rfl⟩
  |succ j=>exact ih (by simpa using e)
theorem Paired.acm{α β:Type}{R:α->β->Prop}{l:List α}{m:List β}{a:α}{b:β}(h:Paired R l m)(r:R a b):Paired R (l++[a]) (m++[b]):=by
 induction h with
 |nil=>exact .cons r .nil
 |cons r' _ ih=>exact .cons r' ih
theorem HP(h:IntsAre au ns):∀(l:List Nat),(∀i∈l,i<ns.length)->aQ ((l.map λi=>ns.getD i 0).map V.int) (l.map λi=>au.getD i Value.none)
 |[],_=>.nil
 |i::l,hl=>by
  have hi:=hl i aam;have Jx:i<au.length:=by rw[h.length];exact hi
  obtain⟨n,t,e1,e2⟩:=IntsAre.at h (aaQ Jx);refine .cons ?_ (HP h l λj m=>hl j (aal _ m));show RelV (V.int (ns.getD i 0)) (au.getD i Value.none);rw[ac8,ac8,e1,aaQ Jx,e2];exact⟨t,rfl⟩
theorem U5{ns:List Int}{q:Array Nat}(P:aV ns.length q):(q.toList.map λi=>ns.getD i 0).Perm ns:=by
 have h:=(ad8.mp P).map λi=>ns.getD i 0
 have e:((List.range ns.length).toArray.toList.map λi=>ns.getD i 0)=ns:=by
  refine List.ext_getElem (by simp) λi h1 h2=>?_
  simp[ac8,h2]
 rw[e] at h;exact h
section
variable{X:Cx}{af:List (Addr×Obj)}{σ:St}{s:Shared}{q:Str}{args:Arguments}{body:Expr}{sc:Scope}{x y:Str}{c:Addr}{j:Nat}{te:Addr->Addr->Shared->Hp->TE}
theorem VR{H2:Hp}{p f c':Addr}{gR pm:Value}{v1:V}{ns:List Int}{pr:Int->Int×Int}{Q:VK}(I:Inv X ((f,kla_obj "<lambda>" q args body sc [(y,c)] pm c' gR)::af) σ H2 s)(S:Bc sc args x y)(hc:H2 c'=some (.jb q))
  (nS:X.env.cells.lookup y=some c) (hj:X.N[j]? = some y) (hv:σ[j]? = some (some v1)) (oN:X.env.scope.names.lookup y=some .cell) (vR:X.A.in1.in1.depth<recursionLimit)
  (hb:∀f c' s H,PE (qy X X.A.in1.in1 x y q sc f (.ref c') [(y,c)] s H) body (te f c' s H)) (hq:bR X.K H2 p (ns.map V.int)) (kU:ns.length<64) (nd:(ns.map pr).Nodup)
  (ht:∀s H3,aF H2 H3->∀n∈ns,te f c' s H3 [some (.int n),some v1] H3 λv H4=>∃k,v=.ref k/\bZ X.K H4 k [.int (pr n).1,.int (pr n).2]/\aF H3 H4)
  (hQ:∀(Hf:Hp) (D:Addr) (dN:List Int),aF H2 Hf->H2 D=none->Hf D=some (.lst (dN.map V.int))->dN.Perm ns->dN.Pairwise (λa b=>lex (pr a) (pr b)=true)->Q (.ref D) Hf) :
  wpAny (model X.prog X.w) X.A (call (.builtin "sorted") [.ref p] [(Str.ofString "key",.ref f)]) (EP X af σ Q) X.xe s:=by
 obtain⟨au,ri,pl,hz⟩:=I.list hq;have hi:=intsAre_of ri;have li:au.length=ns.length:=hi.length;have zl:au.length<=sizeLine:=by rw[adM];lia
 refine call_function_entry_kw kind_sorted plain_sorted entry_sorted (ksk_s1 _ _) ?_;unfold Builtin.«sorted»;refine aaT (m:=checkCount "sorted" 1 1 _) (acI ?_);refine aaT (collect_list pl.isList ?_ zl);refine aaT (wpAny_newList ?_ zl);generalize JW:(s.heap.push (seqObj "list" #[] 0)).update s.heap.objs.size (Obj.mapSeq (·++au.toArray))=h3;have k3:∀b o,s.heap.get? b=some o->h3.get? b=some o:=λb o e=>by
  rw[<- JW,ad6 _ _ _ _ (acC (abh e))];exact aao _ e
 have z3:h3.objs.size=s.heap.objs.size+1:=by rw[<- JW,Heap.size_update,size_push']
 have hD:(h3.push (seqObj "list" au.toArray 0)).get? h3.objs.size=some (seqObj "list" au.toArray 0):=ab2 _ rfl;show wpAny _ _ _ _ _ { s with heap:=h3.push (seqObj "list" au.toArray 0) };refine aaT (aeb (wpAny_call_entry_kw slot_list_sort ⟨_,hD,rfl⟩ entry_list_sort ?body (ksk_l1 _ _)))
 case body=>
  show wpAny (model X.prog X.w) X.A.in1.in1 (Builtin.«list.sort» ⟨[.ref h3.objs.size],[(Str.ofString "key",.ref f)]⟩) _ _ _;rw[ksk_t1];obtain⟨e1,Kr⟩:∃e1,((h3.push (seqObj "list" au.toArray 0)).update h3.objs.size (Obj.mapSeq λ_=>(#[]:Array Value))).get? h3.objs.size=some (seqObj "list" #[] e1):=⟨_,get?_update_seq hD λ_=>#[]⟩
  unfold ksk_tree;refine aaT (listItems_at hD rfl ?_);refine aaT (listUpdate_at hD rfl ?_ (by rw[abG];exact zl) (adq _));refine aaT (seqEpoch_at Kr rfl ?_);refine aaT (wpAny_newTuple ?_ (by show au.length<=_;exact zl));refine aaT (wpAny_newList ?_ (adq _));refine aeb ?_;generalize Cc:((h3.push (seqObj "list" au.toArray 0)).update h3.objs.size (Obj.mapSeq λ_=>(#[]:Array Value))).push (seqObj "tuple" au.toArray 0)=h6;have z6:h6.objs.size=s.heap.objs.size+3:=by rw[<- Cc,size_push',Heap.size_update,size_push',z3]
  have k6:∀b o,s.heap.get? b=some o->h6.get? b=some o:=λb o e=>by
   have cQ:=abh e;rw[<- Cc];refine aao _ ?_;rw[ad6 _ _ _ _ (acC (ac1 cQ (by rw[z3];exact Nat.le_succ _)))];exact aao _ (k3 b o e)
  have hD6:h6.get? h3.objs.size=some (seqObj "list" #[] e1):=by rw[<- Cc];exact aao _ Kr
  generalize hDe:h3.objs.size=D at *;generalize UK:h6.objs.size=kS at *;have fD:=I.rC (H':=λ_=>none) (b:=D) (by lia) rfl;have fK:=I.rC (H':=λ_=>none) (b:=kS) (by lia) rfl;have Gp:D≠kS:=by lia
  have E9:∀{H:Hp}{s':Shared}{b:Addr}{o:Obj},h_ X ((f,kla_obj "<lambda>" q args body sc [(y,c)] pm c' gR)::af) (λ_=>none) b->H b=none->s'.heap.get? b=some o->(∀v,o.data≠.cell v)->
    s'.heap.get? b=some o/\H b=none/\b≠X.env.locals/\b∉X.fs/\∀v,o.data≠.cell v:=λF a b d=>⟨b,a,F.2.1,F.2.2.1,d⟩
  have J0:Inv X ((kS,seqObj "list" (List.map Value.ref []).toArray 0)::(D,seqObj "list" #[] e1)::(f,kla_obj "<lambda>" q args body sc [(y,c)] pm c' gR)::af) σ H2 { s with heap:=h6.push (seqObj "list" #[] 0) }:=by
   have J:=I.kept (h':=h6.push (seqObj "list" #[] 0)) (t':=s.toks) λb o e=>aao _ (k6 b o e)
   refine J.r9 λp hp=>?_
   rcases aaV.mp hp with rfl|hp
   .exact E9 fK (I.aH.fresh (by lia)) (by rw[<- UK];exact ab2 _ rfl) (λv z=>by cases z)
   .rcases aaV.mp hp with rfl|hp
    .exact E9 fD (I.aH.fresh (by lia)) (aao _ hD6) (λv z=>by cases z)
    .exact J.pin p (aat _ hp)
  unfold ksk_rest;refine aaT (wpAny_rule ?_);rw[List.forIn_toArray];refine aaT (ksk_fold (λi s'=>∃(H:Hp) (qs:List Addr) (e:Nat),Inv X ((kS,seqObj "list" (qs.map Value.ref).toArray e)::(D,seqObj "list" #[] e1)::(f,kla_obj "<lambda>" q args body sc [(y,c)] pm c' gR)::af) σ H s'/\aF H2 H/\
   Paired (λk n=>bZ X.K H k [.int (pr n).1,.int (pr n).2]) qs (ns.take i)) au 0 _ ⟨H2,[],0,J0,aF.refl _,.nil⟩ (λi u s' hu hI=>?_) λs' hI=>?_)
  .rw[aeU] at hI ⊢;obtain⟨H,qs,e,J,sm,pd⟩:=hI;obtain⟨n,t,en,rfl⟩:=IntsAre.at hi hu;have ln:=Paired.length pd;have uJ:i<ns.length:=(abf.mp en).1;rw[aeD] at ln;refine aaT (wpAny_attempt (adH (RM (A:=X.A.in1.in1) (v0:=.int n) (E:=λ_ _=>False) J S (aal _ (aal _ aam)) (sm _ _ hc) nS hj hv oN ⟨t,rfl⟩ rfl rfl vR (hb f c' s' H) (ht s' H sm n (adA en))) (λk o9 hk=>?_) λ_ _ z=>z.elim));obtain⟨v,H',J',rv,k',rfl,sq,vA⟩:=hk;obtain rfl:k=.ref k':=rv;have pk:=(J'.pin _ (aat _ aam))
   have ea:((qs.map Value.ref).toArray).push (.ref k')=((qs++[k']).map Value.ref).toArray:=by simp
   obtain⟨c2,uV⟩:∃c2,(o9.heap.update kS (Obj.mapSeq (·.push (.ref k')))).get? kS=some (seqObj "list" ((qs++[k']).map Value.ref).toArray c2):=⟨_,by rw[<- ea];exact get?_update_seq pk.1 (·.push (.ref k'))⟩
   dsimp only;refine aaT (listUpdate_at pk.1 rfl ?_ (by rw[abG,List.length_map,ln,adM];lia) (ado (Nat.le_of_eq (Array.size_push ..)) (by rw[abG,List.length_map,ln,adM];lia)));refine acI ⟨rfl,H',qs++[k'],c2,?_,sm.trans vA,?_⟩
   .have J1:Inv X ((D,seqObj "list" #[] e1)::(f,kla_obj "<lambda>" q args body sc [(y,c)] pm c' gR)::af) σ H' o9:=J'.r9 λp hp=>J'.pin p (aat _ (aal _ hp))
    have J2:=J1.turned (h':=o9.heap.update kS (Obj.mapSeq (·.push (.ref k')))) (t':=o9.toks) (it:=kS) (λb o n e=>(ad6 _ _ _ _ n).trans e) pk.2.1 fK.2.1 fK.2.2.2.1 fK.2.2.2.2.1 λp hp=>by
     rcases abo.mp hp with hp|hp
     .exact fK.2.2.2.2.2 p (abb _ hp)
     .rcases aaV.mp hp with rfl|hp
      .exact Gp
      .exact fK.2.2.2.2.2 p (aat _ hp)
    refine J2.r9 λp hp=>?_
    rcases aaV.mp hp with rfl|hp
    .exact E9 fK pk.2.1 uV (λv z=>by cases z)
    .exact J2.pin p (aat _ hp)
   .rw[List.take_succ,en];exact Paired.acm (Paired.y9 pd λk n r=>by
     rcases r with(r|⟨o,r⟩)|r
     .exact .inl (.inl (vA _ _ r))
     .exact .inl (.inr ⟨o,vA _ _ r⟩)
     .exact .inr r) sq
  .rw[aeU] at hI;obtain⟨H,qs,e,J,sm,pd⟩:=hI;rw[li,List.take_length] at pd;have lq:qs.length=ns.length:=Paired.length pd;have pk:=(J.pin _ (aat _ aam))
   have pD:=(J.pin _ (aat _ (aal _ aam)))
   refine aaT (listItems_at pk.1 rfl ?_);have pp:∀{l:List Int}{qs:List Addr},Paired (λk n=>bZ X.K H k [.int (pr n).1,.int (pr n).2]) qs l->Paired (IsPair s'.heap) qs (l.map pr):=by
    intro l qs r
    induction r with
    |nil=>exact .nil
    |cons r _ ih=>
     refine .cons ?_ ih;obtain⟨it,rv,tp,_⟩:=J.tuple r;obtain⟨t,u,rfl⟩:=Y3 rv;exact⟨t,u,tp⟩
   refine Te (by lia) (by rw[lq,li]) (pp pd) nd pk.1 pD.1 Gp λq2 P2 S2=>?_
   rw[li] at P2 S2;have ql:∀i∈q2.toList,i<ns.length:=λi m=>by
    have:=(ad8.mp P2).mem_iff.mp m;simpa using this
   refine⟨_,rfl,acI ⟨_,rfl,?_⟩⟩;have J1:Inv X af σ H s':=J.r9 λp hp=>J.pin p (aat _ (aal _ (aal _ (aal _ hp))))
   have np:∀{b:Addr},h_ X ((f,kla_obj "<lambda>" q args body sc [(y,c)] pm c' gR)::af) (λ_=>none) b->∀p∈X.pn++af,p.1≠b:=λF p hp=>F.2.2.2.2.2 p ((abo.mp hp).elim (λz=>abb _ z) λz=>aat _ (aal _ z))
   have J2:=J1.turned (h':=s'.heap.update kS (Obj.mapSeq λ_=>#[])) (t':=s'.toks) (it:=kS) (λb o n e=>(ad6 _ _ _ _ n).trans e) pk.2.1 fK.2.1 fK.2.2.2.1 fK.2.2.2.2.1 (np fK);have J3:=J2.turned (h':=(s'.heap.update kS (Obj.mapSeq λ_=>#[])).update D (Obj.mapSeq λ_=>(q2.toList.map λi=>au.getD i Value.none).toArray)) (t':=s'.toks) (it:=D) (λb o n e=>(ad6 _ _ _ _ n).trans e) pD.2.1 fD.2.1 fD.2.2.2.1 fD.2.2.2.2.1 (np fD);have hDf:=get?_update_seq (h:=s'.heap.update kS (Obj.mapSeq λ_=>#[])) ((ad6 _ _ _ _ Gp).trans pD.1) λ_=>(q2.toList.map λi=>au.getD i Value.none).toArray
   refine⟨.ref D,upd H D (.lst ((q2.toList.map λi=>ns.getD i 0).map V.int)),J3.Sz (e:=D) (u:=.lst ((q2.toList.map λi=>ns.getD i 0).map V.int)) pD.2.1 ⟨?_,fD.2.1,fD.2.2.2.2.1,np fD⟩ ⟨?_,_,_,HP hi _ ql,hDf⟩,rfl,hQ _ D _ (λb o e=>?_) ?_ cG (U5 P2) ?_⟩
   .exact aex (by have:=I.sz;lia)
   .rw[List.length_map,List.length_map,adE,aV.sz P2,adM];lia
   .rw[aO (cK (sm b o e) pD.2.1)];exact sm b o e
   .cases e:H2 D with
    |none=>rfl
    |some o=>have:=sm D o e;rw[pD.2.1] at this;cases this
   .rw[aeC];intro i k hi hk WX;have hq:∀i,i<ns.length->(hx:i<(q2.toList.map λi=>ns.getD i 0).length)->pr ((q2.toList.map λi=>ns.getD i 0)[i])=(ns.map pr).getD (q2.getD i 0) (0,0):=λi hi hx=>by
     have hs:i<q2.size:=by rw[aV.sz P2];exact hi
     have cQ:=aV.lt P2 hi;rw[List.getElem_map,getD_at hs];rw[getD_at hs] at cQ;simp[ac8,cQ]
    have hz:(q2.toList.map λi=>ns.getD i 0).length=ns.length:=by rw[List.length_map,adE,aV.sz P2]
    rw[hq i (by lia) hi,hq k (by lia) hk];exact S2 i k WX (by lia)
def NY(K:PySem.W.Frag)(j:Nat)(te:Addr->Addr->Shared->Hp->TE)(σ:St)(Q:VK)(x:V)(H1:Hp):Prop:=∃(p:Addr) (ns:List Int) (pr:Int->Int×Int) (v1:V),x=.ref p/\bR K H1 p (ns.map V.int)/\ns.length<64/\(ns.map pr).Nodup/\σ[j]? = some (some v1)/\
 (∀f c' s H3,aF H1 H3->∀n∈ns,te f c' s H3 [some (.int n),some v1] H3 λv H4=>∃k,v=.ref k/\bZ K H4 k [.int (pr n).1,.int (pr n).2]/\aF H3 H4)/\
 ∀(Hf:Hp) (D:Addr) (dN:List Int),aF H1 Hf->H1 D=none->Hf D=some (.lst (dN.map V.int))->dN.Perm ns->dN.Pairwise (λa b=>lex (pr a) (pr b)=true)->Q (.ref D) Hf
def tSK(K:PySem.W.Frag)(j:Nat)(ta:TE)(te:Addr->Addr->Shared->Hp->TE):TE:=λσ H Q=>ta σ H (NY K j te σ Q)
theorem WR(hm:X.mg "sorted"=none)(ha:PE X a ta)(S:Bc sc args x y)(lk:X.K.lookup f0=some o0)(sh:uP o0=some (X.env.code,q,jk))(hq:X.env.qual++"<lambda>"=q)(uC:closureFor sc X.env=pure [(y,c)])
  (nS:X.env.cells.lookup y=some c) (hj:X.N[j]? = some y) (oN:X.env.scope.names.lookup y=some .cell) (vR:X.A.in1.in1.depth<recursionLimit) (hb:∀f c' s H,PE (qy X X.A.in1.in1 x y q sc f (.ref c') [(y,c)] s H) body (te f c' s H))
  (u_:defaultsOf args X.env=([],[]):=by rfl) (hg:Gl X "sorted":=by rfl) (hs:starEach [a] X.env=[(false,eval a X.env)]:=by rfl)
  (h1:backTo pos (starEach [a] X.env)=(false,eval a X.env)::backTo pos (starEach [] X.env):=by rfl) (h2:(backTo pos (starEach [a] X.env)).any (·.1)=false:=by rfl)
  (h3:(backToKw pos (keywordEach [⟨some "key",.Lambda args body sc jk,kp⟩] X.env)).all (·.1.isSome)=true:=by rfl) (h4:(backToKw pos (keywordEach [⟨some "key",.Lambda args body sc jk,kp⟩] X.env)).any (·.1.isNone)=false:=by rfl)
  (h5:(backToKw pos (keywordEach [⟨some "key",.Lambda args body sc jk,kp⟩] X.env)).filterMap (·.1)=[("key":Str)]:=by rfl) :
  PE X (.Call (.Name "sorted" p) [a] [⟨some "key",.Lambda args body sc jk,kp⟩] pos) (tSK X.K j ta te):=by
 intro af s σ H Q I h;refine adP (qu I hg hm (show bootBuiltins "sorted"=some (.builtin "sorted") by decide +kernel) ?_ (by decide) (by decide));refine callWith_kw ?_ h1 h2 h3 h4;rw[h5];refine aL (dY ha fU hs pos af s σ H (λvs H1=>match vs with|[x]=>NY X.K j te σ Q x H1|_=>False) I h) λus s1 ⟨vs,H1,I1,rv,q1⟩=>?_
 rcases vs with _|⟨x,_|⟨x2,r2⟩⟩
 .exact q1.elim
 .obtain⟨u,rfl,ru⟩:=vals1 rv;obtain⟨p,ns,pr,v1,rfl,oz,kU,nd,hv,ht,hQ⟩:=q1;cases ru;refine kws_cons (QW (clos:=[(y,c)]) I1 lk sh u_ uC hq λf c' gR pm H' s' J sm hc=>kws_nil ?_);refine VR J S hc nS hj hv oN vR hb (oz.elim (λz=>.inl (z.elim (λz=>.inl (sm _ _ z)) λ⟨o,z⟩=>.inr ⟨o,sm _ _ z⟩)) .inr) kU nd (λs H3 vA=>ht f c' s H3 (sm.trans vA)) λHf D dN s1 n1=>hQ Hf D dN (sm.trans s1) ?_
  cases e:H1 D with
  |none=>rfl
  |some o=>have:=sm D o e;rw[n1] at this;cases this
 .exact q1.elim
end
end L2
namespace L2.Ev
open PySem PySem.Spec PyProof.Rows
section
variable{pr:Int->Int×Int}
def sD(pr:Int->Int×Int)(x:Int):List Int->List Int
 |[]=>[x]
 |y::r=>if lex (pr x) (pr y)=true then x::y::r else y::sD pr x r
def iX(pr:Int->Int×Int):List Int->List Int
 |[]=>[]
 |x::r=>sD pr x (iX pr r)
theorem F8(x:Int):∀l:List Int,(sD pr x l).Perm (x::l)
 |[]=>.refl _
 |y::r=>by
  unfold sD
  split
  .exact .refl _
  .exact((F8 x r).cons y).trans (.swap x y r)
theorem x_:∀l:List Int,(iX pr l).Perm l
 |[]=>.refl _
 |x::r=>(F8 x (iX pr r)).trans ((x_ r).cons x)
theorem lex_trans{a b c:Int×Int}(h:lex a b=true)(g:lex b c=true):lex a c=true:=by
 have h:=aaK h;have g:=aaK g;exact aaD (by lia)
theorem X5{a b:Int×Int}(h:a≠b)(g:¬lex a b=true):lex b a=true:=by
 have n2:¬(a.1=b.1/\a.2=b.2):=λz=>h (Prod.ext z.1 z.2)
 have g:¬(a.1<b.1\/a.1=b.1/\a.2<b.2):=λz=>g (aaD z)
 exact aaD (by omega)
theorem Mq(x:Int):∀{l:List Int},(∀y∈l,pr x≠pr y)->l.Pairwise (λa b=>lex (pr a) (pr b)=true)->(sD pr x l).Pairwise (λa b=>lex (pr a) (pr b)=true)
 |[],_,_=>List.pairwise_singleton _ _
 |y::r,n,h=>by
  obtain⟨h1,h2⟩:=adf.mp h;unfold sD
  split
  .rename_i hx;exact adf.mpr ⟨λz m=>(aaV.mp m).elim (λe=>e ▸ hx) λm=>lex_trans hx (h1 z m),h⟩
  .rename_i hx;refine adf.mpr ⟨λz m=>?_,Mq x (λy m=>n y (aal _ m)) h2⟩;rcases aaV.mp ((F8 x r).mem_iff.mp m) with e|m
   .rw[e];exact X5 (n y aam) hx
   .exact h1 z m
theorem P1:∀{l:List Int},(l.map pr).Nodup->(iX pr l).Pairwise (λa b=>lex (pr a) (pr b)=true)
 |[],_=>.nil
 |x::r,n=>by
  rw[aas] at n;obtain⟨n1,n2⟩:=aby.mp n;exact Mq x (λy m e=>n1 (abw.mpr ⟨y,(x_ r).mem_iff.mp m,e.symm⟩)) (P1 n2)
theorem abj{a b:List Int}(p:a.Perm b)(n:(b.map pr).Nodup)(s:a.Pairwise (λa b=>lex (pr a) (pr b)=true)):a=iX pr b:=by
 have q:a.Perm (iX pr b):=p.trans (x_ b).symm;refine q.eq_of_pairwise (λx y _ _ h1 h2=>?_) s (P1 n);have h1:=aaK h1;have h2:=aaK h2
 lia
end
noncomputable def qD(fb:EF)(dc:D)(n:Int):Option (Int×Int):=match fb [some (.int n,.own),some (dc,.sh [])] with
 |some (.tup [.int a,.int b],_)=>some (a,b)
 |_=>none
def su(fb:EF)(dc:D)(n:Int):Int×Int:=(qD fb dc n).getD (0,0)
def GS(j:Nat)(fa fb:EF):EF:=λρ=>match fa ρ,ρ[j]? with
 |some (.lst ds,_),some (some (dc,_))=>match dM ds with
  |some ns=>if ns.length<64/\(ns.map (su fb dc)).Nodup/\∀n∈ns,(qD fb dc n).isSome=true then some (.lst ((iX (su fb dc) ns).map D.int),.own) else none
  |none=>none
 |_,_=>none
section
variable{X:Cx}{a body:Expr}{fa fb:EF}{p kp pos jk:Pos}{f0 c:Addr}{o0:Obj}{x y q:Str}{args:Arguments}{sc:Scope}
theorem WG(j:Nat)(hm:X.mg "sorted"=none)(ha:FP X a fa)(S:Bc sc args x y)(lk:X.K.lookup f0=some o0)(sh:uP o0=some (X.env.code,q,jk))(vR:X.A.in1.in1.depth<recursionLimit)
  (hb:∀f c' s H,FP (qy X X.A.in1.in1 x y q sc f (.ref c') [(y,c)] s H) body fb) (hq:X.env.qual++"<lambda>"=q:=by rfl) (uC:closureFor sc X.env=pure [(y,c)]:=by rfl)
  (nS:X.env.cells.lookup y=some c:=by rfl) (hj:X.N[j]? = some y:=by rfl) (oN:X.env.scope.names.lookup y=some .cell:=by rfl)
  (u_:defaultsOf args X.env=([],[]):=by rfl) (hg:Gl X "sorted":=by rfl) (hs:starEach [a] X.env=[(false,eval a X.env)]:=by rfl)
  (h1:backTo pos (starEach [a] X.env)=(false,eval a X.env)::backTo pos (starEach [] X.env):=by rfl) (h2:(backTo pos (starEach [a] X.env)).any (·.1)=false:=by rfl)
  (h3:(backToKw pos (keywordEach [⟨some "key",.Lambda args body sc jk,kp⟩] X.env)).all (·.1.isSome)=true:=by rfl) (h4:(backToKw pos (keywordEach [⟨some "key",.Lambda args body sc jk,kp⟩] X.env)).any (·.1.isNone)=false:=by rfl)
  (h5:(backToKw pos (keywordEach [⟨some "key",.Lambda args body sc jk,kp⟩] X.env)).filterMap (·.1)=[("key":Str)]:=by rfl) :
  FP X (.Call (.Name "sorted" p) [a] [⟨some "key",.Lambda args body sc jk,kp⟩] pos) (GS j fa fb):=by
 obtain⟨ta,pa,sa⟩:=ha;refine⟨_,WR (te:=λf c' s H=>(hb f c' s H).choose) hm pa S lk sh hq uC nS hj oN vR (λf c' s H=>(hb f c' s H).choose_spec.1) u_ hg hs h1 h2 h3 h4 h5,@λH0 S' z aq ρ σ H Q d tg ok e k=>?_⟩;unfold GS at e
 split at e
 .rename_i ds t1 dc t2 e1 e2
  split at e
  .rename_i ns uM
   split at e
   .rename_i hc;cases e;obtain⟨kU,nd,hk⟩:=hc;refine sa ok e1 λH1 v fp s1 r1 g1=>?_
    obtain⟨l,xs,f',rfl,oz,rs,_⟩:=r1.dF;have ex:=qP rs uM;subst ex;obtain⟨vc,fc,Uu,rc,_⟩:=ok.sl j dc t2 e2;refine⟨l,ns,su fb dc,vc,rfl,oz,kU,nd,Uu,λf c' s H3 s3 n mn=>?_,λHf D dN sf nD hD pm st=>?_⟩
    .obtain⟨kk,ek⟩:=aeg.mp (hk n mn);have yS:=ek;unfold qD at yS
     split at yS
     .rename_i a b tb eb;cases yS;have iN:Ok X.K H3 [] (λ_=>none) [] [some (.int n,.own),some (dc,.sh [])] [some (.int n),some vc] H3:=by
       refine⟨λi d t e=>?_,(λp m=>nomatch m),(λa j e=>nomatch e),λa o e _=>e,rfl⟩
       match i,e with
       |0,e=>cases e;exact⟨_,[],rfl,.int n,aco,λa m=>nomatch m⟩
       |1,e=>cases e;exact⟨vc,fc,rfl,(rc.same s1).same s3,λa m j e=>nomatch e⟩
       |i+2,e=>exact absurd e (by simp)
      refine(hb f c' s H3).choose_spec.2 iN eb λH4 v fp s4 r4 _=>?_
      obtain⟨w,xs,rfl,hw,fQ⟩:=r4.i8;refine⟨w,rfl,?_,s4⟩;have e1:(su fb dc n)=(a,b):=by unfold su;rw[ek];rfl
      rw[e1];cases fQ with
      |cons h1 r=>cases r with
       |cons h2 r=>cases r;cases h1;cases h2;exact hw
     .cases yS
    .have eq:=abj pm nd st;subst eq;refine k Hf _ [D] (s1.trans sf) (.lst hD (xH _)) ⟨aby.mpr ⟨(λm=>nomatch m),aco⟩,λa m=>?_⟩;cases aaX.mp m;exact s1.free nD
   .cases e
  .cases e
 .cases e
end
def FY(X:Cx)(e:Expr)(f:XF):Prop:=∃t,PE X e t/\∀{H0:Hp}{S:List Addr}{z:Addr->Option Nat}{aq:List bX}{ρ:av}{σ:St}{H:Hp}{Q:VK}{d:D}{ρ':av},
 Ok X.K H0 S z aq ρ σ H->f ρ=some (d,ρ')->(∀z' H' v,Ok X.K H0 S z' aq ρ' σ H'->aU H H'->Rep X.K H' d v []->Q v H')->t σ H Q
section
variable{X:Cx}{a b c e:Expr}{es:List Expr}{f:XF}{g:XAF}{pos:Pos}
theorem FY.fz(h:FY X e f):FZ X e f:=let⟨t,p,q⟩:=h;⟨t,p,@λH0 S z aq ρ σ H Q d ρ' ok e k=>q ok e λz' H' v o _ r=>k z' H' v o r⟩
section
variable{g:AF}{m cn g9 fl x:Str}{p1 p2 apos:Pos}{k:Nat}{C C2 fa:Addr}{fd:FuncData}{ps:List Str}{G:MF}{pl:Sem Bool}
theorem Ba(i:Nat)(hC:ClsAt X.K cn C)(hm:lD X.K C m fa)(GG:b_ X.prog X.w X.K X.mg X.base cT k fa fd ps (cY X.K G))(hr:bq k X.A)(hb:Binds X.K fd ps [])(ha:FA X (e::es) g)(va:VA X i x:=by walk_at "va")
  (iw:SE X e es pos:=by exact⟨rfl,rfl⟩)
  (ht:vG X (.Name x p1) m apos (e::es) pos pl:=by exact rfl):FY X (.Call (.Attribute (.Name x p1) m apos) (e::es) [] pos) (xO i cn m G g):=by
 obtain⟨ta,pa,_,qa⟩:=ha;refine⟨_,yP (pl:=pl) va.pe hC.cl hm GG hr hb .nil mz pa iw.1 iw.2 ht,@λH0 S z aq ρ σ H Q d ρ' ok e0 kk=>?_⟩;obtain⟨zG,qs,d1,h1,h2,hm,ow,hG,rfl⟩:=LH e0;obtain⟨v,a_,hs,r0,zz⟩:=ok.sl i _ _ h1;refine⟨v,hs,?_⟩;obtain⟨b,dx,fs,gf,rfl,Er,h4,h5,h6,h7⟩:=r0.lR hC.ns;refine⟨b,dx,fs,rfl,h4,tX h6 hm,?_⟩;refine qa ok h2 λH2 vs mE s2 r2 g2=>?_
 rw[acH];refine⟨b,vs,_,a_,_,mE,d,d1,rfl,r0.same s2,zz.1,r2,Fy ok ow g2 zz,hG,λH3 u bN im kp r1 nd fr rr=>?_⟩;obtain⟨z',iN⟩:=(ok.same s2).put h1 hs zz im kp r1 nd fr;exact kk z' H3 u iN ((aU.of s2).trans im) rr
def Ab(i:Nat)(cn fl g9 m:Str)(G:MF)(g:AF):XF:=λρ=>match ρ[i]?,g ρ with
 |some (some (.ins c es,.own)),some ps=>match es.lookup fl with
  |some (.ins c2 ic)=>if c=cn/\c2=g9/\ic.lookup m=none/\apart i ps=true then(G (.ins c2 ic) (ps.map (·.1))).map λw=>(w.1,bP ρ i (.ins c (dD fl w.2 es))) else none
  |_=>none
 |_,_=>none
theorem Qt(i:Nat)(hC:ClsAt X.K cn C)(na:ji X.K C fl)(qX:ClsAt X.K g9 C2)(hm:lD X.K C2 m fa)(GG:b_ X.prog X.w X.K X.mg X.base cT k fa fd ps (cY X.K G))(hr:bq k X.A)(hb:Binds X.K fd ps [])(ha:FA X (e::es) g)(va:VA X i x:=by walk_at "va")
  (DR:attributeBase (.Name x p1) fl X.env (eval (.Name x p1) X.env)=eval (.Name x p1) X.env:=by rfl)
  (iw:SE X e es pos:=by exact⟨rfl,rfl⟩)
  (ht:vG X (.Attribute (.Name x p1) fl p2) m apos (e::es) pos pl:=by exact rfl):FY X (.Call (.Attribute (.Attribute (.Name x p1) fl p2) m apos) (e::es) [] pos) (Ab i cn fl g9 m G g):=by
 obtain⟨ta,pa,_,qa⟩:=ha;refine⟨_,yP (pl:=pl) (sN va.pe DR) qX.cl hm GG hr hb .nil mz pa iw.1 iw.2 ht,@λH0 S z aq ρ σ H Q d ρ' ok e0 kk=>?_⟩;unfold Ab at e0
 split at e0
 .rename_i c LA qs h1 h2
  split at e0
  .rename_i c2 ic hl
   by_cases hc:c=cn/\c2=g9/\ic.lookup m=none/\apart i qs=true
   .rw[if_pos hc] at e0;obtain⟨rfl,rfl,hlm,ow⟩:=hc;obtain⟨w,hG,ew⟩:=ab8.mp e0;cases ew;obtain⟨v,a_,hs,r0,zz⟩:=ok.sl i _ _ h1;refine⟨v,hs,?_⟩;obtain⟨b0,dx,fs,u,gf,rfl,a1,a2,a3,a4,a5,a6⟩:=r0.place hC.ns zz.1 hl;refine⟨b0,C,dx,fs,u,rfl,a1,hC.cl,na,a2,?_⟩;obtain⟨b,ZM,UW,g2,rfl,Er,c4,c5,c6,c7⟩:=a3.lR qX.ns;refine⟨b,ZM,UW,rfl,c4,tX c6 hlm,?_⟩;refine qa ok h2 λH2 vs mE s2 r2 gg=>?_
    rw[acH];refine⟨b,vs,_,gf,_,mE,w.1,w.2,rfl,a3.same s2,a4,r2,λx m n=>Fy ok ow gg zz x m (a5 x n),hG,λH3 u' bN im kp r1 nd fr rr=>?_⟩;have i3:=(aU.of s2).trans im;have k3:∀b o,b∉gf->H b=some o->H3 b=some o:=λb o n e=>kp b o n (s2 b o e)
    obtain⟨EG,k1,k2,k4⟩:=a6 H3 w.2 bN i3 k3 r1 nd λb m=>(fr b m).imp id s2.free
    obtain⟨z',iN⟩:=ok.put h1 hs zz i3 (λb o n e=>k3 b o (λm=>n (a5 b m)) e) k1 k2 k4;exact kk z' H3 u' iN i3 rr
   .rw[if_neg hc] at e0;cases e0
  .cases e0
 .cases e0
end
noncomputable def tZ(f:XF):av->Option (Bool×av):=λρ=>match f ρ with
 |some (.bl b,ρ')=>some (b,ρ')
 |_=>none
theorem aap(h:FZ X a f)(he:∀whole,isTrue a X.env whole=(do let v <- whole;standAt a.pos;holding [v] (truthy v)):=by intro _;rfl):zJ X a (tZ f):=by
 obtain⟨t,p,q⟩:=h;refine⟨_,Jy p he,@λH0 S z aq ρ σ H Q c ρ' ok e k=>?_⟩;unfold tZ at e
 split at e
 .rename_i c' aM h1;cases e;refine q ok h1 λz' H' v aT r=>?_
  cases r;exact⟨_,rfl,k z' H' aT⟩
 .cases e
noncomputable def kG(c:av->Option (Bool×av))(f:SF):Nat->SF
 |0,_=>none
 |n+1,ρ=>match c ρ with
  |some (false,aM)=>some (.nx aM)
  |some (true,aM)=>match f aM with
   |some (.nx ρ')=>kG c f n ρ'
   |_=>none
  |none=>none
theorem Qv(n:Nat){body:List Stmt}{tc:av->Option (Bool×av)}{fb:SF}(hc:zJ X c tc)(hb:FS X body fb)(hp:PassesOwn (model X.prog X.w) X.A X.env X.xe:=by exact PassesOwn.never):eO X (.While c body [] pos) (kG tc fb n):=by
 obtain⟨t,p,q⟩:=hc;obtain⟨tb,pb,qb⟩:=hb;exists 23,OR hp p pb;refine⟨λm aC H'=>∃z' ρ',Ok X.K H0 S z' aq ρ' aC H'/\kG tc fb m ρ'=some o/\Kp X σ aC,⟨n,z,ρ,ok,e,.refl _ _⟩,?_⟩
 rintro m aC H' ⟨z',ρ',aT,e',kp⟩
 cases m with
 |zero=>cases e'
 |succ m=>
  unfold kG at e'
  split at e'
  .rename_i aM hc;cases e';refine q aT hc λz1 H1 b8=>?_
   rw[if_neg aa9];exact k z1 aC H1 b8 kp
  .rename_i aM hc;refine q aT hc λz1 H1 b8=>?_
   rw[if_pos rfl]
   split at e'
   .rename_i aZ hf;refine⟨λgj H2=>∃z2 aZ,Ok X.K H0 S z2 aq aZ gj H2/\kG tc fb m aZ=some o/\Kp X σ gj,λgj H2 hn=>⟨m,aen m,hn⟩,?_⟩;exact qb b8 hf λz3 cE H3 iu b=>⟨z3,aZ,iu,e',kp.trans b⟩
   .cases e'
  .cases e'
noncomputable def sW(f g:XF):XF:=λρ=>match f ρ with
 |some (.bl true,ρ')=>some (.bl true,ρ')
 |some (.bl false,ρ')=>match g ρ' with
  |some (.bl b,aZ)=>some (.bl b,aZ)
  |_=>none
 |_=>none
theorem aba{g:XF}(ha:FZ X a f)(hb:FZ X b g):FZ X (.BoolOp .Or [a,b] pos) (sW f g):=by
 obtain⟨t,p,q⟩:=ha;obtain⟨t',p',q'⟩:=hb;refine⟨_,Sl p (MC p'),@λH0 S z aq ρ σ H Q d ρ' ok e k=>?_⟩;unfold sW at e
 split at e
 .rename_i aM h;cases e;refine q ok h λz1 H1 v b8 r1=>?_
  cases r1;refine⟨true,rfl,?_⟩;rw[if_pos rfl];exact k z1 H1 _ b8 (.bl _)
 .rename_i aM h
  split at e
  .rename_i c aZ h2;cases e;refine q ok h λz1 H1 v b8 r1=>?_
   cases r1;refine⟨false,rfl,?_⟩;rw[if_neg aa9];exact q' b8 h2 k
  .cases e
 .cases e
end
section
variable{K:PySem.W.Frag}{H H':Hp}
theorem OY{a:Addr}{ks:List Key}(h:bZ K H a (ks.map L2.kV))(ni:o8 K=true)(hi:ks.all (λk=>k.isLeft)=true)(hn:ks≠[]):Tk H a (ks.map L2.kV):=by
 rcases h with(h|⟨o,h⟩)|⟨o,au,n,hk,_,_,hd,_,rv⟩
 .exact⟨.tup _,rfl,h⟩
 .exact⟨.uG o _,rfl,h⟩
 .exfalso
  have q:=ac6.mp ni (a,o) (z9 hk);dsimp only at q;rw[hd] at q;have len:=rv.length;have go:∀{ks:List Key}{vs:List Value},ks.all (λk=>k.isLeft)=true->aQ (ks.map L2.kV) vs->∀v∈vs,∃i t,v=Value.int i t:=by
   intro ks
   induction ks with
   |nil=>intro vs _ r v m;cases r;cases m
   |cons k ks ih=>
    intro vs h r v m;obtain⟨h1,h2⟩:=(aaH _ _).mp (by simpa only[aeI] using h);cases r with
    |cons r1 r2=>
     rcases aaV.mp m with e|m
     .subst e;cases k with
      |inr _=>cases h1
      |inl i=>obtain⟨t,e⟩:=(show RelV (.int i) _ from r1);exact⟨i,t,e⟩
     .exact ih h2 r2 v m
  rcases(aeK _ _).mp (show(au.size==0||au.toList.any _)=true from q) with z|z
  .have z:au.size=0:=by simpa using z
   simp only[List.length_map,adE] at len;exact hn (adZ (len.trans z))
  .obtain⟨v,mv,e⟩:=adj.mp z;obtain⟨i,t,rfl⟩:=go hi rv v mv;cases e
theorem Tk.aD{a:Addr}{xs:List V}(h:Tk H a xs)(i:aU H H'):Tk H' a xs:=by
 obtain⟨t,e1,e2⟩:=h;cases t with
 |tup ys=>exact⟨.tup ys,e1,i.1 _ _ e2⟩
 |uG o ys=>exact⟨.uG o ys,e1,i.2.1 _ _ _ e2⟩
 |ie _ _=>cases e1
 |jb _=>cases e1
variable{κ:Type}[DecidableEq κ]
theorem GI{α:Type}{k:κ}{d:α}:∀{es:List (κ×α)},k∉es.map (·.1)->(es.map λkv=>if kv.1=k then(kv.1,d) else kv)=es
 |[],_=>rfl
 |(q,x)::es,n=>by
  rw[aas] at n ⊢;rw[if_neg (λe=>n (by rw[e];exact aam)),GI λm=>n (aal _ m)]
theorem az.PD{k:κ}{d0:D}:∀{es:List (κ×D)}{ak:List (κ×V)}{g:List Addr},es.map (·.1)=ak.map (·.1)->az K H (es.map (·.2)) (ak.map (·.2)) g->g.Nodup->(es.map (·.1)).Nodup->aY es k=some d0->
  ∃v gf,dz ak k=some v/\Rep K H d0 v gf/\gf.Nodup/\(∀a∈gf,a∈g)/\∀(H':Hp) (d1:D) (g1:List Addr),aU H H'->(∀b o,b∉gf->b∈g->H b=some o->H' b=some o)->Rep K H' d1 v g1->g1.Nodup->(∀b∈g1,b∈gf\/H b=none)->
   ∃g',az K H' ((putD es k d1).map (·.2)) ((putK ak k v).map (·.2)) g'/\g'.Nodup/\∀b∈g',b∈g\/H b=none
 |[],_,_,_,_,_,_,e=>by cases e
 |_::_,[],_,k,_,_,_,_=>by simp at k
 |(x,d)::es,(y,v0)::ak,_,hk,r,nd,kd,e=>by
  simp only[aas,adQ] at hk;obtain⟨rfl,hk⟩:=hk;rw[aas] at kd;obtain⟨OQ,Wg⟩:=aby.mp kd;have any:∀{α:Type}{l:List (κ×α)}{d:α},k∈l.map (·.1)->(l.any λkv=>decide (kv.1=k))=true:=λ{α l d} m=>by
   obtain⟨p,m1,m2⟩:=abw.mp m;exact adj.mpr ⟨p,m1,aaD m2⟩
  cases r with
  | @cons _ _ _ _ f1 f2 r1 r2=>
   obtain⟨a1,a2,a3⟩:=acE.mp nd
   by_cases hx:x=k
   .subst hx;have e1:aY ((x,d)::es) x=some d:=by simp[aY,ac9]
    rw[e1] at e;obtain rfl:d=d0:=abO e;refine⟨v0,f1,wA rfl,r1,a1,λa m=>abb _ m,λH' d1 g1 im kp rr n1 fr=>?_⟩;refine⟨g1++f2,?_,acE.mpr ⟨n1,a2,λa ma b mb e=>?_⟩,λb m=>?_⟩
    .have er:putD ((x,d)::es) x d1=(x,d1)::es:=by
      unfold putD;rw[any (d:=d1) (by simp),if_pos rfl,aas,GI OQ,if_pos rfl]
     have ev:putK ((x,v0)::ak) x v0=(x,v0)::ak:=by
      unfold putK;rw[any (d:=v0) (by simp),if_pos rfl,aas,GI (show x∉ak.map (·.1) by rw[<- hk];exact OQ),if_pos rfl]
     rw[er,ev,aas,aas];refine .cons rr (r2.frame (λa m=>?_) im);obtain⟨o,w,_⟩:=r2.b7 a m;rw[kp a o (λq=>a3 a q a m rfl) (aat _ m) w,w]
    .subst e;obtain⟨o,w,_⟩:=r2.b7 a mb;rcases fr a ma with q|q
     .exact a3 a q a mb rfl
     .rw[q] at w;cases w
    .rcases abo.mp m with m|m
     .exact(fr b m).imp (abb _) id
     .exact .inl (aat _ m)
   .have e1:aY ((x,d)::es) k=aY es k:=by simp[aY,ac9,hx]
    rw[e1] at e;obtain⟨v,gf,h1,h2,h3,h4,h5⟩:=az.PD (k:=k) (d0:=d0) hk r2 a2 Wg e;have mk:k∈es.map (·.1):=by
     unfold aY at e;obtain⟨p,e2,e3⟩:=ab8.mp e;exact abw.mpr ⟨p,adK e2,aaK (show decide (p.1=k)=true from aeu (p:=λkv:κ×D=>decide (kv.1=k)) e2)⟩
    refine⟨v,gf,by rw[vE hx];exact h1,h2,h3,λa m=>aat _ (h4 a m),λH' d1 g1 im kp rr n1 fr=>?_⟩;obtain⟨g',c1,c2,c3⟩:=h5 H' d1 g1 im (λb o n m e=>kp b o n (aat _ m) e) rr n1 fr;refine⟨f1++g',?_,acE.mpr ⟨a1,c2,λa ma b mb e=>?_⟩,λb m=>?_⟩
    .have er:(putD ((x,d)::es) k d1)=(x,d)::putD es k d1:=by
      unfold putD;rw[any (d:=d1) (l:=(x,d)::es) (aal _ mk),any (d:=d1) mk,if_pos rfl,if_pos rfl,aas,if_neg hx]
     have ev:(putK ((x,v0)::ak) k v)=(x,v0)::putK ak k v:=by
      unfold putK;rw[any (d:=v) (by rw[aas,<- hk];exact aal _ mk),any (d:=v) (by rw[<- hk];exact mk),if_pos rfl,if_pos rfl,aas,if_neg hx]
     rw[er,ev,aas,aas];refine .cons (r1.frame (λa m=>?_) im) c1;obtain⟨o,w,_⟩:=r1.b7 a m;rw[kp a o (λq=>a3 a m a (h4 a q) rfl) (abb _ m) w,w]
    .subst e;obtain⟨o,w,_⟩:=r1.b7 a ma;rcases c3 a mb with q|q
     .exact a3 a ma a q rfl
     .rw[q] at w;cases w
    .rcases abo.mp m with m|m
     .exact .inl (abb _ m)
     .exact(c3 b m).imp (aat _) id
theorem Ok.blank{K:PySem.W.Frag}{H0:Hp}{S:List Addr}{z:Addr->Option Nat}{aq:List bX}{ρ:av}{σ:St}{H:Hp}{i:Nat}{x:Option V}(ok:Ok K H0 S z aq ρ σ H)(h:ρ[i]? = some none):Ok K H0 S z aq ρ (σ.set i x) H:=
 ⟨λj d t e=>by
  have ne:i≠j:=λz=>by rw[<- z,h] at e;cases e
  obtain⟨v,fp,a,b,c⟩:=ok.sl j d t e;exact⟨v,fp,by rw[acO ne];exact a,b,c⟩,ok.hl,ok.zd,ok.en,by rw[aet];exact ok.ln⟩
end
def tN(cn fl g9 m:Str)(ft:EF)(G:MF):SF:=λρ=>match(ρ[0]? : Option Slot),(ρ[1]? : Option Slot),(ρ[2]? : Option Slot),(ρ[3]? : Option Slot) with
 |some (some (.ins c es,.own)),some (some (.tup ls,_)),some (some (.str wd,_)),some none=>match es.lookup fl,gP ls,ft ρ with
  |some (.cU ak),some ks,some (dn,.own)=>match(aY ak ks).getD dn with
   |.ins c2 ic=>if c=cn/\c2=g9/\ic.lookup m=none/\ks.all (λk=>k.isLeft)=true/\ks≠[]/\(ak.map (·.1)).Nodup/\ak.length<sizeLine then
     match G (.ins c2 ic) [.str wd] with
     |some (r,d1)=>if aD r=true then some (.nx (iC (bP ρ 0 (.ins c (dD fl (.cU (putD ak ks d1)) es))) 4 r .own)) else none
     |none=>none
    else none
   |_=>none
  |_,_,_=>none
 |_,_,_,_=>none
theorem aar{cn fl g9 m:Str}{ft:EF}{G:MF}{ρ:av}{w:Out}(e:tN cn fl g9 m ft G ρ=some w):∃es ls lt wd wt ak ks dn ic r d1,ρ[0]? = some (some (.ins cn es,.own))/\ρ[1]? = some (some (.tup ls,lt))/\ρ[2]? = some (some (.str wd,wt))/\ρ[3]? = some none/\es.lookup fl=some (.cU ak)/\gP ls=some ks/\ft ρ=some (dn,.own)/\
  (aY ak ks).getD dn=.ins g9 ic/\ic.lookup m=none/\ks.all (λk=>k.isLeft)=true/\ks≠[]/\(ak.map (·.1)).Nodup/\ak.length<sizeLine/\G (.ins g9 ic) [.str wd]=some (r,d1)/\aD r=true/\w=.nx (iC (bP ρ 0 (.ins cn (dD fl (.cU (putD ak ks d1)) es))) 4 r .own):=by
 unfold tN at e
 split at e
 .rename_i c es ls lt wd wt g0 g1 g2 g3
  split at e
  .rename_i ak ks dn g4 g5 g6
   split at e
   .rename_i c2 ic g7
    split at e
    .rename_i hc;obtain⟨rfl,rfl,a1,a2,a3,a4,a5⟩:=hc
     split at e
     .rename_i r d1 g8
      by_cases hi:aD r=true
      .rw[if_pos hi] at e;cases e;exact⟨es,ls,lt,wd,wt,ak,ks,dn,ic,r,d1,g0,g1,g2,g3,g4,g5,g6,g7,a1,a2,a3,a4,a5,g8,hi,rfl⟩
      .rw[if_neg hi] at e;cases e
     .cases e
    .cases e
   .cases e
  .cases e
 .cases e
section
variable{X:Cx}{cn fl g9 m x0 x1 x2 x3 x4:Str}{C C2 fa:Addr}{fd:FuncData}{ps:List Str}{k:Nat}{G:MF}{tc:Expr}{ft:EF}{g:SF}{rest:List Stmt}{p1 p2 p3 p4 p5 p6 p7 p8 p9 q1 q2 q3 q4 q5 q6 q7 q8 q9 r1:Pos}{pl:Sem Bool}
set_option maxHeartbeats 1000000 in
theorem ZP(hu:X.A.units+1<cLine)(ni:o8 X.K=true)(hC:ClsAt X.K cn C)(na:ji X.K C fl)(qX:ClsAt X.K g9 C2)(hm:lD X.K C2 m fa)(GG:b_ X.prog X.w X.K X.mg X.base cT k fa fd ps (cY X.K G))(hr:bq k X.A)(hb:Binds X.K fd ps [])
  (hT:FP X tc ft) (wu:FM X rest g) (hN:X.N.Nodup) (a0:VA X 0 x0:=by walk_at "va") (a1:VA X 1 x1:=by walk_at "va") (a2:VA X 2 x2:=by walk_at "va") (a3:VA X 3 x3:=by walk_at "va") (h4:X.N[4]? = some x4:=by rfl)
  (v3:Loc X.env.scope x3:=by first|exact Or.inl rfl|exact Or.inr rfl) (v4:Loc X.env.scope x4:=by first|exact Or.inl rfl|exact Or.inr rfl)
  (DR:attributeBase (.Name x0 p1) fl X.env (eval (.Name x0 p1) X.env)=eval (.Name x0 p1) X.env:=by rfl) (UL:attributeBase (.Name x0 q1) fl X.env (eval (.Name x0 q1) X.env)=eval (.Name x0 q1) X.env:=by rfl)
  (mm:M2 X (.Attribute (.Name x0 p1) fl p2) "get" p3 (.Name x1 p4) tc p5:=by exact⟨rfl,rfl,rfl,rfl⟩)
  (s1:swapsWith (.Call (.Attribute (.Attribute (.Name x0 p1) fl p2) "get" p3) [.Name x1 p4,tc] [] p5) (some (.Name x3 p6)) p7.line X.env=pure false:=by rfl)
  (s2:swapsWith (.Call (.Attribute (.Name x3 q2) m q3) [.Name x2 q4] [] q5) (some (.Name x4 p8)) p9.line X.env=pure false:=by rfl)
  (s3:swapsWith (.Name x3 q6) (some (.Subscript (.Attribute (.Name x0 q1) fl q7) (.Name x1 q8) q9)) r1.line X.env=pure false:=by rfl)
  (f3:X.fn x3=true\/X.env.scope.names.lookup x3=some .local:=by first|exact .inl rfl|exact .inr rfl) (f4:X.fn x4=true\/X.env.scope.names.lookup x4=some .local:=by first|exact .inl rfl|exact .inr rfl) (k3:j7 X x3=false:=by rfl) (k4:j7 X x4=false:=by rfl)
  (iw:starEach [.Name x2 q4] X.env=[(false,eval (.Name x2 q4) X.env)]:=by rfl)
  (ht:eval (.Call (.Attribute (.Name x3 q2) m q3) [.Name x2 q4] [] q5) X.env=(do
   let ov <- eval (.Name x3 q2) X.env
   standAt q3.atName
   let(f,first) <- holding [ov] (getMethod ov m pl)
   callWith q5 f first (backTo q5 (starEach [.Name x2 q4] X.env)) (backToKw q5 (keywordEach [] X.env))):=by rfl) :
  FM X (.Assign [.Name x3 p6] (.Call (.Attribute (.Attribute (.Name x0 p1) fl p2) "get" p3) [.Name x1 p4,tc] [] p5) p7::.Assign [.Name x4 p8] (.Call (.Attribute (.Name x3 q2) m q3) [.Name x2 q4] [] q5) p9::.Assign [.Subscript (.Attribute (.Name x0 q1) fl q7) (.Name x1 q8) q9] (.Name x3 q6) r1::rest) (bV (tN cn fl g9 m ft G) g):=by
 obtain⟨tT,pT,sT⟩:=hT;obtain⟨tr,pr,sr⟩:=wu;refine⟨_,xx (zT (i:=3) hN a3.N v3 (Em hu (sN a0.pe DR) a1.pe pT mm) s1 f3)
  (xx (zT (i:=4) hN h4 v4 (yP (pl:=pl) a3.pe qX.cl hm GG hr hb .nil mz (dY a2.pe fU iw) iw rfl ht) s2 f4)
  (xx (As hu (sN a0.pe UL) a1.pe a3.pe s3) pr)),@λH0 S z aq ρ σ H E o ok e kE=>?_⟩
 cases hw:tN cn fl g9 m ft G ρ with
 |none=>unfold bV at e;rw[hw] at e;cases e
 |some w=>
  obtain⟨es,ls,lt,wd,wt,ak,ks,dn,ic,r,d1,e0,e1,e2,e3,T7,UP,R4,sO,elm,C7,qE,knd,hlen,eG,hir,rfl⟩:=aar hw;have e:g (iC (bP ρ 0 (.ins cn (dD fl (.cU (putD ak ks d1)) es))) 4 r .own)=some o:=by unfold bV at e;rw[hw] at e;exact e
  obtain⟨v,a_,hs,r0,zz⟩:=ok.sl 0 _ _ e0;obtain⟨vl,FD,yx,rl,_⟩:=ok.sl 1 _ _ e1;obtain⟨bL,xs,rfl,hqL,SO⟩:=rl.i8;obtain rfl:=az.keys SO UP;have tK:=OY hqL ni C7 qE;obtain⟨vw,fw,jM,fQ,_⟩:=ok.sl 2 _ _ e2;obtain⟨rfl,rfl⟩:=fQ.yh;have l3:3<σ.length:=by rw[<- ok.ln];exact(abf.mp e3).1
  obtain⟨b0,dx,fs,u,gf,⟨nb,nx⟩,rfl,a1,a2,a3,a4,a5,a6⟩:=r0.JQ hC.ns zz.1 T7;cases a3 with
  | @cU l fB _ g0 hl fY rs=>
   obtain⟨lg,n0⟩:=aby.mp a4;refine⟨.ref b0,hs,b0,C,dx,fs,.ref l,rfl,a1,hC.cl,na,a2,l,rfl,.inr ⟨fB,.inl hl⟩,.ref bL,yx,?_⟩;refine sT ok R4 λH3 zv EG s3 rn gn=>?_
   refine⟨dz fB ks,.inr ⟨fB,ks,bL,.inl (s3 _ _ hl),rfl,(Tk.aD tK (.of s3)),rfl⟩,?_⟩;have hv:∃jf,Rep X.K H3 (.ins g9 ic) ((dz fB ks).getD zv) jf/\jf.Nodup/\(∀b∈jf,b∈g0\/H b=none)/\∀H5 bN,aU H3 H5->(∀b o,b∉jf->H3 b=some o->H5 b=some o)->Rep X.K H5 d1 ((dz fB ks).getD zv) bN->bN.Nodup->(∀b∈bN,b∈jf\/H3 b=none)->
     ∃g',az X.K (upd H5 l (.dT (putK fB ks ((dz fB ks).getD zv)))) ((putD ak ks d1).map (·.2)) ((putK fB ks ((dz fB ks).getD zv)).map (·.2)) g'/\g'.Nodup/\l∉g'/\∀b∈g',b∈g0\/H b=none:=by
    cases qC:aY ak ks with
    |some dv=>
     rw[qC,aeo] at sO;subst sO;obtain⟨v,gv,b1,b2,b3,b4,b5⟩:=az.PD fY rs n0 knd qC;rw[b1,aeo];refine⟨gv,b2.same s3,b3,λb m=>.inl (b4 b m),λH5 bN im kp r5 xD lC=>?_⟩;have nl:l∉gv:=λm=>lg (b4 l m)
     have nA:H5 l=some (.dT fB):=kp l _ nl (s3 _ _ hl);have yR:l∉bN:=λm=>(lC l m).elim nl λq=>by rw[s3 _ _ hl] at q;cases q
     obtain⟨g',c1,c2,c3⟩:=b5 (upd H5 l (.dT (putK fB ks v))) d1 bN (((aU.of s3).trans im).trans (aU.upd nA rfl)) (λb o n mb e=>by rw[aO (λq:b=l=>lg (q ▸ mb))];exact kp b o n (s3 b o e))
      (r5.frame (λb m=>aO (λq:b=l=>yR (q ▸ m))) (aU.upd nA rfl)) xD (λb m=>(lC b m).imp id s3.free)
     exact⟨g',c1,c2,(λm=>(c3 l m).elim lg λq=>by rw[hl] at q;cases q),c3⟩
    |none=>
     rw[qC] at sO;have sO:dn=.ins g9 ic:=sO;subst sO;have hn:dz fB ks=none:=(oV fY rs).2 qC;rw[hn];show ∃jf,Rep X.K H3 (.ins g9 ic) zv jf/\jf.Nodup/\(∀b∈jf,b∈g0\/H b=none)/\∀H5 bN,aU H3 H5->(∀b o,b∉jf->H3 b=some o->H5 b=some o)->Rep X.K H5 d1 zv bN->bN.Nodup->(∀b∈bN,b∈jf\/H3 b=none)->
      ∃g',az X.K (upd H5 l (.dT (putK fB ks zv))) ((putD ak ks d1).map (·.2)) ((putK fB ks zv).map (·.2)) g'/\g'.Nodup/\l∉g'/\∀b∈g',b∈g0\/H b=none
     refine⟨EG,rn,gn.1,λb m=>.inr (gn.2 b m),λH5 bN im kp r5 xD lC=>?_⟩;have nl:l∉EG:=λm=>by rw[gn.2 l m] at hl;cases hl
     have nA:H5 l=some (.dT fB):=kp l _ nl (s3 _ _ hl);have xq:∀b∈bN,H b=none:=λb m=>(lC b m).elim (gn.2 b) s3.free
     have yR:l∉bN:=λm=>by rw[xq l m] at hl;cases hl
     have i6:aU H (upd H5 l (.dT (putK fB ks zv))):=((aU.of s3).trans im).trans (aU.upd nA rfl);have n1:(ak.any λkv=>decide (kv.1=ks))=false:=by
      unfold aY at qC;rw[Option.map_eq_none_iff,adR] at qC;exact List.any_eq_false.mpr qC
     have n2:(fB.any λkv=>decide (kv.1=ks))=false:=by
      rw[Cf,hn];rfl
     refine⟨g0++(bN++[]),?_,?_,λm=>?_,λb m=>?_⟩
     .unfold putD putK;rw[n1,n2,if_neg aa9,if_neg aa9,adb,adb];unfold putK at i6;rw[n2,if_neg aa9] at i6;refine az.append (rs.frame (λb m=>?_) i6) (.cons (r5.frame (λb m=>aO (λq:b=l=>yR (q ▸ m))) (aU.upd nA rfl)) .nil);obtain⟨o,w,_⟩:=rs.b7 b m;rw[aO (λq:b=l=>lg (q ▸ m)),kp b o (λq=>by rw[gn.2 b q] at w;cases w) (s3 b o w),w]
     .rw[acH];refine acE.mpr ⟨n0,xD,λa ma b mb e=>?_⟩;obtain⟨o,w,_⟩:=rs.b7 a ma;rw[e,xq b mb] at w;cases w
     .rw[acH] at m;exact(abo.mp m).elim lg yR
     .rw[acH] at m;exact(abo.mp m).imp id (xq b)
   generalize(dz fB ks).getD zv=v at hv ⊢;obtain⟨jf,rv,ndv,CH,fin⟩:=hv;obtain⟨a,QY,Z4,gT,rfl,Er,t1,t2,t3,t4⟩:=rv.lR qX.ns;refine⟨.ref a,adB l3,a,QY,Z4,rfl,t1,tX t3 elm,.str wd,(by rw[acO (by decide)];exact jM),?_⟩;refine⟨a,[.str wd],_,jf,[.str wd],[],r,d1,rfl,rv,ndv,.cons (f1:=[]) (f2:=[]) (.str wd) .nil,(λb m=>nomatch m),eG,λH5 ut bN im kp r5 xD lC rr=>?_⟩;have nl:l∉jf:=λm=>(CH l m).elim lg λq=>by rw[hl] at q;cases q
   have nA:H5 l=some (.dT fB):=kp l _ nl (s3 _ _ hl);have Vt:b0∉jf:=λm=>(CH b0 m).elim (λq=>nb (aal _ q)) λq=>by rw[a1] at q;cases q
   have TN:H5 b0=some (.ins C dx fs):=kp b0 _ Vt (s3 _ _ a1);have Wo:fB.length=ak.length:=by have:=congrArg List.length fY;simpa using this.symm
   refine⟨.ref a,(by rw[acO (by decide)];exact adB l3),.ref b0,(by rw[acO (by decide),acO (by decide)];exact hs),b0,C,dx,fs,.ref l,rfl,TN,hC.cl,na,a2,.ref bL,(by rw[acO (by decide),acO (by decide)];exact yx),l,_,rfl,
    .inr ⟨fB,ks,bL,nA,rfl,(Tk.aD tK ((aU.of s3).trans im)),(by rw[Wo];exact hlen),rfl⟩,?_⟩
   obtain⟨g',y1,y2,y3,y4⟩:=fin H5 bN im kp r5 xD lC;have i6:aU H (upd H5 l (.dT (putK fB ks (.ref a)))):=((aU.of s3).trans im).trans (aU.upd nA rfl);have k6:∀b o,b∉l::g0->H b=some o->upd H5 l (.dT (putK fB ks (.ref a))) b=some o:=λb o n e=>by
    rw[aO (λq=>n (by rw[q];exact aam))];exact kp b o (λm=>(CH b m).elim (λq=>n (aal _ q)) λq=>by rw[e] at q;cases q) (s3 b o e)
   obtain⟨adu,z1,z2,z3⟩:=a6 _ (.cU (putD ak ks d1)) (l::g') i6 k6 (.cU cG (vg fY) y1) (aby.mpr ⟨y3,y2⟩) (λb m=>(aaV.mp m).elim (λq=>.inl (by rw[q];exact aam)) λm=>(y4 b m).imp (aal _) id);obtain⟨z',iN⟩:=ok.put e0 hs zz i6 (λb o n e=>k6 b o (λm=>n (a5 b m)) e) z1 z2 z3;have V7:(bP ρ 0 (.ins cn (dD fl (.cU (putD ak ks d1)) es)))[3]? = some none:=by unfold bP;rw[acO (by decide),ab6,e3];rfl
   refine(iN.blank (x:=some (.ref a)) V7).stored (t:=.own) (i:=4) (aF.refl _) (rr.frame (λa m=>nomatch m) (aU.upd nA rfl)) .nil λz2 R7=>?_
   exact sr R7 e (kE.of ((Kp.set a3.N k3).trans (Kp.set h4 k4)))
end
end L2.Ev
namespace L2
open PySem PySem.Spec PyProof.Rows
section
variable{X:Cx}
def UM(K:PySem.W.Frag):V->List V->Hp->VK->Prop:=λx vs H Q=>∃(l:Addr) (ts:List Int) (i:Int) (j:Nat),x=.ref l/\vs=[.int i]/\bR K H l (ts.map V.int)/\ts[j]? = some i/\(∀m,m<j->ts[m]?≠some i)/\Q (.int j) H
theorem M_(i y:Int)(t:Tok):iy (.int i) (.int y t)=(y==i):=rfl
theorem Ui:Gh X "list.index" (UM X.K):=by
 intro af s σ H x vs v us Q I rx rv h;obtain⟨l,ts,i,j,rfl,rfl,hq,hj,Hg,q⟩:=h;cases rx;obtain⟨u,rfl,ru⟩:=vals1 rv;obtain⟨t,rfl⟩:=ru;obtain⟨au,r,pl,hz⟩:=I.list hq;have hlen:=r.length;rw[List.length_map] at hlen hz;obtain⟨o,ho,hc,n,hd⟩:=pl.isList;obtain⟨c,dd,da,sl⟩:=o;cases hc;cases hd;have hjl:=(abf.mp hj).1;have uy:∀(m:Nat) (hm:m<au.toArray.size),∃y t',ts[m]? = some y/\au.toArray[m]=.int y t':=λm hm=>by
  have xu:m<ts.length:=by simp at hm;omega
  obtain⟨w,hw,fQ⟩:=r.get (i:=m) (x:=.int ts[m]) (by rw[ab6,aaQ xu];rfl);obtain⟨t',rfl⟩:=fQ;refine⟨ts[m],t',aaQ xu,?_⟩;have:=(abf.mp hw).2;simpa using this
 have hsz:j<au.toArray.size:=by simp;omega
 refine call_meets F.slot_list_index ⟨_,ho,rfl⟩ F.entry_list_index (F.args_list_index_2 _ _) (SeqAt.list_indexAt l au.toArray n dd sl (.int i t) (iy (.int i)) j hsz (by rw[adM] at hz;omega) ?_ (λm hm cQ=>?_)) ⟨ho,λw hw=>tO (x:=.int i) (v:=.int i t) ⟨t,rfl⟩ rfl r (by rw[aeF];exact ac6.mpr λ_ _=>rfl) w (by simpa using hw),⟨.int j,H,I.tok _,⟨_,rfl⟩,q⟩⟩
 .obtain⟨y,t',h1,h2⟩:=uy j hsz;rw[h2,M_];rw[hj] at h1;cases h1;exact ad9 _
 .obtain⟨y,t',h1,h2⟩:=uy m hm;rw[h2,M_];refine ad3.mpr λe=>Hg m cQ ?_
  rw[h1,eq_of_beq e]
end
end L2
namespace L2
theorem bq.m{j k:Nat}{A:PySem.Around}{cm:Bool}(r:bq k A cm)(h:j<=k:=by decide):bq j A cm:=r.mono h
end L2
namespace L2.Ev
open PySem PySem.Spec PyProof.Rows
section
variable{X:Cx}{a b:Expr}{fa fb:EF}{pos p2 p3:Pos}
def Gg:D->D->Option D
 |.lst ds,.int i=>match dM ds with
  |some ts=>(ts.findIdx? (· == i)).map λj:Nat=>.int j
  |none=>none
 |_,_=>none
theorem SD(ha:FP X a fa)(hb:FP X b fb)(hs:starEach [b] X.env=[(false,eval b X.env)]:=by rfl)(k7:attributeBase a "index" X.env (eval a X.env)=eval a X.env:=by rfl)
  (kY:((backTo p3 (starEach [b] X.env)).all (λx=>!x.1)&&(backToKw p3 (keywordEach [] X.env)).all (λx=>x.1.isSome)&&decide ([b].length+([]:List Keyword).length+(if([]:List Keyword).isEmpty then 0 else 1)<30))=true:=by rfl)
  (kT:(p2.endLine==p3.line)=true:=by rfl):FP X (.Call (.Attribute a "index" p2) [b] [] p3) (e2 Gg fa fb):=by
 obtain⟨ta,pa,sa⟩:=ha;obtain⟨tb,pb,sb⟩:=hb;exists 21,x6 PySem.F.plainAttrs_list PySem.F.slot_list_index PySem.F.type_list_index Ui pa (dY pb fU hs) k7 kY kT hs rfl;obtain⟨d1,t1,d2,t2,e1,jj,e3,rfl⟩:=pL e;refine sa ok e1 λH1 x f1 s1 r1 _=>?_
 cases d1 with
 |lst ds=>
  cases d2 with
  |int i=>
   have e3:(match dM ds with|some ts=>(ts.findIdx? (· == i)).map λj:Nat=>D.int j|none=>none)=some d:=e3;cases h:dM ds with
   |none=>rw[h] at e3;cases e3
   |some ts=>
    rw[h] at e3;dsimp only at e3;cases h2:ts.findIdx? (· == i) with
    |none=>rw[h2] at e3;cases e3
    |some j=>
     rw[h2] at e3;cases e3;obtain⟨l0,xs0,f0,rfl,Zv,rs0,_⟩:=r1.dF;refine⟨.inl ⟨rfl,_,Zv⟩,?_⟩;refine sb (ok.same s1) jj λH2 y f2 s2 r2 _=>?_
     obtain⟨rfl,_⟩:=r2.iM;have DJ:=r1.same s2;obtain⟨l,xs,f,e0,hq,rs,_⟩:=DJ.dF;cases e0;have hx:=qP rs h;subst hx;obtain⟨hj,hp,Hg⟩:=List.findIdx?_eq_some_iff_getElem.mp h2;refine⟨l0,ts,i,j,rfl,rfl,hq,?_,λm hm em=>?_,k H2 _ [] (s1.trans s2) (.int _) ⟨aco,λa m=>nomatch m⟩⟩
     .rw[aaQ hj,eq_of_beq hp]
     .obtain⟨xu,e'⟩:=abf.mp em;exact Hg m hm (by rw[e'];exact ad9 _)
  |_=>cases e3
 |_=>cases e3
end
end L2.Ev
namespace L2
open PySem PySem.Spec PyProof.Rows
theorem DZ{K:PySem.W.Frag}(h:wW K=true):∀r∈iG K,iG K=[r]/\PySem.W.codeHdIn K r.1 r.2.1=true/\K.lookup r.2.1=none:=λr m=>by
 have ok:=((aaH _ _).mp h).2
 split at ok
 .rename_i e;rw[e] at m;cases m
 .rename_i r' e;rw[e] at m;cases aaX.mp m;obtain⟨a,b⟩:=(aaH _ _).mp ok;exact⟨e,a,by simpa using b⟩
 .cases ok
def uE(K:PySem.W.Frag):Hp:=λb=>match iG K with
 |[r]=>if b=r.2.1 then some (.ie r.2.2.1 r.2.2.2) else none
 |_=>none
theorem aaj{P:Program}{w:World}{K:PySem.W.Frag}{mg mb:Str->Option Value}{CX:jU}{k:Nat}{fa a:Addr}{fd:FuncData}{x:Str}{sp:Sp}{bI:Shared}{vs:List Value}{ns:List Int}
  (KX:K.In bI.heap) (vJ:wW K=true) (xM:∀r∈iG K,bI.heap.get? r.2.1=some (PySem.W.tabObj #[])) (uM:bI.heap.Ns mainGlobals mg) (hb:bI.heap.Ns builtinsNs mb) (UC:∀x:Str,x≠"__name__"->mb x=bootBuiltins x) (Yl:bI.heap.NoLimit)
  (Yt:∃bm ob,mg "__builtins__"=some (.ref bm)/\bm≠builtinsNs/\bI.heap.get? bm=some ob/\ob.cls=.type "module"/\ob.dict=some builtinsNs/\ob.data=.plain) (hg:bI.gens=#[])
  (ha:bI.heap.get? a=some { cls:=.type "list",data:=.seq vs.toArray }) (hi:IntsAre vs ns) (hl:ns.length<=sizeLine) (hr:bq k callerA)
  (F:∀base:Heap,K.In base->base.Ns mainGlobals mg->b_ P w K mg base CX k fa fd [x] sp) (UZ:∀(s:Shared) (u:Value),BindsTo s fd ⟨[u],[]⟩ [(x,u)])
  (qt:∀H:Hp,Ev.qj K H a (ns.map V.int)->sp [.ref a] H (λv _=>v=.bl true) λ_ _ _=>False) (CU:∀H e s',CX [] H bI (λ_ _ _=>False) e s'->False) :
  codeAny (model P w) callerA (.call (.ref fa) ⟨[.ref a],[]⟩) (λr s'=>r=.ok (.ret (.bool true))/\OldK bI.heap s'.heap/\s'.os=bI.os/\AllBare s'.gens) bI:=by
 have rv:=GY hi;have X4:=hi.length;have tab_of:∀{b:Addr}{u:HO},uE K b=some u->∃r∈iG K,b=r.2.1/\u=.ie r.2.2.1 r.2.2.2:=λ{b u} e=>by
  unfold uE at e
  split at e
  .rename_i r er;obtain⟨h,e⟩:=ci e;cases e;exact⟨r,by rw[er];exact List.mem_singleton_self r,h,rfl⟩
  .cases e
 have Oz:∀r∈iG K,uE K r.2.1=some (.ie r.2.2.1 r.2.2.2):=λr m=>by
  unfold uE;rw[(DZ vJ r m).1];exact if_pos rfl
 have na:∀r∈iG K,r.2.1≠a:=λr m z=>by
  have:=xM r m;rw[z,ha] at this;cases this
 have core:∀H:Hp,Ev.qj K H a (ns.map V.int)->(∀b u,H b=some u->(b=a/\K.lookup a=none/\u=.d_ { cls:=.type "list",data:=.seq vs.toArray } (.lst (ns.map V.int)))\/∃r∈iG K,b=r.2.1/\u=.ie r.2.2.1 r.2.2.2)->(∀r∈iG K,H r.2.1=some (.ie r.2.2.1 r.2.2.2))->
   codeAny (model P w) callerA (.call (.ref fa) ⟨[.ref a],[]⟩) (λr s'=>r=.ok (.ret (.bool true))/\OldK bI.heap s'.heap/\s'.os=bI.os/\AllBare s'.gens) bI:=by
  intro H hS hA hL;have aH:dh P w H bI.heap:=λb u e=>by
   rcases hA b u e with⟨rfl,_,rfl⟩|⟨r,m,rfl,rfl⟩
   .exact⟨ha,by rw[List.length_map];exact hl,vs,_,rv,ha⟩
   .exact⟨#[],xM r m,.inl rfl⟩
  have free:∀{b:Addr}{o:Obj},bI.heap.get? b=some o->(∀xs n,o.data≠.seq xs n)->(∀xs,o.data≠.fields xs)->H b=none:=λ{b o} e d1 d2=>by
   cases q:H b with
   |none=>rfl
   |some u=>
    rcases hA b u q with⟨rfl,_,_⟩|⟨r,m,rfl,_⟩
    .rw[ha] at e;cases e;exact absurd rfl (d1 _ _)
    .rw[xM r m] at e;cases e;exact absurd rfl (d2 _)
  have za:∀{b:Addr}{m:Str->Option Value},bI.heap.Ns b m->(pF bI.heap H).Ns b m:=λ{b m} ⟨o,es,ep,e,d,r⟩=>⟨o,es,ep,B8 e (free e (λ_ _ z=>by rw[d] at z;cases z) λ_ z=>by rw[d] at z;cases z),d,r⟩
  have LF:K.In (pF bI.heap H):=λb o e=>B8 (KX b o e) (by
   cases q:H b with
   |none=>rfl
   |some u=>
    rcases hA b u q with⟨rfl,z,_⟩|⟨r,m,rfl,_⟩
    .rw[z] at e;cases e
    .rw[(DZ vJ r m).2.2] at e;cases e)
  obtain⟨bm,ob,b1,b2,b3,b4,b5,b6⟩:=Yt;have hM:Mod K mg (pF bI.heap H):=⟨LF,za uM,⟨mb,za hb,UC⟩,let⟨mc,h1,h2⟩:=Yl;⟨mc,za h1,h2⟩,bm,ob,b1,b2,B8 b3 (free b3 (λ_ _ z=>by rw[b6] at z;cases z) λ_ z=>by rw[b6] at z;cases z),b4,b5,b6⟩
  have e0:rV P w K mg (pF bI.heap H) callerA [] bI H:=⟨rfl,hM,λb o e=>Vp e,Nat.le_of_eq (VX _ _),trivial,λb hb=>absurd (show b∈([]:List Addr) from hb) (by simp),aH,.of_eq hg,⟨.inl rfl,vJ,hL⟩⟩
  refine codeAny_mono ((F _ LF (za uM)).run callerA [] bI H ⟨[.ref a],[]⟩ [.ref a] [.ref a] _ _ hr e0 (UZ bI (.ref a)) (.cons rfl .nil) (qt H hS)) λr s' h=>?_
  cases r with
  |error e=>exact(CU H e s' h).elim
  |ok fl=>
   cases fl with
   |next=>exact False.elim h
   |brk=>exact False.elim h
   |cont=>exact False.elim h
   |ret u=>
    obtain⟨v,H',os,bare,un,OJ,r',q⟩:=h;have q':=q;subst q';obtain rfl:u=Value.bool true:=r';refine⟨rfl,⟨λb o e=>?_,λb o e=>un.there b o e (by simp)⟩,os,bare⟩;cases q:H b with
    |none=>exact .inl (un.keep b o e q (by intro z;exact absurd (show b∈([]:List Addr) from z) (by simp)) (by simp))
    |some u=>
     rcases hA b u q with⟨rfl,_,rfl⟩|⟨r,m,rfl,rfl⟩
     .have z2:=un.kC b _ _ q;obtain⟨e1,_⟩:=aH b _ q;obtain⟨e2,_⟩:=OJ b _ z2;rw[e] at e1;cases e1;exact .inl e2
     .have z2:=un.kO r.2.1 (.ie _ _) q;obtain⟨ps,e2,_⟩:=OJ _ _ z2;rw[xM r m] at e;cases e;exact .inr (.inl ⟨((PySem.W.codeHd_of_K KX (DZ vJ r m).2.1).tab (xM r m)).isCodeTable,rfl,#[],ps,rfl,by simpa using e2⟩)
 cases hk:K.lookup a with
 |some o=>
  have e:=KX a o hk;rw[ha] at e;cases e;refine core (uE K) (.inr ⟨_,vs.toArray,_,hk,rfl,rfl,rfl,by rw[abG,X4];exact hl,by simpa using rv⟩) (λb u z=>.inr (tab_of z)) Oz
 |none=>
  refine core (λb=>if b=a then some (.d_ { cls:=.type "list",data:=.seq vs.toArray } (.lst (ns.map V.int))) else uE K b) (.inl ⟨{ cls:=.type "list",data:=.seq vs.toArray },if_pos rfl⟩) (λb u z=>?_) λr m=>(if_neg (na r m)).trans (Oz r m)
  by_cases hb:b=a
  .have z':=(if_pos hb).symm.trans z;cases z';exact .inl ⟨hb,hk,rfl⟩
  .exact .inr (tab_of ((if_neg hb).symm.trans z))
theorem Xg{l:PySem.W.OpenLaw}{XP:(Str->Option Value)->Heap->Prop}{YP:World->Heap->Prop}{K:Params->PySem.W.Frag}{CX:World->jU}{sp:World->Sp}
  (hn:l.most=some n) (Av:n<=sizeLine) (xG:d.params.defaults=[]) (hr:bq k callerA) (hY:∀(w:World) (h:Heap),YP w h->(K w.params).In h) (hT:∀(w:World) (h:Heap),YP w h->∀r∈iG (K w.params),h.get? r.2.1=some (PySem.W.tabObj #[])) (hL:∀w:World,wW (K w.params)=true)
  (F:∀(w:World) (mg:Str->Option Value) (fa:Addr) (h:Heap),(K w.params).In h->h.Ns mainGlobals mg->mg d.name=some (.ref fa)->
   ∃fd:FuncData,(∀(s:Shared) (u:Value),BindsTo s fd ⟨[u],[]⟩ [(x,u)])/\∀base:Heap,(K w.params).In base->base.Ns mainGlobals mg->b_ l.prog w (K w.params) mg base (CX w) k fa fd [x] (sp w))
  (qt:∀(w:World) (H:Hp) (a:Addr) (ns:List Int),ns.length<=n->Ev.qj (K w.params) H a (ns.map V.int)->sp w [.ref a] H (λv _=>v=.bl true) λ_ _ _=>False)
  (CU:∀(w:World) (H:Hp) (s:Shared) (e:Value) (s':Shared),CX w [] H s (λ_ _ _=>False) e s'->False) :
  PySem.W.WalkO q loose XP YP l.row.toRowW d [] (λf vs=>PySem.call f vs):=by
 refine PJ.acy hn xG λw dQ bI mg mb fa o pm cd doc a vs ns G Y ho hd mW wB Et hints hlen hg=>?_
 obtain⟨fd,hb,hF⟩:=F w mg fa _ (hY w _ Y) G.T.g wB;exact aaj (hY w _ Y) (hL w) (hT w _ Y) G.T.g G.T.b G.T.builtins G.T.nolimit G.T.bmain hg Et hints (ado hlen Av) hr hF hb (λH hS=>qt w H a ns hlen hS) λH e s'=>CU w H bI e s'
end L2
namespace L2.Ev
open PySem PySem.Spec PySem.W PyProof.Rows
structure Z where
 P:Program
 w:World
 K:Frag
 mg:Str->Option Value
 base:Heap
structure En(L:Ls)(z:Z):Prop where
 b:∀{x:Str},L.bt.contains x=true->z.mg x=none
 i:∀{x:Str}{n:Int},L.gi.lookup x=some n->∃t,z.mg x=some (.int n t)
 t:∀{x:Str}{l:List Str},L.tp.lookup x=some l->∃a,z.mg x=some (.ref a)/\yN z.K a l
 c:∀c:Str,L.cl.contains c=true->ClsAt z.K c (cA z.K c)
 m:∀{c:Str},L.cl.contains c=true->z.mg c=some (.ref (cA z.K c))
 n:∀{c a:Str},L.na.contains (c,a)=true->ji z.K (cA z.K c) a
 ni:L.ni=true->o8 z.K=true
 g:∀{c:Str},L.ex.contains c=true->nsIn z.K mainGlobals c=some (some (.ref (cA z.K c)))
 e:∀{c:Str},L.ex.contains c=true->z.mg c=some (.ref (cA z.K c))
 x:∀{c:Str},L.xc.contains c=true->NB z.K (cA z.K c)
 ct:∀{c:Str}{ns:List Str},L.ct.lookup c=some ns->acL z.K ns (cA z.K c)
 kt:∀{c:Str}{tb:List (Str×Bool)},L.kt.lookup c=some tb->aaO z.K tb (kv z.K c)
 ki:∀{c:Str}{p:List Str×List (Str×Bool)},L.ki.lookup c=some p->acS z.K p.2 (p.1.map (cA z.K))
def nM(s:Stmt):List Str:=(lF s).args.map (·.arg)
theorem IQ:∀{l:List Str}{us:List Value},us.map strOf=l.map some->aQ (l.map V.str) us
 |[],[],_=>.nil
 |[],_::_,e=>nomatch e
 |_::_,[],e=>nomatch e
 |a::l,u::us,e=>by
  obtain⟨e1,e2⟩:=List.cons.inj e;refine .cons ?_ (IQ e2);cases u<;>cases e1
  exact⟨_,rfl⟩
theorem Ze{K:Frag}(q:DI K x l=true):∃a,nsIn K mainGlobals x=some (some (.ref a))/\yN K a l:=by
 unfold DI at q
 split at q
 .rename_i a h;refine⟨a,h,?_⟩
  split at q
  .rename_i c au n sl h1;simp only[aaH,ad2,decide_eq_true_eq] at q;exact⟨_,au,_,h1,q.1.1,rfl,rfl,q.1.2,IQ q.2⟩
  .cases q
 .cases q
theorem pP{β:Type}{y:β}:∀{l:List (Str×β)},l.lookup x=some y->(x,y)∈l
 |[],e=>nomatch e
 |(a,b)::l,e=>by
  rw[adm] at e
  by_cases h:(x==a)=true
  .rw[h] at e;cases e;rw[eq_of_beq h];exact .head _
  .rw[show(x==a)=false by simpa using h] at e;exact .tail _ (pP e)
theorem IA{K:Frag}(h:ek K r=true):C_ K (cA K r):=by
 unfold ek at h;simp only[aaH,ad2] at h;obtain⟨⟨⟨⟨⟨⟨h1,h2⟩,h3⟩,h4⟩,h5⟩,h6⟩,h7⟩:=h;exact⟨h1,h2,h3,h4,h5,h6,h7,Zi h6⟩
theorem Z6{L:Ls}{K:Frag}(X:K.In h)(G:h.Ns mainGlobals mg)(q:r8 L K=true):En L ⟨P,w,K,mg,base⟩:=by
 unfold r8 at q;simp only[aaH,ac6,ad2] at q;obtain⟨⟨⟨⟨⟨⟨qi,qx⟩,q1⟩,q2⟩,q3⟩,q4⟩,q5⟩:=q;unfold P4 at qx;simp only[aaH,ac6,ad2,ada] at qx;obtain⟨⟨⟨⟨x1,x2⟩,x3⟩,x4⟩,x5⟩:=qx;have cx:∀{r:Str}{C:Addr},r∈L.ex->nsIn K mainGlobals r=some (some (.ref C))->C=cA K r:=λm e=>by
  rw[x1 _ m] at e;cases e;rfl
 have cl:∀c:Str,L.cl.contains c=true->ym K c=true:=λc h=>q4 c (ada.mp h)
 refine⟨λh=>mg_none_of X G (q1 _ (ada.mp h)),λ{x n} h=>?_,λh=>?_,λc h=>?_,λ{c} h=>?_,λh=>q5 _ (ada.mp h),λh=>?_,λh=>x1 _ (ada.mp h),λh=>mg_of X G (x1 _ (ada.mp h)),λh=>Sb (x2 _ (ada.mp h)),λh cn C h1 hn=>?_,λh cn b C h1 hn=>?_,λh cn b C h1 hn=>?_⟩
 .have:=q2 _ (pP h);unfold LL at this
  split at this
  .rename_i m t e;cases eq_of_beq this;exact⟨t,mg_of X G e⟩
  .cases this
 .obtain⟨a,e,t⟩:=Ze (q3 _ (pP h));exact⟨a,mg_of X G e,t⟩
 .have:=cl c h;unfold ym at this;simp only[aaH,ad2] at this;obtain⟨⟨⟨⟨⟨⟨h1,h2⟩,h3⟩,h4⟩,h5⟩,_⟩,_⟩:=this;exact⟨h1,⟨h2,h3,h4,h5⟩⟩
 .have:=cl c h;unfold ym at this;simp only[aaH,ad2] at this;exact mg_of X G this.1.1.1.1.1.1
 .rw[h] at qi;exact qi
 .obtain⟨⟨a1,a2⟩,a3⟩:=x3 _ (pP h);obtain⟨⟨b1,b2⟩,b3⟩:=a3 cn (ada.mp h1);cases cx b2 hn;exact abP (JD (x2 _ b1)) (JD (x2 _ a1)) b3 a2
 .obtain⟨⟨a1,a2⟩,a3⟩:=x4 _ (pP h) _ (pP h1);cases cx a1 hn;exact⟨IA a2,a3⟩
 .obtain⟨⟨a1,a2⟩,a3⟩:=x5 _ (pP h) _ (pP h1);cases cx a1 hn;exact⟨IA a2,a3⟩
theorem WK{L:Ls}{K:Frag}(q:r8 L K=true)(h:L.cl.contains c=true):makesIn K (cA K c)=true/\keepIn K (.ref (cA K c))=true:=by
 unfold r8 at q;simp only[aaH,ac6] at q;have:=q.1.2 c (ada.mp h);unfold ym at this;simp only[aaH] at this;exact⟨this.1.2,this.2⟩
theorem K3{K:Frag}{v:Option (Option Value)}(e:D5 K q v=some (fnOf x q (lF s) (gH s) (cB s) .none .none .none .none none .none .none)):∃f,v=some (some (.ref f))/\isFn K (.ref f)=true/\GL K x q s f:=by
 unfold D5 at e
 split at e
 .rename_i a
  split at e
  .rename_i oc od fd sl h;obtain⟨hc,e⟩:=ci e;simp only[aaH] at hc;refine⟨a,rfl,hc.2,?_⟩;obtain⟨n,qn,pa,bo,sc,gl,cl,df,kw,dc,pm,an,cd,ct,bi⟩:=fd;unfold Ic at e;injection e with e;injection e with e1 e2 e3 e4 e5 e6 e7 e8 e9 e10 LK e12 e13 e14 VI;subst e1 e2 e3 e4 e5 e6 e7 e8 VI;exact⟨_,_,_,_,_,_,_,_,_,h,hc.1.1,hc.1.2⟩
  .cases e
 .cases e
theorem Qd{K:Frag}{tab:List (Str×Stmt)}{i:Nat}{p:Str×Stmt}(t:tab.map (look K)=tab.map want)(e:tab[i]? = some p):look K p=want p:=by
 have:=congrArg (·[i]?) t;simp only[ab6,e,Option.map_some] at this;exact abO this
theorem Ow{K:Frag}{tab:List (Str×Stmt)}(i:Nat){s:Stmt}(t:tab.map (look K)=tab.map want)(e:tab[i]? = some (Str.empty,s)):Dh K (i7 s) s:=by
 obtain⟨f,h,_,g⟩:=K3 (Qd t e);exact⟨f,h,g⟩
theorem Mc{K:Frag}{tab:List (Str×Stmt)}(i:Nat){c:Str}{s:Stmt}(t:tab.map (look K)=tab.map want)(e:tab[i]? = some (c,s))(n:(c==Str.empty)=false):GM K (cA K c) (i7 s) (jA c s) s:=by
 obtain⟨f,h,i,g⟩:=K3 (Qd t e);refine⟨f,?_,i,g⟩;rw[n] at h;exact h
section
variable(z:Z)(k:Nat)(c:Str)(s:Stmt)(sp:Frag->Sp)(cm:Bool:=true)
def Z.D:Prop:=∀(f:Addr) (fd:FuncData),jJ z.K (i7 s) (jA c s) s f fd->b_ z.P z.w z.K z.mg z.base cT k f fd (nM s) (sp z.K) cm
def Z.N:Prop:=FN z.P z.w z.K z.mg z.base cT k (i7 s) (nM s) (sp z.K) cm
def Z.M:Prop:=MT z.P z.w z.K z.mg z.base cT k (cA z.K c) (i7 s) (nM s) (sp z.K) cm
def Z.I:Prop:=MI z.P z.w z.K z.mg z.base cT k (cA z.K c) (nM s) (sp z.K) cm
end
section
variable{P:Program}{w:World}{K:Frag}{mg:Str->Option Value}{base:Heap}{CX:jU}{k:Nat}{C:Addr}{x:Str}{ps:List Str}{sp:Sp}{cm:Bool}
theorem FN.G(W:FN P w K mg base CX k x ps sp cm):b_ P w K mg base CX k W.choose W.choose_spec.choose ps sp cm:=W.choose_spec.choose_spec.1
theorem FN.m(W:FN P w K mg base CX k x ps sp cm):mg x=some (.ref W.choose):=W.choose_spec.choose_spec.2.1
theorem FN.kp(W:FN P w K mg base CX k x ps sp cm):keepIn K (.ref W.choose)=true:=W.choose_spec.choose_spec.2.2.1
theorem FN.b(W:FN P w K mg base CX k x ps sp cm):Binds K W.choose_spec.choose ps []:=W.choose_spec.choose_spec.2.2.2
theorem MT.G(W:MT P w K mg base CX k C x ps sp cm):b_ P w K mg base CX k W.choose W.choose_spec.choose ps sp cm:=W.choose_spec.choose_spec.1
theorem MT.b(W:MT P w K mg base CX k C x ps sp cm):Binds K W.choose_spec.choose ps []:=W.choose_spec.choose_spec.2.1
theorem MT.t(W:MT P w K mg base CX k C x ps sp cm):lD K C x W.choose:=W.choose_spec.choose_spec.2.2
theorem MI.G(W:MI P w K mg base CX k C ps sp cm):b_ P w K mg base CX k W.choose W.choose_spec.choose ps sp cm:=W.choose_spec.choose_spec.1
theorem MI.b(W:MI P w K mg base CX k C ps sp cm):Binds K W.choose_spec.choose ps []:=W.choose_spec.choose_spec.2.1
theorem MI.M(W:MI P w K mg base CX k C ps sp cm):Mk K C W.choose:=W.choose_spec.choose_spec.2.2
end
def jV(s:Stmt):List Str:=(cB s).names.filterMap λy=>if y.2 == .local||y.2 == .cell then some y.1 else none
def yJ(n m:Nat)(s:Stmt):Prop:=pO (jV s) (nM s) (cB s)/\(nM s).length=n/\(jV s).length=m/\n<=m
section
variable{z:Z}{k n m:Nat}{c:Str}{s:Stmt}{b:SF}{x0 x1:Str}
theorem Z.oF(S:yJ n m s)(h:∀(f:Addr) (fd:FuncData) (aR:{c:Value // c=fd.code}) (A:Around) (o:List Env) (t:Shared) (H:Hp) (E:XK),bq k (A.deeper (envOfC (jA c s) (cB s) t.heap.objs.size f aR)) cm->(jV s).Nodup->FS (iQ cT z.P z.w z.K z.mg z.base (jV s) (jA c s) (cB s) f aR A o t H E cm).fX (gH s) b):
  z.D (k+1) c s (bh · (bK n m b)) cm:=by
 obtain⟨S,rfl,rfl,_⟩:=S;exact λ_ _ F=>Ni F S λaR A o t H E hr=>h _ _ aR A o t H E hr S.nd
theorem Z.oQ(S:yJ n m s)(h0:(jV s)[0]? = some x0)(h:∀(f:Addr) (aR:Value) (A:Around) (o:List Env) (t:Shared) (H:Hp) (E:XK),bq k (A.deeper (envOfC (jA c s) (cB s) t.heap.objs.size f aR))->(jV s).Nodup->EC im ((iQ cT z.P z.w z.K z.mg z.base (jV s) (jA c s) (cB s) f aR A o t H E).fX.jO [x0]) (gH s) b):
  z.D (k+1) c s (GC im · (runM n m b)):=by
 obtain⟨S,rfl,rfl,l⟩:=S;exact λ_ _ F=>VW F S h0 λaR A o t H E hr=>h _ aR A o t H E hr S.nd
theorem Z.oM(S:yJ n m s)(h0:(jV s)[0]? = some x0)(h:∀(f:Addr) (aR:Value) (A:Around) (o:List Env) (t:Shared) (H:Hp) (E:XK),bq k (A.deeper (envOfC (jA c s) (cB s) t.heap.objs.size f aR))->(jV s).Nodup->EC true ((iQ cT z.P z.w z.K z.mg z.base (jV s) (jA c s) (cB s) f aR A o t H E).fX.jO [x0]) (gH s) b):
  z.D (k+1) c s (cY · (runM n m b)):=λ_ _ F=>(Z.oQ S h0 h _ _ F).imp aag
end
section
variable{P:Program}{w:World}{K:Frag}{h:Heap}{mg:Str->Option Value}{base:Heap}{k:Nat}{c:Str}{s:Stmt}{sp:Frag->Sp}{cm:Bool}{tab:List (Str×Stmt)}{L:Ls}
theorem eV(X:K.In h)(G:h.Ns mainGlobals mg)(t:tab.map (look K)=tab.map want)(i:Nat)(o:Z.D ⟨P,w,K,mg,base⟩ k Str.empty s sp cm)(b:BA (i7 s) (i7 s) s (nM s):=by walk_at "ba")(e:tab[i]? = some (Str.empty,s):=by rfl):Z.N ⟨P,w,K,mg,base⟩ k s sp cm:=Z2 X G (Ow i t e) (λF=>o _ _ F) b
theorem cI(t:tab.map (look K)=tab.map want)(i:Nat)(o:Z.D ⟨P,w,K,mg,base⟩ k c s sp cm)(b:BA (i7 s) (jA c s) s (nM s):=by walk_at "ba")(e:tab[i]? = some (c,s):=by rfl)(n:(c==Str.empty)=false:=by rfl):Z.M ⟨P,w,K,mg,base⟩ k c s sp cm:=Yu (Mc i t e n) (λF=>o _ _ F) b
theorem Gq(t:tab.map (look K)=tab.map want)(q:r8 L K=true)(i:Nat)(o:Z.D ⟨P,w,K,mg,base⟩ k c s sp cm)(b:BA (i7 s) (jA c s) s (nM s):=by walk_at "ba")(e:tab[i]? = some (c,s):=by rfl)(n:(c==Str.empty)=false:=by rfl)(y:i7 s="__init__":=by rfl)(v:L.cl.contains c=true:=by rfl):Z.I ⟨P,w,K,mg,base⟩ k c s sp cm:=by
 have l:=Mc i t e n;obtain⟨a,b'⟩:=WK q v;obtain⟨f,e1,i,l⟩:=l;obtain⟨kp,fd,F⟩:=Ew l;rw[y] at e1;exact⟨f,fd,o _ _ F,F.binds b,⟨a,e1,i,b'⟩⟩
end
section
variable{x q:Str}{st:Stmt}{ps:List Str}
theorem ba_n(n:Nat)(h:ps.length=n)(e:∀(kV doc pm:Value) (an:Option Addr) (aR ct:Value) (f:Fin n->Value),bindArgs (fnOf x q (lF st) (gH st) (cB st) .none kV doc pm an aR ct) ⟨List.ofFn f,[]⟩=pure (ps.zip (List.ofFn f))):BA x q st ps:=λkV doc pm an aR ct us hl=>by
 obtain rfl:=hl.trans h;have:=e kV doc pm an aR ct λi=>us[(i:Nat)]
 rwa [List.ofFn_getElem] at this
end
section
variable{X:Cx}{pos:Pos}
theorem mY{x:Str}{n:Int}(h:∃t,X.mg x=some (.int n t))(hg:GD X x:=by exact⟨rfl,by decide⟩):FP X (.Name x pos) (eC (.int n)):=let⟨_,h⟩:=h;Rv h hg
theorem JX{x:Str}{ys:List Str}(h:∃t,X.mg x=some (.ref t)/\yN X.K t ys)(hg:GD X x:=by exact⟨rfl,by decide⟩):FP X (.Name x pos) (eC (.tup (ys.map D.str))):=let⟨_,h,t⟩:=h;Rp h t hg
end
theorem gA{X:Cx}{sc:Scope}{M:List Str}{js:List (Option Nat)}(h3:X.env.kindOf=λx=>X.env.scope.names.lookup x)(h:xK X.N X.env.scope sc M js=true):nE X M js sc:=Wl rfl rfl h3 h
section
variable{A:Z->Prop}{k:Nat}{c:Str}{s:Stmt}{cm:Bool}
noncomputable abbrev wF{F:List D->Option D}(_:∀z,A z->z.D k c s (bh · F) cm)(z:Z):Prop:=z.N k s (bh · F) cm
noncomputable abbrev wG{F:List D->Option D}(_:∀z,A z->z.D k c s (bh · F) cm)(z:Z):Prop:=z.M k c s (bh · F) cm
noncomputable abbrev wO{F:MF}(_:∀z,A z->z.D k c s (cY · F) cm)(z:Z):Prop:=z.M k c s (cY · F) cm
noncomputable abbrev wI{F:MF}(_:∀z,A z->z.D k c s (cY · F) cm)(z:Z):Prop:=z.I k c s (cY · F) cm
noncomputable abbrev fF{F:List D->Option D}(_:∀z,A z->z.D k c s (bh · F) cm):List D->Option D:=F
noncomputable abbrev fO{F:MF}(_:∀z,A z->z.D k c s (cY · F) cm):MF:=F
end
end L2.Ev
namespace L2.Ev
open PySem PySem.Spec PyProof.Rows
noncomputable abbrev JF:=List D->Option (D×List D)
noncomputable def mH(J:List Nat):Nat->List D->av
 |_,[]=>[]
 |i,d::r=>some (d,if J.contains i=true then Tag.own else Tag.sh [])::mH J (i+1) r
def mG(J:List Nat)(n N:Nat)(b:SF):JF:=λds=>if ds.length=n then(match b (mH J 0 ds++List.replicate (N - ds.length) none) with
 |some (.rt (.tup (r::es)))=>some (r,es)
 |some (.nx ρ)=>(jT J ρ).map λes=>(.aA,es)
 |_=>none) else none
structure Qx(K:PySem.W.Frag)(H:Hp)(J:List Nat)(C:List Addr)(y:Addr->Option Nat)(ds:List D)(vs:List V):Prop where
 ln:ds.length=vs.length
 sl:∀i d,ds[i]? = some d->∃v f,vs[i]? = some v/\Rep K H d v f/\(i∈J->f.Nodup/\∀a∈f,y a=some i)/\(i∉J->∀a∈f,y a=none)
 dm:∀a j,y a=some j->a∈C
 mu:∀a∈C,∃o,H a=some o/\gS o=true
def mF(J:List Nat)(K:PySem.W.Frag)(G:JF):Sp:=λvs H Q _=>∃ds C y r es,Qx K H J C y ds vs/\G ds=some (r,es)/\
 ∀H' v ck (nf:Nat->List Addr),aU H H'->(∀b o,b∉C->H b=some o->H' b=some o)->(∀k l a,a∈nf k->a∈nf l->k=l)->
  (∀k i,J[k]? = some i->∃d u,es[k]? = some d/\vs[i]? = some u/\Rep K H' d u (nf k)/\(nf k).Nodup/\∀a∈nf k,a∈C\/H a=none)->
  Rep K H' r v ck->ck.Nodup->(∀b∈ck,(b∈C\/H b=none)/\∀k,b∉nf k)->es.length=J.length->Q v H'
theorem N5{J:List Nat}:∀{ds:List D}{k i:Nat},(mH J k ds)[i]? = (ds[i]?).map λd=>some (d,if J.contains (k+i)=true then Tag.own else Tag.sh [])
 |[],k,i=>by simp[mH]
 |d::ds,k,0=>rfl
 |d::ds,k,i+1=>by
  show(mH J (k+1) ds)[i]? = _;rw[N5,Nat.add_right_comm];rfl
theorem Bm{J:List Nat}:∀{ds:List D}{k:Nat},(mH J k ds).length=ds.length
 |[],_=>rfl
 |d::ds,k=>by show(mH J (k+1) ds).length+1=_;rw[Bm];rfl
theorem Lb:∀{J:List Nat}{ρ:av}{es:List D},jT J ρ=some es->es.length=J.length/\∀(k i:Nat),J[k]? = some i->∃d,es[k]? = some d/\ρ[i]? = some (some (d,Tag.own))
 |[],ρ,es,h=>by cases h;exact⟨rfl,λk i e=>by simp at e⟩
 |j::J,ρ,es,h=>by
  unfold jT at h
  split at h
  .rename_i d e;obtain⟨qf,h',rfl⟩:=ab8.mp h;obtain⟨l,c⟩:=Lb h';refine⟨by rw[abQ,abQ,l],λk i e2=>?_⟩;cases k with
   |zero=>cases e2;exact⟨d,rfl,e⟩
   |succ k=>exact c k i e2
  .cases h
noncomputable def J5(N xs:List Str)(J:List Nat):Bool:=J.all λi=>match N[i]? with
 |some x=>x==("self":Str)||(!(xs.contains ("self":Str))&&!(!(xs.contains x)))
 |none=>false
section
variable{P:Program}{w:World}{K:PySem.W.Frag}{mg:Str->Option Value}{base:Heap}
theorem abp{J:List Nat}{xs:List Str}{x qual:Str}{st:Stmt}{f:Addr}{fd:FuncData}{N ps:List Str}{k:Nat}{b:SF}(F:jJ K x qual st f fd)(S:pO N ps (cB st))(h0:J5 N xs J=true)(hJ:J.Nodup)(qJ:ps.length<=N.length)
  (hb:∀(aR:Value) (A:Around) (outer:List Env) (s:Shared) (H:Hp) (E:XK),bq k (A.deeper (envOfC qual (cB st) s.heap.objs.size f aR))->FJ J false ((iQ cT P w K mg base N qual (cB st) f aR A outer s H E).fX.jO xs) (gH st) b) :
  b_ P w K mg base cT (k+1) f fd ps (mF J K (mG J ps.length N.length b)):=by
 have qO:∀{ds:List D}{r:D×List D},mG J ps.length N.length b ds=some r->ds.length=ps.length:=λ{ds r} e=>by
  unfold mG at e
  split at e
  .assumption
  .cases e
 refine F.ok S (λvs H Q E ⟨ds,C,y,r,es,a,e,_⟩=>?_) λaR A outer s H vs Q E hr ⟨ds,C,y,r,es,a,e,q⟩=>?_
 .rw[<- a.ln,qO e]
 .obtain⟨t,pt,sd⟩:=hb aR A outer s H E hr;refine⟨t,pt.jO rfl,?_⟩;have hl:=qO e;have ok:Ok K H C y [] (mH J 0 ds++List.replicate (N.length-ds.length) none) (start N vs) H:=by
   unfold start;refine⟨λi d t e=>?_,(λp m=>by cases m),(λa' j e=>⟨let⟨o,w,_⟩:=a.mu a' (a.dm a' j e);⟨o,w⟩,.inr (a.dm a' j e)⟩),(λa o e _=>e),?_⟩
   .by_cases hi:i<ds.length
    .rw[adi (by rw[Bm];exact hi),N5,aaQ hi] at e;cases e;obtain⟨v,g,hv,rv,h1,h2⟩:=a.sl i _ (aaQ hi);refine⟨v,g,(adi (by rw[List.length_map,<- a.ln];exact hi)).trans (by rw[ab6,hv];rfl),rv,?_⟩;rw[aeU]
     by_cases hj:i∈J
     .rw[if_pos (ada.mpr hj)];exact h1 hj
     .rw[if_neg λq=>hj (ada.mp q)];intro a' m j e;rw[h2 hj a' m] at e;cases e
    .rw[ads (by rw[Bm];lia),aek] at e
     split at e<;>cases e
   .simp only[abq,List.length_map,List.length_replicate,Bm];have:=a.ln
    lia
  have fin:∀{z:Addr->Option Nat}{ρ:av}{σ:St}{H':Hp}{v:V}{ck:List Addr},Ok K H C z [] ρ σ H'->jT J ρ=some es->Kp ((iQ cT P w K mg base N qual (cB st) f aR A outer s H E).fX.jO xs) (start N vs) σ->Rep K H' r v ck->ck.Nodup->(∀b∈ck,(H b=none\/b∈C)/\∀i∈J,z b≠some i)->Q v H':=by
   intro z ρ σ H' v ck aT h1 kp rr wV pM;obtain⟨le,at_⟩:=Lb h1;have ex:∀k:Nat,∃g:List Addr,(∀i,J[k]? = some i->∃d u,es[k]? = some d/\vs[i]? = some u/\Rep K H' d u g/\g.Nodup/\(∀a∈g,z a=some i))/\(J[k]? = none->g=[]):=λk=>by
    cases hk:J[k]? with
    |none=>exact⟨[],(λi e=>nomatch e),λ_=>rfl⟩
    |some i=>
     obtain⟨d,e1,e2⟩:=at_ k i hk;obtain⟨u,g,hs,r1,zz⟩:=aT.sl i d .own e2;refine⟨g,λi' e'=>?_,λe'=>nomatch e'⟩;cases e';refine⟨d,u,e1,?_,r1,zz.1,zz.2⟩;have hi:=ac6.mp h0 i (adA hk);cases hN:N[i]? with
     |none=>rw[hN] at hi;cases hi
     |some x=>
      rw[hN] at hi;have hk:=kp i x hN hi;rw[hs] at hk;have il:i<vs.length:=by
       by_cases hv:i<vs.length
       .exact hv
       .exfalso
        unfold start at hk;rw[ads (by rw[List.length_map];lia),aek] at hk
        split at hk<;>cases hk
      unfold start at hk;rw[adi (by rw[List.length_map];exact il),ab6] at hk;cases hv:vs[i]? with
      |none=>rw[hv] at hk;cases hk
      |some u'=>rw[hv] at hk;cases hk;rfl
   obtain⟨nf,hn⟩:=Classical.axiomOfChoice ex;have zk:∀k a,a∈nf k->∃i,J[k]? = some i/\z a=some i:=λk a m=>by
    cases hk:J[k]? with
    |none=>rw[(hn k).2 hk] at m;cases m
    |some i=>obtain⟨_,_,_,_,_,_,c⟩:=(hn k).1 i hk;exact⟨i,rfl,c a m⟩
   have iA:∀{c:Addr}{o:HO},H c=some o->gS o=false->H' c=some o:=λ{c o} e' mo=>aT.en c _ e' λm=>by
    obtain⟨o',w,lA⟩:=a.mu c m;rw[e'] at w;cases w;rw[mo] at lA;cases lA
   refine q H' v ck nf ⟨λc xs e'=>iA e' rfl,λc o u e'=>iA e' rfl,λc φ e'=>iA e' rfl⟩ (λc o n e'=>aT.en c o e' n) (λk l a m m'=>?_) (λk i e=>?_) rr wV (λc m=>⟨(pM c m).1.symm,λk m'=>?_⟩) le
   .obtain⟨i,h1,h2⟩:=zk k a m;obtain⟨j,h3,h4⟩:=zk l a m';rw[h2] at h4;cases h4;obtain⟨lk,ek⟩:=abf.mp h1;obtain⟨ll,el⟩:=abf.mp h3;exact(List.getElem_inj hJ).mp (ek.trans el.symm)
   .obtain⟨d,u,a1,a2,a3,a4,a5⟩:=(hn k).1 i e;exact⟨d,u,a1,a2,a3,a4,λa m=>((aT.zd a i (a5 a m)).2).symm⟩
   .obtain⟨i,h1,h2⟩:=zk k c m';exact(pM c m).2 i (adA h1) h2
  unfold mG at e;rw[if_pos hl] at e;cases ho:b (mH J 0 ds++List.replicate (N.length-ds.length) none) with
  |none=>rw[ho] at e;cases e
  |some o=>
   rw[ho] at e;refine sd ok ho ?_;cases o with
   |rt p=>
    have hp:p=.tup (r::es):=by
     split at e<;>rename_i hh
     .cases e;cases hh;rfl
     .cases hh
     .cases e
    exact⟨r,es,hp,λz ρ σ H' v ck aT h1 kp rr nd fr _=>fin aT h1 kp rr nd fr⟩
   |nx ρ'=>
    obtain⟨qf,h1,e2⟩:=ab8.mp e;cases e2;exact λz σ H' aT kp=>fin aT h1 kp .aA aco λb m=>nomatch m
   |bk _=>cases e
   |ct _=>cases e
   |er _ _ _=>cases e
end
def lW:av->List Nat->List D->av
 |ρ,j::js,e::es=>lW (bP ρ j e) js es
 |ρ,_,_=>ρ
theorem NT:∀{js:List Nat}{es:List D}{ρ:av},(lW ρ js es).length=ρ.length
 |[],_,_=>rfl
 |_::_,[],_=>rfl
 |j::js,e::es,ρ=>by show(lW (bP ρ j e) js es).length=_;rw[NT,zc]
theorem E7:∀{js:List Nat}{es:List D}{ρ:av}{j:Nat}{d:D}{t:Tag},js.length=es.length->j∉js->(lW ρ js es)[j]? = some (some (d,t))->ρ[j]? = some (some (d,t))/\∀o,t=.sh o->∀i∈js,i∉o
 |[],[],_,_,_,_,_,_,h=>⟨h,λ_ _ _ m=>nomatch m⟩
 |i::js,e::es,ρ,j,d,t,l,n,h=>by
  obtain⟨h1,h2⟩:=E7 (js:=js) (es:=es) (ρ:=bP ρ i e) (by simpa using l) (λm=>n (aal _ m)) h;obtain⟨h3,h4⟩:=CA (P:=False) (λq=>n (by rw[q];exact aam)) h1;refine⟨h3,λo ho k m=>?_⟩;rcases aaV.mp m with rfl|m
  .exact h4.resolve_left (λq=>q) o ho
  .exact h2 o ho k m
theorem Ou:∀{js:List Nat}{es:List D}{ρ:av}{j:Nat}{d:D},j∉js->ρ[j]? = some (some (d,.own))->(lW ρ js es)[j]? = some (some (d,.own))
 |[],_,_,_,_,_,h=>h
 |_::_,[],_,_,_,_,h=>h
 | i::js,e::es,ρ,j,d,n,h=>Ou (js:=js) (es:=es) (ρ:=bP ρ i e) (λm=>n (aal _ m)) (by
  unfold bP;rw[acO λq=>n (by rw[q];exact aam),ab6,h];rfl)
theorem N2:∀{js:List Nat}{es:List D}{ρ:av}{k j:Nat}{d:D},js.Nodup->js[k]? = some j->es[k]? = some d->j<ρ.length->(lW ρ js es)[j]? = some (some (d,.own))
 |[],_,_,_,_,_,_,h,_,_=>by simp at h
 |_::_,[],_,_,_,_,_,_,h,_=>by simp at h
 |i::js,e::es,ρ,0,j,d,n,h1,h2,l=>by
  cases h1;cases h2;exact Ou (js:=js) (aby.mp n).1 (ET (aaQ l))
 |i::js,e::es,ρ,k+1,j,d,n,h1,h2,l=>N2 (js:=js) (es:=es) (ρ:=bP ρ i e) (aby.mp n).2 h1 h2 (by rw[zc];exact l)
section
variable{K:PySem.W.Frag}{H0:Hp}{S:List Addr}{z:Addr->Option Nat}{aq:List bX}{ρ:av}{σ:St}{H H':Hp}
theorem Ok.T_{js:List Nat}{es:List D}{C:List Addr}{nf:Nat->List Addr}(ok:Ok K H0 S z aq ρ σ H)(nd:js.Nodup)(le:es.length=js.length)(old:∀j∈js,∃d,ρ[j]? = some (some (d,.own)))(im:aU H H')(hz:∀a∈C,∃j∈js,z a=some j)
  (keep:∀b o,b∉C->H b=some o->H' b=some o) (ap:∀k l a,a∈nf k->a∈nf l->k=l) (new:∀k j,js[k]? = some j->∃d v,es[k]? = some d/\σ[j]? = some (some v)/\Rep K H' d v (nf k)/\(nf k).Nodup/\∀a∈nf k,a∈C\/H a=none):∃z',Ok K H0 S z' aq (lW ρ js es) σ H':=by
 classical
 let N:Addr->Prop:=λa=>∃k,k<js.length/\a∈nf k
 let z':Addr->Option Nat:=λa=>if h:N a then js[Classical.choose h]? else if ∃j∈js,z a=some j then none else z a
 have z1:∀{a k j},js[k]? = some j->a∈nf k->z' a=some j:=λ{a k j} e m=>by
  have h:N a:=⟨k,(abf.mp e).1,m⟩
  show(if h:N a then js[Classical.choose h]? else _)=_;rw[dif_pos h,ap _ k a (Classical.choose_spec h).2 m,e]
 have z2:∀{a j},z' a=some j->(∃k,js[k]? = some j/\a∈nf k)\/(z a=some j/\j∉js):=λ{a j} e=>by
  have e:(if h:N a then js[Classical.choose h]? else if ∃j∈js,z a=some j then none else z a)=some j:=e
  by_cases h:N a
  .rw[dif_pos h] at e;exact .inl ⟨_,e,(Classical.choose_spec h).2⟩
  .rw[dif_neg h] at e
   by_cases h2:∃j∈js,z a=some j
   .rw[if_pos h2] at e;cases e
   .rw[if_neg h2] at e;exact .inr ⟨e,λm=>h2 ⟨j,m,e⟩⟩
 have at_:∀{k j},js[k]? = some j->j<ρ.length:=λ{k j} e=>let⟨_,h⟩:=old j (adA e);(abf.mp h).1
 have nC:∀{a},(∀j∈js,z a≠some j)->a∉C:=λh m=>let⟨j,mj,e⟩:=hz _ m;h j mj e
 have fr:∀{d v fp},Rep K H d v fp->(∀a∈fp,∀j∈js,z a≠some j)->Rep K H' d v fp:=λr h=>r.frame (λa m=>by
  obtain⟨o,w,_⟩:=r.b7 a m;rw[keep a o (nC (h a m)) w,w]) im
 have BL:∀{a k},k<js.length->a∈nf k->a∈C\/H a=none:=λ{a k} l m=>let⟨_,_,_,_,_,_,h⟩:=new k _ (aaQ l);h a m
 refine⟨z',λi d t e=>?_,λp m=>?_,λa j e=>?_,λa o e n=>?_,NT.trans ok.ln⟩
 .by_cases hi:i∈js
  .obtain⟨k,hk⟩:=aey hi;obtain⟨d',v,e1,e2,e3,e4,_⟩:=new k i hk;rw[N2 nd hk e1 (at_ hk)] at e;cases e;exact⟨v,nf k,e2,e3,e4,λa m=>z1 hk m⟩
  .obtain⟨e1,e2⟩:=E7 le.symm hi e;obtain⟨v,fp,hs,r,zz⟩:=ok.sl i d t e1;have hn:∀a∈fp,∀j∈js,z a≠some j:=λa m j mj q=>by
    cases t with
    |sh o=>exact e2 o rfl j mj (zz a m j q)
    |own=>have:=zz.2 a m;rw[q] at this;cases this;exact hi mj
    |lk=>have:=zz.2 a m;rw[q] at this;cases this;exact hi mj
   have hN:∀a∈fp,∀j,z' a=some j->z a=some j:=λa m j q=>by
    rcases z2 q with⟨k,hk,mk⟩|⟨q,_⟩
    .rcases BL (abf.mp hk).1 mk with c|c
     .exact(nC (hn a m) c).elim
     .obtain⟨o,w,_⟩:=r.b7 a m;rw[c] at w;cases w
    .exact q
   have x9:∀a∈fp,z' a=z a:=λa m=>by
    have h1:¬N a:=by
     rintro⟨k,l,mk⟩
     rcases BL l mk with c|c
     .exact nC (hn a m) c
     .obtain⟨o,w,_⟩:=r.b7 a m;rw[c] at w;cases w
    show(if h:N a then js[Classical.choose h]? else if ∃j∈js,z a=some j then none else z a)=_;rw[dif_neg h1,if_neg λ⟨j,mj,q⟩=>hn a m j mj q]
   refine⟨v,fp,hs,fr r hn,?_⟩;cases t with
   |sh o=>exact λa m j q=>zz a m j (hN a m j q)
   |own=>exact⟨zz.1,λa m=>(x9 a m).trans (zz.2 a m)⟩
   |lk=>exact⟨zz.1,λa m=>(x9 a m).trans (zz.2 a m)⟩
 .obtain⟨r,h⟩:=ok.hl p m;have hn:∀a∈p.fp,∀j∈js,z a≠some j:=λa ma j mj q=>let⟨d,e⟩:=old j mj;(h a ma j q).2 d e
  refine⟨fr r hn,λa ma j q=>?_⟩;rcases z2 q with⟨k,hk,mk⟩|⟨q,nj⟩
  .rcases BL (abf.mp hk).1 mk with c|c
   .exact(nC (hn a ma) c).elim
   .obtain⟨o,w,_⟩:=r.b7 a ma;rw[c] at w;cases w
  .exact⟨(h a ma j q).1,λd e=>(h a ma j q).2 d (E7 le.symm nj e).1⟩
 .rcases z2 e with⟨k,hk,mk⟩|⟨q,nj⟩
  .obtain⟨d',v,e1,e2,e3,e4,e5⟩:=new k j hk;refine⟨let⟨o,w,_⟩:=e3.b7 a mk;⟨o,w⟩,?_⟩;rcases e5 a mk with c|c
   .obtain⟨j,_,q⟩:=hz a c;exact(ok.zd a j q).2
   .cases h0:H0 a with
    |none=>exact .inl rfl
    |some o=>
     by_cases hS:a∈S
     .exact .inr hS
     .rw[ok.en a o h0 hS] at c;cases c
  .obtain⟨⟨o,w⟩,y⟩:=ok.zd a j q;exact⟨⟨o,keep a o (nC λi mi q'=>by rw[q] at q';cases q';exact nj mi) w⟩,y⟩
 .refine keep a o (λc=>?_) (ok.en a o e n);obtain⟨j,_,q⟩:=hz a c;rcases(ok.zd a j q).2 with w|w
  .rw[e] at w;cases w
  .exact n w
end
structure V0(K:PySem.W.Frag)(z:Addr->Option Nat)(H H':Hp)(ρ:av)(σ:St)(sl:List (Option Nat))(ps:List (D×Tag))(vs:List V)(C:List Addr):Prop where
 ln:ps.length=vs.length
 at_:∀(i:Nat) (p:D×Tag),ps[i]? = some p->∃v f s,vs[i]? = some v/\sl[i]? = some s/\Rep K H' p.1 v f/\(∀j,s=some j->σ[j]? = some (some v)/\(∃d,ρ[j]? = some (some (d,.own)))/\f.Nodup/\∀a∈f,z a=some j/\a∈C)/\(s=none->cu z H p.2 f)
 cc:∀a∈C,∃(i j:Nat),sl[i]? = some (some j)/\z a=some j/\∃o,H' a=some o/\gS o=true
def FB(X:Cx)(sl:List (Option Nat))(es:List Expr)(g:AF):Prop:=∃t,PA X es t/\∀{H0:Hp}{S:List Addr}{z:Addr->Option Nat}{aq:List bX}{ρ:av}{σ:St}{H:Hp}{Q:List V->Hp->Prop}{ps:List (D×Tag)},
 Ok X.K H0 S z aq ρ σ H->g ρ=some ps->(∀H' vs C,aF H H'->V0 X.K z H H' ρ σ sl ps vs C->Q vs H')->t σ H Q
noncomputable def uc(i:Nat)(g:AF):AF:=λρ=>match ρ[i]?,g ρ with
 |some (some (d,Tag.own)),some ps=>some ((d,.sh [i])::ps)
 |_,_=>none
section
variable{X:Cx}{e:Expr}{es:List Expr}{g:AF}{sl:List (Option Nat)}
theorem Bb:FB X [] [] aI:=⟨_,fU,@λ_ _ _ _ _ _ H _ _ _ e k=>by cases e;exact k H [] [] (.refl _) ⟨rfl,λi p e=>by simp at e,λa m=>nomatch m⟩⟩
theorem rX(i:Nat){x:Str}{p1:Pos}(hr:FB X sl es g)(va:VA X i x:=by walk_at "va")(hs:starEach (.Name x p1::es) X.env=(false,eval (.Name x p1) X.env)::starEach es X.env:=by rfl):FB X (some i::sl) (.Name x p1::es) (uc i g):=by
 obtain⟨t,p,q⟩:=hr;refine⟨_,dY va.pe p hs,@λH0 S z aq ρ σ H Q ps ok e k=>?_⟩;unfold uc at e
 split at e
 .rename_i d r h1 h2;cases e;obtain⟨v,f,hv,rv,zz⟩:=ok.sl i _ _ h1;refine⟨v,hv,q ok h2 λH' vs C s a=>k H' (v::vs) (f++C) s ⟨by rw[abQ,abQ,a.ln],λn p e=>?_,λb m=>?_⟩⟩
  .cases n with
   |zero=>cases e;exact⟨v,f,_,rfl,rfl,rv.same s,(λj e=>by cases e;exact⟨hv,⟨_,h1⟩,zz.1,λa m=>⟨zz.2 a m,abb _ m⟩⟩),λe=>nomatch e⟩
   |succ n=>
    obtain⟨v',f',s',a1,a2,a3,a4,a5⟩:=a.at_ n p e;exact⟨v',f',s',a1,a2,a3,λj e=>let⟨b1,b2,b3,b4⟩:=a4 j e;⟨b1,b2,b3,λa m=>⟨(b4 a m).1,aat _ (b4 a m).2⟩⟩,a5⟩
  .rcases abo.mp m with m|m
   .exact⟨0,i,rfl,zz.2 b m,(rv.same s).b7 b m⟩
   .obtain⟨n,j,c1,c2,c3⟩:=a.cc b m;exact⟨n+1,j,c1,c2,c3⟩
 .cases e
theorem mR{f:EF}(ha:FP X e f)(hr:FB X sl es g)(hs:starEach (e::es) X.env=(false,eval e X.env)::starEach es X.env:=by rfl):FB X (none::sl) (e::es) (ay f g):=by
 obtain⟨t,p,q⟩:=ha;obtain⟨t',p',q'⟩:=hr;refine⟨_,dY p p' hs,@λH0 S z aq ρ σ H Q ps ok e k=>?_⟩;obtain⟨d,tg,r,e1,e2,rfl⟩:=Dn e;refine q ok e1 λH1 v f1 s1 r1 g1=>?_
 refine q' (ok.same s1) e2 λH2 vs C s2 a=>k H2 (v::vs) C (s1.trans s2) ⟨by rw[abQ,abQ,a.ln],λn p e=>?_,λb m=>?_⟩
 .cases n with
  |zero=>cases e;exact⟨v,f1,_,rfl,rfl,r1.same s2,(λj e=>nomatch e),λ_=>g1⟩
  |succ n=>
   obtain⟨v',f',s',a1,a2,a3,a4,a5⟩:=a.at_ n p e;refine⟨v',f',s',a1,a2,a3,a4,λe=>?_⟩;have:=a5 e;cases ht:p.2 with
   |sh o=>rw[ht] at this;exact this
   |own=>rw[ht] at this;exact⟨this.1,λa m=>s1.free (this.2 a m)⟩
   |lk=>rw[ht] at this;exact⟨this.1,λa m=>s1.free (this.2 a m)⟩
 .obtain⟨n,j,c1,c2,c3⟩:=a.cc b m;exact⟨n+1,j,c1,c2,c3⟩
end
noncomputable def pG(js:List Nat):List (Option Nat)->List (D×Tag)->Bool
 |none::sl,p::ps=>(match p.2 with|.sh o=>o.all λx=>!(js.contains x)|_=>true)&&pG js sl ps
 |some _::sl,_::ps=>pG js sl ps
 |_,_=>true
theorem DL{js:List Nat}:∀{sl:List (Option Nat)}{ps:List (D×Tag)}{i:Nat}{p:D×Tag}{o:List Nat},pG js sl ps=true->sl[i]? = some none->ps[i]? = some p->p.2=.sh o->∀x∈o,x∉js
 |[],_,_,_,_,_,h,_,_=>by simp at h
 |_::_,[],_,_,_,_,_,h,_=>by simp at h
 |none::sl,p::ps,0,_,o,h,_,e,e2=>by
  cases e;unfold pG at h;rw[e2] at h;intro x m q;have:=ac6.mp (aew.mp h).1 x m;rw[ada.mpr q] at this;cases this
 |none::sl,p::ps,i+1,_,o,h,e0,e,e2=>DL (sl:=sl) (ps:=ps) (i:=i) (by unfold pG at h;exact(aew.mp h).2) e0 e e2
 |some _::sl,p::ps,0,_,o,h,e0,_,_=>by cases e0
 |some _::sl,p::ps,i+1,_,o,h,e0,e,e2=>DL (sl:=sl) (ps:=ps) (i:=i) h e0 e e2
def vt(js:List Nat)(sl:List (Option Nat))(G:JF)(g:AF):XR:=λρ=>match g ρ with
 |some ps=>if pG js sl ps=true then(G (ps.map (·.1))).map λw=>.ok w.1 (lW ρ js w.2) else none
 |none=>none
noncomputable abbrev XX(J js:List Nat)(sl:List (Option Nat)):Prop:=(∀i,i<sl.length->((sl[i]?).join.isSome=true->i∈J))/\J.length=js.length/\(∀k,k<J.length->sl[(J[k]?).getD 0]? = some (js[k]?))/\js.Nodup/\J.Nodup
section
variable{X:Cx}{x:Str}{p pos:Pos}{e:Expr}{es:List Expr}{k:Nat}{f:Addr}{fd:FuncData}{ps:List Str}{G:JF}{g:AF}{J:List Nat}
theorem Ad(js:List Nat)(sl:List (Option Nat))(GG:b_ X.prog X.w X.K X.mg X.base cT k f fd ps (mF J X.K G))(hr:bq k X.A)(hm:X.mg x=some (.ref f))(hk:PySem.W.keepIn X.K (.ref f)=true)(hb:Binds X.K fd ps [])(ha:FB X.fX sl (e::es) g)
  (hJ:XX J js sl:=by decide) (hg:GD X x:=by exact⟨rfl,by decide⟩) (he:starEach (e::es) X.env=(false,eval e X.env)::starEach es X.env:=by rfl) (hpl:(backTo pos (starEach es X.env)).any (·.1)=false:=by rfl) :
  FE X (.Call (.Name x p) (e::es) [] pos) (vt js sl G g):=by
 classical
 obtain⟨t,pa,sa⟩:=ha;obtain⟨j1,j2,j3,j4,j5⟩:=hJ;refine⟨_,Mz (M9 (X:=X.fX) GG hr hg.1 hm hk hb .nil mz pa hg.2 he hpl),@λH0 S z aq ρ σ H Q E r ok e0 kk=>?_⟩;unfold vt at e0;cases h1:g ρ with
 |none=>rw[h1] at e0;cases e0
 |some qs=>
  rw[h1] at e0;dsimp only at e0
  by_cases ow:pG js sl qs=true
  .rw[if_pos ow] at e0;obtain⟨w,h3,e0⟩:=ab8.mp e0;cases e0;refine sa ok h1 λH2 vs C s2 ai=>?_
   show mF J X.K G (vs++[]) H2 Q E0;rw[acH];have n_:=ok.same s2;have kJ:∀{k i:Nat},J[k]? = some i->∃j,js[k]? = some j/\sl[i]? = some (some j):=λ{k i} e=>by
    have l:=(abf.mp e).1;have:=j3 k l;rw[e] at this;exact⟨js[k]'(j2 ▸ l),aaQ _,this.trans (by rw[aaQ (j2 ▸ l)])⟩
   have iJ:∀{i j:Nat},sl[i]? = some (some j)->∃k,J[k]? = some i/\js[k]? = some j:=λ{i j} e=>by
    obtain⟨k,hk⟩:=aey (j1 i (abf.mp e).1 (by rw[e];rfl));obtain⟨j',a1,a2⟩:=kJ hk;rw[e] at a2;cases a2;exact⟨k,hk,a1⟩
   have inj:∀{i i' j:Nat},sl[i]? = some (some j)->sl[i']? = some (some j)->i=i':=λ{i i' j} e e'=>by
    obtain⟨k,a1,a2⟩:=iJ e;obtain⟨k',b1,b2⟩:=iJ e';obtain⟨l1,c1⟩:=abf.mp a2;obtain⟨l2,c2⟩:=abf.mp b2;cases(List.getElem_inj j4).mp (c1.trans c2.symm);rw[a1] at b1;cases b1;rfl
   let M:Addr->Nat->Prop:=λa i=>a∈C/\∃j,sl[i]? = some (some j)/\z a=some j
   let y:Addr->Option Nat:=λa=>if h:∃i,M a i then some (Classical.choose h) else none
   have y1:∀{a i},M a i->y a=some i:=λ{a i} m=>by
    show(if h:∃i,M a i then some (Classical.choose h) else none)=_;rw[dif_pos ⟨i,m⟩];obtain⟨_,j,b1,b2⟩:=Classical.choose_spec (⟨i,m⟩:∃i,M a i);obtain⟨_,j',c1,c2⟩:=m;rw[b2] at c2;cases c2;rw[inj b1 c1]
   refine⟨_,C,y,w.1,w.2,⟨by rw[List.length_map,ai.ln],λi d e=>?_,λa j e=>?_,λa m=>let⟨_,_,_,_,c⟩:=ai.cc a m;c⟩,h3,λH3 u ck nf im kp ap nw rr wV pM le=>?_⟩
   .rw[ab6] at e;obtain⟨q,hq,rfl⟩:=ab8.mp e;obtain⟨v,fp,s,a1,a2,a3,a4,a5⟩:=ai.at_ i q hq;refine⟨v,fp,a1,a3,λm=>?_,λn a m=>?_⟩
    .obtain⟨k,hk⟩:=aey m;obtain⟨j,_,b2⟩:=kJ hk;rw[a2] at b2;cases b2;obtain⟨_,_,c3,c4⟩:=a4 j rfl;exact⟨c3,λa m=>y1 ⟨(c4 a m).2,j,a2,(c4 a m).1⟩⟩
    .show(if h:∃i,M a i then some (Classical.choose h) else none)=_;rw[dif_neg]
     rintro⟨i',mc,j,b1,b2⟩
     cases s with
     |some j'=>obtain⟨k,hk,_⟩:=iJ a2;exact n (adA hk)
     |none=>
      have tg:=a5 rfl;obtain⟨k,_,hj⟩:=iJ b1;cases ht:q.2 with
      |sh o=>rw[ht] at tg;exact DL ow a2 hq ht j (tg a m j b2) (adA hj)
      |own=>rw[ht] at tg;obtain⟨⟨o,hw⟩,_⟩:=ok.zd a j b2;rw[tg.2 a m] at hw;cases hw
      |lk=>rw[ht] at tg;obtain⟨⟨o,hw⟩,_⟩:=ok.zd a j b2;rw[tg.2 a m] at hw;cases hw
   .have e:(if h:∃i,M a i then some (Classical.choose h) else none)=some j:=e
    by_cases h:∃i,M a i
    .obtain⟨_,m,_⟩:=h;exact m
    .rw[dif_neg h] at e;cases e
   .have st:∀{c:Addr}{o:HO},H3 c=some o->gS o=false->(if c∈ck then none else H3 c)=some o:=λ{c o} e mo=>by
     rw[if_neg λm=>?_]
     .exact e
     .obtain⟨o',w,lA⟩:=rr.b7 c m;rw[e] at w;cases w;rw[mo] at lA;cases lA
    have i4:aU H2 (λc=>if c∈ck then none else H3 c):=⟨λc xs e=>st (im.1 c xs e) rfl,λc o u e=>st (im.2.1 c o u e) rfl,λc φ e=>st (im.2.2 c φ e) rfl⟩
    have P:∃z',Ok X.K H0 S z' aq (lW ρ js w.2) σ (λc=>if c∈ck then none else H3 c):=by
     refine n_.T_ (js:=js) (es:=w.2) (C:=C) (nf:=nf) (H':=λc=>if c∈ck then none else H3 c) j4 (le.trans j2) (λj m=>?_) i4 (λa m=>?_) (λb o n e=>?_) ap (λk j e=>?_)
     .obtain⟨k,hk⟩:=aey m;have l:=(abf.mp hk).1;obtain⟨j',c1,c2⟩:=kJ (aaQ (j2 ▸ l:k<J.length));rw[hk] at c1;cases c1;obtain⟨d,u',_,b2,_⟩:=nw k _ (aaQ (j2 ▸ l:k<J.length));have lv:=(abf.mp b2).1;obtain⟨v,fp,s,a1,a2,a3,a4,a5⟩:=ai.at_ _ _ (aaQ (ai.ln ▸ lv));rw[c2] at a2;cases a2;exact(a4 _ rfl).2.1
     .obtain⟨i,j,c1,c2,_⟩:=ai.cc a m;obtain⟨k,_,hj⟩:=iJ c1;exact⟨j,adA hj,c2⟩
     .show(if b∈ck then none else H3 b)=some o;rw[if_neg λm=>?_]
      .exact kp b o n e
      .rcases(pM b m).1 with q|q
       .exact n q
       .rw[e] at q;cases q
     .have l:=(abf.mp e).1;obtain⟨j',c1,c2⟩:=kJ (aaQ (j2 ▸ l:k<J.length));rw[e] at c1;cases c1;obtain⟨d,u',b1,b2,b3,b4,b5⟩:=nw k _ (aaQ (j2 ▸ l:k<J.length));have lv:=(abf.mp b2).1;obtain⟨v,fp,s,a1,a2,a3,a4,a5⟩:=ai.at_ _ _ (aaQ (ai.ln ▸ lv));rw[c2] at a2;cases a2;rw[b2] at a1;cases a1;refine⟨d,u',b1,(a4 _ rfl).1,b3.frame (λa m=>if_neg λq=>(pM a q).2 k m) ⟨λc xs e=>st e rfl,λc o u e=>st e rfl,λc φ e=>st e rfl⟩,b4,b5⟩
    obtain⟨z',iN⟩:=P;refine kk z' _ H3 u ck iN (λc o e=>?_) rr ⟨wV,λa m=>if_pos m⟩;have e:(if c∈ck then none else H3 c)=some o:=e
    by_cases m:c∈ck
    .rw[if_pos m] at e;cases e
    .rw[if_neg m] at e;exact e
  .rw[if_neg ow] at e0;cases e0
end
open PySem PySem.Spec PySem.W PyProof.Rows
def oR:D->Option (List Key)
 |.tup ds=>match gP ds with
  |some ks=>if ks.all (λk=>k.isLeft)=true/\ks≠[] then some ks else none
  |none=>none
 |_=>none
theorem Rep.tk{K:Frag}{H:Hp}{d:D}{v:V}{fp:List Addr}{ks:List Key}(r:Rep K H d v fp)(ni:o8 K=true)(h:oR d=some ks):∃b,v=.ref b/\Tk H b (ks.map L2.kV):=by
 cases d with
 |tup ds=>
  obtain⟨b,xs,rfl,hq,rs⟩:=r.i8;unfold oR at h;dsimp only at h;cases hk:gP ds with
  |none=>rw[hk] at h;cases h
  |some k=>
   rw[hk] at h;dsimp only at h
   by_cases hc:k.all (λk=>k.isLeft)=true/\k≠[]
   .rw[if_pos hc] at h;cases h;obtain rfl:=az.keys rs hk;exact⟨b,rfl,OY hq ni hc.1 hc.2⟩
   .rw[if_neg hc] at h;cases h
 |_=>cases h
def uz(d1 d2 d3:D):Option D:=match d1,oR d2 with
 |.cU es,some k=>if aD ((aY es k).getD d3)=true then some ((aY es k).getD d3) else none
 |_,_=>none
section
variable{X:Cx}{a b c:Expr}{pos:Pos}{fa fb fc:EF}
theorem acD{apos fS:Pos}(hu:X.A.units+1<cLine)(ni:o8 X.K=true)(ha:FP X a fa)(hb:FP X b fb)(hc:FP X c fc)(m:M2 X a "get" apos b c fS:=by exact⟨rfl,rfl,rfl,rfl⟩):FP X (.Call (.Attribute a "get" apos) [b,c] [] fS) (e3 uz fa fb fc):=by
 obtain⟨ta,pa,sa⟩:=ha;obtain⟨tb,pb,sb⟩:=hb;obtain⟨tc,pc,sc⟩:=hc;exists 21,Em hu pa pb pc m;obtain⟨d1,t1,d2,t2,d3,t3,h1,h2,h3,h4,rfl⟩:=Oo e;unfold uz at h4
 split at h4
 .rename_i es ks hk
  split at h4
  .rename_i hi;cases h4;refine sa ok h1 λH1 x f1 s1 r1 _=>?_
   cases r1 with
   | @cU p ak _ fp h he rs=>
    refine⟨p,rfl,.inr ⟨ak,.inl h⟩,?_⟩;refine sb (ok.same s1) h2 λH2 y f2 s2 r2 _=>?_
    refine sc ((ok.same s1).same s2) h3 λH3 w f3 s3 r3 _=>?_
    obtain⟨bL,rfl,tK⟩:=r2.tk ni hk;refine⟨_,gq.t (k:=ks) (s3 _ _ (s2 _ _ h)) (Tk.aD tK (.of s3)),?_⟩;have uW:=(s1.trans s2).trans s3;obtain⟨i1,i2⟩:=oV (k:=ks) he ((rs.same s2).same s3);cases hv:aY es ks with
    |some d'=>
     rw[hv] at hi k;obtain⟨v,f,e1,r,_⟩:=i1 d' hv;have hn:=r.aD hi;subst hn;rw[e1];exact k H3 v [] uW r .nil
    |none=>
     rw[hv] at hi k;rw[i2 hv];have hn:=r3.aD hi;subst hn;exact k H3 w [] uW r3 .nil
  .cases h4
 .cases h4
def DW(i:Nat)(fk fv:EF):SF:=λρ=>match fv ρ,ρ[i]?,fk ρ with
 |some (d,_),some (some (.cU es,.own)),some (kd,_)=>match oR kd with
  |some k=>if(aD d&&aN (es.map (·.2))&&decide (es.length<sizeLine))=true then some (.nx (bP ρ i (.cU (putD es k d)))) else none
  |none=>none
 |_,_,_=>none
theorem UI(i:Nat){x:Str}{k v:Expr}{fk fv:EF}{p1 pos':Pos}(hu:X.A.units+1<cLine)(ni:o8 X.K=true)(hk:FP X k fk)(hv:FP X v fv)(va:VA X i x:=by walk_at "va")(hs:swapsWith v (some (.Subscript (.Name x p1) k pos')) pos.line X.env=pure false:=by rfl):
  eO X (.Assign [.Subscript (.Name x p1) k pos'] v pos) (DW i fk fv):=by
 obtain⟨tk,pk,sk⟩:=hk;obtain⟨tv,lG,sv⟩:=hv;exists 25,As hu va.pe pk lG hs;unfold DW at e
 split at e
 .rename_i d td es kd M6 h1 h2 h3;cases h4:oR kd with
  |none=>rw[h4] at e;cases e
  |some key=>
   rw[h4] at e;dsimp only at e
   by_cases hc:(aD d&&aN (es.map (·.2))&&decide (es.length<sizeLine))=true
   .rw[if_pos hc] at e;cases e;obtain⟨qN,CC⟩:=(aaH _ _).mp hc;obtain⟨qN,uV⟩:=(aaH _ _).mp qN;have hz:=aaK CC;refine sv ok h1 λH1 v HU s1 rv _=>?_
    obtain⟨xv,fp,cz,r,zz⟩:=(ok.same s1).sl i _ _ h2;refine⟨xv,cz,?_⟩;refine sk (ok.same s1) h3 λH2 y HW s2 rk _=>?_
    obtain⟨bL,rfl,tK⟩:=rk.tk ni h4;have r':=r.same s2;cases r' with
    | @cU a ak _ f h fY rs=>
     have hn:=rs.aD uV;subst hn;have yj:=rv.aD qN;subst yj;have hl:ak.length=es.length:=by have:=congrArg List.length fY;simpa using this.symm
     refine⟨a,_,rfl,oA.t (k:=key) h tK (by rw[hl];exact hz),?_⟩;have im:aU H2 (upd H2 a (.dT (putK ak key v))):=aU.upd h rfl;refine q z σ _ (Ok.zQ ((ok.same s1).same s2) h2 cz zz aam h rfl (.cU cG (vg fY) ?_)) (.refl _ _);exact Af fY (rs.frame (λa m=>nomatch m) im) ((rv.same s2).frame (λa m=>nomatch m) im)
   .rw[if_neg hc] at e;cases e
 .cases e
end
def yg(ρ:av)(j:Nat):av:=(ρ.map (cD j)).set j none
theorem Ok.out{K:Frag}{H0:Hp}{S:List Addr}{z:Addr->Option Nat}{aq:List bX}{ρ:av}{σ:St}{H:Hp}{j:Nat}{d:D}{v:V}{fp:List Addr}(ok:Ok K H0 S z aq ρ σ H)(hj:ρ[j]? = some (some (d,.own)))(r:Rep K H d v fp)(hz:∀a∈fp,z a=some j):
  ∃z',Ok K H0 S z' aq (yg ρ j) σ (λc=>if c∈fp then none else H c):=by
 classical
 have im:aU H (λc=>if c∈fp then none else H c):=by
  have st:∀{c:Addr}{o:HO},H c=some o->gS o=false->(if c∈fp then none else H c)=some o:=λ{c o} e mo=>by
   rw[if_neg λm=>?_]
   .exact e
   .obtain⟨o',w,lA⟩:=r.b7 c m;rw[e] at w;cases w;rw[mo] at lA;cases lA
  exact⟨λc xs e=>st e rfl,λc o u e=>st e rfl,λc φ e=>st e rfl⟩
 have fr:∀{d v g},Rep K H d v g->(∀a∈g,z a≠some j)->Rep K (λc=>if c∈fp then none else H c) d v g:=λr h=>r.frame (λa m=>if_neg λq=>h a m (hz a q)) im
 have at_:∀{a k},(if z a=some j then none else z a)=some k->z a=some k/\k≠j:=λ{a k} e=>by
  by_cases h:z a=some j
  .rw[if_pos h] at e;cases e
  .rw[if_neg h] at e;exact⟨e,λq=>h (q ▸ e)⟩
 refine⟨λa=>if z a=some j then none else z a,λk d t e=>?_,λp m=>?_,λa k e=>?_,λa o e n=>?_,?_⟩
 .unfold yg at e
  by_cases hk:k=j
  .subst hk;rw[adB (by rw[List.length_map];exact(abf.mp hj).1)] at e;cases e
  .rw[acO (adW hk),ab6] at e;obtain⟨s,e0,e⟩:=ab8.mp e;obtain⟨rfl,h2⟩:=CV e;obtain⟨v,g,hs,r1,zz⟩:=ok.sl k d t e0;have own:(∀a∈g,z a=some k)->∀a∈g,z a≠some j:=λh a m q=>by rw[h a m] at q;exact hk (abO q)
   cases t with
   |sh o=>exact⟨v,g,hs,fr r1 λa m q=>h2 o rfl (zz a m j q),λa m i e=>zz a m i (at_ e).1⟩
   |own=>exact⟨v,g,hs,fr r1 (own zz.2),zz.1,λa m=>(if_neg (own zz.2 a m)).trans (zz.2 a m)⟩
   |lk=>exact⟨v,g,hs,fr r1 (own zz.2),zz.1,λa m=>(if_neg (own zz.2 a m)).trans (zz.2 a m)⟩
 .obtain⟨r1,h⟩:=ok.hl p m;refine⟨fr r1 λa m q=>(h a m j q).2 d hj,λa m k e=>?_⟩;obtain⟨h1,h2⟩:=h a m k (at_ e).1;refine⟨h1,λd' q=>h2 d' ?_⟩;unfold yg at q;rw[acO (adW (at_ e).2),ab6] at q;obtain⟨s,e0,q⟩:=ab8.mp q;rw[e0,(CV q).1]
 .obtain⟨e1,e2⟩:=at_ e;obtain⟨⟨o,w⟩,y⟩:=ok.zd a k e1;exact⟨⟨o,(if_neg λm=>by rw[hz a m] at e1;exact e2 (abO e1).symm).trans w⟩,y⟩
 .show(if a∈fp then none else H a)=some o;rw[if_neg λm=>?_]
  .exact ok.en a o e n
  .rcases(ok.zd a j (hz a m)).2 with w|w
   .rw[e] at w;cases w
   .exact n w
 .unfold yg;rw[aet,List.length_map];exact ok.ln
def Ak(f0:EF)(j:Nat)(f2:EF):XR:=λρ=>match f0 ρ,ρ[j]?,f2 ρ with
 |some (d0,_),some (some (d,.own)),some (d2,.own)=>if aD d0=true then some (.ok (.tup [d0,d,d2]) (yg ρ j)) else none
 |_,_,_=>none
section
variable{X:Cx}{a b:Expr}{pos:Pos}{f0 f2:EF}
theorem RP(j:Nat){y:Str}{p1:Pos}{x1}(h0:FP X.fX a f0)(h2:FP X.fX b f2)(va:VA X.fX j y:=by walk_at "va")(hs:starEach [a,.Name y p1,b] X.env=(false,eval a X.env)::starEach [.Name y p1,b] X.env:=by rfl)(dG:starEach [.Name y p1,b] X.env=(false,eval (.Name y p1) X.env)::starEach [b] X.env:=by rfl)(AM:starEach [b] X.env=[(false,eval b X.env)]:=by rfl):
  FE X (.Tuple [a,.Name y p1,b] x1 pos) (Ak f0 j f2):=by
 classical
 obtain⟨t0,p0,q0⟩:=h0;obtain⟨t2,p2,q2⟩:=h2;refine⟨_,Mz (Ql (dY p0 (dY va.pe (dY p2 fU AM) dG) hs)),@λH0 S z aq ρ σ H Q E r ok e k=>?_⟩;unfold Ak at e
 split at e
 .rename_i d0 t d d2 e0 e1 e2
  by_cases hi:aD d0=true
  .rw[if_pos hi] at e;cases e;refine q0 ok e0 λH1 v0 g0 s1 r0 _=>?_
   have hn:=r0.aD hi;subst hn;obtain⟨v,fj,hv,rj,zz⟩:=ok.sl j _ _ e1;refine⟨v,hv,q2 (ok.same s1) e2 λH2 v2 g2 s2 r2 gg=>⟨by show(3:Nat)<=_;exact adO (Bt (by decide)),λc hc=>?_⟩⟩;obtain⟨z',aT⟩:=ok.out e1 rj zz.2;have sc:aF H2 (upd H2 c (.tup [v0,v,v2])):=λb o e=>by rw[aO (cK e hc)];exact e
   have sa:=(s1.trans s2).trans sc;refine k z' _ _ _ ([]++(fj++(g2++[]))) aT (λb o e=>?_) (.tup (bZ.of cG) (.cons (r0.same (s2.trans sc)) (.cons (rj.same sa) (.cons (r2.same sc) .nil)))) ⟨?_,λb m=>?_⟩
   .by_cases m:b∈fj
    .rw[show(if b∈fj then none else H b)=none from if_pos m] at e;cases e
    .exact sa b o ((if_neg m).symm.trans e)
   .rw[List.nil_append,acH];refine acE.mpr ⟨zz.1,gg.1,λa ma b mb e=>?_⟩;obtain⟨o,w,_⟩:=rj.b7 a ma;have:=s1.free (gg.2 b mb);rw[<- e,w] at this;cases this
   .rw[List.nil_append,acH] at m;rcases abo.mp m with m|m
    .exact if_pos m
    .show(if b∈fj then none else H b)=none;rw[s1.free (gg.2 b m)];split<;>rfl
  .rw[if_neg hi] at e;cases e
 .cases e
end
section
variable{z:Z}{k n m:Nat}{c:Str}{s:Stmt}{b:SF}
theorem Z.oJ(J:List Nat)(xs:List Str)(S:yJ n m s)(h0:J5 (jV s) xs J=true)(hJ:J.Nodup)(h:∀(f:Addr) (aR:Value) (A:Around) (o:List Env) (t:Shared) (H:Hp) (E:XK),bq k (A.deeper (envOfC (jA c s) (cB s) t.heap.objs.size f aR))->(jV s).Nodup->FJ J false ((iQ cT z.P z.w z.K z.mg z.base (jV s) (jA c s) (cB s) f aR A o t H E).fX.jO xs) (gH s) b):
  z.D (k+1) c s (mF J · (mG J n m b)):=by
 obtain⟨S,rfl,rfl,l⟩:=S;exact λ_ _ F=>abp F S h0 hJ l λaR A o t H E hr=>h _ aR A o t H E hr S.nd
end
section
variable{A:Z->Prop}{k:Nat}{c:Str}{s:Stmt}{cm:Bool}{J:List Nat}
noncomputable abbrev wJ{F:JF}(_:∀z,A z->z.D k c s (mF J · F) cm)(z:Z):Prop:=z.N k s (mF J · F) cm
noncomputable abbrev fJ{F:JF}(_:∀z,A z->z.D k c s (mF J · F) cm):JF:=F
end
end L2.Ev
namespace K94
open PySem L2 L2.Ev
local macro_rules | `(tactic| walk_at "s")=>`(tactic| exact ⟨⟨rfl,rfl,rfl,by decide +kernel,rfl,by decide +kernel,by decide +kernel⟩,rfl,rfl,by decide⟩)
set_option hygiene false
local macro_rules | `(tactic| exists 1,$a)=>`(tactic| exact Z.oF (by walk_at "s") fun _ _ _ _ _ _ _ _ hr nd=>by exact $a)
local macro_rules | `(tactic| exists 2,$a)=>`(tactic| exact Z.oM (by walk_at "s") rfl fun _ _ _ _ _ _ _ hr nd=>by exact $a)
local macro_rules | `(tactic| exists 6,$j,$x,$a)=>`(tactic| exact Z.oJ $j $x (by walk_at "s") rfl (by decide) fun _ _ _ _ _ _ _ hr nd=>by exact $a)
set_option hygiene true
theorem eW{z:Z}(E:En L z):ClsAt z.K "Changes" (cA z.K "Changes"):=E.c _ rfl
theorem aE{z:Z}(E:En L z):ClsAt z.K "Gate" (cA z.K "Gate"):=E.c _ rfl
theorem je{z:Z}(E:En L z):ClsAt z.K "Tally" (cA z.K "Tally"):=E.c _ rfl
def Cm:=λ(z:Z) (E:En L z)=>(by exists 1,(aS (bO 4 aB nd) (aS (dH (uS (gK (E.b rfl) (ah 0)) aB) (aJ (bO 4 (eZ (ah 0) (uO (ah 1) (gK (E.b rfl) (ah 0)))) nd)) eK) (aJ (bx (uO (uO (dZ (m5 (dZ (ah 4) (m5 (ah 1) (ah 1))) aB) aB) (ah 2)) (ah 3)))))):z.D 1 Str.empty (top 48) (bh · (bK 4 5 _)))
abbrev sL:=fF Cm
def uo:=wF Cm
def G0:=λ(z:Z) (E:En L z/\uo z)=>(by obtain⟨E,p⟩:=E;exists 1,(aS (bO 2 (dZ aB (bC p.G hr.m p.m p.kp p.b (ao (ah 0) (ao aB (ao aB (ao (ah 1) aG)))))) nd) (aS (bO 3 (dZ aB (bC p.G hr.m p.m p.kp p.b (ao (ah 0) (ao aB (ao aB (ao aB aG)))))) nd) (aS (dH (lS (bC p.G hr.m p.m p.kp p.b (ao (ah 0) (ao aB (ao aB (ao aB aG))))) aB) (aJ (bO 3 aB nd)) eK) (aS (bO 4 (dZ aB (bC p.G hr.m p.m p.kp p.b (ao (ah 0) (ao aB (ao aB (ao aB aG)))))) nd) (aJ (bx (jI (ao (ah 2) (ao (ah 3) (ao (ah 4) (ao (dZ (ah 4) (bC p.G hr.m p.m p.kp p.b (ao (ah 0) (ao aB (ao aB (ao aB aG)))))) aG))))))))))):z.D 2 Str.empty (top 49) (bh · (bK 2 5 _)))
abbrev acv:=fF G0
def ac4:=wF G0
def Gn:=λ(z:Z) (E:En L z)=>(by exists 1,(aJ (bx (oB (OO XM (E.b rfl) (E.b rfl) (ah 0)) (oB (Yr (OO VH (E.b rfl) (E.b rfl) (ah 0))) (sP (Yn (ah 1) (ah 0) (ah 2))))))):z.D 1 Str.empty (top 11) (bh · (bK 3 3 _)))
abbrev mP:=fF Gn
def yr:=wF Gn
def G7:=λ(z:Z) (E:En L z/\yr z)=>(by obtain⟨E,p⟩:=E;exists 1,(aJ (bx (oB (bC p.G hr.m p.m p.kp p.b (ao (ah 1) (ao aB (ao (mY (E.i rfl)) aG)))) (sP (bC p.G hr.m p.m p.kp p.b (ao (ah 0) (ao aB (ao (ah 1) aG)))))))):z.D 2 Str.empty (top 41) (bh · (bK 2 2 _)))
abbrev YR:=fF G7
def Oc:=wF G7
def O2:=λ(z:Z) (E:En L z)=>(by exists 2,(cN (bf (eB 0 (eW E) (E.n rfl) (fV aG)))):z.D 1 "Changes" (inClass (top 25) 0) (cY · (runM 1 1 _)))
def Wx:=wI O2
def BQ:=λ(z:Z) (E:En L z/\Oc z/\yr z/\Wx z)=>(by obtain⟨E,p,q,u⟩:=E;exists 2,(bg (gu (kZ (FW.ft (se (gI (bC q.G hr.m q.m q.kp q.b (ao (ah 1) (ao aB (ao (mY (E.i rfl)) aG))))) (se (gI (bC q.G hr.m q.m q.kp q.b (ao (ah 2) (ao aB (ao (mY (E.i rfl)) aG))))) (uh (gI (bC p.G hr.m p.m p.kp p.b (ao (ah 3) (ao (ah 4) aG))))))))) (cN nN) iZ) (bg (bf (eB 0 (aE E) (E.n rfl) (jI (ao (ah 1) (ao (ah 2) (ao (ah 3) (ao (ah 4) aG))))))) (bg (bf (eB 0 (aE E) (E.n rfl) (RC (eW E).ns u.M u.G hr.m (E.m rfl) u.b))) (bg (bf (eB 0 (aE E) (E.n rfl) (fV aG))) (bg (bf (eB 0 (aE E) (E.n rfl) (fV aG))) (bg (bf (eB 0 (aE E) (E.n rfl) Ho)) (bg (bf (eB 0 (aE E) (E.n rfl) KA)) (bg (bf (eB 0 (aE E) (E.n rfl) (fV aG))) (bg (bf (eB 0 (aE E) (E.n rfl) jH)) (bg (bf (eB 0 (aE E) (E.n rfl) (fV aG))) (bg (bf (eB 0 (aE E) (E.n rfl) (fV aG))) (bg (bf (eB 0 (aE E) (E.n rfl) aB)) (cN (bf (eB 0 (aE E) (E.n rfl) aB))))))))))))))):z.D 3 "Gate" (inClass (top 46) 0) (cY · (runM 5 5 _)))
abbrev Jh:=fO BQ
def Vr:=wI BQ
def GV:=λ(z:Z) (E:En L z/\uo z)=>(by obtain⟨E,p⟩:=E;exists 1,(aS (bO 3 Ho nd) (aS (jt rfl (Fp (E.b rfl) (bC p.G hr.m p.m p.kp p.b (ao (ah 0) (ao (ah 1) (ao aB (ao aB aG)))))) (bQ 4 nd) (aS (bO 5 (bC p.G hr.m p.m p.kp p.b (ao (ah 0) (ao (dZ (ah 1) (m5 aB (ah 4))) (ao aB (ao aB aG))))) nd) (aS (bO 6 (K8 (eT hr) (ah 2) (ah 5) aB) nd) (aS (dH (lS (bC p.G hr.m p.m p.kp p.b (ao (ah 0) (ao (dZ (ah 1) (ah 4)) (ao aB (ao aB aG))))) aB) (aJ (bO 6 (bC p.G hr.m p.m p.kp p.b (ao (ah 0) (ao (dZ (ah 1) (ah 4)) (ao aB (ao aB aG))))) nd)) eK) (aS (bO 7 (bC p.G hr.m p.m p.kp p.b (ao (ah 0) (ao (dZ (ah 1) (m5 aB (ah 4))) (ao aB (ao aB aG))))) nd) (aS (dH (lS (ah 7) (ah 6)) (aJ (bO 7 (dZ (ah 6) aB) nd)) eK) (aJ (zw 3 (eT hr) (ah 5) (jI (ao (ah 5) (ao (ah 6) (ao (ah 7) aG)))))))))))) (aJ (bx (iH (M:=["_law_slot","_law_news"]) (js:=[none,some 3]) (gA rfl (by kernel_rfl)) rfl (eS (vK rfl (E.b rfl) (ah 3))) (by decide) λs3 H3 fp=>⟨(bQ 0 (aaK rfl)),kM,(yM (eT hr) (ah 1) (ah 0))⟩))))):z.D 2 Str.empty (top 50) (bh · (bK 3 8 _)))
abbrev Fw:=fF GV
def abI:=wF GV
def De:=λ(z:Z) (E:En L z/\uo z/\abI z)=>(by obtain⟨E,p,q⟩:=E;exists 6,[2],["_law_values"],(bg (bf (bO 4 (fV aG) nd)) (bg (bf (dH (lS (bC p.G hr.m p.m p.kp p.b (ao (ah 0) (ao (ah 1) (ao aB (ao aB aG))))) aB) (aJ (A7 4 (hN:=nd) (M:=["_law_number","_law_script","_law_k"]) (js:=[none,some 0,some 1]) (gA rfl (by kernel_rfl)) rfl (xX (E.b rfl) aB (dZ (ah 3) aB)) (by decide) λs3 H3 fp=>⟨(bQ 0 (aaK rfl)),(o6 (lS (bC p.G hr.m p.m p.kp p.b (ao (ah 1) (ao (dZ (ah 2) (m5 aB (ah 0))) (ao aB (ao aB aG))))) aB)),(ah 0)⟩)) eK)) (bg (bf (JE 5 (RP 4 (bC p.G hr.m p.m p.kp p.b (ao (ah 0) (ao (ah 1) (ao aB (ao aB aG))))) (bC q.G hr.m q.m q.kp q.b (ao (ah 0) (ao (ah 1) (ao (ah 2) aG))))) nd)) (bg (bf (jt rfl (eS (Ac (ah 5) aB)) (qz rfl (gC (bQ 6 nd) (gC (bQ 7 nd) (gC (bQ 8 nd) rq)))) (aJ (zw 2 (eT hr) (ah 6) (ah 8))))) (cN (aa0 5)))))):z.D 3 Str.empty (top 51) (mF [2] · (mG [2] 4 9 _)))
abbrev acs:=fJ De
def Xr:=wJ De
def D_:=λ(z:Z) (E:En L z)=>(by exists 1,(aJ (bx (Hj rfl (E.b rfl) (iH (M:=["low","high"]) (js:=[none,none]) (gA rfl (by kernel_rfl)) rfl (LO (E.b rfl) (ah 0) (Ih JC OP (ah 0))) (by decide) λs3 H3 fp=>⟨(qz rfl (gC (bQ 0 (aaK rfl)) (gC (bQ 1 (aaK rfl)) rq))),kM,(Q6 (ah 0) (ah 1))⟩)))):z.D 1 Str.empty (top 12) (bh · (bK 1 1 _)))
abbrev abz:=fF D_
def Og:=wF D_
def EZ:=λ(z:Z) (E:En L z)=>(by exists 1,(aJ (bx (gK (E.b rfl) (bz (eW E) (E.n rfl) (ah 0))))):z.D 1 "Changes" (inClass (top 25) 2) (bh · (bK 1 1 _)))
abbrev F5:=fF EZ
def Gf:=wG EZ
def B4:=λ(z:Z) (E:En L z/\yr z/\Gf z)=>(by obtain⟨E,p,q⟩:=E;exists 1,(aJ (bx (bC p.G hr.m p.m p.kp p.b (ao (ah 1) (ao aB (ao (dg (eW E) q.t q.G hr.m q.b (ah 0)) aG)))))):z.D 2 "Changes" (inClass (top 25) 9) (bh · (bK 2 2 _)))
abbrev DE:=fF B4
def Cj:=wG B4
def BS:=λ(z:Z) (E:En L z/\yr z/\Og z)=>(by obtain⟨E,p,q⟩:=E;exists 1,(aS (jt rfl (eS (ah 0)) (qz rfl (gC (bQ 1 nd) (gC (bQ 2 nd) (gC (bQ 3 nd) rq)))) (aS (dH (kZ (FW.ft (se (gI (bC p.G hr.m p.m p.kp p.b (ao (ah 1) (ao aB (ao (mY (E.i rfl)) aG))))) (uh (gI (bC p.G hr.m p.m p.kp p.b (ao (ah 2) (ao aB (ao (mY (E.i rfl)) aG))))))))) (aJ (bx jH)) eK) (aJ (dH (FW.ft (vj (kZ (gI (bC p.G hr.m p.m p.kp p.b (ao (ah 3) (ao aB (ao (mY (E.i rfl)) aG)))))) (Au (lS (ah 2) (ah 3))))) (aJ (bx jH)) eK)))) (aJ (bx (bC q.G hr.m q.m q.kp q.b (ao (iH (M:=["edit"]) (js:=[none]) (gA rfl (by kernel_rfl)) rfl (eS (ah 0)) (by decide) λs3 H3 fp=>⟨(bQ 0 (aaK rfl)),kM,(eZ (ah 0) aB)⟩) aG))))):z.D 2 Str.empty (top 18) (bh · (bK 1 4 _)))
abbrev Th:=fF BS
def Zb:=wF BS
def G3:=λ(z:Z) (E:En L z/\yr z/\Og z/\Cj z/\Zb z)=>(by obtain⟨E,p,q,u,v⟩:=E;exists 1,(aS (dH (kZ (gI (bC p.G hr.m p.m p.kp p.b (ao (ah 1) (ao aB (ao (mY (E.i rfl)) aG)))))) (aJ (bx jH)) eK) (aS (dH (FW.ft (vj (kZ (gI (Hj rfl (E.b rfl) (iH (M:=["lean","self"]) (js:=[none,some 0]) (gA rfl (by kernel_rfl)) rfl (eS (ah 2)) (by decide) λs3 H3 fp=>⟨(bQ 0 (aaK rfl)),kM,(fq (eW E) u.t u.G hr.m u.b (ah 1) (ao (ah 0) aG))⟩)))) (Au (kZ (gI (bC q.G hr.m q.m q.kp q.b (ao (ah 2) aG))))))) (aJ (bx jH)) eK) (aJ (bx (oB (SA (gK (E.b rfl) (ah 3)) (mY (E.i rfl))) (sP (bC v.G hr.m v.m v.kp v.b (ao (ah 3) aG)))))))):z.D 3 "Changes" (inClass (top 25) 11) (bh · (bK 4 4 _)))
abbrev ZU:=fF G3
def Uq:=wG G3
def Co:=λ(z:Z) (E:En L z/\Uq z/\Gf z)=>(by obtain⟨E,p,q⟩:=E;exists 2,(bg (gu (kZ (gI (fq (eW E) p.t p.G hr.m p.b (ah 0) (ao (ah 1) (ao (ah 2) (ao (ah 3) aG)))))) (cN nN) iZ) (bg (gu (Bx (dg (eW E) q.t q.G hr.m q.b (ah 0)) (mY (E.i rfl))) (cN nN) iZ) (bg (bf (zS 0 (eW E) (E.n rfl) (jI (ao (ah 1) (ao (uT (E.b rfl) (ah 2)) (ao (uT (E.b rfl) (iH (M:=["edit"]) (js:=[none]) (gA rfl (by kernel_rfl)) rfl (eS (ah 3)) (by decide) λs3 H3 fp=>⟨(bQ 0 (aaK rfl)),kM,(uT (E.b rfl) (ah 0))⟩)) aG)))))) (cN (pV (dg (eW E) q.t q.G hr.m q.b (ah 0))))))):z.D 4 "Changes" (inClass (top 25) 1) (cY · (runM 4 4 _)))
abbrev zK:=fO Co
def SY:=wO Co
def Gs:=λ(z:Z) (E:En L z)=>(by exists 1,(aJ (bx (oB (MW (ah 1) (bz (aE E) (E.n rfl) (ah 0))) (oB (MW (ah 1) (bz (aE E) (E.n rfl) (ah 0))) (sP (QA (eT hr) (ah 1) (bz (aE E) (E.n rfl) (ah 0)))))))):z.D 1 "Gate" (inClass (top 46) 19) (bh · (bK 2 2 _)))
abbrev QJ:=fF Gs
def aa2:=wG Gs
def B9:=λ(z:Z) (E:En L z/\Gf z/\aa2 z)=>(by obtain⟨E,p,q⟩:=E;exists 1,(aJ (bx (iH (M:=["number","self"]) (js:=[none,some 0]) (gA rfl (by kernel_rfl)) rfl (xX (E.b rfl) aB (dZ (dg (eW E) p.t p.G hr.m p.b (bz (aE E) (E.n rfl) (ah 0))) aB)) (by decide) λs3 H3 fp=>⟨(bQ 0 (aaK rfl)),(o6 (gI (fq (aE E) q.t q.G hr.m q.b (ah 1) (ao (ah 0) aG)))),(ah 0)⟩))):z.D 2 "Gate" (inClass (top 46) 8) (bh · (bK 1 1 _)))
abbrev xJ:=fF B9
def xh:=wG B9
def F6:=λ(z:Z) (E:En L z/\Cj z)=>(by obtain⟨E,p⟩:=E;exists 1,(aS (dH (kZ (gI (fq (eW E) p.t p.G hr.m p.b (ah 0) (ao (ah 1) aG)))) (aJ M8) eK) (aJ (bx (eZ (bz (eW E) (E.n rfl) (ah 0)) (sE (ah 1) aB))))):z.D 3 "Changes" (inClass (top 25) 10) (bh · (bK 2 2 _)))
abbrev Tt:=fF F6
def GB:=wG F6
def Hs:=λ(z:Z) (E:En L z/\GB z)=>(by obtain⟨E,p⟩:=E;exists 1,(aJ (bx (jN (E.b rfl) (eZ (fq (eW E) p.t p.G hr.m p.b (ah 0) (ao (ah 1) aG)) aB)))):z.D 4 "Changes" (inClass (top 25) 4) (bh · (bK 2 2 _)))
abbrev E1:=fF Hs
def JI:=wG Hs
def Hw:=λ(z:Z) (E:En L z/\xh z/\JI z)=>(by obtain⟨E,p,q⟩:=E;exists 2,(cN (bf (jt rfl (eS (dg (aE E) p.t p.G hr.m p.b (ah 0))) (bQ 1 nd) (aS (A7 2 (hN:=nd) (M:=["lean","self"]) (js:=[none,some 0]) (gA rfl (by kernel_rfl)) rfl (eS (fq (eW E) q.t q.G hr.m q.b (bz (aE E) (E.n rfl) (ah 0)) (ao (ah 1) aG))) (by decide) λs3 H3 fp=>⟨(bQ 0 (aaK rfl)),(o6 (Ov (eT hr) (ah 0) (bz (aE E) (E.n rfl) (ah 1)))),(ah 0)⟩) (aJ (dH (Nh (ah 2)) (aJ (By 0 (eT hr) (aE E) (E.n rfl) (ah 1) (jI (ao gX (ao (eZ (ah 2) aB) aG))))) eK)))))):z.D 5 "Gate" (inClass (top 46) 24) (cY · (runM 1 3 _)))
abbrev Ar:=fO Hw
def V4:=wO Hw
def FL:=λ(z:Z) (E:En L z)=>(by exists 1,(aS (dH (Bx (HX (bz (je E) (E.n rfl) (ah 0)) gX) (bz (je E) (E.n rfl) (ah 0))) (aJ (bx gX)) eK) (aS (dH (Bx (HX (bz (je E) (E.n rfl) (ah 0)) gX) (bz (je E) (E.n rfl) (ah 0))) (aJ (bx gX)) eK) (aS (dH (Bx (gK (E.b rfl) (bz (je E) (E.n rfl) (ah 0))) (bz (je E) (E.n rfl) (ah 0))) (aJ (bx gX)) eK) (aJ (bx gX))))):z.D 1 "Tally" (inClass (top 40) 3) (bh · (bK 1 1 _)))
abbrev PZ:=fF FL
def M5:=wG FL
def Fi:=λ(z:Z) (E:En L z/\M5 z)=>(by obtain⟨E,p⟩:=E;exists 1,(aJ (bx (Ky (QF (eT hr) (ah 1) (bz (aE E) (E.n rfl) (ah 0))) (dg (je E) p.t p.G hr.m p.b (MY (eT hr) (bz (aE E) (E.n rfl) (ah 0)) (ah 1) (by exact λ_ _=>rfl))) gX))):z.D 2 "Gate" (inClass (top 46) 21) (bh · (bK 2 2 _)))
abbrev zx:=fF Fi
def B7:=wG Fi
def Hz:=λ(z:Z) (E:En L z)=>(by exists 1,(aJ (bx (uT (E.b rfl) (pK (bz (aE E) (E.n rfl) (ah 0)) (MZ (bz (aE E) (E.n rfl) (ah 0)) (ah 1)))))):z.D 1 "Gate" (inClass (top 46) 20) (bh · (bK 2 2 _)))
abbrev sG:=fF Hz
def G8:=wG Hz
def E5:=λ(z:Z) (E:En L z/\B7 z/\G8 z)=>(by obtain⟨E,p,q⟩:=E;exists 1,(aS (jt rfl (xX (E.b rfl) aB (dZ (gK (E.b rfl) (bz (aE E) (E.n rfl) (ah 0))) aB)) (bQ 1 nd) (aJ (dH (Rl (fq (aE E) p.t p.G hr.m p.b (ah 0) (ao (fq (aE E) q.t q.G hr.m q.b (ah 0) (ao (ah 1) aG)) aG)) (JX (E.t rfl))) (aJ (v_ 1)) eK))) (aJ (bx mQ))):z.D 3 "Gate" (inClass (top 46) 11) (bh · (bK 1 2 _)))
abbrev AZ:=fF E5
def B0:=wG E5
def BH:=λ(z:Z) (E:En L z)=>(by exists 1,(aJ (bx (abT rfl (E.b rfl) (iH (M:=["slot","old","new","values"]) (js:=[none,none,none,some 0]) (gA rfl (by kernel_rfl)) rfl (eS (ah 1)) (by decide) λs3 H3 fp=>⟨(qz rfl (gC (bQ 0 (aaK rfl)) (gC (bQ 1 (aaK rfl)) (gC (bQ 2 (aaK rfl)) rq)))),(o6 (zH (K8 (eT hr) (ah 3) (ah 0) aB) (ah 1))),(ah 0)⟩) mQ))):z.D 1 Str.empty (top 19) (bh · (bK 2 2 _)))
abbrev Gj:=fF BH
def GZ:=wF BH
def HN:=λ(z:Z) (E:En L z)=>(by exists 1,(aJ (bx (iH (M:=["slot","values"]) (js:=[none,some 0]) (gA rfl (by kernel_rfl)) rfl (eS (vK rfl (E.b rfl) (ah 0))) (by decide) λs3 H3 fp=>⟨(bQ 0 (aaK rfl)),(o6 (zH (yM (eT hr) (ah 1) (ah 0)) aB)),(jI (ao (ah 0) (ao (yM (eT hr) (ah 1) (ah 0)) aG)))⟩))):z.D 1 Str.empty (top 20) (bh · (bK 1 1 _)))
abbrev VG:=fF HN
def abN:=wF HN
def O9:=λ(z:Z) (E:En L z/\GZ z/\abN z)=>(by obtain⟨E,p,q⟩:=E;exists 1,(aS (bO 2 (Bq rfl (E.b rfl) (ah 0)) nd) (aS (jt rfl (eS (ah 1)) (bQ 3 nd) (aS (bO 4 (bC p.G hr.m p.m p.kp p.b (ao (ah 2) (ao (ah 3) aG))) nd) (aS (dH (abZ (ah 4) mQ) (aJ M8) eK) (aJ (jt rfl (eS (ah 3)) (qz rfl (gC (bQ 5 nd) (gC (bQ 6 nd) (gC (bQ 7 nd) rq)))) (aJ (zw 2 (eT hr) (ah 5) (ah 7)))))))) (aJ (bx (bC q.G hr.m q.m q.kp q.b (ao (ah 2) aG)))))):z.D 2 Str.empty (top 17) (bh · (bK 2 8 _)))
def Ub:=wF O9
def Cv:=λ(z:Z) (E:En L z/\GB z)=>(by obtain⟨E,p⟩:=E;exists 1,(aJ (bx (jN (E.b rfl) (eZ (fq (eW E) p.t p.G hr.m p.b (ah 0) (ao (ah 1) aG)) aB)))):z.D 4 "Changes" (inClass (top 25) 5) (bh · (bK 2 2 _)))
abbrev AJ:=fF Cv
def zW:=wG Cv
def Fc:=λ(z:Z) (E:En L z/\Ub z/\zW z)=>(by obtain⟨E,p,q⟩:=E;exists 1,(aJ (bx (bC p.G hr.m p.m p.kp p.b (ao (fV aG) (ao (iH (M:=["number","changes"]) (js:=[none,some 0]) (gA rfl (by kernel_rfl)) rfl (eS (ah 1)) (by decide) λs3 H3 fp=>⟨(bQ 0 (aaK rfl)),kM,(fq (eW E) q.t q.G hr.m q.b (ah 1) (ao (ah 0) aG))⟩) aG))))):z.D 5 Str.empty (top 26) (bh · (bK 2 2 _)))
abbrev aa1:=fF Fc
def IX:=wF Fc
def Dl:=λ(z:Z) (E:En L z/\IX z)=>(by obtain⟨E,p⟩:=E;exists 1,(aJ (bx (Bq rfl (E.b rfl) (bC p.G hr.m p.m p.kp p.b (ao (ah 0) (ao (pK (jN (E.b rfl) (ah 1)) (jN (E.b rfl) (ah 2))) aG)))))):z.D 6 Str.empty (top 32) (bh · (bK 3 3 _)))
abbrev Z0:=fF Dl
def YD:=wF Dl
def DA:=λ(z:Z) (E:En L z/\GB z)=>(by obtain⟨E,p⟩:=E;exists 1,(aJ (bx (eZ (fq (eW E) p.t p.G hr.m p.b (ah 0) (ao (ah 1) aG)) aB))):z.D 4 "Changes" (inClass (top 25) 3) (bh · (bK 2 2 _)))
abbrev BD:=fF DA
def TQ:=wG DA
def QC:SF:=(oq (GS 0 (aj 1) (kr (ay (e1 zC (bY "Changes" "rank_of" BD (aj 1) (ay (aj 0) aI))) (ay (aj 0) aI)))))
def D8:=λ(z:Z) (E:En L z/\TQ z)=>(by obtain⟨E,p⟩:=E;intro f fd F;obtain⟨oc,od,kV,doc,pm,an,cd0,ct,nW,rfl,lk,_⟩:=id F.ex;exact Ni (N:=["changes","numbers"]) F ⟨rfl,rfl,rfl,by decide +kernel,rfl,by decide +kernel,by decide +kernel⟩ λaR A outer s H E' hr=>by exact(aJ (bx (WG (x:="number") (y:="changes") 0 (E.b rfl) (ah 1) ⟨rfl,rfl,rfl,by decide +kernel,rfl,rfl,by decide +kernel,λ_ _ _ _ _ _ _=>rfl⟩ lk (congrArg (λc=>some (c,_,_)) aR.2.symm) (bq.depth (k:=0) (bq.in1 (bq.in1 hr.m))) (λf c' s H=>(jI (ao (ON (fq (eW E) p.t p.G (bq.deeper (bq.in1 (bq.in1 hr.m)) _) p.b (ah 1) (ao (ah 0) aG))) (ao (ah 0) aG))))))):z.D 8 Str.empty (top 31) (bh · (bK 2 2 QC)))
abbrev Ot:=fF D8
def QD:=wF D8
def Gm:=λ(z:Z) (E:En L z/\GZ z/\zW z)=>(by obtain⟨E,p,q⟩:=E;exists 1,(aJ (bx (TR (bC p.G hr.m p.m p.kp p.b (ao (ah 1) (ao (fq (eW E) q.t q.G hr.m q.b (ah 0) (ao (ah 2) aG)) aG))) mQ))):z.D 5 Str.empty (top 33) (bh · (bK 3 3 _)))
abbrev CB:=fF Gm
def Ru:=wF Gm
def GK:=λ(z:Z) (E:En L z/\QD z/\Ru z)=>(by obtain⟨E,p,q⟩:=E;exists 1,(aS (jt rfl (eS (bC p.G hr.m p.m p.kp p.b (ao (ah 0) (ao (ah 2) aG)))) (bQ 3 nd) (aJ (dH (gI (bC q.G hr.m q.m q.kp q.b (ao (ah 0) (ao (ah 1) (ao (ah 3) aG))))) (aJ (v_ 3)) eK))) (aJ (bx mQ))):z.D 9 Str.empty (top 30) (bh · (bK 3 4 _)))
abbrev AV:=fF GK
def Ra:=wF GK
def EO:=λ(z:Z) (E:En L z/\JI z)=>(by obtain⟨E,p⟩:=E;exists 1,(aS (bO 4 (Bq rfl (E.b rfl) (iH (M:=["number"]) (js:=[none]) (gA rfl (by kernel_rfl)) rfl (eS (pK (jN (E.b rfl) (ah 1)) (jN (E.b rfl) (ah 2)))) (by decide) λs3 H3 fp=>⟨(bQ 0 (aaK rfl)),kM,(jI (ao (ah 0) (ao jH aG)))⟩)) nd) (aJ (bx (iH (M:=["number","changes","here"]) (js:=[none,some 0,some 4]) (gA rfl (by kernel_rfl)) rfl (eS (ah 3)) (by decide) λs3 H3 fp=>⟨(bQ 0 (aaK rfl)),(o6 (gI (Hj rfl (E.b rfl) (iH (M:=["lean","here"]) (js:=[none,some 2]) (V5 (by decide +kernel)) rfl (eS (fq (eW E) p.t p.G hr.m p.b (ah 1) (ao (ah 0) aG))) (by decide) λs3 H3 fp=>⟨(bQ 0 (aaK rfl)),kM,(Uo (eT hr) (ah 0) (ah 1))⟩)))),(ah 0)⟩)))):z.D 5 Str.empty (top 28) (bh · (bK 4 5 _)))
abbrev AE:=fF EO
def NU:=wF EO
def FF:=λ(z:Z) (E:En L z/\YD z/\Ra z/\NU z/\zW z)=>(by obtain⟨E,p,q,u,v⟩:=E;exists 1,(aS (bO 5 (jN (E.b rfl) (ah 2)) nd) (aS (bO 6 (jN (E.b rfl) (ah 3)) nd) (aS (bO 7 (bC p.G hr.m p.m p.kp p.b (ao (ah 0) (ao (ah 1) (ao (ah 2) aG)))) nd) (aS (CK 4000 (wQ (gK (E.b rfl) (ah 5)) (ah 4)) (aS (bO 8 (bC q.G hr.m q.m q.kp q.b (ao (ah 0) (ao (ah 7) (ao (bC u.G hr.m u.m u.kp u.b (ao (ah 0) (ao (ah 1) (ao (ah 5) (ao (ah 6) aG))))) aG)))) nd) (aS (dH (zq (ah 8) mQ) (aJ (v_ 5)) eK) (aS (Ei 5 (ah 8)) (aS (WJ 6 (ah 8)) (aJ (jt rfl (eS (fq (eW E) v.t v.G hr.m v.b (ah 0) (ao (ah 8) aG))) (qz rfl (gC (bQ 9 nd) (gC (bQ 10 nd) (gC (bQ 11 nd) rq)))) (aJ (zw 7 (eT hr) (ah 9) (ah 11)))))))))) (aJ (v_ 5)))))):z.D 10 Str.empty (top 29) (bh · (bK 5 12 _)))
abbrev Hi:=fF FF
def ZN:=wF FF
def GQ:=λ(z:Z) (E:En L z/\B0 z/\G8 z/\B7 z)=>(by obtain⟨E,p,q,u⟩:=E;exists 2,(bg (gu (vn hr.units (dg (aE E) p.t p.G hr.m p.b (ah 0)) aB) (cN (pV jH)) iZ) (bg (bf (bO 1 (fq (aE E) q.t q.G hr.m q.b (ah 0) (ao aB aG)) nd)) (bg (bf (By 0 (eT hr) (aE E) (E.n rfl) (eZ (bz (aE E) (E.n rfl) (ah 0)) aB) (jI (ao gX (ao (uT (E.b rfl) (bz (aE E) (E.n rfl) (ah 0))) (ao (ah 1) (ao (fq (aE E) u.t u.G hr.m u.b (ah 0) (ao (ah 1) aG)) aG))))))) (bg (bf (eB 0 (aE E) (E.n rfl) (fV aG))) (cN (pV jH)))))):z.D 4 "Gate" (inClass (top 46) 26) (cY · (runM 1 2 _)))
abbrev Jq:=fO GQ
def R0:=wO GQ
def D7:=λ(z:Z) (E:En L z/\IX z)=>(by obtain⟨E,p⟩:=E;exists 1,(aJ (bx (bC p.G hr.m p.m p.kp p.b (ao (bz (aE E) (E.n rfl) (ah 0)) (ao (bz (aE E) (E.n rfl) (ah 0)) aG))))):z.D 6 "Gate" (inClass (top 46) 13) (bh · (bK 1 1 _)))
abbrev acB:=fF D7
def Ss:=wG D7
def F_:=λ(z:Z) (E:En L z/\GZ z)=>(by obtain⟨E,p⟩:=E;exists 1,(aJ (bx (bC p.G hr.m p.m p.kp p.b (ao (Bq rfl (E.b rfl) (ah 0)) (ao (ah 1) aG))))):z.D 2 Str.empty (top 16) (bh · (bK 2 2 _)))
abbrev Nm:=fF F_
def Wt:=wF F_
def Ft:=λ(z:Z) (E:En L z/\NU z/\xh z/\Ss z/\Wt z/\zW z)=>(by obtain⟨E,p,q,u,v,y⟩:=E;exists 2,(bg (gu (Nh (bz (aE E) (E.n rfl) (ah 0))) (cN (pV jH)) iZ) (bg (bf (bO 1 (bC p.G hr.m p.m p.kp p.b (ao (bz (aE E) (E.n rfl) (ah 0)) (ao (bz (aE E) (E.n rfl) (ah 0)) (ao (fV aG) (ao (dg (aE E) q.t q.G hr.m q.b (ah 0)) aG))))) nd)) (bg (bf (bO 2 (dg (aE E) u.t u.G hr.m u.b (ah 0)) nd)) (bg (bf (jt rfl (eS (ah 1)) (bQ 3 nd) (aJ (By 0 (eT hr) (aE E) (E.n rfl) (ah 3) (jI (ao gX (ao (bC v.G hr.m v.m v.kp v.b (ao (ah 2) (ao (fq (eW E) y.t y.G hr.m y.b (bz (aE E) (E.n rfl) (ah 0)) (ao (ah 3) aG)) aG))) aG))))))) (cN (pV (Z7 hr.units (ah 1) (fV aG)))))))):z.D 7 "Gate" (inClass (top 46) 27) (cY · (runM 1 4 _)))
abbrev Dt:=fO Ft
def acn:=wO Ft
def CD:=λ(z:Z) (E:En L z/\B0 z/\ZN z/\xh z/\R0 z/\acn z)=>(by obtain⟨E,p,q,u,v,y⟩:=E;exists 2,(bg (gu (zq (dg (aE E) p.t p.G hr.m p.b (ah 0)) mQ) (cN (bf (eB 0 (aE E) (E.n rfl) (bC q.G hr.m q.m q.kp q.b (ao (bz (aE E) (E.n rfl) (ah 0)) (ao (bz (aE E) (E.n rfl) (ah 0)) (ao (bz (aE E) (E.n rfl) (ah 0)) (ao (dg (aE E) u.t u.G hr.m u.b (ah 0)) (ao (eZ (bz (aE E) (E.n rfl) (ah 0)) aB) aG))))))))) iZ) (cN (Tw (aba (jd 0 (aE E) v.t v.G hr.m v.b) (jd 0 (aE E) y.t y.G hr.m y.b))))):z.D 11 "Gate" (inClass (top 46) 25) (cY · (runM 1 1 _)))
abbrev zR:=fO CD
def Zz:=wO CD
def BN:=λ(z:Z) (E:En L z/\B7 z)=>(by obtain⟨E,p⟩:=E;exists 1,(aJ (bx (oB (aac hr.units (ah 1) (bz (aE E) (E.n rfl) (ah 0))) (sP (Sw (fq (aE E) p.t p.G hr.m p.b (ah 0) (ao (ah 1) aG)) gX))))):z.D 3 "Gate" (inClass (top 46) 29) (bh · (bK 2 2 _)))
abbrev Ue:=fF BN
def WI:=wG BN
def Gu:SF:=(bV (c8 1 (e2 dW (aj 0) (eC (.int 0)))) (bV (c8 2 (aj 1)) (bV (jg (pJ (aj 0) (e1 (m6 (some 1) none) (aj 0))) (gT (d7 (gN 3) (d7 (gN 4) lZ))) (eN (tV (e2 qY (e2 j8 (aj 4) (aj 3)) (e2 j8 (aj 2) (aj 1)))) (bV (c8 1 (aj 3)) (c8 2 (aj 4))) gO)) (oq (e2 oDiv (e2 fZ (aj 1) (aj 2)) (eC (.int 2)))))))
def Cd:=λ(z:Z) (E:En L z)=>(by exists 1,(aS (bO 1 (eZ (ah 0) aB) nd) (aS (bO 2 (ah 1) nd) (aS (jt rfl (LO (E.b rfl) (ah 0) (Ih JC OP (ah 0))) (qz rfl (gC (bQ 3 nd) (gC (bQ 4 nd) rq))) (aJ (dH (uS (sE (ah 4) (ah 3)) (sE (ah 2) (ah 1))) (aS (bO 1 (ah 3) nd) (aJ (bO 2 (ah 4) nd))) eK))) (aJ (bx (WN (dZ (ah 1) (ah 2)) aB)))))):z.D 1 Str.empty (top 36) (bh · (bK 1 5 Gu)))
abbrev uY:=fF Cd
def Rm:=wF Cd
def BW:SF:=(bV (c8 4 (nO (tV (e2 iF (aj 1) (eC .aA))) (e2 fZ (aj 0) (eC (.int 1))) (aj 1))) (bV (c8 5 (gY [none,some 4] (f7 (aj 2)) (gN 0) (tV (e2 oLt (aj 0) (aj 1))) (aj 0))) (bV (gx (tV (e2 oLt (e1 gk (aj 5)) (e2 sQ (aj 3) (e2 j8 (aj 4) (eC (.int 1)))))) (bV (eN (jY (tV (e2 iF (aj 1) (eC .aA))) (tV (e2 (jB true) (aj 0) (aj 5)))) (k_ 5 (aj 0)) (k_ 5 (cC uY (ay (e2 fP (e2 fP (iU (ay (eC (.int 0)) aI)) (aj 5)) (iU (ay (aj 4) aI))) aI)))) (c8 5 (e1 lJ (aj 5)))) 4000) (rZ 5))))
def EE:=λ(z:Z) (E:En L z/\Rm z)=>(by obtain⟨E,p⟩:=E;exists 1,(aS (bO 4 (Ky (zq (ah 1) mQ) (dZ (ah 0) aB) (ah 1)) nd) (aS (A7 5 (hN:=nd) (M:=["place","end"]) (js:=[none,some 4]) (gA rfl (by kernel_rfl)) rfl (eS (ah 2)) (by decide) λs3 H3 fp=>⟨(bQ 0 (aaK rfl)),(o6 (wQ (ah 0) (ah 1))),(ah 0)⟩) (aS (CK 4000 (wQ (gK (E.b rfl) (ah 5)) (C1 rfl (E.b rfl) (ah 3) (sE (ah 4) aB))) (aS (dH (FW.ft (se (zq (ah 1) mQ) (uh (Ve (ah 0) (ah 5))))) (aJ (Ei 5 (ah 0))) (aJ (Ei 5 (bC p.G hr.m p.m p.kp p.b (ao (pK (pK (fV (ao aB aG)) (ah 5)) (fV (ao (ah 4) aG))) aG))))) (aJ (bO 5 (vK rfl (E.b rfl) (ah 5)) nd)))) (aJ (v_ 5))))):z.D 2 Str.empty (top 35) (bh · (bK 4 6 BW)))
abbrev Dv:=fF EE
def Va:=wF EE
def Dy:=λ(z:Z) (E:En L z/\WI z/\G8 z/\Va z/\B0 z)=>(by obtain⟨E,p,q,u,v⟩:=E;exists 1,(aS (bO 1 (gK (E.b rfl) (bz (aE E) (E.n rfl) (ah 0))) nd) (aS (A7 2 (hN:=nd) (M:=["place","self"]) (js:=[none,some 0]) (gA rfl (by kernel_rfl)) rfl (xX (E.b rfl) aB (dZ (ah 1) aB)) (by decide) λs3 H3 fp=>⟨(bQ 0 (aaK rfl)),(o6 (gI (fq (aE E) p.t p.G hr.m p.b (ah 1) (ao (fq (aE E) q.t q.G hr.m q.b (ah 1) (ao (ah 0) aG)) aG)))),(ah 0)⟩) (aJ (bx (iH (M:=["place","self"]) (js:=[none,some 0]) (gA rfl (by kernel_rfl)) rfl (eS (bC u.G hr.m u.m u.kp u.b (ao (ah 1) (ao (dg (aE E) v.t v.G hr.m v.b (ah 0)) (ao (ah 2) (ao (eZ (bz (aE E) (E.n rfl) (ah 0)) aB) aG)))))) (by decide) λs3 H3 fp=>⟨(bQ 0 (aaK rfl)),kM,(fq (aE E) q.t q.G hr.m q.b (ah 1) (ao (ah 0) aG))⟩))))):z.D 4 "Gate" (inClass (top 46) 28) (bh · (bK 1 3 _)))
abbrev Xs:=fF Dy
def X0:=wG Dy
def Ex:=λ(z:Z) (E:En L z/\V4 z/\Zz z/\X0 z)=>(by obtain⟨E,p,q,u⟩:=E;exists 2,(bg (bf (iE (jd 0 (aE E) p.t p.G hr.m p.b))) (bg (bf (Qv 4000 (Q7 (kZ (gI (bz (aE E) (E.n rfl) (ah 0)))) (aap (jd 0 (aE E) q.t q.G hr.m q.b))) (aJ (iE (jd 0 (aE E) p.t p.G hr.m p.b))))) (cN (bf (eB 0 (aE E) (E.n rfl) (dg (aE E) u.t u.G hr.m u.b (ah 0))))))):z.D 12 "Gate" (inClass (top 46) 23) (cY · (runM 1 1 _)))
abbrev ng:=fO Ex
def wH:=wO Ex
def E_:=λ(z:Z) (E:En L z/\SY z/\wH z)=>(by obtain⟨E,p,q⟩:=E;exists 2,(bg (bf (Tp 4 (FY.fz (Qt 0 (aE E) (E.n rfl) (eW E) p.t p.G hr.m p.b (ao (ah 1) (ao (ah 2) (ao (ah 3) aG))))) nd)) (bg (bf (iE (jd 0 (aE E) q.t q.G hr.m q.b))) (cN (pV (ah 4))))):z.D 13 "Gate" (inClass (top 46) 1) (cY · (runM 4 5 _)))
abbrev HQ:=fO E_
def Td:=wO E_
def DS:=λ(z:Z) (E:En L z)=>(by exists 1,(aJ (bx (jN (E.b rfl) (bz (aE E) (E.n rfl) (ah 0))))):z.D 1 "Gate" (inClass (top 46) 7) (bh · (bK 1 1 _)))
abbrev N_:=fF DS
def Nn:=wG DS
def DG:=λ(z:Z) (E:En L z)=>(by exists 1,(aJ (bx (bz (aE E) (E.n rfl) (ah 0)))):z.D 1 "Gate" (inClass (top 46) 12) (bh · (bK 1 1 _)))
abbrev VO:=fF DG
def YT:=wG DG
def HC:=λ(z:Z) (E:En L z/\wH z)=>(by obtain⟨E,p⟩:=E;exists 2,(bg (bf (eB 0 (aE E) (E.n rfl) jH)) (cN (bf (iE (jd 0 (aE E) p.t p.G hr.m p.b))))):z.D 13 "Gate" (inClass (top 46) 5) (cY · (runM 1 1 _)))
abbrev L4:=fO HC
def ND:=wO HC
def DM:=λ(z:Z) (E:En L z)=>(by exists 1,(aJ (bx (jN (E.b rfl) (bz (aE E) (E.n rfl) (ah 0))))):z.D 1 "Gate" (inClass (top 46) 10) (bh · (bK 1 1 _)))
abbrev HV:=fF DM
def DB:=wG DM
def Ce:=λ(z:Z) (E:En L z/\M5 z)=>(by obtain⟨E,p⟩:=E;exists 2,(bg (gu (Xo (ah 1) (JX (E.t rfl))) (cN nN) iZ) (bg (gu (zH (dg (je E) p.t p.G hr.m p.b (ah 0)) gX) (cN nN) iZ) (bg (bf (zS 0 (je E) (E.n rfl) (ah 1))) (cN (pV (dg (je E) p.t p.G hr.m p.b (ah 0))))))):z.D 2 "Tally" (inClass (top 40) 1) (cY · (runM 2 2 _)))
abbrev NR:=fO Ce
def T4:=wO Ce
def Hx:=λ(z:Z) (E:En L z/\Oc z)=>(by obtain⟨E,p⟩:=E;exists 2,(bg (gu (kZ (gI (bC p.G hr.m p.m p.kp p.b (ao (ah 1) (ao (ah 2) aG))))) (cN nN) iZ) (bg (bf (eB 0 (je E) (E.n rfl) (ah 1))) (bg (bf (eB 0 (je E) (E.n rfl) (ah 2))) (cN (bf (eB 0 (je E) (E.n rfl) (fV aG))))))):z.D 3 "Tally" (inClass (top 40) 0) (cY · (runM 3 3 _)))
abbrev vX:=fO Hx
def S8:=wI Hx
def Hy:=λ(z:Z) (E:En L z)=>(by exists 2,(bg (bf (eB 0 (aE E) (E.n rfl) (Tu (bz (aE E) (E.n rfl) (ah 0)) (sE (gK (E.b rfl) (ah 1)) (gK (E.b rfl) (bz (aE E) (E.n rfl) (ah 0))))))) (bg (bf (eB 0 (aE E) (E.n rfl) (jN (E.b rfl) (ah 1)))) (cN (bf (zS 0 (aE E) (E.n rfl) (ah 1)))))):z.D 1 "Gate" (inClass (top 46) 22) (cY · (runM 2 2 _)))
abbrev rP:=fO Hy
def aaz:=wO Hy
def E3:=λ(z:Z) (E:En L z/\T4 z/\S8 z/\aaz z/\wH z)=>(by obtain⟨E,p,q,u,v⟩:=E;exists 2,(bg (gu (aak hr.units (ah 1) (bz (aE E) (E.n rfl) (ah 0))) (cN nN) iZ) (ZP (eT hr) (E.ni rfl) (aE E) (E.n rfl) (je E) p.t p.G hr.m p.b (Mp (je E).ns q.M q.G hr.m (E.m rfl) q.b (ao (eZ (bz (aE E) (E.n rfl) (ah 0)) aB) (ao (eZ (bz (aE E) (E.n rfl) (ah 0)) aB) aG))) (bg (bf (Cq 0 (aE E) (E.n rfl) aB)) (bg (gu (zH (ah 4) gX) (cN (bf (zS 0 (aE E) (E.n rfl) (jI (ao (ah 1) (ao (ah 4) aG)))))) iZ) (bg (gu (lS (ah 4) gX) (cN (bf (iE (FY.fz (Ba 0 (aE E) u.t u.G hr.m u.b (ao (ah 1) aG)))))) iZ) (bg (bf (iE (jd 0 (aE E) v.t v.G hr.m v.b))) (cN (pV (ah 4))))))) nd)):z.D 13 "Gate" (inClass (top 46) 3) (cY · (runM 3 5 _)))
abbrev JJ:=fO E3
def Wu:=wO E3
def F4:=λ(z:Z) (E:En L z/\uo z)=>(by obtain⟨E,p⟩:=E;exists 1,(aS (bO 3 (ah 2) nd) (aS (jt rfl (eS (ah 1)) (bQ 4 nd) (aJ (bO 3 (uO (dZ (m5 (ah 3) aB) (ah 4)) aB) nd))) (aS (bO 5 (bC p.G hr.m p.m p.kp p.b (ao (ah 0) (ao (uO (ah 3) aB) (ao aB (ao aB aG))))) nd) (aS (dH (wQ (ah 5) (dZ aB (bC p.G hr.m p.m p.kp p.b (ao (ah 0) (ao aB (ao aB (ao aB aG))))))) (aJ (bx gX)) eK) (aS (dH (lS (ah 5) aB) (aJ (bx gX)) eK) (aJ (bx gX))))))):z.D 2 Str.empty (top 52) (bh · (bK 3 6 _)))
abbrev RW:=fF F4
def Zt:=wF F4
def DV:=λ(z:Z) (E:En L z/\DB z/\uo z/\Wu z/\Zt z)=>(by obtain⟨E,p,q,u,v⟩:=E;exists 6,[2,3],["_law_gate","_law_record"],(bg (bf (bO 4 (dg (aE E) p.t p.G hr.m p.b (ah 2)) nd)) (bg (bf (bO 5 (eZ (ah 4) (bC q.G hr.m q.m q.kp q.b (ao (ah 0) (ao (ah 1) (ao aB (ao (gK (E.b rfl) (ah 4)) aG)))))) nd)) (bg (bf (UI 3 (eT hr) (E.ni rfl) (ah 5) (dZ (acD (eT hr) (E.ni rfl) (ah 3) (ah 5) aB) aB))) (cN (bf (iE (FY.fz (Ba 2 (aE E) u.t u.G hr.m u.b (ao (ah 5) (ao (bC v.G hr.m v.m v.kp v.b (ao (ah 0) (ao (ah 5) (ao (sE (MY (eT hr) (ah 3) (ah 5) (by exact λ_ _=>rfl)) aB) aG)))) aG)))))))))):z.D 14 Str.empty (top 53) (mF [2,3] · (mG [2,3] 4 6 _)))
abbrev K_:=fJ DV
def KI:=wJ DV
def Cp:=λ(z:Z) (E:En L z/\Cj z/\wH z)=>(by obtain⟨E,p,q⟩:=E;exists 2,(bg (gu (kZ (gI (fq (eW E) p.t p.G hr.m p.b (bz (aE E) (E.n rfl) (ah 0)) (ao (ah 1) aG)))) (cN nN) iZ) (bg (gu (FW.ft (vj (K7 (ah 1) (bz (aE E) (E.n rfl) (ah 0))) (Au (Ov (eT hr) (ah 1) (bz (aE E) (E.n rfl) (ah 0)))))) (cN nN) iZ) (bg (gu (K7 (ah 1) (bz (aE E) (E.n rfl) (ah 0))) (cN (bf (eB 0 (aE E) (E.n rfl) (MZ (bz (aE E) (E.n rfl) (ah 0)) (SD (bz (aE E) (E.n rfl) (ah 0)) (ah 1)))))) iZ) (bg (bf (By 0 (eT hr) (aE E) (E.n rfl) (ah 1) (jI (ao gX aG)))) (bg (bf (Cq 0 (aE E) (E.n rfl) aB)) (cN (bf (iE (jd 0 (aE E) q.t q.G hr.m q.b))))))))):z.D 13 "Gate" (inClass (top 46) 2) (cY · (runM 2 2 _)))
abbrev Qa:=fO Cp
def VV:=wO Cp
def Gy:=λ(z:Z) (E:En L z/\wH z)=>(by obtain⟨E,p⟩:=E;exists 2,(bg (bf (eB 0 (aE E) (E.n rfl) (fV aG))) (bg (bf (eB 0 (aE E) (E.n rfl) jH)) (bg (bf (Cq 0 (aE E) (E.n rfl) aB)) (cN (bf (iE (jd 0 (aE E) p.t p.G hr.m p.b))))))):z.D 13 "Gate" (inClass (top 46) 4) (cY · (runM 1 1 _)))
abbrev Kl:=fO Gy
def L_:=wO Gy
def CS:=λ(z:Z) (E:En L z/\xh z/\Nn z/\uo z/\YT z/\ND z/\DB z/\KI z/\VV z/\L_ z)=>(by obtain⟨E,p,q,u,v,y,g,h,j,l⟩:=E;exists 6,[2,3],["_law_gate","_law_record"],(bg (bf (bO 4 (pK (dg (aE E) p.t p.G hr.m p.b (ah 2)) (dg (aE E) q.t q.G hr.m q.b (ah 2))) nd)) (bg (bf (bO 5 (bC u.G hr.m u.m u.kp u.b (ao (ah 0) (ao (ah 1) (ao aB (ao aB aG))))) nd)) (cN (bf (dH (gI (dg (aE E) v.t v.G hr.m v.b (ah 2))) (aJ (iE (jd 2 (aE E) y.t y.G hr.m y.b))) (aJ (dH (FW.ft (se (wQ (ah 5) aB) (uh (uS (gK (E.b rfl) (dg (aE E) g.t g.G hr.m g.b (ah 2))) aB)))) (aJ (E4 (Ad [2,3] [none,none,some 2,some 3] h.G hr.m h.m h.kp h.b (mR (ah 0) (mR (ah 1) (rX 2 (rX 3 Bb))))))) (aJ (dH (FW.ft (se (lS (ah 5) aB) (uh (uS (gK (E.b rfl) (ah 4)) aB)))) (aJ (iE (FY.fz (Ba 2 (aE E) j.t j.G hr.m j.b (ao (eZ (ah 4) (bC u.G hr.m u.m u.kp u.b (ao (ah 0) (ao (ah 1) (ao aB (ao (gK (E.b rfl) (ah 4)) aG)))))) aG))))) (aJ (dH (lS (ah 5) aB) (aJ (iE (jd 2 (aE E) l.t l.G hr.m l.b))) eK))))))))))):z.D 15 Str.empty (top 54) (mF [2,3] · (mG [2,3] 4 6 _)))
abbrev UJ:=fJ CS
def Zg:=wJ CS
def FQ:=λ(z:Z) (E:En L z)=>(by exists 1,(aJ (bx (jN (E.b rfl) (bz (aE E) (E.n rfl) (ah 0))))):z.D 1 "Gate" (inClass (top 46) 6) (bh · (bK 1 1 _)))
abbrev Qz:=fF FQ
def Rj:=wG FQ
def Dm:=λ(z:Z) (E:En L z)=>(by exists 1,(aJ (bx (iH (M:=["number","self"]) (js:=[none,some 0]) (gA rfl (by kernel_rfl)) rfl (eS (vK rfl (E.b rfl) (bz (aE E) (E.n rfl) (ah 0)))) (by decide) λs3 H3 fp=>⟨(bQ 0 (aaK rfl)),kM,(jI (ao (ah 0) (ao (yM (eT hr) (bz (aE E) (E.n rfl) (ah 1)) (ah 0)) aG)))⟩))):z.D 1 "Gate" (inClass (top 46) 9) (bh · (bK 1 1 _)))
abbrev ab4:=fF Dm
def Yi:=wG Dm
def ED:=λ(z:Z) (E:En L z)=>(by exists 1,(aJ (bx (jN (E.b rfl) (bz (aE E) (E.n rfl) (ah 0))))):z.D 1 "Gate" (inClass (top 46) 14) (bh · (bK 1 1 _)))
abbrev abi:=fF ED
def Xp:=wG ED
def o_law:=λ(z:Z) (E:En L z/\ac4 z/\Vr z/\Xr z/\Td z/\Zg z/\ND z/\DB z/\KI z/\xh z/\Nn z/\Rj z/\Yi z/\Xp z/\L_ z)=>(by obtain⟨E,p,q,u,v,y,g,h,j,l,m,a0,a1,a2,a3⟩:=E;exists 1,(aS (bO 1 (bC p.G hr.m p.m p.kp p.b (ao (ah 0) (ao aB aG))) nd) (aS (bO 2 (dZ aB (uO (eZ (ah 1) aB) aB)) nd) (aS (bO 3 (Mp (aE E).ns q.M q.G hr.m (E.m rfl) q.b (ao (eZ (ah 1) aB) (ao (ah 2) (ao (eZ (ah 1) aB) (ao (eZ (ah 1) aB) aG))))) nd) (aS (bO 4 Ho nd) (aS (bO 5 KA nd) (aS (bO 6 aB nd) (aS (jt rfl (Fp (E.b rfl) (C1 rfl (E.b rfl) aB (gK (E.b rfl) (ah 0)))) (bQ 7 nd) (aS (JE 8 (Ad [4] [none,none,some 4,none] u.G hr.m u.m u.kp u.b (mR (ah 0) (mR (ah 7) (rX 4 (mR (ah 6) Bb))))) nd) (aS (iE (FY.fz (Ba 3 (aE E) v.t v.G hr.m v.b (ao (Ac (ah 8) aB) (ao (Ac (ah 8) aB) (ao (Ac (ah 8) aB) aG)))))) (aJ (bO 6 (dZ (ah 6) aB) nd))))) (aS (jt rfl (xX (E.b rfl) aB (C1 rfl (E.b rfl) aB (gK (E.b rfl) (ah 0)))) (bQ 7 nd) (aJ (E4 (Ad [3,5] [none,none,some 3,some 5] y.G hr.m y.m y.kp y.b (mR (ah 0) (mR (ah 7) (rX 3 (rX 5 Bb)))))))) (aS (iE (jd 3 (aE E) g.t g.G hr.m g.b)) (aS (bO 9 (m5 (m5 (eZ (ah 1) aB) (ah 2)) (dZ (ah 6) (m5 (dZ (ah 6) aB) (eZ (ah 1) aB)))) nd) (aS (bO 10 aB nd) (aS (CK 4000 (FW.ft (se (uS (gK (E.b rfl) (dg (aE E) h.t h.G hr.m h.b (ah 3))) aB) (uh (Ti (ah 10) (ah 9))))) (aS (E4 (Ad [3,5] [none,none,some 3,some 5] j.G hr.m j.m j.kp j.b (mR (ah 0) (mR (ah 10) (rX 3 (rX 5 Bb)))))) (aJ (bO 10 (dZ (ah 10) aB) nd)))) (aS (dH (FW.ft (vj (uS (ah 10) (ah 9)) (vj (vn hr.units (dg (aE E) m.t m.G hr.m m.b (ah 3)) (fV aG)) (Au (vn hr.units (dg (aE E) l.t l.G hr.m l.b (ah 3)) (fV aG)))))) (aJ (bx jH)) eK) (aS (bO 11 (vK rfl (E.b rfl) (pK (dg (aE E) a0.t a0.G hr.m a0.b (ah 3)) (iH (M:=["_law_one"]) (js:=[none]) (gA rfl (by kernel_rfl)) rfl (eS (dg (aE E) a1.t a1.G hr.m a1.b (ah 3))) (by decide) λs3 H3 fp=>⟨(bQ 0 (aaK rfl)),kM,(eZ (ah 0) aB)⟩))) nd) (aS (dH (vn hr.units (ah 11) (iH (M:=["_law_k"]) (js:=[none]) (gA rfl (by kernel_rfl)) rfl (Fp (E.b rfl) (ah 6)) (by decide) λs3 H3 fp=>⟨(bQ 0 (aaK rfl)),kM,(dZ (ah 0) aB)⟩)) (aJ (bx jH)) eK) (aS (dH (vn hr.units (uT (E.b rfl) (dg (aE E) a0.t a0.G hr.m a0.b (ah 3))) (eZ (pK (fV (ao (jI aG) aG)) (dg (aE E) a2.t a2.G hr.m a2.b (ah 3))) (ON aB))) (aJ (bx jH)) eK) (aS (iE (jd 3 (aE E) a3.t a3.G hr.m a3.b)) (aS (iE (jd 3 (aE E) g.t g.G hr.m g.b)) (aJ (bx (oB (CL hr.units (dg (aE E) h.t h.G hr.m h.b (ah 3)) (fV aG)) (oB (CL hr.units (dg (aE E) m.t m.G hr.m m.b (ah 3)) (fV aG)) (sP (CL hr.units (dg (aE E) l.t l.G hr.m l.b (ah 3)) (fV aG))))))))))))))))))))))))):z.D 16 Str.empty (top 55) (bh · (bK 1 12 _)))
abbrev vp:=fF o_law
end K94
namespace K94
open PySem L2 L2.Ev
theorem cL(h:f ρ=some (d,.own)):oq f ρ=some (.rt d):=by rw[Aj,h];rfl
theorem yu:mP [.int v,.int a,.int b]=some (.bl (decide (a<=v)&&decide (v<=b))):=by
 refine cg rfl (cL ?_);show(match some (D.bl (decide (a<=v))) with|some (.bl true)=>some (D.bl (decide (v<=b)),Tag.own)|some (.bl false)=>some (.bl false,.own)|_=>none)=_;cases decide (a<=v)<;>rfl
noncomputable def iL(l:List Int):D:=.lst (l.map D.int)
noncomputable abbrev Ed:=Int×Int×Int
noncomputable def dT(p:Ed):D:=.tup [.int p.1,.int p.2.1,.int p.2.2]
def eL(E:List Ed):D:=.lst (E.map dT)
theorem vq:∀E:List Ed,aN (E.map dT)=true
 |[]=>rfl
 |p::r=>by rw[aas];unfold aN;rw[vq r];rfl
theorem JA:∀bs:List Bool,lU (bs.map D.bl)=some bs
 |[]=>rfl
 |b::r=>by rw[aas];unfold lU;rw[JA r];rfl
theorem JT{bs:List Bool}:vH (.lst (bs.map D.bl))=some (.bl (bs.all id)):=by
 show(lU (bs.map D.bl)).map (λbs=>D.bl (bs.all id))=_;rw[JA];rfl
theorem mC{α β:Type}(f:α->β):∀l:List α,l.filterMap (λx=>some (f x))=l.map f
 |[]=>rfl
 |a::l=>by rw[adv,aas];show _::_=_;rw[mC f l]
abbrev g2:GF:=gT (d7 (gN 0) (d7 (gN 1) lZ))
theorem size_le(h:n<=10000):n<sizeLine:=by unfold sizeLine;omega
theorem LG{k:Nat}(hk:k<=ds.length):cutD ds (some (k:Int)) none=ds.drop k:=by
 unfold cutD;rw[HT.Fk,HT.EV,Nat.min_eq_left hk,List.take_of_length_le (by rw[List.length_drop];exact abu _)]
theorem N6{k:Nat}(hk:k<=ds.length):cutD ds none (some (k:Int))=ds.take k:=by
 unfold cutD;rw[HT.Fk,HT.EV,Nat.min_eq_left hk];rfl
theorem aau:cutD ds (some 1) none=ds.drop 1:=by
 cases ds with
 |nil=>rfl
 |cons a r=>exact LG (by simp)
noncomputable def qg:List Int->Bool
 |x::y::r=>decide (x<y)&&qg (y::r)
 |_=>true
theorem Ij:∀l:List Int,((l.zip (l.drop 1)).map λp=>decide (p.1<p.2)).all id=qg l
 |[]=>rfl
 |[_]=>rfl
 |x::y::r=>by
  have ih:=Ij (y::r);show(decide (x<y)&&(((y::r).zip ((y::r).drop 1)).map λp=>decide (p.1<p.2)).all id)=_;rw[ih];rfl
theorem El:∀{l:List Int},l.Pairwise (· < ·)->qg l=true
 |[],_=>rfl
 |[_],_=>rfl
 |x::y::r,h=>by
  obtain⟨h1,h2⟩:=adf.mp h;show(decide (x<y)&&qg (y::r))=true;rw[El h2,aaD (h1 y aam)];rfl
theorem Jr(hl:l.length<=100):abz [iL l]=some (.bl (qg l)):=by
 have q1:e1 (m6 (some 1) none) (aj 0) [some (iL l,.sh [])]=some (iL (l.drop 1),.own):=bT (d:=iL l) (t:=.sh []) rfl (by
  show(if aN (l.map D.int)=true then some (D.lst (cutD (l.map D.int) (some 1) none)) else none)=_;rw[if_pos (eE l),aau,<- List.map_drop];rfl)
 have hz:pJ (aj 0) (e1 (m6 (some 1) none) (aj 0)) [some (iL l,.sh [])]=some (((l.zip (l.drop 1)).map λp=>D.tup [.int p.1,.int p.2]),ju [(iL l,.sh []),(iL (l.drop 1),.own)]):=by
  unfold pJ;rw[q1];show(if(aN (l.map D.int)&&aN ((l.drop 1).map D.int))=true then some (((l.map D.int).zip ((l.drop 1).map D.int)).map λp=>D.tup [p.1,p.2],ju [(iL l,.sh []),(iL (l.drop 1),.own)]) else none)=_;rw[if_pos (by rw[eE,eE];rfl),List.zip_map,ac7];rfl
 refine cg rfl (cL (bT (jr (k:=λd=>match d with | .tup [.int a,.int b]=>some (.bl (decide (a < b))) | _=>none) hz (by rw[List.length_map,List.length_zip];exact size_le (by omega)) (λd m=>by
  obtain⟨⟨a,b⟩,mi,rfl⟩:=abw.mp m;exact lX (aM:=[some (.int a,.own),some (.int b,.own)]) rfl rfl (aK rfl rfl Pz))) ?_))
 rw[adD,<- Ij,<- JT,ac7];exact congrArg (λz=>vH (.lst z)) (mC (λp:Int×Int=>D.bl (decide (p.1<p.2))) _)
theorem yQ(hi:it ρ=some (ds,.sh []))(h:cX g (.sh []) f ds ρ=some (.nx ρ')):jg it g f ρ=some (.nx ρ'):=uX hi h
theorem abU(hi:it ρ=some (ds,.sh []))(h:cX g (.sh []) f ds ρ=some (.rt r)):jg it g f ρ=some (.rt r):=NN hi h
noncomputable def inR(v a b:Int):Bool:=decide (a<=v)&&decide (v<=b)
def oS(p:Ed):Bool:=inR p.1 0 999&&inR p.2.1 0 1000000000&&inR p.2.2 0 1000000000&&!(p.2.1==p.2.2)
def xA(E:List Ed):Bool:=E.all oS&&qg (E.map (·.1))
abbrev gE:GF:=gT (d7 (gN 1) (d7 (gN 2) (d7 (gN 3) lZ)))
def bE:SF:=(bV (eN (l7 (jY (tV (cC mP (ay (aj 1) (ay (eC (.int 0)) (ay (eC (.int 999)) aI))))) (tV (cC mP (ay (aj 2) (ay (eC (.int 0)) (ay (eC (.int 1000000000)) aI))))))) (oq (eC (.bl false))) gO) (eN (lM (l7 (tV (cC mP (ay (aj 3) (ay (eC (.int 0)) (ay (eC (.int 1000000000)) aI)))))) (tV (e2 oEq (aj 2) (aj 3)))) (oq (eC (.bl false))) gO))
theorem vD(h:aj i ρ=some (.int v,t)):tV (cC mP (ay (aj i) (ay (eC (.int a)) (ay (eC (.int b)) aI)))) ρ=some (inR v a b):=
 bU (dJ (ps:=[(.int v,t),(.int a,.own),(.int b,.own)]) (by rw[aW,h];rfl) yu)
def rE(L:D)(a b c:Int):av:=[some (L,.sh []),some (.int a,.own),some (.int b,.own),some (.int c,.own)]
theorem b_E{L:D}:bE (rE L a b c)=some (if oS (a,b,c)=true then .nx (rE L a b c) else .rt (.bl false)):=by
 have w1:tV (cC mP (ay (aj 1) (ay (eC (.int 0)) (ay (eC (.int 999)) aI)))) (rE L a b c)=some (inR a 0 999):=vD rfl;have w2:tV (cC mP (ay (aj 2) (ay (eC (.int 0)) (ay (eC (.int 1000000000)) aI)))) (rE L a b c)=some (inR b 0 1000000000):=vD rfl;have w3:tV (cC mP (ay (aj 3) (ay (eC (.int 0)) (ay (eC (.int 1000000000)) aI)))) (rE L a b c)=some (inR c 0 1000000000):=vD rfl;have w4:tV (e2 oEq (aj 2) (aj 3)) (rE L a b c)=some (b==c):=rfl;have c1:=tL w1 w2;have c2:=Qc (show l7 (tV (cC mP (ay (aj 3) (ay (eC (.int 0)) (ay (eC (.int 1000000000)) aI))))) (rE L a b c)=some (!inR c 0 1000000000) by rw[C0,w3];rfl) w4;unfold bE oS;rw[jo,iK,C0,c1];cases inR a 0 999<;>cases inR b 0 1000000000<;>try rfl
 show zh _ (gO _)=_;rw[abd,nu,iK,c2];cases inR c 0 1000000000<;>cases(b==c)<;>rfl
theorem Ko{L:D}:∀{E:List Ed}{s1 s2 s3:Slot},∃pS Ec xB,cX gE (.sh []) bE (E.map dT) [some (L,.sh []),s1,s2,s3]=some (if E.all oS=true then .nx [some (L,.sh []),pS,Ec,xB] else .rt (.bl false))
 |[],s1,s2,s3=>⟨s1,s2,s3,rfl⟩
 |(a,b,c)::E,s1,s2,s3=>by
  obtain⟨t1,t2,t3,ih⟩:=Ko;refine⟨t1,t2,t3,?_⟩;rw[aas];show(match bE (rE L a b c) with|some (.nx aZ)=>cX gE (.sh []) bE (E.map dT) aZ|some (.ct aZ)=>cX gE (.sh []) bE (E.map dT) aZ|some (.bk aZ)=>some (.nx aZ)|some (.rt r)=>some (.rt r)|some (.er raw cn aZ)=>some (.er raw cn aZ)|none=>none)=_;rw[b_E,aeI];cases oS (a,b,c) with
  |true=>rw[if_pos rfl,Bool.true_and];exact ih
  |false=>rfl
theorem ja(h:sf ρ=some (.rt d)):bV sf sg ρ=some (.rt d):=by rw[jo,h];rfl
theorem Kd{js:List (Option Nat)}{it:IF}{g:GF}{te:EF}{ρ:av}{t:Tag}{l:List Int}{p:Int->Bool}(hi:it ρ=some (l.map D.int,t))(hl:l.length<=10000)(h:∀x∈l,jl g jC te (jc js ρ) (.int x)=some (some (.bl (p x)))):
  e1 vH (gY js it g jC te) ρ=some (.bl (l.all p),.own):=by
 have hc:=jr (js:=js) (g:=g) (tt:=jC) (te:=te) (k:=λd=>match d with | .int x=>some (.bl (p x)) | _=>none) hi (by rw[List.length_map];exact size_le hl) (λd m=>by
  obtain⟨x,mx,rfl⟩:=abw.mp m;exact h x mx)
 rw[vV,hc,KH,adD];have e:l.filterMap ((λd=>match d with|D.int x=>some (D.bl (p x))|_=>none) ∘ D.int)=(l.map p).map D.bl:=by
  rw[ac7];exact mC (λx=>D.bl (p x)) _
 rw[e,JT,aeF];rfl
theorem f_are(hl:E.length<=100):Th [eL E]=some (.bl (xA E)):=by
 obtain⟨t1,t2,t3,tY⟩:=Ko (L:=eL E) (E:=E) (s1:=none) (s2:=none) (s3:=none);refine cg rfl ?_;unfold xA;cases ha:E.all oS with
 |false=>
  rw[ha] at tY;exact ja (abU rfl tY)
 |true=>
  rw[ha] at tY;refine sq (yQ rfl tY) (cL (dJ (ps:=[(iL (E.map λp:Ed=>p.1),.own)]) ?_ (Jr (l:=E.map λp:Ed=>p.1) (by rw[List.length_map];exact hl))));rw[aW,jr (js:=[none]) (g:=gN 0) (tt:=jC) (te:=e2 dW (aj 0) (eC (.int 0))) (k:=λd=>match d with | .tup [.int a,.int _,.int _]=>some (.int a) | _=>none) (it:=f7 (aj 0)) (ds:=E.map dT) (t:=.sh []) rfl (by rw[List.length_map];exact size_le (by omega)) (λd m=>by
   obtain⟨⟨a,b,c⟩,mi,rfl⟩:=abw.mp m;exact lX (aM:=[some (dT (a,b,c),.sh [])]) rfl rfl rfl),adD]
  unfold iL;rw[ac7,show E.filterMap ((λd=>match d with|D.tup [.int a,.int _,.int _]=>some (D.int a)|_=>none) ∘ dT)=E.map (D.int ∘ (·.1)) from mC (λp:Ed=>D.int p.1) _];rfl
abbrev Ch:=Int×List Int×List Ed
def ent(c:Ch):D:=.tup [.int c.1,.tup (c.2.1.map D.int),.tup (c.2.2.map dT)]
def obj(C:List Ch):D:=.ins "Changes" [("entries",.lst (C.map ent))]
theorem CJ(c:Ch):aD (ent c)=true:=by
 unfold ent;show aN [.int c.1,.tup (c.2.1.map D.int),.tup (c.2.2.map dT)]=true;unfold aN;unfold aN;unfold aN;unfold aN;show(aD (.int c.1)&&(aN (c.2.1.map D.int)&&(aN (c.2.2.map dT)&&true)))=true;rw[eE,vq];rfl
theorem Im:∀C:List Ch,aN (C.map ent)=true
 |[]=>rfl
 |c::r=>by rw[aas];unfold aN;rw[Im r,CJ];rfl
theorem m9{F:List D->Option D}{ps:List (D×Tag)}(h:fo ρ=some (.ins cn es,t))(hm:es.lookup m=none)(hg:g ρ=some ps)(hF:F (.ins cn es::ps.map (·.1))=some d):
  bY cn m F fo g ρ=some (d,.own):=by
 unfold bY;rw[h];dsimp only;rw[if_pos ⟨rfl,hm⟩,hg,acQ,hF];rfl
theorem z8(h:(mm==("entries":Str))=false):([("entries",d)]:List (Str×D)).lookup mm=none:=by simp only[List.lookup,h]
theorem LJ(C:List Ch):F5 [obj C]=some (.int C.length):=cg rfl (cL (bT (d:=.lst (C.map ent)) rfl (by rw[zV,List.length_map])))
theorem Ci(h:aj i ρ=some (obj C,t)):bY "Changes" "many" F5 (aj i) aI ρ=some (.int C.length,.own):=
 m9 h (z8 (by decide)) ya (LJ C)
theorem l8{F:List D->Option D}(h:aj i ρ=some (obj C,t))(ha:fa ρ=some (x,t2))(hF:F [obj C,x]=some d)(hm:(mm==("entries":Str))=false:=by decide):
  bY "Changes" mm F (aj i) (ay fa aI) ρ=some (d,.own):=
 m9 (ps:=[(x,t2)]) h (z8 hm) (by rw[aW,ha,ya,Bh]) hF
theorem D9(C:List Ch)(m:Int):DE [obj C,.int m]=some (.bl (inR m 1 C.length)):=
 cg rfl (cL (dJ (ps:=[(.int m,.sh []),(.int 1,.own),(.int C.length,.own)]) (by rw[aW,aW,aW,Ci (C:=C) (t:=.sh []) rfl];rfl) yu))
def tM(n:Nat)(r:Int)(l:List Int)(E:List Ed):Bool:=inR r 0 9&&(l.all (λx=>inR x 1 n)&&qg l)&&(decide ((E.length:Int)<=20)&&xA E)
theorem r_(h1:fa ρ=some (.bl b,t))(h2:fb ρ=some (.bl c,.own)):xr fa fb ρ=some (.bl (b&&c),.own):=by
 rw[Tv,h1];cases b
 .rfl
 .exact h2
theorem Xu{C:List Ch}{r:Int}{l:List Int}{E:List Ed}(hl:l.length<=100)(hE:E.length<=100):ZU [obj C,.int r,iL l,eL E]=some (.bl (tM C.length r l E)):=by
 have q1:=kN (vD (ρ:=[some (obj C,.sh []),some (.int r,.sh []),some (iL l,.sh []),some (eL E,.sh [])]) (i:=1) (v:=r) (a:=0) (b:=9) (t:=.sh []) rfl);have q2:=Qc (kN (bU (Kd (js:=[none,some 0]) (it:=f7 (aj 2)) (g:=gN 0) (te:=bY "Changes" "has" DE (aj 1) (ay (aj 0) aI)) (ρ:=[some (obj C,.sh []),some (.int r,.sh []),some (iL l,.sh []),some (eL E,.sh [])]) (t:=.sh []) (p:=λx=>inR x 1 C.length) (iP rfl) (by omega) (λx mx=>lX (aM:=[some (.int x,.sh []),some (obj C,.sh [])]) rfl rfl (l8 (C:=C) (t:=.sh []) (t2:=.sh []) rfl rfl (D9 C x)))))) (kN (bU (dJ (g:=ay (aj 2) aI) (ps:=[(iL l,.sh [])]) rfl (Jr hl))));refine cg rfl ?_;unfold tM;cases h0:inR r 0 9 with
 |false=>rw[h0] at q1;exact pq q1 (ja rfl)
 |true=>
  rw[h0] at q1;refine fC q1 ?_;cases h1:l.all λx=>inR x 1 C.length with
  |false=>rw[h1] at q2;exact pq q2 (ja rfl)
  |true=>
   cases h2:qg l with
   |false=>rw[h1,h2] at q2;exact pq q2 (ja rfl)
   |true=>
    rw[h1,h2] at q2;exact fC q2 (cL (r_ (b:=decide ((E.length:Int)<=20)) (c:=xA E) (aK (bT (d:=eL E) (d1:=.int E.length) (t:=.sh []) rfl (by unfold eL;rw[zV,List.length_map])) rfl V3) (dJ (ps:=[(eL E,.sh [])]) rfl (f_are hE))))
theorem yT(h1:fv ρ=some (d,t))(h2:ρ[i]? = some (some (.ins cn es,.own)))(hl:es.lookup f=some (.lst ds))(hc:(aD d&&aN ds&&decide (ds.length<sizeLine))=true):
  AB i cn f fv ρ=some (.nx (bP ρ i (.ins cn (dD f (.lst (ds++[d])) es)))):=by
 unfold AB;rw[h1,h2];dsimp only;rw[if_pos rfl,hl];dsimp only;rw[if_pos hc]
theorem iz(h:f ρ=some (.nx ρ')):ir f ρ=some (.nx ρ'):=by unfold ir;rw[h]
theorem kD(hl:ds.length+1=n)(h:b (yY N d0 ds)=some (.rt (.tup [r,d1]))):runM n N b d0 ds=some (r,d1):=by unfold runM;rw[if_pos hl,h]
theorem aaP{C:List Ch}{r:Int}{l:List Int}{E:List Ed}(hl:l.length<=100)(hE:E.length<=100)(hm:tM C.length r l E=true)(hC:C.length<60):zK (obj C) [.int r,iL l,eL E]=some (.int (C.length+1),obj (C++[(r,l,E)])):=by
 refine kD rfl ?_;refine fC (kN (b:=true) (bU (m9 (ps:=[(.int r,.sh []),(iL l,.sh []),(eL E,.sh [])]) (t:=.sh [0]) rfl (z8 (by decide)) rfl ((Xu hl hE).trans (by rw[hm]))))) ?_;refine fC (bU (aK (Ci (C:=C) (t:=.sh [0]) rfl) rfl (by rw[aah,abD (by omega)]))) ?_;refine sq (ρ':=[some (obj (C++[(r,l,E)]),.own),some (.int r,.sh []),some (iL l,.sh []),some (eL E,.sh [])]) ((iz (yT (d:=ent (r,l,E)) (t:=.sh []) (es:=[("entries",.lst (C.map ent))]) (ds:=C.map ent) ?_ rfl rfl (by rw[CJ,Im,aaD (by rw[List.length_map];exact size_le (by omega))];rfl))).trans ?_) ?_
 .rw[o_,aW,aW,aW,bT (d:=iL l) (t:=.sh []) rfl yK,bT (d:=eL E) (t:=.own) (d1:=.tup (E.map dT)) ?_ (if_pos (vq E))]
  .rfl
  .refine(jr (js:=[none]) (g:=gN 0) (tt:=jC) (te:=e1 vM (aj 0)) (k:=λd=>some d) (iP (ds:=E.map dT) (t:=.sh []) rfl) (by rw[List.length_map];exact size_le (by omega)) (λd m=>by
    obtain⟨⟨a,b,c⟩,mx,rfl⟩:=abw.mp m;exact lX (aM:=[some (dT (a,b,c),.sh [])]) rfl rfl rfl)).trans ?_
   rw[mC (λd:D=>d),List.map_id'];rfl
 .unfold obj;rw[adb];rfl
 .show uw _ _ _=_;unfold uw;rw[Ci (C:=C++[(r,l,E)]) (t:=.sh [0]) rfl,abq];rfl
theorem lH(h1:-1000<=i)(h2:i<=1000):small i=true:=by
 unfold small;rw[aaD (show -(2 ^ 62)<=i by omega),aaD (show i<2 ^ 62 by omega)];rfl
noncomputable def aX(a:Int)(n:Nat):List Int:=(List.range n).map λi:Nat=>a+(i:Int)
theorem fG:x∈aX a n↔a<=x/\x<a+n:=by
 unfold aX;rw[abw];constructor
 .rintro⟨i,m,rfl⟩
  have:=aeS.mp m;omega
 .intro h;exact⟨(x-a).toNat,aeS.mpr (by omega),by omega⟩
theorem xV(a:Int)(n:Nat):(aX a n).Pairwise (· < ·):=by
 unfold aX;rw[adV];exact List.pairwise_lt_range.imp (λh=>by omega)
theorem wm(h:f ρ=some (.int i,t))(h2:g ρ=some (.int j,t2))(hi:small i=true)(hj:small j=true):mZ f g ρ=some ((aX i (j-i).toNat).map D.int,.own):=by
 unfold mZ;rw[h,h2];dsimp only;rw[if_pos (by rw[hi,hj];rfl)];unfold aX;rw[ac7];rfl
theorem gu(p:Int->Bool)(f:Int->Int):∀l:List Int,l.filterMap (λx=>if p x=true then some (D.int (f x)) else none)=((l.filter p).map f).map D.int
 |[]=>rfl
 |a::r=>by
  rw[adv]
  by_cases hp:p a=true
  .rw[List.filter_cons_of_pos hp,if_pos hp,gu p f r];rfl
  .rw[List.filter_cons_of_neg hp,if_neg hp,gu p f r]
theorem Ld{l:List Int}{p:Int->Bool}{f:Int->Int}(hi:it ρ=some (l.map D.int,t))(hl:l.length<=10000)(h:∀x∈l,jl g tt te (jc js ρ) (.int x)=some (if p x=true then some (.int (f x)) else none)):
  gY js it g tt te ρ=some (iL ((l.filter p).map f),.own):=by
 have hc:=jr (k:=λd=>match d with | .int x=>if p x=true then some (.int (f x)) else none | _=>none) hi (by rw[List.length_map];exact size_le hl) (λd m=>by
  obtain⟨x,mx,rfl⟩:=abw.mp m;exact h x mx)
 rw[hc]
 congr 3
 clear hc h hi hl;rw[adD];exact gu p f l
def lean(L:List (List Int))(m:Int):List Int:=if 1<=m then(L[(m-1).toNat]?).getD [] else[]
noncomputable abbrev sec(C:List Ch):List (List Int):=C.map (·.2.1)
theorem Sh{α:Type}{f:α->D}{L:List α}{m:Int}{l:α}(h1:1<=m)(h2:m<=L.length)(h:L[(m-1).toNat]? = some l):dU (L.map f) (m-1)=some (f l):=by
 unfold dU j6;rw[List.length_map];rw[if_pos (by omega),if_pos (by omega),acQ,ab6,h];rfl
def ch(L:List Ch)(m:Int):Ch:=(L[(m-1).toNat]?).getD (0,[],[])
theorem Ur{L:List Ch}{m:Int}(h1:1<=m)(h2:m<=L.length):L[(m-1).toNat]? = some (ch L m):=by
 unfold ch;rw[aaQ (by omega)];rfl
theorem um{L:List Ch}{m:Int}(h1:1<=m)(h2:m<=L.length):(ch L m).2.1=lean (sec L) m:=by
 unfold ch lean sec;rw[if_pos h1,ab6,aaQ (by omega)];rfl
theorem CN{L:List Ch}{m:Int}(h1:1<=m)(h2:m<=L.length):Tt [obj L,.int m]=some (ent (ch L m)):=
 cg rfl (fC (kN (b:=true) (bU (l8 (C:=L) (t:=.sh []) (t2:=.sh []) rfl rfl ((D9 L m).trans (by unfold inR;rw[aaD h1,aaD h2];rfl))))) (cL (aK (d1:=.lst (L.map ent)) (t1:=.sh []) (d2:=.int (m-1)) (t2:=.own) rfl rfl (qT (Sh h1 h2 (Ur h1 h2)) (CJ _)))))
theorem J_{L:List Ch}{m:Int}(h1:1<=m)(h2:m<=L.length):E1 [obj L,.int m]=some (iL (lean (sec L) m)):=
 cg rfl (cL (bT (aK (d1:=ent (ch L m)) (l8 rfl rfl (CN h1 h2)) rfl (d:=.tup ((ch L m).2.1.map D.int)) (if_pos (show aD (D.tup _)=true by simp only[aD,eE]))) (by rw[Ie,um h1 h2];rfl)))
def cH(L:List Ch)(m:Int):List Ed:=(ch L m).2.2
theorem zL{L:List Ch}{m:Int}(h1:1<=m)(h2:m<=L.length):AJ [obj L,.int m]=some (eL (cH L m)):=
 cg rfl (cL (bT (aK (d1:=ent (ch L m)) (l8 rfl rfl (CN h1 h2)) rfl (d:=.tup ((ch L m).2.2.map dT)) (if_pos (show aD (D.tup _)=true from vq _))) (if_pos (vq _))))
theorem DX(h:e ρ=some (.int n,t))(hs:n<=1000):tE e ρ=some ((aX 0 n).map D.int,.own):=by
 rw[XU h (lH (by omega) (by omega)),Int.toNat_natCast];unfold aX;rw[ac7];rfl
theorem BR{l:List Int}:l.any (· == m)=decide (m∈l):=by
 by_cases h:m∈l
 .rw[aaD h];exact adj.mpr ⟨m,h,by simp⟩
 .rw[abD h,ad3];intro e;obtain⟨y,my,ey⟩:=adj.mp e;exact h (by rw[<- (ad2.mp ey)];exact my)
theorem rG:x∈cj l↔x∈l:=(oX l).mem_iff
structure Dw(E:List Ed)(n:Nat):Prop where
 so:(E.map (·.1)).Pairwise (·<=·)
 ln:E.length<=n
theorem Hl(h:n<4096):n<sizeLine:=by unfold sizeLine;omega
def pB(es:List (Int×Int))(p:Int×Int×Int):Bool:=!((bJ es p.1).getD 0==p.2.1)
def bad(es:List (Int×Int))(E:List (Int×Int×Int)):List Int:=(E.filter (pB es)).map (·.1)
noncomputable def uL:List Int->D
 |[]=>.aA
 |x::_=>.int x
theorem Y5:∀{x:Int}{l:List Int},(x::l).Pairwise (·<=·)->jR (x::l)=x
 |x,l,h=>by
  obtain⟨h1,h2⟩:=G4 (l:=x::l) (by simp);have h3:=h2 x aam;rcases aaV.mp h1 with e|m
  .exact e
  .have:=(adf.mp h).1 _ m;omega
def kW(es:List (Int×Int)):D->Option D
 |.tup [.int a,.int b,.int c]=>if pB es (a,b,c)=true then some (.int a) else none
 |_=>none
theorem YI:∀p,kW es (dT p)=if pB es p=true then some (D.int p.1) else none
 |(_,_,_)=>rfl
theorem Gx{E:List (Int×Int×Int)}(hE:Dw E n)(hn:n<64)(w:List D->D)(hw:f7 (aj 1) [some (bu es,.sh []),some (w (E.map dT),.sh [])]=some (E.map dT,.sh [])):Gj [bu es,w (E.map dT)]=some (uL (bad es E)):=by
 have hc:=jr (js:=[none,none,none,some 0]) (g:=gT (d7 (gN 0) (d7 (gN 1) (d7 (gN 2) lZ)))) (tt:=tV (e2 l5 (e3 qU (aj 3) (aj 0) (eC (.int 0))) (aj 1))) (te:=aj 0) (k:=kW es) hw (by rw[List.length_map];exact Hl (by have:=hE.ln;omega)) (λd m=>by
  obtain⟨⟨a,b,c⟩,mi,rfl⟩:=abw.mp m;show _=some (if pB es (a,b,c)=true then some (D.int a) else none);have ht:(tV (e2 l5 (e3 qU (aj 3) (aj 0) (eC (.int 0))) (aj 1))) [some (.int a,.own),some (.int b,.own),some (.int c,.own),some (bu es,.sh [])]=some (pB es (a,b,c)):=by
   rw[x8,jQ,EA];show Ev.kV (k2 l5 ((qU (bu es) (.int a) (.int 0)).map _) _)=_;rw[L8];rfl
  by_cases h:pB es (a,b,c)=true
  .rw[if_pos h];exact sM (aM:=[some (.int a,.own),some (.int b,.own),some (.int c,.own),some (bu es,.sh [])]) (tg:=.sh [0]) rfl (by rw[ht,h]) rfl rfl
  .rw[if_neg h];exact AX (aM:=[some (.int a,.own),some (.int b,.own),some (.int c,.own),some (bu es,.sh [])]) rfl (by rw[ht,ad3.mpr h]))
 have hb:(E.map dT).filterMap (kW es)=(bad es E).map D.int:=by
  clear hc hw hE;unfold bad
  induction E with
  |nil=>rfl
  |cons p r ih=>
   rw[aas,adv,aeE,YI]
   by_cases h:pB es p=true
   .rw[if_pos h,if_pos h];dsimp only;rw[ih];rfl
   .rw[if_neg h,if_neg h];exact ih
 rw[hb] at hc;have hs:(bad es E).Pairwise (·<=·):=by
  unfold bad;have:=hE.so;rw[adV] at this ⊢;exact this.filter _
 refine cg rfl (cL (aK (d2:=.aA) hc rfl ?_));show(match dM ((bad es E).map D.int) with|some []=>if aD .aA=true then some D.aA else none|some (n::r)=>some (D.int (jR (n::r)))|none=>none)=_;rw[tQ];cases e:bad es E with
 |nil=>rfl
 |cons x l=>
  dsimp only;rw[Y5 (by rw[<- e];exact hs)];rfl
def qI(es:List (Int×Int)):List Int:=(cj (es.map (·.1))).filter λk=>!((bJ es k).getD 0==0)
def nz(es:List (Int×Int)):List (Int×Int):=(qI es).map λk=>(k,(bJ es k).getD 0)
def kS(es:List (Int×Int)):D->Option D
 |.int i=>if(!((bJ es i).getD 0==0))=true then some (dP (i,(bJ es i).getD 0)) else none
 |_=>none
theorem aav{es:List (Int×Int)}(hl:es.length<64):VG [bu es]=some (.lst ((nz es).map dP)):=by
 have hs:(e1 lJ (aj 0)) [some (bu es,.sh [])]=some (.lst ((cj (es.map (·.1))).map D.int),.own):=by
  rw[vV];show(lJ (bu es)).map _=_;rw[Ro (by omega)];rfl
 have hc:=jr (js:=[none,some 0]) (g:=gN 0) (tt:=tV (e2 l5 (e2 kh (aj 1) (aj 0)) (eC (.int 0)))) (te:=kr (ay (aj 0) (ay (e2 kh (aj 1) (aj 0)) aI))) (k:=kS es)
   (iP hs) (by rw[List.length_map,uv,List.length_map];exact Hl (by omega)) (λd m=>by
  obtain⟨i,mi,rfl⟩:=abw.mp m;obtain⟨w,hw⟩:=qV.mpr (rG.mp mi);have hg:=acU hw;show _=some (if(!((bJ es i).getD 0==0))=true then some (dP (i,(bJ es i).getD 0)) else none);have ht:(tV (e2 l5 (e2 kh (aj 1) (aj 0)) (eC (.int 0)))) [some (.int i,.sh []),some (bu es,.sh [])]=some (!((bJ es i).getD 0==0)):=by
   rw[x8,jQ,jQ];show Ev.kV (k2 l5 ((kh (bu es) (.int i)).map _) _)=_;rw[hg,hw];rfl
  by_cases h:(!((bJ es i).getD 0==0))=true
  .rw[if_pos h];refine sM (aM:=[some (.int i,.sh []),some (bu es,.sh [])]) (tg:=.sh []) rfl (by rw[ht,h]) ?_ rfl;rw[o_,aW,aW,jQ];show Option.map _ (lI _ (lI ((kh (bu es) (.int i)).map _) _))=_;rw[hg,hw];rfl
  .rw[if_neg h];exact AX (aM:=[some (.int i,.sh []),some (bu es,.sh [])]) rfl (by rw[ht,ad3.mpr h]))
 refine(cg rfl (cL hc)).trans ?_
 congr 2
 unfold nz qI;generalize cj (es.map (·.1))=l;clear hs hc
 induction l with
 |nil=>rfl
 |cons x r ih=>
  rw[aas,adv,aeE]
  by_cases h:(!((bJ es x).getD 0==0))=true
  .rw[if_pos h,show kS es (.int x)=some (dP (x,(bJ es x).getD 0)) from if_pos h];dsimp only;rw[ih];rfl
  .rw[if_neg h,show kS es (.int x)=none from if_neg h];exact ih
def di(es:List (Int×Int))(E:List (Int×Int×Int)):List (Int×Int):=E.foldl (λm p=>fW m p.1 p.2.2) es
theorem Mu:∀(E:List (Int×Int×Int)) (es:List (Int×Int)),(es.map (·.1)).Nodup->((di es E).map (·.1)).Nodup
 |[],_,h=>h
 |p::r,es,h=>Mu r _ (NV h)
theorem A8:∀(E:List (Int×Int×Int)) (es:List (Int×Int)) (k:Int),(E.map (·.1)).Nodup->(∀p∈E,p.1=k->bJ (di es E) k=some p.2.2)/\(k∉E.map (·.1)->bJ (di es E) k=bJ es k)
 |[],es,k,_=>⟨λp m=>(nomatch m),λ_=>rfl⟩
 |q::r,es,k,h=>by
  obtain⟨h1,h2⟩:=aby.mp h;obtain⟨a,b⟩:=A8 r (fW es q.1 q.2.2) k h2;refine⟨λp m e=>?_,λm=>?_⟩
  .rcases aaV.mp m with rfl|m
   .show bJ (di (fW es p.1 p.2.2) r) k=_;rw[b (by rw[<- e];exact h1),Bk,if_pos e.symm]
   .exact a p m e
  .show bJ (di (fW es q.1 q.2.2) r) k=_;rw[aas] at m;rw[b λx=>m (aal _ x),Bk,if_neg λx=>m (by rw[x];exact aam)]
noncomputable abbrev cJ:=List (Int×Int)
theorem AK(S:cJ->Slot->Slot->Slot->av)(hg:∀v x y z (p:Ed),g (dT p) t (S v x y z)=some (S v (some (.int p.1,.own)) (some (.int p.2.1,.own)) (some (.int p.2.2,.own))))(hf:∀v (p:Ed),v.length<sizeLine->f (S v (some (.int p.1,.own)) (some (.int p.2.1,.own)) (some (.int p.2.2,.own)))=some (.nx (S (fW v p.1 p.2.2) (some (.int p.1,.own)) (some (.int p.2.1,.own)) (some (.int p.2.2,.own))))):
  ∀{E:List Ed}{v:cJ}{x y z:Slot},v.length+E.length<4096->∃x' y' z',cX g t f (E.map dT) (S v x y z)=some (.nx (S (di v E) x' y' z'))
 |[],_,x,y,z,_=>⟨x,y,z,rfl⟩
 |p::E,v,x,y,z,hl=>by
  rw[abQ] at hl;obtain⟨x',y',z',ih⟩:=AK S hg hf (E:=E) (v:=fW v p.1 p.2.2) (x:=some (.int p.1,.own)) (y:=some (.int p.2.1,.own)) (z:=some (.int p.2.2,.own)) (by have:=ZK (es:=v) (k:=p.1) (v:=p.2.2);omega);exact⟨x',y',z',(nQ (hg ..) (hf _ _ (Hl (by omega)))).trans ih⟩
def vN(S L:D)(es:List (Int×Int))(s3 s4 s5 s6 s7:Slot):av:=[some (S,.sh []),some (L,.sh []),some (bu es,.own),s3,s4,s5,s6,s7]
abbrev LC:GF:=gT (d7 (gN 5) (d7 (gN 6) (d7 (gN 7) lZ)))
abbrev Lw:SF:=pI 2 (aj 5) (aj 7)
theorem Le:k∈qI es↔(bJ es k).getD 0≠0:=by
 unfold qI;rw[ab5];refine⟨λh=>by simpa using h.2,λh=>⟨rG.mpr (qV.mp ?_),by simpa using h⟩⟩;cases e:bJ es k with
 |none=>rw[e] at h;exact absurd rfl h
 |some v=>exact⟨v,rfl⟩
theorem Ji(h:(es.map (·.1)).Nodup):(qI es).Nodup:=((oX _).nodup_iff.mpr h).sublist adw
theorem Nx:(nz es).map (·.1)=qI es:=by
 unfold nz;rw[ac7];exact List.map_id' _
theorem Fx(f:Int->Int)(k:Int):∀l:List Int,bJ (l.map λk=>(k,f k)) k=if k∈l then some (f k) else none
 |[]=>rfl
 |x::r=>by
  have ih:=Fx f k r;rw[aas];unfold bJ at ih ⊢;rw[ac9]
  by_cases hx:x=k
  .rw[aaD hx,if_pos (by rw[hx];exact aam),hx];rfl
  .rw[abD hx];dsimp only;rw[ih];have:(k∈x::r)↔k∈r:=⟨λm=>(aaV.mp m).elim (λe=>absurd e.symm hx) id,aal _⟩
   simp only[this]
theorem acJ(k:Int):(bJ (nz es) k).getD 0=(bJ es k).getD 0:=by
 unfold nz;rw[Fx]
 by_cases h:k∈qI es
 .rw[if_pos h];rfl
 .rw[if_neg h];have:=mt Le.mpr h;simp only[ne_eq,Decidable.not_not] at this;rw[this];rfl
theorem QK(h:(es.map (·.1)).Nodup)(k:Int):(bJ (iD (nz es)) k).getD 0=(bJ es k).getD 0:=by
 rw[Na (by rw[Nx];exact Ji h),acJ]
theorem Uj(ps:List (Int×Int)):((iD ps).map (·.1)).Nodup:=by
 have go:∀(ps m:List (Int×Int)),(m.map (·.1)).Nodup->((ps.foldl (λm p=>fW m p.1 p.2) m).map (·.1)).Nodup:=by
  intro ps
  induction ps with
  |nil=>intro m h;exact h
  |cons p r ih=>intro m h;exact ih _ (NV h)
 exact go ps [] aco
theorem sub_len{α:Type}[DecidableEq α]:∀{l m:List α},l.Nodup->(∀x∈l,x∈m)->l.length<=m.length
 |[],m,_,_=>adq _
 |a::l,m,h,s=>by
  obtain⟨ha,hl⟩:=aby.mp h;have ma:=s a aam;have:=sub_len (m:=m.erase a) hl λx mx=>(List.mem_erase_of_ne λe=>ha (by rw[<- e];exact mx)).mpr (s x (aal _ mx))
  rw[List.length_erase_of_mem ma] at this;have:=List.length_pos_of_mem ma;rw[abQ];omega
theorem acR{es:List (Int×Int)}{a c k:Int}(h:k∈(fW es a c).map (·.1)):k=a\/k∈es.map (·.1):=by
 obtain⟨w,e⟩:=qV.mpr h;rw[Bk] at e
 split at e
 .rename_i q;exact .inl q
 .exact .inr (qV.mp ⟨w,e⟩)
theorem Mt{S:List Int}:∀{E:List Ed}{es:List (Int×Int)},(∀p∈E,p.1∈S)->(∀k∈es.map (·.1),k∈S)->∀k∈(di es E).map (·.1),k∈S
 |[],es,_,h=>h
 |p::E,es,hE,h=>Mt (E:=E) (es:=fW es p.1 p.2.2) (λq m=>hE q (aal _ m)) λk m=>(acR m).elim (λe=>by rw[e];exact hE p aam) (h k)
def e_:cJ->List (List Ed)->Option cJ
 |v,[]=>some v
 |v,E::r=>if bad v E=[] then e_ (di v E) r else none
structure Kb(v:cJ):Prop where
 nd:(v.map (·.1)).Nodup
 ks:∀k∈v.map (·.1),k∈aX 0 60
theorem Kb.len{v:cJ}(h:Kb v):v.length<=60:=by
 have:=sub_len h.nd h.ks;rw[List.length_map] at this;unfold aX at this
 rwa [List.length_map,aeQ] at this
theorem Kb.nil:Kb []:=⟨.nil,λk m=>nomatch m⟩
structure Ee(E:List Ed):Prop where
 ed:Dw E 20
 nd:(E.map (·.1)).Nodup
 sl:∀p∈E,p.1∈aX 0 60
theorem Kb.di{v:cJ}{E:List Ed}(h:Kb v)(e:Ee E):Kb (di v E):=⟨Mu E v h.nd,Mt e.sl h.ks⟩
abbrev Kc(Z:SF):SF:=bV (c8 4 (cC Gj (ay (aj 2) (ay (aj 3) aI)))) (bV (eN (tV (e2 Bs (aj 4) (eC .aA))) Z gO) (jg (f7 (aj 3)) LC Lw))
theorem RI{Z:SF}{S L:D}{v:cJ}{E:List Ed}{s4 s5 s6 s7:Slot}(hE:Dw E 20)(hb:bad v E=[])(hl:v.length<=3000):∃t5 t6 t7,Kc Z (vN S L v (some (eL E,.sh [])) s4 s5 s6 s7)=some (.nx (vN S L (di v E) (some (eL E,.sh [])) (some (.aA,.own)) t5 t6 t7)):=by
 have hle:=hE.ln;obtain⟨t5,t6,t7,lp⟩:=AK (g:=LC) (t:=.sh []) (f:=Lw) (λv x y z=>vN S L v (some (eL E,.sh [])) (some (.aA,.own)) x y z) (λ_ _ _ _ _=>rfl) (λv p h=>CQ (es:=v) (k:=p.1) (v:=p.2.2) (t1:=.sh [7]) (t2:=.sh [5]) rfl rfl rfl h) (E:=E) (v:=v) (x:=s5) (y:=s6) (z:=s7) (by omega);exact⟨t5,t6,t7,jZ (d:=.aA) (dJ (ps:=[(bu v,.sh [2]),(eL E,.sh [])]) rfl (by show Gj [bu v,.lst (E.map dT)]=_;rw[Gx (es:=v) hE (by omega) D.lst rfl,hb];rfl)) (sq rfl (yQ rfl lp))⟩
theorem Mw{Z:SF}{S L:D}:∀{Es:List (List Ed)}{v v':cJ}{s3 s4 s5 s6 s7:Slot},(∀E∈Es,Ee E)->e_ v Es=some v'->Kb v->
  ∃t3 t4 t5 t6 t7,cX (gN 3) (.sh []) (Kc Z) (Es.map eL) (vN S L v s3 s4 s5 s6 s7)=some (.nx (vN S L v' t3 t4 t5 t6 t7))/\Kb v'
 |[],v,v',s3,s4,s5,s6,s7,_,h,k=>by
  cases h;exact⟨s3,s4,s5,s6,s7,rfl,k⟩
 |E::Es,v,v',s3,s4,s5,s6,s7,hE,h,k=>by
  unfold e_ at h
  by_cases hb:bad v E=[]
  .rw[if_pos hb] at h;have Pr:=hE E aam;obtain⟨t5,t6,t7,hs⟩:=RI (Z:=Z) (S:=S) (L:=L) (s4:=s4) (s5:=s5) (s6:=s6) (s7:=s7) Pr.ed hb (by have:=k.len;omega);obtain⟨u3,u4,u5,u6,u7,ih,k'⟩:=Mw (Z:=Z) (S:=S) (L:=L) (s3:=some (eL E,.sh [])) (s4:=some (.aA,.own)) (s5:=t5) (s6:=t6) (s7:=t7) (λE' m=>hE E' (aal _ m)) h (k.di Pr);exact⟨u3,u4,u5,u6,u7,(nQ rfl hs).trans ih,k'⟩
  .rw[if_neg hb] at h;cases h
def dS(ps:cJ):D:=.lst (ps.map dP)
def ez(C:List Ch)(row:List Int):List (List Ed):=row.map (cH C)
noncomputable abbrev Row(C:List Ch)(ns:List Int):Prop:=∀x∈ns,1<=x/\x<=(C.length:Int)
structure GoodC(C:List Ch):Prop where
 ln:C.length<=60
 ed:∀m,Ee (cH C m)
 bd:∀m x,1<=m->m<=(C.length:Int)->x∈lean (sec C) m->1<=x/\x<m
 few:∀m,(lean (sec C) m).length<=60
theorem G5{C:List Ch}{row:List Int}{v:cJ}(g:GoodC C)(hb:Row C row)(hl:row.length<=100)(h:e_ [] (ez C row)=some v):aa1 [obj C,iL row]=some (dS (nz v))/\Kb v:=by
 have hE:∀E∈ez C row,Ee E:=λE m=>by
  obtain⟨x,_,rfl⟩:=abw.mp m;exact g.ed x
 obtain⟨t3,t4,t5,t6,t7,tY,kv⟩:=Mw (Z:=Fo) (S:=.lst []) (L:=.lst ((ez C row).map eL)) (s3:=none) (s4:=none) (s5:=none) (s6:=none) (s7:=none) hE h Kb.nil;have hc:=jr (js:=[none,some 0]) (it:=f7 (aj 1)) (ρ:=[some (obj C,.sh []),some (iL row,.sh [])]) (g:=gN 0) (tt:=jC) (te:=bY "Changes" "edits_of" AJ (aj 1) (ay (aj 0) aI)) (k:=λd=>match d with | .int x=>some (eL (cH C x)) | _=>none) (iP rfl) (by rw[List.length_map];exact size_le (by omega)) (λd m=>by
  obtain⟨x,mx,rfl⟩:=abw.mp m;obtain⟨h1,h2⟩:=hb x mx;exact lX (aM:=[some (.int x,.sh []),some (obj C,.sh [])]) rfl rfl (l8 (C:=C) (t:=.sh []) (t2:=.sh []) rfl rfl (zL h1 h2)))
 rw[adD,show(row.filterMap ((λd=>match d with|D.int x=>some (eL (cH C x))|_=>none) ∘ D.int))=(ez C row).map eL from(mC _ _).trans (by unfold ez;rw[ac7];rfl)] at hc;exact⟨cg rfl (cL (dJ (ps:=[(.lst [],.own),(.lst ((ez C row).map eL),.own)]) (by rw[aW,aW];show lI _ (lI (gY _ _ _ _ _ [some (obj C,.sh []),some (iL row,.sh [])]) _)=_;rw[hc];rfl) (cg rfl (jZ (d:=bu []) (t:=.own) rfl (sq (yQ (ds:=(ez C row).map eL) rfl tY) (cL (dJ (ps:=[(bu v,.sh [2])]) rfl (aav (by have:=kv.len;omega))))))))),kv⟩
abbrev gV(es:cJ)(k:Int):Int:=(bJ es k).getD 0
def iW(C:List Ch)(v:cJ)(m:Int):Bool:=(bad v (cH C m)).isEmpty
theorem Zc:iW C v m=true↔bad v (cH C m)=[]:=List.isEmpty_iff
theorem RU:iF (uL l) .aA=some (.bl l.isEmpty):=by cases l<;>rfl
theorem wU{ρ:av}{t:Tag}{l:List Int}{p:Int->Bool}{r:av}(hi:it ρ=some (l.map D.int,t))(hl:l.length<=10000)(hr:∀x,gN 0 (.int x) (.sh []) (jc js ρ)=some (some (.int x,.sh [])::r))(h:∀x∈l,tt (some (.int x,.sh [])::r)=some (p x)):
  gY js it (gN 0) tt (aj 0) ρ=some (iL (l.filter p),.own):=by
 have:=Ld (js:=js) (it:=it) (g:=gN 0) (tt:=tt) (te:=aj 0) hi hl (λx mx=>by
  by_cases hp:p x=true
  .rw[if_pos hp];exact sM (hr x) (by rw[h x mx,hp]) rfl rfl
  .rw[if_neg hp];exact AX (hr x) (by rw[h x mx,ad3.mpr hp]))
 rw[List.map_id'] at this;exact this
theorem RK(h1:fv ρ=some (.int n,t))(h2:ρ[i]? = some (some (iL ns,.own)))(hm:n∈ns):xY i fv ρ=some (.nx (bP ρ i (iL (ns.erase n)))):=by
 unfold xY;rw[h1,h2];unfold iL;dsimp only;rw[tQ];dsimp only;rw[if_pos hm]
noncomputable def kB(k:Int):Key×D:=(Sum.inl k,.bl true)
def dB(ks:List Int):D:=.bH (ks.map kB)
noncomputable def add(ks:List Int)(k:Int):List Int:=if k∈ks then ks else ks++[k]
theorem Tq:x∈add ks k↔x∈ks\/x=k:=by
 unfold add
 by_cases h:k∈ks
 .rw[if_pos h];exact⟨.inl,λe=>e.elim id λe=>by rw[e];exact h⟩
 .rw[if_neg h,abo,aaX]
theorem NI{ks:List Int}:((ks.map kB).any λkv=>decide (kv.1=(Sum.inl k:Key)))=decide (k∈ks):=by
 induction ks with
 |nil=>simp
 |cons a r ih=>
  rw[aas,ael,ih];have:decide ((kB a).1=(Sum.inl k:Key))=decide (a=k):=by
   exact aep.mpr sy
  rw[this]
  by_cases h:a=k
  .subst h;simp
  .simp[h,adW h]
theorem Zp:pC false (.int x) (dB ks)=some (.bl (decide (x∈ks))):=by
 show some (D.bl (if false=true then _ else(aY (ks.map kB) (Sum.inl x:Key)).isSome))=_;rw[if_neg aa9,<- NI];unfold aY;rw[aeh]
 congr 2
 rw[aeH,List.find?_isSome,adj]
theorem Sk:putD (ks.map kB) (Sum.inl k:Key) (.bl true)=(add ks k).map kB:=by
 unfold putD add;rw[NI]
 by_cases h:k∈ks
 .rw[if_pos (aaD h),if_pos h,ac7];refine adN λa _=>?_
  show(if(Sum.inl a:Key)=Sum.inl k then((Sum.inl a:Key),D.bl true) else kB a)=kB a
  split<;>rfl
 .rw[if_neg (by simpa using h),if_neg h,adb];rfl
def adds(m l:List Int):List Int:=l.foldl add m
theorem KR:∀{l m:List Int}{x:Int},x∈adds m l↔x∈m\/x∈l
 |[],m,x=>by simp[adds]
 |a::l,m,x=>by
  have:=KR (l:=l) (m:=add m a) (x:=x);show x∈adds (add m a) l↔_;rw[this,Tq,aaV,or_assoc]
noncomputable def nG(x:Int):D:=.tup [.int x,.bl true]
theorem PM:∀l:List Int,jm (l.map nG)=some (l.map kB)
 |[]=>rfl
 |p::r=>by
  rw[aas];show(match gQ (.int p),jm (r.map nG) with|some k,some ps=>if aD (.bl true)=true then some ((k,D.bl true)::ps) else none|_,_=>none)=_;rw[PM r];rfl
theorem LN:∀(l m:List Int),(l.map kB).foldl (λm p=>putD m p.1 p.2) (m.map kB)=(adds m l).map kB
 |[],_=>rfl
 |p::r,m=>by rw[aas,adx];show(r.map kB).foldl _ (putD (m.map kB) (Sum.inl p:Key) (.bl true))=_;rw[Sk];exact LN r _
theorem Zh:wX (.lst (l.map nG))=some (dB (adds [] l)):=by
 show(jm (l.map nG)).map _=_;rw[PM];show some (D.bH ((l.map kB).foldl (λm p=>putD m p.1 p.2) []))=_;rw[show([]:List (Key×D))=([]:List Int).map kB from rfl,LN];rfl
def m7(C:List Ch)(there:List Int)(m:Int):Bool:=(lean (sec C) m).all λx=>decide (x∈there)
theorem tw{g:SF}{r:Option Out}(ρ':av)(h:g ρ'=r)(e:ρ=ρ':=by rfl):g ρ=r:=by rw[e,h]
theorem Ng{f g:EF}{ρ:av}{a b:List Int}{t t2:Tag}(h:f ρ=some (iL a,t))(h2:g ρ=some (iL b,t2))(hl:a.length+b.length<=1000):e2 fP (e1 sF f) (e1 sF g) ρ=some (iL (a++b),.own):=
 aK (bT h uf) (bT h2 uf) (sS (by rw[adM];omega))
theorem Nl{C:List Ch}(g:GoodC C){a b wt:List Int}(hl:a.length+b.length<=1000)(hw:Row C wt)(AA:wt.length<=1000):AE [obj C,iL a,iL b,iL wt]=some (iL (wt.filter (m7 C (a++b)))):=by
 refine cg rfl (jZ (d:=dB (adds [] (a++b))) (bT (d:=.lst ((a++b).map nG)) (t:=.own) ?_ Zh) (tw [some (obj C,.sh []),some (iL a,.sh []),some (iL b,.sh []),some (iL wt,.sh []),some (dB (adds [] (a++b)),.own)] (cL (wU (t:=.sh []) (r:=[some (obj C,.sh []),some (dB (adds [] (a++b)),.sh [])]) (iP rfl) (by omega) (λx=>rfl) (λx ug=>?_)))))
 .refine(jr (js:=[none]) (g:=gN 0) (k:=λd=>match d with | .int x=>some (nG x) | _=>none) (iP (Ng (t:=.sh []) (t2:=.sh []) rfl rfl hl)) (by rw[List.length_map,abq];exact size_le (by omega)) (λd m=>by
   obtain⟨x,ug,rfl⟩:=abw.mp m;exact sM (aM:=[some (.int x,.sh [])]) (tg:=.sh []) rfl rfl rfl rfl)).trans ?_
  rw[adD,show((a++b).filterMap ((λd=>match d with|D.int x=>some (nG x)|_=>none) ∘ D.int))=(a++b).map nG from mC nG _]
 .obtain⟨h1,h2⟩:=hw x ug;refine bU (Kd (t:=.own) (p:=λy=>decide (y∈a++b)) (iP (l8 (C:=C) (t:=.sh []) (t2:=.sh []) rfl rfl (J_ h1 h2))) (by have:=g.few x;omega) (λy my=>lX (aM:=[some (.int y,.sh []),some (dB (adds [] (a++b)),.sh [])]) rfl rfl (aK (d1:=.int y) (t1:=.sh []) (d2:=dB (adds [] (a++b))) (t2:=.sh []) rfl rfl ?_)));rw[Zp,show decide (y∈adds [] (a++b))=decide (y∈a++b) from aep.mpr (by rw[KR];simp)]
theorem Ua{C:List Ch}(g:GoodC C){a b:List Int}{v:cJ}(hl:a.length+b.length<=100)(hb:Row C (a++b))(h:e_ [] (ez C (a++b))=some v):Z0 [obj C,iL a,iL b]=some (bu (iD (nz v))):=
 cg rfl (cL (bT (dJ (ps:=[(obj C,.sh []),(iL (a++b),.own)]) (by rw[aW,aW];show lI _ (lI (e2 fP _ _ [some (obj C,.sh []),some (iL a,.sh []),some (iL b,.sh [])]) _)=_;rw[Ng (t:=.sh []) (t2:=.sh []) rfl rfl (by omega)];rfl) (G5 g hb (by rw[abq];omega) h).1) M1))
theorem VY(h:∀k,gV u k=gV v k)(E:List Ed):bad u E=bad v E:=by
 unfold bad
 congr 1
 refine List.filter_congr λp _=>?_
 unfold pB;have:=h p.1;unfold gV at this;rw[this]
theorem abL{C:List Ch}(g:GoodC C){v:cJ}{m:Int}(h1:1<=m)(h2:m<=(C.length:Int)):CB [obj C,bu v,.int m]=some (.bl (iW C v m)):=
 cg rfl (cL (aK (dJ (ps:=[(bu v,.sh []),(eL (cH C m),.own)]) (by rw[aW,aW];show lI _ (lI (bY _ _ _ _ _ [some (obj C,.sh []),some (bu v,.sh []),some (.int m,.sh [])]) _)=_;rw[l8 (C:=C) (t:=.sh []) (t2:=.sh []) rfl rfl (zL h1 h2)];rfl) (Gx (es:=v) (g.ed m).ed (by omega) D.lst rfl)) rfl RU))
theorem acj{L:List Ch}{m:Int}(h1:1<=m)(h2:m<=L.length):BD [obj L,.int m]=some (.int (ch L m).1):=
 cg rfl (cL (aK (d1:=ent (ch L m)) (l8 rfl rfl (CN h1 h2)) rfl rfl))
abbrev kf:EF:=kr (ay (e1 zC (bY "Changes" "rank_of" BD (aj 1) (ay (aj 0) aI))) (ay (aj 0) aI))
abbrev pr(C:List Ch):Int->Int×Int:=su kf (obj C)
theorem NK{C:List Ch}{x:Int}(h1:1<=x)(h2:x<=C.length):qD kf (obj C) x=some (-(ch C x).1,x):=by
 unfold qD;have e:e1 zC (bY "Changes" "rank_of" BD (aj 1) (ay (aj 0) aI)) [some (.int x,.own),some (obj C,.sh [])]=some (.int (-(ch C x).1),.own):=bT (l8 (C:=C) (t:=.sh []) (t2:=.sh [0]) rfl rfl (acj h1 h2)) rfl;show(match kr _ _ with|some (.tup [.int a,.int b],_)=>some (a,b)|_=>none)=_;rw[o_,aW,e];rfl
theorem XE{C:List Ch}{ns:List Int}(h:Row C ns)(hn:ns.Nodup):(ns.map (pr C)).Nodup:=by
 have Lv:∀x∈ns,pr C x=(-(ch C x).1,x):=λx m=>by
  show(qD kf (obj C) x).getD _=_;rw[NK (h x m).1 (h x m).2];rfl
 unfold List.Nodup;rw[adV];refine hn.imp_of_mem λ{a b} ma mb ne e=>ne ?_
 rw[Lv a ma,Lv b mb] at e;exact(Prod.mk.injEq .. ▸ e).2
theorem ZJ(h:Row C ns)(hn:ns.Nodup)(hl:ns.length<64):Ot [obj C,iL ns]=some (iL (iX (pr C) ns)):=by
 refine cg rfl (cL ?_);show(match dM (ns.map D.int) with|some ns=>if ns.length<64/\(ns.map (pr C)).Nodup/\∀n∈ns,(qD kf (obj C) n).isSome=true then some (D.lst ((iX (pr C) ns).map D.int),Tag.own) else none|none=>none)=_;rw[tQ];dsimp only;rw[if_pos ⟨hl,XE h hn,λx m=>by rw[NK (h x m).1 (h x m).2];rfl⟩];rfl
noncomputable def O6:Option Int->D
 |none=>.aA
 |some x=>.int x
def xZ:SF:=eN (tV (cC CB (ay (aj 0) (ay (aj 1) (ay (aj 3) aI))))) (rZ 3) gO
theorem Jw{C:List Ch}(g:GoodC C){v:cJ}{N:D}:∀{l:List Int}{s3:Slot},Row C l->match l.find? (iW C v) with
  |some x=>cX (gN 3) (.sh []) xZ (l.map D.int) [some (obj C,.sh []),some (bu v,.sh []),some (N,.sh []),s3]=some (.rt (.int x))
  |none=>∃t3,cX (gN 3) (.sh []) xZ (l.map D.int) [some (obj C,.sh []),some (bu v,.sh []),some (N,.sh []),s3]=some (.nx [some (obj C,.sh []),some (bu v,.sh []),some (N,.sh []),t3])
 |[],s3,_=>⟨s3,rfl⟩
 |x::l,s3,h=>by
  obtain⟨h1,h2⟩:=h x aam;have q:tV (cC CB (ay (aj 0) (ay (aj 1) (ay (aj 3) aI)))) [some (obj C,.sh []),some (bu v,.sh []),some (N,.sh []),some (.int x,.sh [])]=some (iW C v x):=bU (dJ (ps:=[(obj C,.sh []),(bu v,.sh []),(.int x,.sh [])]) rfl (abL g h1 h2));have ih:=Jw g (v:=v) (N:=N) (l:=l) (s3:=some (.int x,.sh [])) λy m=>h y (aal _ m)
  rw[ac9];cases hf:iW C v x with
  |true=>
   rw[hf] at q;exact Jk (aM:=[some (obj C,.sh []),some (bu v,.sh []),some (N,.sh []),some (.int x,.sh [])]) rfl (by unfold xZ;rw[iK,q];rfl)
  |false=>
   rw[hf] at q;have e:=nQ (g:=gN 3) (t:=.sh []) (f:=xZ) (d:=.int x) (ds:=l.map D.int) (ρ:=[some (obj C,.sh []),some (bu v,.sh []),some (N,.sh []),s3]) (aM:=[some (obj C,.sh []),some (bu v,.sh []),some (N,.sh []),some (.int x,.sh [])]) rfl (by unfold xZ;rw[iK,q];rfl);dsimp only;rw[aas,e];exact ih
theorem Tc{C:List Ch}(g:GoodC C){v:cJ}{ns:List Int}(h:Row C ns)(hn:ns.Nodup)(hl:ns.length<64):AV [obj C,bu v,iL ns]=some (O6 ((iX (pr C) ns).find? (iW C v))):=by
 have hi:f7 (cC Ot (ay (aj 0) (ay (aj 2) aI))) [some (obj C,.sh []),some (bu v,.sh []),some (iL ns,.sh []),none]=some ((iX (pr C) ns).map D.int,.own):=iP (dJ (ps:=[(obj C,.sh []),(iL ns,.sh [])]) rfl (ZJ h hn hl));have lp:=Jw g (v:=v) (N:=iL ns) (l:=iX (pr C) ns) (s3:=none) λx m=>h x ((x_ ns).mem_iff.mp m)
 refine cg rfl ?_;cases e:(iX (pr C) ns).find? (iW C v) with
 |none=>
  rw[e] at lp;obtain⟨t3,lp⟩:=lp;exact sq (wY hi lp) rfl
 |some x=>
  rw[e] at lp;exact ja (L5 hi lp)
theorem Ii:∀{row:List Int}{v v':cJ}{m:Int},e_ v (ez C row)=some v'->bad v' (cH C m)=[]->e_ v (ez C (row++[m]))=some (di v' (cH C m))
 |[],v,v',m,h,hb=>by
  cases h;show(if bad v (cH C m)=[] then e_ (di v (cH C m)) [] else none)=_;rw[if_pos hb];rfl
 |x::r,v,v',m,h,hb=>by
  have h:(if bad v (cH C x)=[] then e_ (di v (cH C x)) (ez C r) else none)=some v':=h;show(if bad v (cH C x)=[] then e_ (di v (cH C x)) (ez C (r++[m])) else none)=_
  by_cases OV:bad v (cH C x)=[]
  .rw[if_pos OV] at h ⊢;exact Ii h hb
  .rw[if_neg OV] at h;cases h
theorem JB{c:TF}{b:SF}{n:Nat}{ρ ρ':av}(h1:c ρ=some true)(h2:b ρ=some (.nx ρ')):gx c b (n+1) ρ=gx c b n ρ':=by rw[gx,h1];dsimp only;rw[h2]
theorem GU{c:TF}{b:SF}{n:Nat}{ρ:av}(h1:c ρ=some false):gx c b (n+1) ρ=some (.nx ρ):=by rw[gx,h1]
theorem Yy{c:TF}{b:SF}{n:Nat}{ρ:av}{d:D}(h1:c ρ=some true)(h2:b ρ=some (.rt d)):gx c b (n+1) ρ=some (.rt d):=by rw[gx,h1];dsimp only;rw[h2]
abbrev cF:TF:=tV (e2 oLt (e1 gk (aj 5)) (aj 4))
abbrev bF:SF:=(bV (c8 8 (cC AV (ay (aj 0) (ay (aj 7) (ay (cC AE (ay (aj 0) (ay (aj 1) (ay (aj 5) (ay (aj 6) aI))))) aI))))) (bV (eN (tV (e2 iF (aj 8) (eC .aA))) (rZ 5) gO) (bV (k_ 5 (aj 8)) (bV (xY 6 (aj 8)) (jg (f7 (bY "Changes" "edits_of" AJ (aj 0) (ay (aj 8) aI))) (gT (d7 (gN 9) (d7 (gN 10) (d7 (gN 11) lZ)))) (pI 7 (aj 9) (aj 11)))))))
def rF(C:List Ch)(ln ld wt:List Int)(w:Int)(told left:List Int)(u:cJ)(s8 s9 iR i_:Slot):av:=[some (obj C,.sh []),some (iL ln,.sh []),some (iL ld,.sh []),some (iL wt,.sh []),some (.int w,.sh []),some (iL told,.own),some (iL left,.own),some (bu u,.own),s8,s9,iR,i_]
structure Fl(C:List Ch)(ln told left:List Int)(w:Int)(ex:List Int):Prop where
 nd:ex.Nodup
 sub:∀x∈ex,x∈left
 le:((told++ex).length:Int)<=w\/ex=[]
 fst:∀x r,ex=x::r->∃v,e_ [] (ez C (ln++told))=some v/\m7 C (ln++told) x=true/\iW C v x=true
 run:∃v,e_ [] (ez C (ln++(told++ex)))=some v/\(w<=((told++ex).length:Int)\/∀x∈left,x∉ex->m7 C (ln++(told++ex)) x=true->iW C v x=false)
theorem Mi{C:List Ch}(g:GoodC C){ln ld wt:List Int}{w:Int}:∀{n:Nat}{told left:List Int}{u v:cJ}{s8 s9 iR i_:Slot},Row C left->left.Nodup->left.length<64->ln.length+told.length+left.length<=1000->e_ [] (ez C (ln++told))=some v->(∀k,gV u k=gV v k)->Kb u->left.length<n->
  ∃ex,bV (gx cF bF n) (rZ 5) (rF C ln ld wt w told left u s8 s9 iR i_)=some (.rt (iL (told++ex)))/\Fl C ln told left w ex
 |n+1,told,left,u,v,s8,s9,iR,i_,hr,nd,hl,hs,hv,hu,ku,hn=>by
  have c1:cF (rF C ln ld wt w told left u s8 s9 iR i_)=some (decide ((told.length:Int)<w)):=bU (aK (d1:=.int told.length) (d2:=.int w) (t2:=.sh []) (bT (d:=iL told) (t:=.sh [5]) rfl (by show some (D.int (told.map D.int).length)=_;rw[List.length_map])) rfl rfl)
  by_cases hw:(told.length:Int)<w
  .rw[aaD hw] at c1;have ef:iW C u=iW C v:=funext λx=>by unfold iW;rw[VY hu]
   have q1:cC AV (ay (aj 0) (ay (aj 7) (ay (cC AE (ay (aj 0) (ay (aj 1) (ay (aj 5) (ay (aj 6) aI))))) aI))) (rF C ln ld wt w told left u s8 s9 iR i_)=some (O6 ((iX (pr C) (left.filter (m7 C (ln++told)))).find? (iW C v)),.own):=by
    refine dJ (ps:=[(obj C,.sh []),(bu u,.sh [7]),(iL (left.filter (m7 C (ln++told))),.own)]) ?_ ?_
    .rw[aW,aW,aW,dJ (ps:=[(obj C,.sh []),(iL ln,.sh []),(iL told,.sh [5]),(iL left,.sh [6])]) rfl (Nl g (a:=ln) (b:=told) (wt:=left) (by omega) hr (by omega))];rfl
    .show AV [obj C,bu u,_]=_;rw[Tc g (λx m=>hr x (ab5.mp m).1) (nd.sublist adw) (aed (adG _ _) hl),ef]
   have pm:=λx=>(x_ (pr:=pr C) (left.filter (m7 C (ln++told)))).mem_iff (a:=x)
   cases hb:(iX (pr C) (left.filter (m7 C (ln++told)))).find? (iW C v) with
   |none=>
    rw[hb] at q1;refine⟨[],ja ((Yy c1 (jZ q1 (ja rfl))).trans (by rw[acH])),.nil,(λx m=>nomatch m),.inr rfl,(λx r e=>nomatch e),v,by rw[acH];exact hv,.inr λx m _ hf=>?_⟩;rw[acH] at hf;have:=adR.mp hb x ((pm x).mpr (ab5.mpr ⟨m,hf⟩));simpa using this
   |some x=>
    rw[hb] at q1;have mf:=(pm x).mp (adK hb);have m:=(ab5.mp mf).1;have f:=Zc.mp (aeu hb);obtain⟨h1,h2⟩:=hr x m;have hE:=(g.ed x).ed.ln;have zY:=List.length_erase_of_mem m;have hp:=List.length_pos_of_mem m;obtain⟨t9,Ms,Qh,lp⟩:=AK (g:=gT (d7 (gN 9) (d7 (gN 10) (d7 (gN 11) lZ)))) (t:=.sh []) (f:=pI 7 (aj 9) (aj 11)) (λv x' y z=>rF C ln ld wt w (told++[x]) (left.erase x) v (some (.int x,.own)) x' y z) (λ_ _ _ _ _=>rfl) (λv p h=>CQ (es:=v) (k:=p.1) (v:=p.2.2) (t1:=.sh [11]) (t2:=.sh [9]) rfl rfl rfl h) (E:=cH C x) (v:=u) (x:=cD 6 (cD 5 s9)) (y:=cD 6 (cD 5 iR)) (z:=cD 6 (cD 5 i_)) (by have:=ku.len;omega);have st:bF (rF C ln ld wt w told left u s8 s9 iR i_)=some (.nx (rF C ln ld wt w (told++[x]) (left.erase x) (di u (cH C x)) (some (.int x,.own)) t9 Ms Qh)):=by
     refine jZ q1 (fC rfl ?_);refine sq (ρ':=rF C ln ld wt w (told++[x]) left u (some (.int x,.own)) (cD 5 s9) (cD 5 iR) (cD 5 i_)) ((BZ (ns:=told) (n:=x) (t1:=.sh [8]) rfl rfl (size_le (by omega))).trans rfl) ?_;refine sq (ρ':=rF C ln ld wt w (told++[x]) (left.erase x) u (some (.int x,.own)) (cD 6 (cD 5 s9)) (cD 6 (cD 5 iR)) (cD 6 (cD 5 i_))) ((RK (ns:=left) (t:=.sh [8]) rfl rfl m).trans rfl) ?_;exact wY (iP (l8 (C:=C) (t:=.sh []) (t2:=.sh [8]) rfl rfl (zL h1 h2))) lp
    obtain⟨ex,e,F⟩:=Mi g (ln:=ln) (ld:=ld) (wt:=wt) (w:=w) (n:=n) (told:=told++[x]) (left:=left.erase x) (u:=di u (cH C x)) (v:=di v (cH C x)) (s8:=some (.int x,.own)) (s9:=t9) (iR:=Ms) (i_:=Qh) (λy my=>hr y (List.mem_of_mem_erase my)) (nd.erase x) (by omega) (by rw[abq,adn];omega) (by rw[<- adJ];exact Ii hv f) (λk=>by
     obtain⟨a1,a2⟩:=A8 (cH C x) u k (g.ed x).nd;obtain⟨b1,b2⟩:=A8 (cH C x) v k (g.ed x).nd;unfold gV
     by_cases mk:k∈(cH C x).map (·.1)
     .obtain⟨p,mp,rfl⟩:=abw.mp mk;rw[a1 p mp rfl,b1 p mp rfl]
     .rw[a2 mk,b2 mk];exact hu k) (ku.di (g.ed x)) (by omega)
    have ea:told++x::ex=told++[x]++ex:=by rw[adJ];rfl
    refine⟨x::ex,?_,aby.mpr ⟨λmx=>(nd.mem_erase_iff.mp (F.sub x mx)).1 rfl,F.nd⟩,λy my=>(aaV.mp my).elim (λe=>e ▸ m) λmy=>List.mem_of_mem_erase (F.sub y my),.inl ?_,(λy r e=>by cases e;exact⟨v,hv,(ab5.mp mf).2,aeu hb⟩),?_⟩
    .rw[jo,JB c1 st,<- jo,ea];exact e
    .rw[ea];rcases F.le with h|h
     .exact h
     .rw[h,acH,abq,adn];omega
    .rw[ea];obtain⟨v',r1,r2⟩:=F.run;refine⟨v',r1,r2.imp id λr y my ny=>?_⟩;exact r y (nd.mem_erase_iff.mpr ⟨λe=>ny (e ▸ aam),my⟩) λq=>ny (aal _ q)
  .rw[abD hw] at c1;exact⟨[],(sq (GU c1) rfl).trans (by rw[acH];rfl),.nil,(λx m=>nomatch m),.inr rfl,(λx r e=>nomatch e),v,by rw[acH];exact hv,.inl (by rw[acH];omega)⟩
theorem Uz{C:List Ch}(g:GoodC C){ln ld wt:List Int}{w:Int}{v:cJ}(hb:Row C (ln++ld))(hr:Row C wt)(nd:wt.Nodup)(hw:wt.length<64)(hl:ln.length+ld.length<=100)(hv:e_ [] (ez C (ln++ld))=some v):∃ex,Hi [obj C,iL ln,iL ld,iL wt,.int w]=some (iL (ld++ex))/\Fl C ln ld wt w ex:=by
 have kv:=(G5 g hb (by rw[abq];omega) hv).2;have kd:Kb (iD (nz v)):=⟨Uj _,λk m=>kv.ks k (qV.mp (by
  obtain⟨w,e⟩:=qV.mpr m;rw[Na (by rw[Nx];exact Ji kv.nd)] at e;unfold nz at e;rw[Fx] at e
  split at e
  .rename_i mk;have:=Le.mp mk;cases h:bJ v k with
   |none=>rw[h] at this;exact absurd rfl this
   |some y=>exact⟨y,rfl⟩
  .cases e))⟩
 obtain⟨ex,e,F⟩:=Mi g (ln:=ln) (ld:=ld) (wt:=wt) (w:=w) (n:=4000) (told:=ld) (left:=wt) (u:=iD (nz v)) (v:=v) (s8:=none) (s9:=none) (iR:=none) (i_:=none) hr nd hw (by omega) hv (QK kv.nd) kd (by omega);exact⟨ex,cg rfl (jZ (bT (d:=iL ld) (t:=.sh []) rfl uf) (jZ (bT (d:=iL wt) (t:=.sh []) rfl uf) (jZ (dJ (ps:=[(obj C,.sh []),(iL ln,.sh []),(iL ld,.sh [])]) rfl (Ua g hl hb hv)) e))),F⟩
noncomputable def best:Int×Int->List (Int×Int)->Int×Int
 |p,[]=>p
 |p,q::r=>best (if p.2-p.1<q.2-q.1 then q else p) r
noncomputable def pairs(f:List Int):List (Int×Int):=f.zip f.tail
def mid(f:List Int):Int:=let p:=best (f.headD 0,f.headD 0) (pairs f);(p.1+p.2) / 2
theorem yW:∀(l:List (Int×Int)) (p:Int×Int),best p l=p\/best p l∈l
 |[],p=>.inl rfl
 |q::r,p=>by
  unfold best
  by_cases h:p.2-p.1<q.2-q.1
  .rw[if_pos h];rcases yW r q with e|e
   .rw[e];exact .inr aam
   .exact .inr (aal _ e)
  .rw[if_neg h];rcases yW r p with e|e
   .exact .inl e
   .exact .inr (aal _ e)
theorem AU:∀(l:List (Int×Int)) (p:Int×Int),p.2-p.1<=(best p l).2-(best p l).1/\∀q∈l,q.2-q.1<=(best p l).2-(best p l).1
 |[],p=>⟨Int.le_refl _,λq m=>nomatch m⟩
 |x::r,p=>by
  unfold best
  by_cases h:p.2-p.1<x.2-x.1
  .rw[if_pos h];obtain⟨h1,h2⟩:=AU r x;refine⟨by omega,λq m=>?_⟩;rcases aaV.mp m with rfl|m
   .exact h1
   .exact h2 q m
  .rw[if_neg h];obtain⟨h1,h2⟩:=AU r p;refine⟨h1,λq m=>?_⟩;rcases aaV.mp m with rfl|m
   .omega
   .exact h2 q m
theorem Fj:∀(r:List Int) (a:Int),(∀q∈pairs (a::r),q.2-q.1<=1)->(a::r).getLastD 0<=a+r.length
 |[],a,_=>by simp
 |b::r,a,h=>by
  have h1:b-a<=1:=h (a,b) (by unfold pairs;exact aam);have h2:=Fj r b λq m=>h q (by unfold pairs at m ⊢;exact aal _ m)
  have e:(a::b::r).getLastD 0=(b::r).getLastD 0:=by simp[List.getLastD]
  rw[e,abQ];omega
noncomputable abbrev fence(ws:List Int)(e:Int):List Int:=0::(ws++[e])
theorem Gz{f:List Int}{q:Int×Int}(m:q∈pairs f):q.1∈f/\q.2∈f:=by
 unfold pairs at m;obtain⟨h1,h2⟩:=List.of_mem_zip m;exact⟨h1,List.mem_of_mem_tail h2⟩
theorem Q5{ws:List Int}{e:Int}(hw:∀x∈ws,1<=x)(hl:(ws.length:Int)<e-1):1<=mid (fence ws e):=by
 have hf:∀x∈fence ws e,0<=x:=λx m=>by
  rcases aaV.mp m with rfl|m
  .exact Int.le_refl _
  .rcases abo.mp m with m|m
   .have:=hw x m;omega
   .cases aaX.mp m;omega
 obtain⟨q,m,hq⟩:∃q∈pairs (fence ws e),2<=q.2-q.1:=by
  refine ady λhn=>?_
  have:=Fj (ws++[e]) 0 λq m=>by
   refine ady λh=>hn ⟨q,m,by omega⟩
  have q1:(0::(ws++[e])).getLastD 0=e:=by rw[show(0::(ws++[e]))=(0::ws)++[e] from rfl,List.getLastD_concat]
  rw[q1,abq,adn] at this;omega
 have hb:=(AU (pairs (fence ws e)) ((fence ws e).headD 0,(fence ws e).headD 0)).2 q m;unfold mid;dsimp only;rcases yW (pairs (fence ws e)) ((fence ws e).headD 0,(fence ws e).headD 0) with h|h
 .rw[h] at hb;dsimp only at hb;omega
 .obtain⟨h1,h2⟩:=Gz h;have:=hf _ h1;omega
noncomputable def Ig(p:Int×Int):D:=.tup [.int p.1,.int p.2]
noncomputable def rM(f:List Int)(l h:Int)(t1 t2:Tag)(s3 s4:Slot):av:=[some (.lst (f.map D.int),.sh []),some (.int l,t1),some (.int h,t2),s3,s4]
abbrev bM:SF:=eN (tV (e2 qY (e2 j8 (aj 4) (aj 3)) (e2 j8 (aj 2) (aj 1)))) (bV (c8 1 (aj 3)) (c8 2 (aj 4))) gO
abbrev gM:GF:=gT (d7 (gN 3) (d7 (gN 4) lZ))
theorem F0{f:List Int}:∀(ps:List (Int×Int)) (p:Int×Int) (t1 t2:Tag) (s3 s4:Slot),∃Vc Ry xB VJ,cX gM (.sh []) bM (ps.map Ig) (rM f p.1 p.2 t1 t2 s3 s4)=some (.nx (rM f (best p ps).1 (best p ps).2 Vc Ry xB VJ))
 |[],p,t1,t2,s3,s4=>⟨t1,t2,s3,s4,rfl⟩
 |q::r,p,t1,t2,s3,s4=>by
  have hc:tV (e2 qY (e2 j8 (aj 4) (aj 3)) (e2 j8 (aj 2) (aj 1))) (rM f p.1 p.2 t1 t2 (some (.int q.1,.own)) (some (.int q.2,.own)))=some (decide (p.2-p.1<q.2-q.1)):=rfl
  by_cases h:p.2-p.1<q.2-q.1
  .have hb:bM (rM f p.1 p.2 t1 t2 (some (.int q.1,.own)) (some (.int q.2,.own)))=some (.nx (rM f q.1 q.2 (.sh [3]) (.sh [4]) (some (.int q.1,.own)) (some (.int q.2,.own)))):=by
    unfold bM;rw[iK,hc,aaD h,P9];rfl
   obtain⟨a,b,c,d,hh⟩:=F0 (f:=f) r q (.sh [3]) (.sh [4]) (some (.int q.1,.own)) (some (.int q.2,.own));refine⟨a,b,c,d,(nQ rfl hb).trans ?_⟩;unfold best;rw[if_pos h];exact hh
  .have hb:bM (rM f p.1 p.2 t1 t2 (some (.int q.1,.own)) (some (.int q.2,.own)))=some (.nx (rM f p.1 p.2 t1 t2 (some (.int q.1,.own)) (some (.int q.2,.own)))):=by
    unfold bM;rw[iK,hc,abD h,Ol];rfl
   obtain⟨a,b,c,d,hh⟩:=F0 (f:=f) r p t1 t2 (some (.int q.1,.own)) (some (.int q.2,.own));refine⟨a,b,c,d,(nQ rfl hb).trans ?_⟩;unfold best;rw[if_neg h];exact hh
theorem WV(a:Int)(r:List Int):m6 (some 1) none (.lst ((a::r).map D.int))=some (.lst (r.map D.int)):=by
 show(if aN ((a::r).map D.int)=true then some (D.lst (cutD ((a::r).map D.int) (some 1) none)) else none)=_;rw[if_pos (eE _)];have:cutD ((a::r).map D.int) (some 1) none=r.map D.int:=by
  unfold cutD;have e:HT.fR ((a::r).map D.int).length 0 (some 1)=1:=by
   have q:=HT.Fk ((a::r).map D.int).length 0 1;rw[show((1:Nat):Int)=1 from rfl] at q;rw[q,List.length_map,abQ];omega
  rw[HT.EV,e,aas,List.drop_succ_cons,List.drop_zero,abQ,Nat.add_sub_cancel,List.take_length]
 rw[this]
theorem RE(a:Int)(r:List Int):uY [.lst ((a::r).map D.int)]=some (.int (mid (a::r))):=by
 refine cg rfl ?_;show Gu [some (.lst ((a::r).map D.int),.sh []),none,none,none,none]=_;unfold Gu;have q1:c8 1 (e2 dW (aj 0) (eC (.int 0))) [some (.lst ((a::r).map D.int),.sh []),none,none,none,none]=some (.nx [some (.lst ((a::r).map D.int),.sh []),some (.int a,.own),none,none,none]):=by
  have hx:dW (.lst ((a::r).map D.int)) (.int 0)=some (.int a):=qT (by rw[LV (by omega) (by rw[abQ];omega)];rfl) rfl;rw[mO,jQ];show zp 1 _ ((dW (.lst ((a::r).map D.int)) (.int 0)).map _)=_;rw[hx];rfl
 have q2:c8 2 (aj 1) [some (.lst ((a::r).map D.int),.sh []),some (.int a,.own),none,none,none]=some (.nx (rM (a::r) a a .own (.sh [1]) none none)):=rfl;have hz:pJ (aj 0) (e1 (m6 (some 1) none) (aj 0)) (rM (a::r) a a .own (.sh [1]) none none)=some ((pairs (a::r)).map Ig,.sh []):=by
  unfold pJ;have v0:aj 0 (rM (a::r) a a .own (.sh [1]) none none)=some (.lst ((a::r).map D.int),.sh []):=rfl;have v1:e1 (m6 (some 1) none) (aj 0) (rM (a::r) a a .own (.sh [1]) none none)=some (.lst (r.map D.int),.own):=by
   rw[vV,v0];show(m6 (some 1) none (.lst ((a::r).map D.int))).map _=_;rw[WV];rfl
  rw[v0,v1];dsimp only;rw[if_pos (by rw[eE,eE];rfl)];refine congrArg some (Prod.ext ?_ rfl);show((((a::r).map D.int).zip (r.map D.int)).map λp=>D.tup [p.1,p.2])=_;rw[List.zip_map,ac7];rfl
 obtain⟨t1,t2,s3,s4,hl⟩:=F0 (f:=a::r) (pairs (a::r)) (a,a) .own (.sh [1]) none none;have hf:jg (pJ (aj 0) (e1 (m6 (some 1) none) (aj 0))) gM bM (rM (a::r) a a .own (.sh [1]) none none)=some (.nx (rM (a::r) (best (a,a) (pairs (a::r))).1 (best (a,a) (pairs (a::r))).2 t1 t2 s3 s4)):=uX (t:=.sh []) hz hl;rw[jo,q1,nu,jo,q2,nu,jo];rw[hf,nu];unfold mid;rw[show((a::r).headD 0,(a::r).headD 0)=(a,a) from rfl];generalize best (a,a) (pairs (a::r))=p;have v1:aj 1 (rM (a::r) p.1 p.2 t1 t2 s3 s4)=some (.int p.1,F2 1 t1):=rfl;have v2:aj 2 (rM (a::r) p.1 p.2 t1 t2 s3 s4)=some (.int p.2,F2 2 t2):=rfl;rw[Aj,jQ,jQ,v1,v2,yf,jv,Kg,EK,yf,Z5 (by omega) (by omega)];rfl
noncomputable def jE:Option Int->D
 |none=>.aA
 |some b=>.int b
noncomputable def endOf(size:Int):Option Int->Int
 |none=>size+1
 |some b=>b
def pick(size:Int)(bad:Option Int)(e:Int)(ws:List Int):Int:=if(bad.isNone&&!(ws.any (· == size)))=true then size else mid (fence ws e)
def ko(size:Int)(bad:Option Int)(e:Int)(ws:List Int):List Int:=cj (ws++[pick size bad e ws])
noncomputable def lim(e aP:Int):Int:=if e-1<aP then e-1 else aP
def iO(size:Int)(bad:Option Int)(e aP:Int):Nat->List Int->List Int
 |0,ws=>ws
 |n+1,ws=>if(ws.length:Int)<lim e aP then iO size bad e aP n (ko size bad e ws) else ws
theorem Bf{size:Int}{bad:Option Int}{e:Int}{ws:List Int}:(ko size bad e ws).length=ws.length+1:=by unfold ko;rw[uv,abq];rfl
theorem I_(b:Option Int):n8 (jE b)=b.isNone:=by cases b<;>rfl
abbrev cW:TF:=tV (e2 oLt (e1 gk (aj 5)) (e2 sQ (aj 3) (e2 j8 (aj 4) (eC (.int 1)))))
abbrev bW:SF:=bV (eN (jY (tV (e2 iF (aj 1) (eC .aA))) (tV (e2 (jB true) (aj 0) (aj 5)))) (k_ 5 (aj 0)) (k_ 5 (cC uY (ay (e2 fP (e2 fP (iU (ay (eC (.int 0)) aI)) (aj 5)) (iU (ay (aj 4) aI))) aI)))) (c8 5 (e1 lJ (aj 5)))
def zy(t:Tag):Prop:=t=.own\/t=.sh []
def rW(size:Int)(bad:Option Int)(kd:D)(aP e:Int)(t4:Tag)(ws:List Int):av:=[some (.int size,.sh []),some (jE bad,.sh []),some (kd,.sh []),some (.int aP,.sh []),some (.int e,t4),some (.lst (ws.map D.int),.own)]
section
variable{size aP e:Int}{bad:Option Int}{kd:D}{t4:Tag}{ws:List Int}
theorem J7:cW (rW size bad kd aP e t4 ws)=some (decide ((ws.length:Int)<lim e aP)):=by
 show some (decide (((ws.map D.int).length:Int)<(if e-1<aP then e-1 else aP)))=_;rw[List.length_map];rfl
theorem S5:(tV (e2 (jB true) (aj 0) (aj 5))) (rW size bad kd aP e t4 ws)=some (!(ws.any (· == size))):=by
 rw[x8,jQ];show Ev.kV ((jB true (.int size) (.lst (ws.map D.int))).map _)=_;rw[yL];rfl
theorem Q9:(jY (tV (e2 iF (aj 1) (eC .aA))) (tV (e2 (jB true) (aj 0) (aj 5)))) (rW size bad kd aP e t4 ws)=some (bad.isNone&&!(ws.any (· == size))):=by
 refine tL ?_ S5;show some (n8 (jE bad))=_;rw[I_]
theorem Nz(h:zy t4)(x:Int):bP (rW size bad kd aP e t4 ws) 5 (.lst ((ws++[x]).map D.int))=rW size bad kd aP e t4 (ws++[x]):=by
 rcases h with rfl|rfl<;>rfl
theorem V9(hl:ws.length<63):(e2 fP (e2 fP (iU (ay (eC (.int 0)) aI)) (aj 5)) (iU (ay (aj 4) aI))) (rW size bad kd aP e t4 ws)=some (.lst ((fence ws e).map D.int),.own):=by
 have h1:fP (.lst (([0]:List Int).map D.int)) (.lst (ws.map D.int))=some (.lst (([0]++ws).map D.int)):=sS (by unfold PySem.sizeLine;show 1+ws.length<=_;omega);have h2:fP (.lst (([0]++ws).map D.int)) (.lst (([e]:List Int).map D.int))=some (.lst (([0]++ws++[e]).map D.int)):=sS (by unfold PySem.sizeLine;rw[abq];show 1+ws.length+1<=_;omega);rw[jQ,jQ];show k2 fP ((fP (.lst (([0]:List Int).map D.int)) (.lst (ws.map D.int))).map _) _=_;rw[h1,Kg];show(fP (.lst (([0]++ws).map D.int)) (.lst (([e]:List Int).map D.int))).map _=_;rw[h2];rfl
theorem ZY(ht:zy t4)(hl:ws.length<63):bW (rW size bad kd aP e t4 ws)=some (.nx (rW size bad kd aP e t4 (ko size bad e ws))):=by
 have hz:ws.length<PySem.sizeLine:=by unfold PySem.sizeLine;omega
 have h1:eN (jY (tV (e2 iF (aj 1) (eC .aA))) (tV (e2 (jB true) (aj 0) (aj 5)))) (k_ 5 (aj 0)) (k_ 5 (cC uY (ay (e2 fP (e2 fP (iU (ay (eC (.int 0)) aI)) (aj 5)) (iU (ay (aj 4) aI))) aI))) (rW size bad kd aP e t4 ws)=some (.nx (rW size bad kd aP e t4 (ws++[pick size bad e ws]))):=by
  rw[iK,Q9];unfold pick
  by_cases hb:(bad.isNone&&!(ws.any (· == size)))=true
  .rw[hb,P9,if_pos rfl,BZ (ns:=ws) (n:=size) (t1:=.sh []) rfl rfl hz,Nz ht]
  .have yo:(bad.isNone&&!(ws.any (· == size)))=false:=by simpa using hb
   have hm:cC uY (ay (e2 fP (e2 fP (iU (ay (eC (.int 0)) aI)) (aj 5)) (iU (ay (aj 4) aI))) aI) (rW size bad kd aP e t4 ws)=some (.int (mid (fence ws e)),.own):=by
    rw[s_call,aW,V9 hl,ya,Bh,Mh];simp only[aas,aeT];have:=RE 0 (ws++[e]);rw[aas] at this;rw[this];rfl
   rw[yo,Ol,if_neg aa9,BZ (ns:=ws) hm rfl hz,Nz ht]
 unfold bW;rw[jo,h1,nu,mO,vV];show zp 5 _ ((lJ (.lst ((ws++[pick size bad e ws]).map D.int))).map _)=_;rw[K2 (by rw[abq];show ws.length+1<64;omega)];rfl
theorem Ku(ht:zy t4)(hh:aP<=60):∀(n:Nat) (ws:List Int) (m:Nat),aP-ws.length<=n->n<m->gx cW bW m (rW size bad kd aP e t4 ws)=some (.nx (rW size bad kd aP e t4 (iO size bad e aP n ws)))
 |_,_,0,_,h=>absurd h (Nat.not_lt_zero _)
 |0,ws,m+1,h,_=>by
  have:¬((ws.length:Int)<lim e aP):=by unfold lim;split<;>omega
  rw[gx,J7,abD this];rfl
 |n+1,ws,m+1,h,hm=>by
  rw[gx,J7];unfold iO
  by_cases hc:(ws.length:Int)<lim e aP
  .have h1:(ws.length:Int)<aP:=by unfold lim at hc;split at hc<;>omega
   rw[aaD hc,if_pos hc];dsimp only;rw[ZY ht (by omega)];exact Ku ht hh n (ko size bad e ws) m (by rw[Bf];omega) (by omega)
  .rw[abD hc,if_neg hc]
end
noncomputable def jL(e:Int)(ks:List Int):List Int:=ks.filter λk=>decide (k<e)
noncomputable def kI(e:Int):D->Option D
 |.int i=>if decide (i<e)=true then some (.int i) else none
 |_=>none
theorem E8(e:Int):∀ks:List Int,(ks.map D.int).filterMap (kI e)=(jL e ks).map D.int
 |[]=>rfl
 |k::r=>by
  unfold jL;rw[aas,adv,aeE];have hk:kI e (D.int k)=if decide (k<e)=true then some (D.int k) else none:=rfl
  by_cases h:decide (k<e)=true
  .rw[hk,if_pos h,if_pos h,aas];dsimp only;rw[E8 e r];rfl
  .rw[hk,if_neg h,if_neg h];exact E8 e r
theorem Xh{js:List (Option Nat)}{it:IF}{ρ:av}{ks:List Int}{e:Int}{t:Tag}(hi:it ρ=some (ks.map D.int,t))(hj:jc js ρ=[none,some (.int e,.sh [])])(hl:ks.length<64):
  gY js it (gN 0) (tV (e2 oLt (aj 0) (aj 1))) (aj 0) ρ=some (.lst ((jL e ks).map D.int),.own):=by
 have hc:=jr (js:=js) (it:=it) (ρ:=ρ) (t:=t) (g:=gN 0) (tt:=tV (e2 oLt (aj 0) (aj 1))) (te:=aj 0) (ds:=ks.map D.int) (k:=kI e) hi (by rw[List.length_map];unfold PySem.sizeLine;omega) (λd m=>by
  obtain⟨i,mi,rfl⟩:=abw.mp m;rw[hj];show _=some (if decide (i<e)=true then some (D.int i) else none)
  by_cases h:decide (i<e)=true
  .rw[if_pos h];refine sM (aM:=[some (.int i,.sh []),some (.int e,.sh [])]) (tg:=.sh []) rfl ?_ rfl rfl;show some (decide (i<e))=_;rw[h]
  .rw[if_neg h];refine AX (aM:=[some (.int i,.sh []),some (.int e,.sh [])]) rfl ?_;show some (decide (i<e))=_;rw[ad3.mpr h])
 rw[hc,E8]
theorem aab{size:Int}{bad:Option Int}{ρ:av}(h0:aj 0 ρ=some (.int size,.sh []))(h1:aj 1 ρ=some (jE bad,.sh [])):∃t,zy t/\nO (tV (e2 iF (aj 1) (eC .aA))) (e2 fZ (aj 0) (eC (.int 1))) (aj 1) ρ=some (.int (endOf size bad),t):=by
 have hc:tV (e2 iF (aj 1) (eC .aA)) ρ=some bad.isNone:=by
  rw[x8,jQ,h1,EK,yf,Z1,I_];rfl
 cases bad with
 |none=>exact⟨.own,.inl rfl,by rw[Kq (by rw[hc];rfl),jQ,h0,EK,yf,jv];rfl⟩
 |some b=>exact⟨.sh [],.inr rfl,by rw[LZ (by rw[hc];rfl),h1];rfl⟩
def W(size:Int)(bad:Option Int)(ks:List Int)(aP:Int):List Int:=iO size bad (endOf size bad) aP 100 (jL (endOf size bad) ks)
theorem Yv{size aP:Int}{bad:Option Int}{ks:List Int}(hh:aP<=60)(hl:ks.length<64)(kd:D)(hk:f7 (aj 2) [some (.int size,.sh []),some (jE bad,.sh []),some (kd,.sh []),some (.int aP,.sh []),none,none]=some (ks.map D.int,.sh []))
  (hk2:∀t,f7 (aj 2) [some (.int size,.sh []),some (jE bad,.sh []),some (kd,.sh []),some (.int aP,.sh []),some (.int (endOf size bad),t),none]=some (ks.map D.int,.sh [])) :
  Dv [.int size,jE bad,kd,.int aP]=some (.lst ((W size bad ks aP).map D.int)):=by
 refine cg rfl ?_;show BW [some (.int size,.sh []),some (jE bad,.sh []),some (kd,.sh []),some (.int aP,.sh []),none,none]=_;unfold BW;obtain⟨t4,ht,h1⟩:=aab (size:=size) (bad:=bad) (ρ:=[some (.int size,.sh []),some (jE bad,.sh []),some (kd,.sh []),some (.int aP,.sh []),none,none]) rfl rfl;have q1:c8 4 (nO (tV (e2 iF (aj 1) (eC .aA))) (e2 fZ (aj 0) (eC (.int 1))) (aj 1)) [some (.int size,.sh []),some (jE bad,.sh []),some (kd,.sh []),some (.int aP,.sh []),none,none]=some (.nx [some (.int size,.sh []),some (jE bad,.sh []),some (kd,.sh []),some (.int aP,.sh []),some (.int (endOf size bad),t4),none]):=by
  rw[mO,h1];rcases ht with rfl|rfl<;>rfl
 have q2:c8 5 (gY [none,some 4] (f7 (aj 2)) (gN 0) (tV (e2 oLt (aj 0) (aj 1))) (aj 0)) [some (.int size,.sh []),some (jE bad,.sh []),some (kd,.sh []),some (.int aP,.sh []),some (.int (endOf size bad),t4),none]=some (.nx (rW size bad kd aP (endOf size bad) t4 (jL (endOf size bad) ks))):=by
  rw[mO,Xh (e:=endOf size bad) (hk2 t4) rfl hl];rfl
 have q3:=Ku (size:=size) (bad:=bad) (kd:=kd) (e:=endOf size bad) ht hh 100 (jL (endOf size bad) ks) 4000 (by omega) (by omega);rw[jo,q1,nu,jo,q2,nu,jo,q3,nu];rfl
theorem US{size aP:Int}{bad:Option Int}{ks:List Int}(hh:aP<=60)(hl:ks.length<64):Dv [.int size,jE bad,.lst (ks.map D.int),.int aP]=some (.lst ((W size bad ks aP).map D.int)):=Yv hh hl _ rfl λ_=>rfl
theorem Jm{size e aP:Int}{bad:Option Int}(hh:aP<=60):∀(n:Nat) (ws:List Int),ws.length<64->(iO size bad e aP n ws).length<64
 |0,ws,h=>h
 |n+1,ws,h=>by
  unfold iO
  split
  .rename_i hc;refine Jm hh n _ ?_;rw[Bf];unfold lim at hc
   split at hc<;>omega
  .exact h
theorem ZD{size aP:Int}{bad:Option Int}{ks:List Int}(hh:aP<=60)(hl:ks.length<64):(W size bad ks aP).length<64:=Jm hh _ _ (aed (adG _ _) hl)
structure kq(e:Int)(ws:List Int):Prop where
 so:ws.Pairwise (· < ·)
 bd:∀x∈ws,1<=x/\x<e
theorem between:∀{f:List Int}{q:Int×Int}{x:Int},f.Pairwise (· < ·)->q∈pairs f->x∈f->x<=q.1\/q.2<=x
 |[],q,x,_,m,_=>by cases m
 |[a],q,x,_,m,_=>by cases m
 |a::b::r,q,x,hp,m,mx=>by
  obtain⟨h1,h2⟩:=adf.mp hp;have hs:pairs (a::b::r)=(a,b)::pairs (b::r):=rfl;rw[hs] at m;rcases aaV.mp m with hq|m'
  .subst hq;rcases aaV.mp mx with hx|ug
   .exact .inl (by show x<=a;omega)
   .rcases aaV.mp ug with hx|TY
    .exact .inr (by show b<=x;omega)
    .have:=(adf.mp h2).1 x TY;exact .inr (by show b<=x;omega)
  .rcases aaV.mp mx with hx|ug
   .have:=h1 q.1 (Gz m').1;exact .inl (by omega)
   .exact between h2 m' ug
theorem acZ{e:Int}{ws:List Int}(h:kq e ws)(he:1<=e):(fence ws e).Pairwise (· < ·):=by
 refine adf.mpr ⟨λx m=>?_,List.pairwise_append.mpr ⟨h.so,List.pairwise_singleton _ _,λx m y my=>?_⟩⟩
 .rcases abo.mp m with m|m
  .have:=h.bd x m;omega
  .cases aaX.mp m;omega
 .cases aaX.mp my;exact(h.bd x m).2
theorem U9{e:Int}{ws:List Int}(h:kq e ws)(hl:(ws.length:Int)<e-1):mid (fence ws e)<e/\mid (fence ws e)∉ws:=by
 have hf:=acZ h (by omega);obtain⟨q,m,hq⟩:∃q∈pairs (fence ws e),2<=q.2-q.1:=by
  refine ady λhn=>?_
  have:=Fj (ws++[e]) 0 λq m=>by
   refine ady λh=>hn ⟨q,m,by omega⟩
  have q1:(0::(ws++[e])).getLastD 0=e:=by rw[show(0::(ws++[e]))=(0::ws)++[e] from rfl,List.getLastD_concat]
  rw[q1,abq,adn] at this;omega
 have hb:=(AU (pairs (fence ws e)) ((fence ws e).headD 0,(fence ws e).headD 0)).2 q m;unfold mid;dsimp only;rcases yW (pairs (fence ws e)) ((fence ws e).headD 0,(fence ws e).headD 0) with h'|h'
 .rw[h'] at hb;dsimp only at hb;omega
 .generalize best ((fence ws e).headD 0,(fence ws e).headD 0) (pairs (fence ws e))=p at hb h';have h2:p.2<=e:=by
   have:=(Gz h').2;rcases aaV.mp this with z|z
   .omega
   .rcases abo.mp z with z|z
    .have:=(h.bd _ z).2;omega
    .rw[aaX.mp z];exact Int.le_refl _
  refine⟨by omega,λmx=>?_⟩;rcases between hf h' (aal _ (abb _ mx)) with z|z<;>omega
section
variable{size aP e:Int}{bad:Option Int}{ws:List Int}
theorem To(h:kq e ws)(he:e=endOf size bad)(hl:(ws.length:Int)<e-1):1<=pick size bad e ws/\pick size bad e ws<e/\pick size bad e ws∉ws:=by
 unfold pick
 split
 .rename_i hc;cases bad with
  |none=>
   have he:e=size+1:=he;refine⟨by omega,by omega,λm=>?_⟩;have:ws.any (· == size)=true:=adj.mpr ⟨size,m,ad9 size⟩;rw[this] at hc;cases hc
  |some b=>cases hc
 .obtain⟨h1,h2⟩:=U9 h hl;exact⟨Q5 (λx m=>(h.bd x m).1) hl,h1,h2⟩
theorem TZ(h:kq e ws)(he:e=endOf size bad)(hl:(ws.length:Int)<e-1):kq e (ko size bad e ws)/\∀x∈ws,x∈ko size bad e ws:=by
 obtain⟨p1,p2,p3⟩:=To h he hl;have hp:(ko size bad e ws).Perm (ws++[pick size bad e ws]):=oX _;have hn:(ko size bad e ws).Nodup:=by
  refine hp.nodup_iff.mpr (acE.mpr ⟨h.so.imp λcQ=>Int.ne_of_lt cQ,aby.mpr ⟨(λm=>by cases m),aco⟩,λa ma b mb e=>?_⟩);cases aaX.mp mb;exact p3 (e ▸ ma)
 refine⟨⟨?_,λx m=>?_⟩,λx m=>hp.mem_iff.mpr (abb _ m)⟩
 .have hs:(ko size bad e ws).Pairwise (·<=·):=zj _;exact(List.pairwise_and_iff.mpr ⟨hs,hn⟩).imp λh=>by have h1:=h.1;have h2:=h.2;omega
 .rcases abo.mp (hp.mem_iff.mp m) with m|m
  .exact h.bd x m
  .rw[aaX.mp m];exact⟨p1,p2⟩
theorem P0(he:e=endOf size bad):∀(n:Nat) (ws:List Int),kq e ws->kq e (iO size bad e aP n ws)/\∀x∈ws,x∈iO size bad e aP n ws
 |0,ws,h=>⟨h,λx m=>m⟩
 |n+1,ws,h=>by
  unfold iO
  split
  .rename_i hc;have hl:(ws.length:Int)<e-1:=by unfold lim at hc;split at hc<;>omega
   obtain⟨a,b⟩:=TZ h he hl;obtain⟨c,d⟩:=P0 he n (ko size bad e ws) a;exact⟨c,λx m=>d x (b x m)⟩
  .exact⟨h,λx m=>m⟩
end
theorem YY{size aP:Int}{bad:Option Int}{ks:List Int}(h:ks.Pairwise (· < ·))(h1:∀x∈ks,1<=x):kq (endOf size bad) (W size bad ks aP)/\∀x∈ks,x<endOf size bad->x∈W size bad ks aP:=by
 have hi:kq (endOf size bad) (jL (endOf size bad) ks):=⟨h.sublist adw,λx m=>let q:=ab5.mp m;⟨h1 x q.1,aaK q.2⟩⟩
 obtain⟨a,b⟩:=P0 (size:=size) (bad:=bad) (aP:=aP) rfl 100 _ hi;exact⟨a,λx m hx=>b x (ab5.mpr ⟨m,aaD hx⟩)⟩
theorem IJ{size e aP:Int}{bad:Option Int}:∀(n:Nat) (ws:List Int),aP-ws.length<=n->lim e aP<=(iO size bad e aP n ws).length/\((ws.length:Int)<=aP->((iO size bad e aP n ws).length:Int)<=aP)
 |0,ws,h=>⟨by unfold iO lim;split<;>omega,id⟩
 |n+1,ws,h=>by
  unfold iO
  by_cases hc:(ws.length:Int)<lim e aP
  .rw[if_pos hc];have h2:lim e aP<=aP:=by unfold lim;split<;>omega
   obtain⟨a,b⟩:=IJ (size:=size) (e:=e) (aP:=aP) (bad:=bad) n (ko size bad e ws) (by rw[Bf];omega);exact⟨a,λ_=>b (by rw[Bf];omega)⟩
  .rw[if_neg hc];exact⟨by omega,id⟩
theorem VQ{size e aP:Int}{bad:Option Int}{n:Nat}{ws:List Int}(h:lim e aP<=ws.length):iO size bad e aP n ws=ws:=by
 cases n with
 |zero=>rfl
 |succ n=>unfold iO;rw[if_neg (by omega)]
theorem oH{n N:Nat}{b:SF}{d0 d1:D}{ds:List D}{ρ:av}(hl:ds.length+1=n)(h:b (yY N d0 ds)=some (.nx ρ))(h0:ρ[0]? = some (some (d1,.own))):runM n N b d0 ds=some (.aA,d1):=by unfold runM;rw[if_pos hl,h];dsimp only;rw[h0]
noncomputable def hs(h:List Str):D:=.lst (h.map D.str)
def tob(n t:Int)(h:List Str):D:=.ins "Tally" [("need",.int n),("tries",.int t),("heard",hs h)]
theorem K4{n t:Int}(h:1<=n/\n<=t/\t<=20):YR [.int n,.int t]=some (.bl true):=
 cg rfl (cL (r_ (b:=true) (c:=true) (dJ (ps:=[(.int t,.sh []),(.int 1,.own),(.int 20,.own)]) rfl (yu.trans (by rw[aaD (show(1:Int)<=t by omega),aaD h.2.2];rfl))) (dJ (ps:=[(.int n,.sh []),(.int 1,.own),(.int t,.sh [])]) rfl (yu.trans (by rw[aaD h.1,aaD h.2.1];rfl)))))
theorem Rz{n t:Int}(h:1<=n/\n<=t/\t<=20):vX (.ins "Tally" []) [.int n,.int t]=some (.aA,tob n t []):=
 oH rfl (fC (kN (b:=true) (bU (dJ (ps:=[(.int n,.sh []),(.int t,.sh [])]) rfl (K4 h)))) rfl) rfl
theorem QS{h:List Str}{w:Str}:Ay (hs h) (.str w)=some (.int (j9 w h)):=by
 show(jS (h.map D.str)).map (λys=>D.int (j9 w ys))=_;rw[Iu];rfl
theorem WH{h:List Str}:gk (hs h)=some (.int h.length):=by unfold hs;rw[zV,List.length_map]
def word(n t:Int)(h:List Str):Str:=if(j9 "yes" h:Int) >= n then "yes" else if(j9 "no" h:Int) >= n then "no" else if(h.length:Int) >= t then "unsure" else "more"
theorem KD{n t:Int}{h:List Str}:PZ [tob n t h]=some (.str (word n t h)):=by
 have c1:∀w:Str,tV (e2 zB (e2 Ay (bA "Tally" "heard" (aj 0)) (eC (.str w))) (bA "Tally" "need" (aj 0))) [some (tob n t h,.sh [])]=some (decide ((j9 w h:Int) >= n)):=λw=>bU (aK (aK (d1:=hs h) (t1:=.sh []) (d2:=.str w) (t2:=.own) rfl rfl QS) (d2:=.int n) (t2:=.sh []) rfl rfl)
 have c2:tV (e2 zB (e1 gk (bA "Tally" "heard" (aj 0))) (bA "Tally" "tries" (aj 0))) [some (tob n t h,.sh [])]=some (decide ((h.length:Int) >= t)):=bU (aK (bT (d:=hs h) (t:=.sh []) rfl WH) (d2:=.int t) (t2:=.sh []) rfl rfl);refine cg rfl ?_;unfold word
 by_cases a1:(j9 "yes" h:Int) >= n
 .rw[if_pos a1];exact pq ((c1 _).trans (by rw[aaD a1])) (ja rfl)
 .rw[if_neg a1];refine fC ((c1 _).trans (by rw[abD a1])) ?_
  by_cases a2:(j9 "no" h:Int) >= n
  .rw[if_pos a2];exact pq ((c1 _).trans (by rw[aaD a2])) (ja rfl)
  .rw[if_neg a2];refine fC ((c1 _).trans (by rw[abD a2])) ?_
   by_cases a3:(h.length:Int) >= t
   .rw[if_pos a3];exact pq (c2.trans (by rw[aaD a3])) (ja rfl)
   .rw[if_neg a3];exact fC (c2.trans (by rw[abD a3])) rfl
theorem Ju:∀h:List Str,aN (h.map D.str)=true
 |[]=>rfl
 |x::h=>by rw[aas];unfold aN;rw[Ju h];rfl
theorem Uh{n t:Int}{h:List Str}{w:Str}(hw:w∈(["yes","no","unsure"]:List Str))(hm:word n t h="more")(hl:h.length<=100):NR (tob n t h) [.str w]=some (.str (word n t (h++[w])),tob n t (h++[w])):=by
 have m1:∀h:List Str,bY "Tally" "word" PZ (aj 0) aI [some (tob n t h,.own),some (.str w,.sh [])]=some (.str (word n t h),.own):=λh=>m9 (ps:=[]) (t:=.sh [0]) (es:=[("need",.int n),("tries",.int t),("heard",hs h)]) rfl rfl rfl KD
 refine kD rfl (fC ?_ (fC (bU (aK (m1 h) rfl (by rw[hm];rfl))) (sq (ρ':=[some (tob n t (h++[w]),.own),some (.str w,.sh [])]) (iz ?_) ?_)))
 .simp only[aaV,adp,aeV] at hw;rcases hw with rfl|rfl|rfl<;>rfl
 .refine(yT (es:=[("need",.int n),("tries",.int t),("heard",hs h)]) (d:=.str w) (t:=.sh []) (ds:=h.map D.str) rfl rfl rfl (by rw[Ju,List.length_map,aaD (size_le (by omega))];rfl)).trans ?_;unfold tob hs;rw[adb];rfl
 .unfold uw;rw[m1 (h++[w])];rfl
theorem NG{n t:Int}{h:List Str}(hm:word n t h="more"):(h.length:Int)<t:=by
 unfold word at hm
 split at hm
 .exact absurd hm (by decide +kernel)
 .split at hm
  .exact absurd hm (by decide +kernel)
  .split at hm
   .exact absurd hm (by decide +kernel)
   .omega
noncomputable abbrev Ta:=List (List Int×List Str)
structure G where
 w:Int
 h:Int
 n:Int
 t:Int
 C:List Ch
 ln:List Int
 ld:List Int
 gr:List (Key×D)
 ta:Ta
 lk:List (List Int)
 ht:Bool
 gw:List (List Int)
 en:List D
 an:Int
 br:Int
noncomputable def tD(l:List Int):D:=.tup (l.map D.int)
noncomputable def kL(l:List Int):List Key:=l.map Sum.inl
def kX(n t:Int)(ta:Ta):List (List Key×D):=ta.map λp=>(kL p.1,tob n t p.2)
def gF(g:G):List (Str×D):=[("numbers",.tup [.int g.w,.int g.h,.int g.n,.int g.t]),("known",obj g.C),("on_line",iL g.ln),("laid_ones",iL g.ld),("grounds",.bH g.gr),("tallies",.cU (kX g.n g.t g.ta)),("looks",.lst (bB g.lk)),("halted",.bl g.ht),("grown",.lst (bB g.gw)),("ended",.lst g.en),("answers",.int g.an),("breaks",.int g.br)]
def gD(g:G):D:=.ins "Gate" (gF g)
section
variable{g:G}{C:List Ch}{ρ:av}{t t2:Tag}{fo fa:EF}{f mm:Str}{d x:D}
theorem Cb{F:List D->Option D}(h:fo ρ=some (obj C,t))(ha:fa ρ=some (x,t2))(hF:F [obj C,x]=some d)(hm:(mm==("entries":Str))=false:=by decide):bY "Changes" mm F fo (ay fa aI) ρ=some (d,.own):=
 m9 (ps:=[(x,t2)]) h (z8 hm) (by rw[aW,ha,ya,Bh]) hF
theorem fl(h:fo ρ=some (gD g,t))(e:(gF g).lookup f=some d:=by rfl):bA "Gate" f fo ρ=some (d,kH t):=by
 unfold bA;rw[h];show(if("Gate":Str)="Gate" then((gF g).lookup f).map _ else none)=_;rw[if_pos rfl,e];rfl
theorem eU{F:List D->Option D}(h:fo ρ=some (gD g,t))(hF:F [gD g]=some d)(hm:(gF g).lookup mm=none:=by rfl):bY "Gate" mm F fo aI ρ=some (d,.own):=m9 (ps:=[]) h hm rfl hF
theorem qo{F:List D->Option D}(h:fo ρ=some (gD g,t))(ha:fa ρ=some (x,t2))(hF:F [gD g,x]=some d)(hm:(gF g).lookup mm=none:=by rfl):bY "Gate" mm F fo (ay fa aI) ρ=some (d,.own):=
 m9 (ps:=[(x,t2)]) h hm (by rw[aW,ha,ya,Bh]) hF
end
def bS(gr:List (Key×D))(x:Int):Bool:=(aY gr (Sum.inl x:Key)).isSome
abbrev d8(g:G)(x:Int):Bool:=bS g.gr x
def yZ(g:G)(x:Int):Bool:=!decide (x∈g.ln)&&(!decide (x∈g.ld)&&!d8 g x)
theorem Nf{l:List Int}{x:Int}{f f2:EF}{ρ:av}{t t2:Tag}(h:f ρ=some (.int x,t))(h2:f2 ρ=some (iL l,t2)):e2 (jB true) f f2 ρ=some (.bl (!decide (x∈l)),.own):=
 aK h h2 (by rw[<- BR];exact yL)
theorem UT{g:G}{x:Int}:QJ [gD g,.int x]=some (.bl (yZ g x)):=
 cg rfl (cL (r_ (Nf (x:=x) (t:=.sh []) rfl (fl (g:=g) (t:=.sh []) rfl)) (r_ (Nf (x:=x) (t:=.sh []) rfl (fl (g:=g) (t:=.sh []) rfl)) (aK (d1:=.int x) (t1:=.sh []) rfl (fl (g:=g) (t:=.sh []) rfl) rfl))))
def wl(g:G):List Int:=(aX 1 g.C.length).filter (yZ g)
theorem jy:(aX a n).length=n:=by unfold aX;rw[List.length_map,aeQ]
theorem ua{g:G}(hR:g.C.length<=100):xJ [gD g]=some (iL (wl g)):=by
 have hi:mZ (eC (.int 1)) (e2 fZ (bY "Changes" "many" F5 (bA "Gate" "known" (aj 0)) aI) (eC (.int 1))) [some (gD g,.sh [])]=some ((aX 1 g.C.length).map D.int,.own):=by
  rw[wm (i:=1) (j:=g.C.length+1) rfl (aK (m9 (ps:=[]) (es:=[("entries",.lst (g.C.map ent))]) (fl (g:=g) (t:=.sh []) rfl) rfl rfl (LJ g.C)) rfl rfl) (lH (by omega) (by omega)) (lH (by omega) (by omega)),show((g.C.length:Int)+1-1).toNat=g.C.length by omega]
 exact cg rfl (cL (wU (r:=[some (gD g,.sh [])]) hi (by rw[jy];omega) (λx=>rfl) (λx mx=>bU (qo (g:=g) (t:=.sh []) (x:=.int x) (t2:=.sh []) rfl rfl UT))))
theorem gZ{g:G}{x:Int}:x∈wl g↔(1<=x/\x<=(g.C.length:Int))/\x∉g.ln/\x∉g.ld/\d8 g x=false:=by
 unfold wl;rw[ab5,fG];unfold yZ;simp only[aaH,aeR,decide_eq_false_iff_not];exact and_congr_left λ_=>by omega
theorem qk{g:G}:Row g.C (wl g):=λx m=>(gZ.mp m).1
theorem yX{g:G}:(wl g).Pairwise (· < ·):=(xV 1 _).sublist adw
theorem ZI{g:G}:(wl g).Nodup:=yX.imp (λh=>by omega)
theorem DQ{g:G}:(wl g).length<=g.C.length:=by
 have:=adG (yZ g) (aX 1 g.C.length)
 rwa [jy] at this
def gv{κ α:Type}[DecidableEq κ](es:List (κ×α))(k:κ):Option α:=(es.find? λkv=>decide (kv.1=k)).map (·.2)
def gp{κ α:Type}[DecidableEq κ](es:List (κ×α))(k:κ)(d:α):List (κ×α):=if(es.any λkv=>decide (kv.1=k))=true then es.map (λkv=>if kv.1=k then(kv.1,d) else kv) else es++[(k,d)]
theorem Eb{κ α:Type}[DecidableEq κ]{es:List (κ×α)}{k:κ}{d:α}:gv (gp es k d) k=some d:=by
 unfold gv gp
 by_cases h:(es.any λkv=>decide (kv.1=k))=true
 .rw[if_pos h]
  induction es with
  |nil=>cases h
  |cons a r ih=>
   rw[aas]
   by_cases z:a.1=k
   .rw[if_pos z,List.find?_cons_of_pos (by simpa using z)];rfl
   .rw[if_neg z,adU (by simpa using z)];exact ih (by rw[ael,abD z,Bool.false_or] at h;exact h)
 .rw[if_neg h,List.find?_append];have:es.find? (λkv=>decide (kv.1=k))=none:=by
   rw[adR];intro x m e;exact h (adj.mpr ⟨x,m,e⟩)
  rw[this];simp
theorem PU{κ α:Type}[DecidableEq κ]{es:List (κ×α)}{k j:κ}{d:α}(h:j≠k):gv (gp es k d) j=gv es j:=by
 unfold gv gp
 congr 1
 split
 .rename_i hh;clear hh
  induction es with
  |nil=>rfl
  |cons a r ih=>
   rw[aas]
   by_cases z:a.1=k
   .rw[if_pos z];have:¬a.1=j:=λe=>h (e.symm.trans z)
    rw[adU (by simpa using this),adU (by simpa using this)];exact ih
   .rw[if_neg z]
    by_cases y:a.1=j
    .rw[List.find?_cons_of_pos (by simpa using y),List.find?_cons_of_pos (by simpa using y)]
    .rw[adU (by simpa using y),adU (by simpa using y)];exact ih
 .rw[List.find?_append,adU (by simpa using λe:k=j=>h e.symm)];simp
theorem SH{κ:Type}[DecidableEq κ]{es:List (κ×D)}{k:κ}{d:D}:(aY (putD es k d) k)=some d:=Eb
theorem X6{κ:Type}[DecidableEq κ]{es:List (κ×D)}{k j:κ}{d:D}(h:j≠k):aY (putD es k d) j=aY es j:=PU h
theorem oK{gr:List (Key×D)}{x y:Int}{d:D}:bS (putD gr (Sum.inl x) d) y=(decide (y=x)||bS gr y):=by
 unfold bS
 by_cases h:y=x
 .rw[h,SH,aaD rfl];rfl
 .rw[X6 (λe=>by injection e with e;exact h e),abD h];rfl
theorem rT{ds:List D}:aN ds=true↔∀d∈ds,aD d=true:=by
 induction ds with
 |nil=>exact⟨λ_ d m=>(nomatch m),λ_=>rfl⟩
 |cons a r ih=>
  unfold aN;rw[aaH,ih];exact⟨λh d m=>(aaV.mp m).elim (λe=>e ▸ h.1) (h.2 d),λh=>⟨h a aam,λd m=>h d (aal _ m)⟩⟩
theorem abK{κ:Type}[DecidableEq κ]{es:List (κ×D)}{k:κ}{d:D}(h:aN (es.map (·.2))=true)(hd:aD d=true):aN ((putD es k d).map (·.2))=true:=by
 rw[rT] at h ⊢;intro y m;obtain⟨kv,mk,rfl⟩:=abw.mp m;unfold putD at mk
 split at mk
 .obtain⟨x,mx,rfl⟩:=abw.mp mk
  split
  .exact hd
  .exact h _ (abw.mpr ⟨x,mx,rfl⟩)
 .rcases abo.mp mk with mk|mk
  .exact h _ (abw.mpr ⟨kv,mk,rfl⟩)
  .cases aaX.mp mk;exact hd
theorem Mx{κ α:Type}[DecidableEq κ]{es:List (κ×α)}{k:κ}{d:α}:(gp es k d).map (·.1)=if k∈es.map (·.1) then es.map (·.1) else es.map (·.1)++[k]:=by
 unfold gp
 by_cases h:(es.any λkv=>decide (kv.1=k))=true
 .rw[if_pos h,if_pos (by obtain⟨x,m,e⟩:=adj.mp h;exact abw.mpr ⟨x,m,aaK e⟩),ac7];refine adN λa _=>?_
  show(if a.1=k then(a.1,d) else a).1=a.1
  split<;>rfl
 .rw[if_neg h,if_neg (λm=>by obtain⟨x,m,e⟩:=abw.mp m;exact h (adj.mpr ⟨x,m,aaD e⟩)),adb];rfl
theorem Dp{κ α:Type}[DecidableEq κ]{es:List (κ×α)}{k:κ}{d:α}(h:(es.map (·.1)).Nodup):((gp es k d).map (·.1)).Nodup:=by
 rw[Mx]
 split
 .exact h
 .rename_i hk;exact acE.mpr ⟨h,by simp,λa ma b mb e=>by cases aaX.mp mb;exact hk (e ▸ ma)⟩
structure Gr(n:Nat)(gr:List (Key×D)):Prop where
 im:aN (gr.map (·.2))=true
 nd:(gr.map (·.1)).Nodup
 ks:∀k∈gr.map (·.1),∃x:Int,k=Sum.inl x/\x∈aX 1 n
theorem Gr.put{n:Nat}{gr:List (Key×D)}{x:Int}{d:D}(h:Gr n gr)(hx:x∈aX 1 n)(hd:aD d=true):Gr n (putD gr (Sum.inl x) d):=⟨abK h.im hd,Dp h.nd,λk m=>by
 have m:k∈(gp gr (Sum.inl x) d).map (·.1):=m;rw[Mx] at m
 split at m
 .exact h.ks k m
 .rcases abo.mp m with m|m
  .exact h.ks k m
  .exact⟨x,aaX.mp m,hx⟩⟩
noncomputable def iB:List (Key×D)->List Int
 |[]=>[]
 |(.inl x,_)::r=>x::iB r
 |_::r=>iB r
theorem tH:∀{gr:List (Key×D)},(∀k∈gr.map (·.1),∃x:Int,k=Sum.inl x/\x∈aX 1 n)->gr.map (·.1)=(iB gr).map Sum.inl/\iI gr=some (iB gr)
 |[],_=>⟨rfl,rfl⟩
 |(k,d)::r,h=>by
  obtain⟨x,e,_⟩:=h k aam;obtain⟨a,b⟩:=tH (gr:=r) λk m=>h k (aal _ m)
  have e:k=Sum.inl x:=e;subst e;refine⟨by rw[aas,a];rfl,?_⟩;show(iI r).map _=_;rw[b];rfl
theorem acr{l:List Int}:(l.map (Sum.inl:Int->Key)).Nodup↔l.Nodup:=by
 unfold List.Nodup;rw[adV];exact⟨λh=>h.imp λq e=>q (by rw[e]),λh=>h.imp λq e=>q (aeN e)⟩
theorem Gr.nK{n:Nat}{gr:List (Key×D)}(h:Gr n gr):(iB gr).Nodup:=acr.mp ((tH h.ks).1 ▸ h.nd)
theorem Gr.mem{n:Nat}{gr:List (Key×D)}(h:Gr n gr){x:Int}:x∈iB gr↔bS gr x=true:=by
 have e:=(tH h.ks).1;unfold bS aY;rw[aeh,List.find?_isSome];constructor
 .intro m;have:(Sum.inl x:Key)∈gr.map (·.1):=e ▸ abw.mpr ⟨x,m,rfl⟩;obtain⟨kv,mk,q⟩:=abw.mp this;exact⟨kv,mk,aaD q⟩
 .rintro⟨kv,mk,q⟩
  have:(Sum.inl x:Key)∈gr.map (·.1):=abw.mpr ⟨kv,mk,aaK q⟩;rw[e] at this;obtain⟨y,my,q⟩:=abw.mp this;exact aeN q ▸ my
theorem Gr.bd{n:Nat}{gr:List (Key×D)}(h:Gr n gr){x:Int}(m:bS gr x=true):x∈aX 1 n:=by
 have:(Sum.inl x:Key)∈gr.map (·.1):=(tH h.ks).1 ▸ abw.mpr ⟨x,h.mem.mpr m,rfl⟩;obtain⟨y,e,q⟩:=h.ks _ this;exact aeN e ▸ q
theorem Gr.len{n:Nat}{gr:List (Key×D)}(h:Gr n gr):gr.length<=n:=by
 have:=sub_len h.nK λx m=>h.bd (h.mem.mp m)
 rw[jy] at this;have e:=congrArg List.length (tH h.ks).1;rw[List.length_map,List.length_map] at e;omega
abbrev pX(ta:Ta)(l:List Int):Option (List Str):=gv ta l
def wd(g:G)(l:List Int):Str:=match pX g.ta l with
 |none=>"more"
 |some h=>word g.n g.t h
theorem t_:∀l:List Int,gP (l.map D.int)=some (kL l)
 |[]=>rfl
 |x::l=>by
  rw[aas];unfold gP;rw[t_ l];rfl
theorem rB:∀{a b:List Int},kL a=kL b->a=b
 |[],[],_=>rfl
 |[],_::_,e=>by cases e
 |_::_,[],e=>by cases e
 |x::a,y::b,e=>by
  injection e with e1 e2;cases e1;rw[rB e2]
section
variable{κ DC α:Type}[DecidableEq κ][DecidableEq DC]{φ:κ->DC}{ψ:α->D}{k:κ}
theorem xg(xm:∀a b,φ a=φ b->a=b):∀es:List (κ×α),aY (es.map λp=>(φ p.1,ψ p.2)) (φ k)=(gv es k).map ψ
 |[]=>rfl
 |p::r=>by
  have ih:=xg xm r;unfold aY gv at ih ⊢;rw[aas,ac9,ac9,show decide ((φ p.1,ψ p.2).1=φ k)=decide (p.1=k) from aep.mpr ⟨xm _ _,λe=>by rw[<- e]⟩];cases decide (p.1=k) with
  |true=>rfl
  |false=>exact ih
theorem GN(xm:∀a b,φ a=φ b->a=b){es:List (κ×α)}{d:α}:putD (es.map λp=>(φ p.1,ψ p.2)) (φ k) (ψ d)=(gp es k d).map λp=>(φ p.1,ψ p.2):=by
 unfold putD gp;rw[aei,show es.any ((λkv:DC×D=>decide (kv.1=φ k)) ∘ λp=>(φ p.1,ψ p.2))=es.any λp=>decide (p.1=k) from congrArg es.any (funext λp=>aep.mpr ⟨xm _ _,λe=>by rw[<- e]⟩)]
 split
 .rw[ac7,ac7];refine adN λp _=>?_
  simp only[Function.comp]
  by_cases z:p.1=k
  .rw[if_pos (by rw[z]),if_pos z]
  .rw[if_neg λq=>z (xm _ _ q),if_neg z]
 .rw[adb];rfl
end
theorem Pj{n t:Int}{l:List Int}(ta:Ta):aY (kX n t ta) (kL l)=(pX ta l).map (tob n t):=xg (λ_ _=>rB) ta
theorem B5{g:G}{l:List Int}:zx [gD g,tD l]=some (.str (wd g l)):=by
 have v:=Pj (n:=g.n) (t:=g.t) (l:=l) g.ta;have uJ:tV (e2 (CP false) (aj 1) (bA "Gate" "tallies" (aj 0))) [some (gD g,.sh []),some (tD l,.sh [])]=some (aY (kX g.n g.t g.ta) (kL l)).isSome:=bU (aK (d1:=tD l) (t1:=.sh []) rfl (fl (g:=g) (t:=.sh []) rfl) (by
  show(gP (l.map D.int)).map _=_;rw[t_];rfl))
 refine cg rfl (cL ?_);unfold wd;rw[v] at uJ;cases e:pX g.ta l with
 |none=>rw[e] at uJ;exact LZ uJ
 |some h=>
  rw[e] at uJ v;refine(Kq uJ).trans (m9 (ps:=[]) (t:=.sh []) (es:=[("need",.int g.n),("tries",.int g.t),("heard",hs h)]) ?_ rfl rfl KD);unfold AL;rw[fl (g:=g) (d:=.cU (kX g.n g.t g.ta)) (t:=.sh []) rfl,show aj 1 [some (gD g,.sh []),some (tD l,.sh [])]=some (tD l,.sh []) from rfl];show(gP (l.map D.int)).bind _=_;rw[t_,acQ,v];rfl
noncomputable def cM(g:G)(p:Nat):List Int:=g.ln++g.ld.take p
theorem f_look{g:G}{p:Nat}(hp:p<=g.ld.length)(hl:g.ln.length+g.ld.length<=1000):sG [gD g,.int p]=some (tD (cM g p)):=by
 have hc:sV (bA "Gate" "laid_ones" (aj 0)) (aj 1) [some (gD g,.sh []),some (.int p,.sh [])]=some (iL (g.ld.take p),.own):=by
  unfold sV;rw[fl (g:=g) (d:=iL g.ld) (t:=.sh []) rfl,show aj 1 [some (gD g,.sh []),some (.int p,.sh [])]=some (.int p,.sh []) from rfl];show(if aN (g.ld.map D.int)=true then some (D.lst (cutD (g.ld.map D.int) none (some (p:Int))),Tag.own) else none)=_;rw[if_pos (eE _),N6 (by rw[List.length_map];exact hp),<- List.map_take];rfl
 have h1:=aeD (i:=p) (l:=g.ld);exact cg rfl (cL (bT (aK (fl (g:=g) (t:=.sh []) rfl) hc (sS (by rw[adM];omega))) yK))
noncomputable def bw(s:Str):Bool:=(["no","unsure"]:List Str).any (· == s)
def iS(g:G)(p:Nat):Bool:=bw (wd g (cM g p))
def c9(g:G):Option Nat:=((List.range g.ld.length).map (· + 1)).find? (iS g)
noncomputable def bD:Option Nat->D
 |none=>.aA
 |some p=>.int p
theorem NW{g:G}(hl:g.ln.length+g.ld.length<=1000):∀{ps:List Nat}{s1:Slot},(∀p∈ps,p<=g.ld.length)->∃pS,
  cX (gN 1) (.sh []) (eN (tV (e2 (uA false) (bY "Gate" "word_of" zx (aj 0) (ay (bY "Gate" "look_of" sG (aj 0) (ay (aj 1) aI)) aI)) (eC (.tup ((["no","unsure"]:List Str).map D.str))))) (rZ 1) gO) (ps.map λp:Nat=>D.int p) [some (gD g,.sh []),s1]=some (match ps.find? (iS g) with|none=>.nx [some (gD g,.sh []),pS]|some p=>.rt (.int p))
 |[],s1,_=>⟨s1,rfl⟩
 |p::ps,s1,h=>by
  obtain⟨a,e⟩:=NW hl (ps:=ps) (s1:=some (.int p,.sh [])) (λq m=>h q (aal _ m));have ht:tV (e2 (uA false) (bY "Gate" "word_of" zx (aj 0) (ay (bY "Gate" "look_of" sG (aj 0) (ay (aj 1) aI)) aI)) (eC (.tup ((["no","unsure"]:List Str).map D.str)))) [some (gD g,.sh []),some (.int p,.sh [])]=some (iS g p):=
   bU (aK (qo (g:=g) (t:=.sh []) rfl (qo (g:=g) (t:=.sh []) (x:=.int p) (t2:=.sh []) rfl rfl (f_look (h p aam) hl)) B5) rfl rfl)
  refine⟨a,?_⟩;rw[ac9];cases eb:iS g p with
  |true=>
   rw[eb] at ht;exact Jk (aM:=[some (gD g,.sh []),some (.int p,.sh [])]) rfl (by rw[iK,ht];rfl)
  |false=>
   rw[eb] at ht;exact(nQ (aM:=[some (gD g,.sh []),some (.int p,.sh [])]) rfl (by rw[iK,ht];rfl)).trans e
theorem Rg(n:Nat):(aX 1 n).map D.int=((List.range n).map (· + 1)).map λp:Nat=>D.int p:=by
 unfold aX;rw[ac7,ac7];refine adN λi _=>?_
 show D.int (1+(i:Int))=D.int ((i+1:Nat):Int);rw[show(1+(i:Int))=((i+1:Nat):Int) by omega]
theorem uI{n p:Nat}:p∈(List.range n).map (· + 1)↔1<=p/\p<=n:=by
 rw[abw];exact⟨λ⟨i,m,e⟩=>by have:=aeS.mp m;omega,λh=>⟨p-1,aeS.mpr (by omega),by omega⟩⟩
theorem Dq{g:G}(hl:g.ln.length+g.ld.length<=900):AZ [gD g]=some (bD (c9 g)):=by
 obtain⟨a,e⟩:=NW (g:=g) (by omega) (ps:=(List.range g.ld.length).map (· + 1)) (s1:=none) (λp m=>(uI.mp m).2);have hi:mZ (eC (.int 1)) (e2 fZ (e1 gk (bA "Gate" "laid_ones" (aj 0))) (eC (.int 1))) [some (gD g,.sh []),none]=some (((List.range g.ld.length).map (· + 1)).map λp:Nat=>D.int p,.own):=by
  rw[wm (i:=1) (j:=g.ld.length+1) rfl (aK (bT (fl (g:=g) (t:=.sh []) rfl) (by show some (D.int (g.ld.map D.int).length)=_;rw[List.length_map])) rfl rfl) (lH (by omega) (by omega)) (lH (by omega) (by omega)),show((g.ld.length:Int)+1-1).toNat=g.ld.length by omega,Rg]
 refine cg rfl ?_;unfold c9;cases eb:((List.range g.ld.length).map (· + 1)).find? (iS g) with
 |none=>rw[eb] at e;exact sq (wY hi e) rfl
 |some p=>rw[eb] at e;exact ja (L5 hi e)
theorem uU{g:G}{p:Nat}(h:c9 g=some p):1<=p/\p<=g.ld.length/\iS g p=true/\∀q,1<=q->q<p->iS g q=false:=by
 obtain⟨h1,as,bs,e,h2⟩:=List.find?_eq_some_iff_append.mp h;have hp:=uI.mp (show p∈(List.range g.ld.length).map (· + 1) from e ▸ aat _ aam);refine⟨hp.1,hp.2,h1,λq q1 q2=>?_⟩;have so:((List.range g.ld.length).map (· + 1)).Pairwise (· < ·):=adV.mpr (List.pairwise_lt_range.imp λh=>by omega);have mq:q∈(List.range g.ld.length).map (· + 1):=uI.mpr (by omega);rw[e] at so mq;rcases abo.mp mq with m|m
 .simpa using h2 q m
 .rcases aaV.mp m with m|m
  .omega
  .have:=(adf.mp (List.pairwise_append.mp so).2.1).1 q m;omega
theorem Jo{g:G}:c9 g=none↔∀p,1<=p->p<=g.ld.length->iS g p=false:=by
 unfold c9;rw[adR];exact⟨λh p h1 h2=>by simpa using h p (uI.mpr ⟨h1,h2⟩),λh p m=>by simpa using h p (uI.mp m).1 (uI.mp m).2⟩
theorem Gk:∀a b:List Int,PyData.eqvAll (a.map PyData.int) (b.map PyData.int)=decide (a=b)
 |[],[]=>rfl
 |[],_::_=>rfl
 |_::_,[]=>rfl
 |x::a,y::b=>by
  simp only[aas,PyData.eqvAll,PyData.eqv,Gk a b]
  by_cases h:x=y<;>by_cases k:a=b<;>simp[h,k]
theorem Oh(l:List Int):py (tD l)=.tuple (l.map PyData.int):=by unfold tD;unfold py;rw[vL]
theorem Nc(l:List Int):cR (tD l)=true:=by
 unfold cR;have c1:f6 (tD l)=true:=by unfold tD;unfold f6;exact AI _
 rw[c1,Oh];have c2:(PyData.tuple (l.map PyData.int)).canLay0=true:=by simp only[PyData.canLay0];exact zg l
 have c3:(PyData.tuple (l.map PyData.int)).depth<=40:=by simp only[PyData.depth,depthAll_ints];omega
 rw[c2,aaD c3];rfl
theorem any_rows(l:List Int)(L:List (List Int)):((eY (bB L)).any λy=>PyData.eqv y (py (tD l)))=decide (l∈L):=by
 rw[HA,Oh,aei];have:((λy=>PyData.eqv y (PyData.tuple (l.map PyData.int))) ∘ jw)=λr=>decide (r=l):=funext λr=>by
  simp only[Function.comp,jw,PyData.eqv,Gk]
 rw[this]
 by_cases h:l∈L
 .rw[aaD h];exact adj.mpr ⟨l,h,by simp⟩
 .rw[abD h,ad3];intro e;obtain⟨y,my,ey⟩:=adj.mp e;exact h ((aaK ey) ▸ my)
theorem NS(neg:Bool)(l:List Int)(L:List (List Int)):Ag neg (tD l) (.lst (bB L))=some (.bl (if neg=true then !decide (l∈L) else decide (l∈L))):=by
 show(if(cR (tD l)&&cR (.lst (bB L)))=true then some (D.bl (if neg=true then !(eY (bB L)).any λy=>PyData.eqv y (py (tD l)) else(eY (bB L)).any λy=>PyData.eqv y (py (tD l)))) else none)=_;rw[Nc,Xf,any_rows];rfl
def kp(g:G)(l:List Int):Bool:=decide (l∈g.lk)&&(wd g l == "more")
theorem Xy{g:G}{l:List Int}:Ue [gD g,tD l]=some (.bl (kp g l)):=
 cg rfl (cL (r_ (aK (d1:=tD l) (t1:=.sh []) rfl (fl (g:=g) (t:=.sh []) rfl) (NS false l g.lk)) (aK (qo (g:=g) (t:=.sh []) (x:=tD l) (t2:=.sh []) rfl rfl B5) rfl rfl)))
def ig(g:G):List Int:=(aX 1 g.ld.length).filter λx=>kp g (cM g x.toNat)
def l9(g:G):Option Int:=(c9 g).map λp:Nat=>(p:Int)
def qd(g:G):List Int:=W g.ld.length (l9 g) (ig g) g.h
def rH(g:G):List (List Int):=(qd g).map λp=>cM g p.toNat
theorem V1(o:Option Nat):bD o=jE (o.map λp:Nat=>(p:Int)):=by cases o<;>rfl
theorem pY{g:G}:(ig g).Pairwise (· < ·)/\(∀x∈ig g,1<=x/\x<=g.ld.length)/\(ig g).length<=g.ld.length:=by
 refine⟨(xV 1 _).sublist adw,λx m=>by have:=fG.mp (ab5.mp m).1;omega,?_⟩;have:=adG (λx=>kp g (cM g x.toNat)) (aX 1 g.ld.length)
 rwa [jy] at this
def eo(g:G):Int:=endOf g.ld.length (l9 g)
theorem Ke{g:G}:kq (eo g) (qd g)/\(∀p∈ig g,p<eo g->p∈qd g):=
 YY (size:=g.ld.length) (aP:=g.h) (bad:=l9 g) pY.1 (λx m=>(pY.2.1 x m).1)
theorem oO{g:G}:1<=eo g/\eo g<=g.ld.length+1:=by
 unfold eo l9;cases e:c9 g with
 |none=>show 1<=(g.ld.length:Int)+1/\(g.ld.length:Int)+1<=_;omega
 |some p=>have:=uU e;show 1<=(p:Int)/\(p:Int)<=_;omega
theorem Zj{g:G}(hl:g.ln.length+g.ld.length<=900)(h6:g.ld.length<64)(hh:g.h<=60):Xs [gD g]=some (.lst (bB (rH g))):=by
 have hi:mZ (eC (.int 1)) (e2 fZ (aj 1) (eC (.int 1))) [some (gD g,.sh []),some (.int g.ld.length,.own),none]=some ((aX 1 g.ld.length).map D.int,.own):=by
  rw[wm (i:=1) (j:=g.ld.length+1) rfl rfl (lH (by omega) (by omega)) (lH (by omega) (by omega)),show((g.ld.length:Int)+1-1).toNat=g.ld.length by omega]
 have look:∀{x:Int},1<=x->x<=g.ld.length->bY "Gate" "look_of" sG (aj 1) (ay (aj 0) aI) [some (.int x,.sh []),some (gD g,.sh [])]=some (tD (cM g x.toNat),.own):=λ{x} h1 h2=>
  qo (g:=g) (t:=.sh []) (x:=.int x) (t2:=.sh []) rfl rfl (by
   have:=f_look (g:=g) (p:=x.toNat) (by omega) (by omega)
   rwa [show((x.toNat:Nat):Int)=x by omega] at this)
 refine cg rfl (jZ (bT (fl (g:=g) (t:=.sh []) rfl) (by show some (D.int (g.ld.map D.int).length)=_;rw[List.length_map])) (jZ (wU (p:=λx=>kp g (cM g x.toNat)) (r:=[some (gD g,.sh [])]) hi (by rw[jy];omega) (λx=>rfl) (λx mx=>by
  have hx:=fG.mp mx;exact bU (qo (g:=g) (t:=.sh []) rfl (look (by omega) (by omega)) Xy))) (cL ?_)))
 have hw:cC Dv (ay (aj 1) (ay (bY "Gate" "bad" AZ (aj 0) aI) (ay (aj 2) (ay (e2 dW (bA "Gate" "numbers" (aj 0)) (eC (.int 1))) aI)))) [some (gD g,.sh []),some (.int g.ld.length,.own),some (iL (ig g),.own)]=some (iL (qd g),.own):=
  dJ (ps:=[(.int g.ld.length,.sh [1]),(bD (c9 g),.own),(iL (ig g),.sh [2]),(.int g.h,.own)]) (by
   rw[aW,aW,eU (g:=g) (t:=.sh []) rfl (Dq hl)];rfl) (by
   have:=US (size:=g.ld.length) (bad:=l9 g) (ks:=ig g) hh (by have:=pY (g:=g).2.2;omega);simp only[aas,aeT];rw[V1];exact this)
 have hc:=jr (js:=[none,some 0]) (g:=gN 0) (tt:=jC) (te:=bY "Gate" "look_of" sG (aj 1) (ay (aj 0) aI)) (k:=λd=>match d with | .int p=>some (tD (cM g p.toNat)) | _=>none) (iP hw) (by rw[List.length_map];exact size_le (by have:=ZD (size:=g.ld.length) (bad:=l9 g) (ks:=ig g) hh (by have:=pY (g:=g).2.2;omega);show(W _ _ _ _).length<=_;omega)) (λd m=>by
  obtain⟨x,mx,rfl⟩:=abw.mp m;have:=(Ke (g:=g)).1.bd x mx;have:=oO (g:=g);exact lX rfl rfl (look (by omega) (by omega)))
 rw[adD] at hc;have e:(qd g).filterMap ((λd=>match d with|.int p=>some (tD (cM g p.toNat))|_=>none) ∘ D.int)=bB (rH g):=by
  unfold rH bB;rw[ac7];exact mC (λp:Int=>tD (cM g p.toNat)) _
 rw[e] at hc;exact hc
section
variable{g g':G}{ρ:av}{d r:D}{t:Tag}{f m:Str}{fv:EF}{F:MF}
theorem m_(h:fv ρ=some (d,t))(h0:ρ[0]? = some (some (gD g,.own)))(ho:(j_ t||aD d)=true)(e:dD f d (gF g)=gF g'):ir (xS 0 "Gate" f fv) ρ=some (.nx (bP ρ 0 (gD g'))):=by
 refine iz ?_;unfold xS;rw[h,h0];show(if("Gate":Str)="Gate"/\(gF g).length<1000/\(j_ t||aD d)=true then some (Out.nx (bP ρ 0 (.ins "Gate" (dD f d (gF g))))) else none)=_;rw[if_pos ⟨rfl,by show 12<1000;decide,ho⟩,e];rfl
theorem xo(h0:ρ[0]? = some (some (gD g,.own)))(h:F (gD g) []=some (r,gD g'))(hm:(gF g).lookup m=none:=by rfl):xO 0 "Gate" m F aI ρ=some (r,bP ρ 0 (gD g')):=by
 unfold xO;rw[h0];show(if("Gate":Str)="Gate"/\(gF g).lookup m=none/\apart 0 []=true then(F (gD g) []).map _ else none)=_;rw[if_pos ⟨rfl,hm,rfl⟩,h];rfl
theorem A4{x:Int}{fk:EF}{t2:Tag}(h:fv ρ=some (d,t))(hk:fk ρ=some (.int x,t2))(h0:ρ[0]? = some (some (gD g,.own)))(hi:aD d=true)(hG:aN (g.gr.map (·.2))=true)(hl:g.gr.length<=100):s_ 0 "Gate" "grounds" fk fv ρ=some (.nx (bP ρ 0 (gD { g with gr:=putD g.gr (Sum.inl x) d }))):=by
 unfold s_;rw[h,h0,hk];show(if("Gate":Str)="Gate" then(if(aD d&&aN (g.gr.map (·.2))&&decide (g.gr.length<sizeLine))=true then some (Out.nx (bP ρ 0 (.ins "Gate" (dD "grounds" (.bH (putD g.gr (Sum.inl x) d)) (gF g))))) else none) else none)=_;rw[if_pos rfl,hi,hG,aaD (size_le (by omega)),if_pos (show(true&&true&&true)=true from rfl)];rfl
end
theorem EI{i:Nat}{f:EF}{ρ:av}{d:D}{t:Tag}(h:f ρ=some (d,t)):ir (c8 i f) ρ=some (.nx (iC ρ i d t)):=iz (by unfold c8;rw[h])
theorem pR{tf:TF}{sf sg:SF}{ρ:av}{r:Option Out}(h:tf ρ=some true)(h2:sf ρ=r):eN tf sf sg ρ=r:=by rw[iK,h];exact h2
theorem AQ{tf:TF}{sf sg:SF}{ρ:av}{r:Option Out}(h:tf ρ=some false)(h2:sg ρ=r):eN tf sf sg ρ=r:=by rw[iK,h];exact h2
theorem Jv{x:Int}{r:List Int}:dU ((x::r).map D.int) 0=some (.int x):=by
 unfold dU j6;rw[if_pos (by omega),if_pos (by rw[List.length_map,abQ];omega)];rfl
def gone(C:List Ch)(gr:List (Key×D))(x:Int):List Int:=(lean (sec C) x).filter (bS gr)
def dO(C:List Ch)(gr:List (Key×D))(x:Int):List (Key×D):=match gone C gr x with
 |[]=>gr
 |y::_=>putD gr (Sum.inl x) (.tup [.str "leans",.int y])
theorem B3{g:G}(gc:GoodC g.C):∀{l:List Int}{gr:List (Key×D)}{s1 s2:Slot},Row g.C l->Gr g.C.length gr->∃pS Ec,cX (gN 1) (.sh []) (bV (c8 2 (gY [none,some 0] (f7 (bY "Changes" "leans_of" E1 (bA "Gate" "known" (aj 0)) (ay (aj 1) aI))) (gN 0) (tV (e2 (pC false) (aj 0) (bA "Gate" "grounds" (aj 1)))) (aj 0))) (eN (qK (aj 2)) (s_ 0 "Gate" "grounds" (aj 1) (kr (ay (eC (.str "leans")) (ay (e2 dW (aj 2) (eC (.int 0))) aI)))) gO)) (l.map D.int) [some (gD { g with gr:=gr },.own),s1,s2]=some (.nx [some (gD { g with gr:=l.foldl (dO g.C) gr },.own),pS,Ec])
 |[],gr,s1,s2,_,_=>⟨s1,s2,rfl⟩
 |x::l,gr,s1,s2,h,k=>by
  have hx:=h x aam;have hc:gY [none,some 0] (f7 (bY "Changes" "leans_of" E1 (bA "Gate" "known" (aj 0)) (ay (aj 1) aI))) (gN 0) (tV (e2 (pC false) (aj 0) (bA "Gate" "grounds" (aj 1)))) (aj 0) [some (gD { g with gr:=gr },.own),some (.int x,.sh []),s2]=some (iL (gone g.C gr x),.own):=
   wU (p:=bS gr) (r:=[some (gD { g with gr:=gr },.sh [])]) (iP (Cb (C:=g.C) (x:=.int x) (t2:=.sh []) (fl (g:={ g with gr:=gr }) (t:=.sh [0]) rfl) rfl (J_ hx.1 hx.2))) (by have:=gc.few x;omega) (λy=>rfl) (λy _=>bU (aK (d1:=.int y) (t1:=.sh []) rfl (fl (g:={ g with gr:=gr }) (t:=.sh []) rfl) rfl))
  cases e:gone g.C gr x with
  |nil=>
   obtain⟨a,b,ih⟩:=B3 gc (l:=l) (gr:=gr) (s1:=some (.int x,.sh [])) (s2:=some (iL [],.own)) (λy m=>h y (aal _ m)) k;refine⟨a,b,(nQ (aM:=[some (gD { g with gr:=gr },.own),some (.int x,.sh []),s2]) rfl (jZ (e ▸ hc) rfl)).trans (ih.trans ?_)⟩;rw[adx,show dO g.C gr x=gr by unfold dO;rw[e]]
  |cons y r=>
   have k':Gr g.C.length (dO g.C gr x):=by unfold dO;rw[e];exact k.put (fG.mpr (by omega)) rfl
   obtain⟨a,b,ih⟩:=B3 gc (l:=l) (gr:=dO g.C gr x) (s1:=some (.int x,.sh [])) (s2:=some (iL (y::r),.own)) (λy m=>h y (aal _ m)) k';refine⟨a,b,(nQ (aM:=[some (gD { g with gr:=gr },.own),some (.int x,.sh []),s2]) rfl (jZ (e ▸ hc) (pR rfl ((A4 (g:={ g with gr:=gr }) (x:=x) (d:=.tup [.str "leans",.int y]) (t:=.own) (t2:=.sh []) ?_ rfl rfl rfl k.im (by have:=k.len;have:=gc.ln;show gr.length<=100;omega)).trans ?_)))).trans ih⟩
   .rw[o_,aW,aW,aK (op:=dW) (d1:=iL (y::r)) (t1:=.sh [2]) (d2:=.int 0) (t2:=.own) rfl rfl (qT Jv rfl)];rfl
   .unfold dO;rw[e];rfl
def eX(g:G):G:={ g with gr:=(wl g).foldl (dO g.C) g.gr }
theorem ZA{g:G}(gc:GoodC g.C)(k:Gr g.C.length g.gr):Ar (gD g) []=some (.aA,gD (eX g)):=by
 obtain⟨a,b,e⟩:=B3 (g:=g) gc (l:=wl g) (gr:=g.gr) (s1:=none) (s2:=none) qk k;exact oH rfl (iz (wY (iP (eU (g:=g) (t:=.sh [0]) rfl (ua (by have:=gc.ln;omega)))) e)) rfl
theorem zD{C:List Ch}{n:Nat}:∀{l:List Int}{gr:List (Key×D)},Gr n gr->(∀x∈l,x∈aX 1 n)->Gr n (l.foldl (dO C) gr)/\(∀x,bS gr x=true->bS (l.foldl (dO C) gr) x=true)/\(∀x,bS (l.foldl (dO C) gr) x=true->bS gr x=true\/x∈l)
 |[],gr,k,_=>⟨k,λ_ h=>h,λ_ h=>.inl h⟩
 |x::l,gr,k,h=>by
  have k1:Gr n (dO C gr x)/\(∀y,bS gr y=true->bS (dO C gr x) y=true)/\∀y,bS (dO C gr x) y=true->bS gr y=true\/y=x:=by
   unfold dO
   split
   .exact⟨k,λ_ h=>h,λ_ h=>.inl h⟩
   .refine⟨k.put (h x aam) rfl,λy q=>by rw[oK,q,Bool.or_true],λy q=>?_⟩;rw[oK,aeK,decide_eq_true_eq] at q;exact q.symm
  obtain⟨a,b,c⟩:=zD (C:=C) (l:=l) k1.1 λy m=>h y (aal _ m)
  refine⟨a,λy q=>b y (k1.2.1 y q),λy q=>?_⟩;rcases c y q with q|q
  .exact(k1.2.2 y q).imp id λe=>by rw[e];exact aam
  .exact .inr (aal _ q)
theorem BK{C:List Ch}(bd:∀m x,1<=m->m<=(C.length:Int)->x∈lean (sec C) m->1<=x/\x<m):∀{l:List Int}{gr:List (Key×D)},l.Pairwise (· < ·)->Row C l->Gr C.length gr->∀x∈l,bS (l.foldl (dO C) gr) x=false->∀y∈lean (sec C) x,bS (l.foldl (dO C) gr) y=false
 |[],gr,_,_,_,x,m,_=>nomatch m
 |z::l,gr,hp,hr,k,x,m,hx=>λy my=>by
  obtain⟨Y6,w6⟩:=adf.mp hp;have hz:=hr z aam;have kz:Gr C.length (dO C gr z):=(zD (C:=C) (l:=[z]) k λx m=>by rw[aaX.mp m];exact fG.mpr (by omega)).1;have rl:∀x∈l,x∈aX 1 C.length:=λx m=>by have:=hr x (aal _ m);exact fG.mpr (by omega)
  obtain⟨_,b,c⟩:=zD (C:=C) (l:=l) kz rl;rcases aaV.mp m with rfl|m
  .cases e:bS ((x::l).foldl (dO C) gr) y with
   |false=>rfl
   |true=>
    have yz:=(bd x y hz.1 hz.2 my).2;have i9:bS (dO C gr x) x=false:=by
     cases q:bS (dO C gr x) x with
     |false=>rfl
     |true=>rw[show bS ((x::l).foldl (dO C) gr) x=true from b x q] at hx;cases hx
    have e0:bS (dO C gr x) y=true:=by
     rcases c y e with q|q
     .exact q
     .have:=Y6 y q;omega
    unfold dO at i9 e0
    split at i9
    .rename_i q;rw[q] at e0;have:=ad7.mp q y my;exact absurd e0 this
    .rw[oK,aaD rfl] at i9;cases i9
  .exact BK bd w6 (λx m=>hr x (aal _ m)) kz x m hx y my
theorem lay_ints(l:List Int):cR (iL l)=true:=by
 unfold cR;have c1:f6 (iL l)=true:=by unfold iL;unfold f6;exact AI _
 have c0:py (iL l)=.list (l.map PyData.int):=by unfold iL;unfold py;rw[vL]
 rw[c1,c0];have c2:(PyData.list (l.map PyData.int)).canLay0=true:=by simp only[PyData.canLay0];exact zg l
 have c3:(PyData.list (l.map PyData.int)).depth<=40:=by simp only[PyData.depth,depthAll_ints];omega
 rw[c2,aaD c3];rfl
theorem MU(a b:List Int):PyData.eqv (py (iL a)) (py (iL b))=decide (a=b):=by
 have c:∀l,py (iL l)=.list (l.map PyData.int):=λl=>by unfold iL;unfold py;rw[vL]
 rw[c,c];simp only[PyData.eqv,Gk]
theorem DN(a b:List Int):jG (iL a) (iL b)=some (.bl (!decide (a=b))):=by
 unfold jG;rw[lay_ints,lay_ints,MU];rfl
theorem Sn(a b:List Int):uu (iL a) (iL b)=some (.bl (decide (a=b))):=by
 unfold uu;rw[lay_ints,lay_ints,MU];rfl
structure Gd(g:G):Prop where
 w1:1<=g.w/\g.w<=16
 h1:1<=g.h/\g.h<=8
 nt:1<=g.n/\g.n<=g.t/\g.t<=20
 gc:GoodC g.C
 row:Row g.C (g.ln++g.ld)
 nd:(g.ln++g.ld).Nodup
 nR:(g.ld.length:Int)<=g.w
 iT:∀x∈g.ln++g.ld,d8 g x=false
 gr:Gr g.C.length g.gr
 run:∃v,e_ [] (ez g.C (g.ln++g.ld))=some v
theorem Gd.len{g:G}(k:Gd g):g.ln.length+g.ld.length<=60:=by
 have:=sub_len k.nd λx m=>fG.mpr (show 1<=x/\x<1+(g.C.length:Int) by have:=k.row x m;omega)
 rw[jy,abq] at this;have:=k.gc.ln;omega
theorem Np{C:List Ch}:∀{a b:List Int}{v:cJ},(∃w,e_ v (ez C (a++b))=some w)->∃w,e_ v (ez C a)=some w
 |[],b,v,_=>⟨v,rfl⟩
 |x::a,b,v,⟨w,h⟩=>by
  have h:(if bad v (cH C x)=[] then e_ (di v (cH C x)) (ez C (a++b)) else none)=some w:=h;show ∃w,(if bad v (cH C x)=[] then e_ (di v (cH C x)) (ez C a) else none)=some w
  by_cases hb:bad v (cH C x)=[]
  .rw[if_pos hb] at h ⊢;exact Np ⟨w,h⟩
  .rw[if_neg hb] at h;cases h
theorem Gd.cut{g:G}(k:Gd g){ld:List Int}{gr:List (Key×D)}(hp:ld <+: g.ld)(hg:Gr g.C.length gr)(hd:∀x∈g.ln++ld,bS gr x=false):Gd { g with ld:=ld,gr:=gr }:=by
 obtain⟨r,e⟩:=hp;have ea:g.ln++g.ld=(g.ln++ld)++r:=by rw[<- e,adJ]
 refine⟨k.w1,k.h1,k.nt,k.gc,λx m=>k.row x (by rw[ea];exact abb _ m),?_,?_,hd,hg,Np (b:=r) (by rw[<- ea];exact k.run)⟩
 .have:=k.nd;rw[ea] at this;exact(acE.mp this).1
 .have:=k.nR;rw[<- e,abq] at this;show(ld.length:Int)<=g.w;omega
theorem ne1{o:Option Nat}:jG (bD o) (.int 1)=some (.bl (!decide (o=some 1))):=by
 cases o with
 |none=>kernel_rfl
 |some p=>
  show(if(cR (.int p)&&cR (.int 1))=true then some (D.bl (!PyData.eqv (py (.int p)) (py (.int 1)))) else none)=_;have e:cR (.int (p:Int))=true:=by unfold cR;simp[f6,py,PyData.canLay0,PyData.depth]
  have e1:cR (.int 1)=true:=by unfold cR;simp[f6,py,PyData.canLay0,PyData.depth]
  rw[e,e1];simp only[py,PyData.eqv,ad0,if_true]
  by_cases h:p=1
  .subst h;rfl
  .rw[abD (λz=>h (abO z)),show(((p:Int)==1)=false) from adg.mpr (by omega)]
theorem Lo{g:G}(hl:g.ln.length+g.ld.length<=900){s:List Slot}:tV (e2 jG (bY "Gate" "bad" AZ (aj 0) aI) (eC (.int 1))) (some (gD g,.own)::s)=some (!decide (c9 g=some 1)):=
 bU (aK (eU (g:=g) (t:=.sh [0]) rfl (Dq hl)) rfl ne1)
theorem O4{g:G}(hl:g.ln.length+g.ld.length<=900)(h:c9 g≠some 1):Jq (gD g) []=some (.bl false,gD g):=by
 have ht:=Lo hl (s:=[none]);rw[abD h] at ht;exact kD rfl (pq (b:=true) ht (ja rfl))
def nF(g:G):D:=.tup [.str "look",tD g.ln,tD (cM g 1),.str (wd g (cM g 1))]
theorem Py{g:G}:aD (nF g)=true:=by
 unfold nF tD;simp only[aD,aN,eE,ad0]
def wc(g:G)(x:Int):G:={ g with ld:=[],gr:=putD g.gr (Sum.inl x) (nF g) }
theorem MV{g:G}{x:Int}{r:List Int}(k:Gd g)(h:c9 g=some 1)(hx:g.ld=x::r):Jq (gD g) []=some (.bl true,gD (wc g x)):=by
 have hl:=k.len;have ht:=Lo (g:=g) (by omega) (s:=[none]);rw[aaD h] at ht;have h1:bY "Gate" "look_of" sG (aj 0) (ay (eC (.int 1)) aI) [some (gD g,.own),none]=some (tD (cM g 1),.own):=qo (g:=g) (t:=.sh [0]) rfl rfl (f_look (g:=g) (p:=1) (by rw[hx,abQ];omega) (by omega));have e1:∃t,kr (ay (eC (.str "look")) (ay (e1 vM (bA "Gate" "on_line" (aj 0))) (ay (aj 1) (ay (bY "Gate" "word_of" zx (aj 0) (ay (aj 1) aI)) aI)))) [some (gD g,.own),some (tD (cM g 1),.own)]=some (nF g,t):=by
  rw[o_,aW,aW,aW,aW,bT (fl (g:=g) (d:=iL g.ln) (t:=.sh [0]) rfl) yK,qo (g:=g) (t:=.sh [0]) (x:=tD (cM g 1)) (t2:=.sh [1]) rfl rfl B5];exact⟨_,rfl⟩
 obtain⟨t,e1⟩:=e1;exact kD rfl (fC ht (sq (ρ':=[some (gD g,.own),some (tD (cM g 1),.own)]) (EI h1) (sq (ρ':=[some (gD { g with gr:=putD g.gr (Sum.inl x) (nF g) },.own),some (tD (cM g 1),.own)]) (iz (A4 e1 (aK (fl (g:=g) (d:=iL g.ld) (t:=.sh [0]) rfl) rfl (qT (by rw[hx];exact Jv) rfl)) rfl Py k.gr.im (by have:=k.gr.len;have:=k.gc.ln;omega))) (sq (ρ':=[some (gD (wc g x),.own),some (tD (cM g 1),.own)]) (m_ (g:={ g with gr:=putD g.gr (Sum.inl x) (nF g) }) (g':=wc g x) (d:=.lst []) (t:=.own) rfl rfl rfl rfl) rfl))))
theorem Qo{g:G}{s:List Slot}:Ev.qK (bA "Gate" "laid_ones" (aj 0)) (some (gD g,.own)::s)=some (!g.ld.isEmpty):=by
 unfold Ev.qK;rw[fl (g:=g) (d:=iL g.ld) (t:=.sh [0]) rfl];cases g.ld<;>rfl
theorem NJ{g:G}(h:g.ld≠[]):Dt (gD g) []=some (.bl false,gD g):=by
 have ht:=Qo (g:=g) (s:=[none,none,none]);rw[show g.ld.isEmpty=false from List.isEmpty_eq_false_iff.mpr h] at ht;exact kD rfl (pq (b:=true) ht (ja rfl))
theorem Ej(l:List Int):aD (uL l)=true:=by cases l<;>rfl
def oi(C:List Ch)(u:cJ)(gr:List (Key×D))(x:Int):List (Key×D):=putD gr (Sum.inl x) (.tup [.str "unfit",uL (bad u (cH C x))])
theorem Y9{C:List Ch}(g:GoodC C){v:cJ}(x:Int):Nm [dS (nz v),eL (cH C x)]=some (uL (bad (iD (nz v)) (cH C x))):=
 cg rfl (cL (dJ (ps:=[(bu (iD (nz v)),.own),(eL (cH C x),.sh [])]) (by rw[aW,aW,bT (op:=wX) (d:=dS (nz v)) (t:=.sh []) rfl M1];rfl) (Gx (es:=iD (nz v)) (g.ed x).ed (by omega) D.lst rfl)))
theorem Qq{g:G}(gc:GoodC g.C){v:cJ}{N:List Int}:∀{l:List Int}{gr:List (Key×D)}{s3:Slot},Row g.C l->Gr g.C.length gr->∃xB,cX (gN 3) (.sh [1]) (s_ 0 "Gate" "grounds" (aj 3) (kr (ay (eC (.str "unfit")) (ay (cC Nm (ay (aj 2) (ay (bY "Changes" "edits_of" AJ (bA "Gate" "known" (aj 0)) (ay (aj 3) aI)) aI))) aI)))) (l.map D.int) [some (gD { g with gr:=gr },.own),some (iL N,.lk),some (dS (nz v),.own),s3]=some (.nx [some (gD { g with gr:=l.foldl (oi g.C (iD (nz v))) gr },.own),some (iL N,.lk),some (dS (nz v),.own),xB])
 |[],gr,s3,_,_=>⟨s3,rfl⟩
 |x::l,gr,s3,h,k=>by
  have hx:=h x aam;obtain⟨a,ih⟩:=Qq gc (v:=v) (N:=N) (l:=l) (gr:=oi g.C (iD (nz v)) gr x) (s3:=some (.int x,.sh [1])) (λy m=>h y (aal _ m)) (k.put (fG.mpr (by omega)) (by simp only[aD,aN,Ej,ad0]));refine⟨a,(nQ (aM:=[some (gD { g with gr:=gr },.own),some (iL N,.lk),some (dS (nz v),.own),some (.int x,.sh [1])]) rfl ((A4 (g:={ g with gr:=gr }) (x:=x) (d:=.tup [.str "unfit",uL (bad (iD (nz v)) (cH g.C x))]) (t:=.own) (t2:=.sh [1]) ?_ rfl rfl (by simp only[aD,aN,Ej,ad0]) k.im (by have:=k.len;have:=gc.ln;show gr.length<=100;omega)).trans rfl)).trans ih⟩;rw[o_,aW,aW,dJ (ps:=[(dS (nz v),.sh [2]),(eL (cH g.C x),.own)]) (by rw[aW,aW,Cb (C:=g.C) (x:=.int x) (t2:=.sh [1]) (fl (g:={ g with gr:=gr }) (t:=.sh [0]) rfl) rfl (zL hx.1 hx.2)];rfl) (Y9 gc x)];rfl
def cP(g:G):List Int:=(wl g).filter (m7 g.C g.ln)
theorem T5{g:G}(k:Gd g)(h:g.ld=[]):∃u,Dt (gD g) []=some (.bl (!decide (cP g=[])),gD { g with gr:=(cP g).foldl (oi g.C u) g.gr }):=by
 have hl:=k.len;have gl:=k.gc.ln;have ht:=Qo (g:=g) (s:=[none,none,none]);rw[h] at ht;obtain⟨v,hv⟩:=k.run;rw[h,acH] at hv;have hw:=DQ (g:=g);have h1:cC AE (ay (bA "Gate" "known" (aj 0)) (ay (bA "Gate" "on_line" (aj 0)) (ay (iU aI) (ay (bY "Gate" "waiting" xJ (aj 0) aI) aI)))) [some (gD g,.own),none,none,none]=some (iL (cP g),.own):=
  dJ (ps:=[(obj g.C,.sh [0]),(iL g.ln,.sh [0]),(.lst [],.own),(iL (wl g),.own)]) (by rw[aW,aW,aW,aW,eU (g:=g) (t:=.sh [0]) rfl (ua (by omega))];rfl) (by
   have:=Nl k.gc (a:=g.ln) (b:=[]) (wt:=wl g) (by simp;omega) qk (by omega);rw[acH] at this;exact this)
 have h2:bY "Gate" "sheet" acB (aj 0) aI [some (gD g,.own),some (iL (cP g),.own),none,none]=some (dS (nz v),.own):=eU (g:=g) (t:=.sh [0]) rfl (cg rfl (cL (dJ (ps:=[(obj g.C,.sh []),(iL g.ln,.sh [])]) rfl (G5 k.gc (λx m=>k.row x (abb _ m)) (by omega) hv).1)));obtain⟨s3,lp⟩:=Qq (g:=g) k.gc (v:=v) (N:=cP g) (l:=cP g) (gr:=g.gr) (s3:=none) (λx m=>qk x (ab5.mp m).1) k.gr;refine⟨iD (nz v),kD rfl (fC ht (sq (ρ':=[some (gD g,.own),some (iL (cP g),.own),none,none]) (EI h1) (sq (ρ':=[some (gD g,.own),some (iL (cP g),.own),some (dS (nz v),.own),none]) (EI h2) (sq (ρ':=[some (gD { g with gr:=(cP g).foldl (oi g.C (iD (nz v))) g.gr },.own),some (iL (cP g),.own),some (dS (nz v),.own),s3]) (iz ((uX (t:=.sh [1]) (iP rfl) lp).trans rfl)) ?_))))⟩;unfold uw;have:e2 jG (aj 1) (iU aI) [some (gD { g with gr:=(cP g).foldl (oi g.C (iD (nz v))) g.gr },.own),some (iL (cP g),.own),some (dS (nz v),.own),s3]=some (.bl (!decide (cP g=[])),.own):=aK (d1:=iL (cP g)) (d2:=iL []) (t1:=.sh [1]) (t2:=.own) rfl rfl (DN _ _);rw[this];rfl
theorem ZR{g:G}(hl:g.ln.length+g.ld.length<=900){s:List Slot}:tV (e2 iF (bY "Gate" "bad" AZ (aj 0) aI) (eC .aA)) (some (gD g,.own)::s)=some (c9 g).isNone:=
 bU (aK (eU (g:=g) (t:=.sh [0]) rfl (Dq hl)) rfl (by cases c9 g<;>rfl))
theorem Ao{f:XF}{ρ:av}{r:D}{g':G}(h:f ρ=some (r,[some (gD g',.own)])):A2 f [0] ρ=some (.rt (.tup [r,gD g'])):=by
 unfold A2;rw[h];rfl
theorem Kv{f f2:XF}{ρ ρ' aZ:av}{b:Bool}(h:f ρ=some (.bl false,ρ'))(h2:f2 ρ'=some (.bl b,aZ)):sW f f2 ρ=some (.bl b,aZ):=by
 unfold sW;rw[h];dsimp only;rw[h2]
theorem HY{f f2:XF}{ρ ρ':av}(h:f ρ=some (.bl true,ρ')):sW f f2 ρ=some (.bl true,ρ'):=by
 unfold sW;rw[h]
def Lf(g:G):Prop:=∀x∈wl g,∀y∈lean (sec g.C) x,d8 g y=false
def Full(g:G):Prop:=g.w<=(g.ld.length:Int)\/∀x∈wl g,∀v,e_ [] (ez g.C (g.ln++g.ld))=some v->m7 g.C (g.ln++g.ld) x=true->iW g.C v x=false
structure Fin(g:G):Prop where
 lf:Lf g
 go:g.ht=false->c9 g≠some 1/\(g.ld=[]->wl g=[])/\(c9 g=none->Full g)
theorem ac2{g:G}(k:Gd g)(lf:Lf g)(hd:g.ld=[])(h:cP g=[]):wl g=[]:=by
 cases e:wl g with
 |nil=>rfl
 |cons x r=>
  have mx:x∈wl g:=e ▸ aam;have hx:=gZ.mp mx;have:=ad7.mp h x mx;refine absurd (ac6.mpr λy my=>aaD ?_) this;have hy:=k.gc.bd x y hx.1.1 hx.1.2 my;refine ady λn=>?_
  have LY:y∈wl g:=gZ.mpr ⟨⟨hy.1,by omega⟩,n,(by rw[hd];exact adp),lf x mx y my⟩;rw[e] at LY;have:=yX (g:=g);rw[e] at this;rcases aaV.mp LY with q|q
  .omega
  .have:=(adf.mp this).1 y q;omega
theorem IG{C:List Ch}{u:cJ}{n:Nat}:∀{l:List Int}{gr:List (Key×D)},Gr n gr->(∀x∈l,x∈aX 1 n)->Gr n (l.foldl (oi C u) gr)/\∀y,bS (l.foldl (oi C u) gr) y=(decide (y∈l)||bS gr y)
 |[],gr,k,_=>⟨k,λy=>rfl⟩
 |x::l,gr,k,h=>by
  obtain⟨a,b⟩:=IG (C:=C) (u:=u) (l:=l) (gr:=oi C u gr x) (k.put (h x aam) (by simp only[aD,aN,Ej,ad0])) λy m=>h y (aal _ m)
  refine⟨a,λy=>?_⟩;rw[adx,b];unfold oi;rw[oK,<- Bool.or_assoc]
  congr 1
  rw[<- Bool.decide_or];exact aep.mpr (by rw[aaV];exact or_comm)
noncomputable def c_(g:G)(ex:List Int):G:={ g with ld:=g.ld++ex }
structure Up(g:G)(ld:List Int)(gr:List (Key×D)):Prop where
 gd:Gd { g with ld:=ld,gr:=gr }
 mo:∀x,bS g.gr x=true->bS gr x=true
abbrev mh(g:G)(gr:List (Key×D)):Prop:=∃x,bS gr x=true/\d8 g x=false
theorem JH{g:G}{x:Int}{r:List Int}(k:Gd g)(hx:g.ld=x::r):Up g [] (putD g.gr (Sum.inl x) (nF g))/\mh g (putD g.gr (Sum.inl x) (nF g)):=by
 have mx:x∈g.ld:=hx ▸ aam;have rx:=k.row x (aat _ mx);refine⟨⟨k.cut List.nil_prefix (k.gr.put (fG.mpr (by omega)) Py) λy m=>?_,λy q=>by rw[oK,q,Bool.or_true]⟩,x,by rw[oK,aaD rfl];rfl,k.iT x (aat _ mx)⟩;rw[acH] at m;rw[oK,show bS g.gr y=false from k.iT y (abb _ m),abD λe=>(acE.mp k.nd).2.2 y m x mx e];rfl
theorem acw{g:G}(k:Gd g)(lf:Lf g):∃b ld gr,zR (gD g) []=some (.bl b,gD { g with ld:=ld,gr:=gr })/\Up g ld gr/\(b=true->mh g gr)/\(b=false->gr=g.gr/\(g.ht=false->Fin { g with ld:=ld,gr:=gr })/\(c9 g≠none->ld=g.ld)/\(Full g->ld=g.ld))/\(Fin g->g.ht=false->b=false):=by
 have hl:=k.len;have gl:=k.gc.ln;have ht:=ZR (g:=g) (by omega) (s:=[]);cases hb:c9 g with
 |some p=>
  rw[hb] at ht;have hm:=uU hb;have qE:g.ld≠[]:=λe=>by rw[e] at hm;simp at hm;omega
  by_cases hp:p=1
  .subst hp;obtain⟨x,r,ex⟩:=adT qE;obtain⟨u,n⟩:=JH k ex;exact⟨true,[],_,kD rfl (fC ht (Ao (g':=wc g x) (HY (xo (g:=g) rfl (MV k hb ex))))),u,(λ_=>n),(λe=>nomatch e),λf h=>absurd hb (f.go h).1⟩
  .have hn:c9 g≠some 1:=by rw[hb];exact λz=>hp (abO z)
   exact⟨false,g.ld,g.gr,kD rfl (fC ht (Ao (g':=g) (Kv (ρ':=[some (gD g,.own)]) (xo (g:=g) rfl (O4 (by omega) hn)) (xo (g:=g) rfl (NJ qE))))),⟨k,λ_ q=>q⟩,(λe=>nomatch e),(λ_=>⟨rfl,λ_=>⟨lf,λ_=>⟨hn,λe=>absurd e qE,λe=>by rw[show c9 g=none from e] at hb;cases hb⟩⟩,λ_=>rfl,λ_=>rfl⟩),λ_ _=>rfl⟩
 |none=>
  rw[hb] at ht;obtain⟨v,hv⟩:=k.run;have adh:=DQ (g:=g);obtain⟨ex,hf,F⟩:=Uz k.gc (ln:=g.ln) (ld:=g.ld) (wt:=wl g) (w:=g.w) k.row qk ZI (by omega) (by omega) hv;have hf:cC Hi (ay (bA "Gate" "known" (aj 0)) (ay (bA "Gate" "on_line" (aj 0)) (ay (bA "Gate" "laid_ones" (aj 0)) (ay (bY "Gate" "waiting" xJ (aj 0) aI) (ay (e2 dW (bA "Gate" "numbers" (aj 0)) (eC (.int 0))) aI))))) [some (gD g,.own)]=some (iL (g.ld++ex),.own):=
   dJ (ps:=[(obj g.C,.sh [0]),(iL g.ln,.sh [0]),(iL g.ld,.sh [0]),(iL (wl g),.own),(.int g.w,.own)]) (by rw[aW,aW,aW,aW,eU (g:=g) (t:=.sh [0]) rfl (ua (by omega))];rfl) hf
  have Wd:Full g->ex=[]:=λfu=>by
    rcases fu with h|h
    .rcases F.le with q|q
     .have:=k.nR;rw[abq] at q;exact adZ (by omega)
     .exact q
    .cases ee:ex with
     |nil=>rfl
     |cons x r=>
      exact absurd (F.fst x r ee) λ⟨v,h1,h2,h3⟩=>by
       rw[h x (F.sub x (ee ▸ aam)) v h1 h2] at h3;cases h3
  have same:Full g->g.ld++ex=g.ld:=λfu=>by rw[Wd fu,acH]
  have fg:Fin g->g.ht=false->c_ g ex=g:=λf h=>by
   unfold c_;rw[same ((f.go h).2.2 hb)]
  have k1:Gd (c_ g ex):=by
   refine⟨k.w1,k.h1,k.nt,k.gc,λx m=>?_,?_,?_,λx m=>?_,k.gr,let⟨v,h,_⟩:=F.run;⟨v,h⟩⟩
   .have m:x∈g.ln++(g.ld++ex):=m;rw[<- adJ] at m;exact(abo.mp m).elim (k.row x) λm=>qk (g:=g) x (F.sub x m)
   .show(g.ln++(g.ld++ex)).Nodup;rw[<- adJ];refine acE.mpr ⟨k.nd,F.nd,λa ma b mb e=>?_⟩;have:=gZ.mp (F.sub b mb);exact(abo.mp ma).elim (λm=>this.2.1 (e ▸ m)) λm=>this.2.2.1 (e ▸ m)
   .show(((g.ld++ex).length:Nat):Int)<=g.w;rcases F.le with q|q
    .exact q
    .rw[q,acH];exact k.nR
   .have m:x∈g.ln++(g.ld++ex):=m;rw[<- adJ] at m;exact(abo.mp m).elim (k.iT x) λm=>(gZ.mp (F.sub x m)).2.2.2
  have HL:∀x∈wl (c_ g ex),x∈wl g/\x∉ex:=λx m=>by
   have h:=gZ.mp m;have h3:x∉g.ld++ex:=h.2.2.1;exact⟨gZ.mpr ⟨h.1,h.2.1,λq=>h3 (abb _ q),h.2.2.2⟩,λq=>h3 (aat _ q)⟩
  have GH:Lf (c_ g ex):=λx m y my=>lf x (HL x m).1 y my
  have IY:Full (c_ g ex):=by
   obtain⟨v',r1,r2⟩:=F.run;rcases r2 with q|q
   .exact .inl q
   .refine .inr λx m v jD Q_=>?_
    obtain⟨m1,m2⟩:=HL x m;have jD:e_ [] (ez g.C (g.ln++(g.ld++ex)))=some v:=jD;rw[r1] at jD;cases jD;exact q x m1 m2 Q_
  have Fe:=k1.len;have st:ir (xS 0 "Gate" "laid_ones" (cC Hi (ay (bA "Gate" "known" (aj 0)) (ay (bA "Gate" "on_line" (aj 0)) (ay (bA "Gate" "laid_ones" (aj 0)) (ay (bY "Gate" "waiting" xJ (aj 0) aI) (ay (e2 dW (bA "Gate" "numbers" (aj 0)) (eC (.int 0))) aI))))))) [some (gD g,.own)]=some (.nx [some (gD (c_ g ex),.own)]):=m_ (g:=g) (g':=c_ g ex) hf rfl rfl rfl
  by_cases h1:c9 (c_ g ex)=some 1
  .have hm:=uU h1;obtain⟨x,r,e1⟩:=adT (λe:(c_ g ex).ld=[]=>by rw[e] at hm;simp at hm);obtain⟨u,n⟩:=JH k1 e1;exact⟨true,[],putD g.gr (Sum.inl x) (nF (c_ g ex)),kD rfl (sq (pR ht st) (Ao (g':=wc (c_ g ex) x) (HY (xo (g:=c_ g ex) rfl (MV k1 h1 e1))))),⟨u.gd,u.mo⟩,(λ_=>n),(λe=>nomatch e),λf h=>by rw[fg f h,hb] at h1;cases h1⟩
  .have Nq:∀b gr,Dt (gD (c_ g ex)) []=some (.bl b,gD { c_ g ex with gr:=gr })->zR (gD g) []=some (.bl b,gD { g with ld:=g.ld++ex,gr:=gr }):=λb gr h=>kD rfl (sq (pR ht st) (Ao (g':={ c_ g ex with gr:=gr }) (Kv (ρ':=[some (gD (c_ g ex),.own)]) (xo (g:=c_ g ex) rfl (O4 (by omega) h1)) (xo (g:=c_ g ex) (g':={ c_ g ex with gr:=gr }) rfl h))))
   by_cases he:(c_ g ex).ld=[]
   .obtain⟨u,h⟩:=T5 k1 he;obtain⟨a,b⟩:=IG (C:=(c_ g ex).C) (u:=u) (n:=(c_ g ex).C.length) (l:=cP (c_ g ex)) k1.gr λx m=>by have:=qk x (ab5.mp m).1;exact fG.mpr (show 1<=x/\x<1+((c_ g ex).C.length:Int) by omega)
    refine⟨_,g.ld++ex,_,Nq _ _ h,⟨k1.cut (List.prefix_refl _) a λx m=>?_,λx q=>(b x).trans (by rw[show bS (c_ g ex).gr x=true from q,Bool.or_true])⟩,λe=>?_,λe=>?_,λf h=>?_⟩
    .rw[b,show bS (c_ g ex).gr x=false from k1.iT x m,abD λq=>?_]
     .rfl
     .have:=gZ.mp (ab5.mp q).1;exact(abo.mp m).elim this.2.1 this.2.2.1
    .obtain⟨x,r,e1⟩:=adT (λz:cP (c_ g ex)=[]=>by rw[z] at e;cases e);have mx:x∈cP (c_ g ex):=e1 ▸ aam;exact⟨x,(b x).trans (by rw[aaD mx];rfl),(gZ.mp (HL x (ab5.mp mx).1).1).2.2.2⟩
    .have e2:cP (c_ g ex)=[]:=by simpa using e
     rw[e2];exact⟨rfl,λhh=>⟨GH,λ_=>⟨h1,λ_=>ac2 k1 GH he e2,λ_=>IY⟩⟩,λz=>absurd rfl z,same⟩
    .have e3:=fg f h;rw[e3] at he;rw[e3,show cP g=[] from(by unfold cP;rw[(f.go h).2.1 he];rfl)];rfl
   .exact⟨false,g.ld++ex,g.gr,Nq _ _ (NJ he),⟨k1,λx q=>q⟩,(λe=>nomatch e),(λ_=>⟨rfl,λhh=>⟨GH,λ_=>⟨h1,λe=>absurd e he,λ_=>IY⟩⟩,λz=>absurd rfl z,same⟩),λ_ _=>rfl⟩
def iA(g:G):G:={ g with lk:=rH g }
section
variable{g g1 g2:G}
abbrev cS:av->Option (Bool×av):=vS (l7 (tV (bA "Gate" "halted" (aj 0)))) (tZ (xO 0 "Gate" "put_out_more" zR aI))
theorem OC:l7 (tV (bA "Gate" "halted" (aj 0))) [some (gD g,.own)]=some (!g.ht):=kN (bU (fl (g:=g) (d:=.bl g.ht) (t:=.sh [0]) rfl))
theorem Rr(h:g.ht=true):cS [some (gD g,.own)]=some (false,[some (gD g,.own)]):=by
 have:=OC (g:=g);rw[h] at this;unfold cS vS;rw[this];rfl
theorem abJ{f:XF}{ρ ρ':av}{b:Bool}(h:f ρ=some (.bl b,ρ')):tZ f ρ=some (b,ρ'):=by unfold tZ;rw[h]
theorem Mv{b:Bool}(h:g.ht=false)(hm:zR (gD g) []=some (.bl b,gD g1)):cS [some (gD g,.own)]=some (b,[some (gD g1,.own)]):=by
 have:=OC (g:=g);rw[h] at this;refine Eq.trans ?_ (abJ (ρ':=[some (gD g1,.own)]) (xo (ρ:=[some (gD g,.own)]) (g:=g) (g':=g1) (m:="put_out_more") rfl hm));unfold cS vS;rw[this];rfl
theorem La{c:av->Option (Bool×av)}{f:SF}{n:Nat}{ρ aM:av}(h:c ρ=some (false,aM)):kG c f (n+1) ρ=some (.nx aM):=by rw[kG,h]
theorem WA{c:av->Option (Bool×av)}{f:SF}{n:Nat}{ρ aM aZ:av}(h:c ρ=some (true,aM))(h2:f aM=some (.nx aZ)):kG c f (n+1) ρ=kG c f n aZ:=by
 rw[kG,h];dsimp only;rw[h2]
theorem N4(k:Gd g):sZ (xO 0 "Gate" "put_out_leaning" Ar aI) [some (gD g,.own)]=some (.nx [some (gD (eX g),.own)]):=by
 unfold sZ;rw[xo (g:=g) (g':=eX g) rfl (ZA k.gc k.gr)];rfl
theorem Mf{x:Int}(m:x∈wl g):x∈aX 1 g.C.length:=(ab5.mp m).1
theorem HH(k:Gd g):Up g g.ld (eX g).gr/\Lf (eX g):=by
 obtain⟨a,b,c⟩:=zD (C:=g.C) (l:=wl g) k.gr λx m=>Mf m
 have sub:∀x∈wl (eX g),x∈wl g:=λx m=>by
  have h:=gZ.mp m;refine gZ.mpr ⟨h.1,h.2.1,h.2.2.1,?_⟩;cases q:d8 g x with
  |false=>rfl
  |true=>rw[show d8 (eX g) x=true from b x q] at h;cases h.2.2.2
 refine⟨⟨k.cut (List.prefix_refl _) a λx m=>?_,b⟩,λx m y my=>BK k.gc.bd yX qk k.gr x (sub x m) (gZ.mp m).2.2.2 y my⟩;cases q:bS (eX g).gr x with
 |false=>rfl
 |true=>
  rcases c x q with q|q
  .rw[show bS g.gr x=false from k.iT x m] at q;cases q
  .have:=gZ.mp q;exact((abo.mp m).elim this.2.1 this.2.2.1).elim
theorem zO(k:Gd g)(lf:Lf g):eX g=g:=by
 have:∀l:List Int,(∀x∈l,x∈wl g)->l.foldl (dO g.C) g.gr=g.gr:=λl=>by
  induction l with
  |nil=>intro _;rfl
  |cons x l ih=>
   intro h;have e:dO g.C g.gr x=g.gr:=by
    unfold dO;rw[show gone g.C g.gr x=[] from ad7.mpr λy my=>by rw[show bS g.gr y=false from lf x (h x aam) y my];exact aa9]
   rw[adx,e];exact ih λy m=>h y (aal _ m)
 unfold eX;rw[this (wl g) λx m=>m]
theorem Li(k:Gd g)(h:¬Lf g):mh g (eX g).gr:=by
 have⟨x,hx⟩:=aez.mp h;have⟨mx,hx⟩:=aez.mp hx;have⟨y,hy⟩:=aez.mp hx;have⟨my,hy⟩:=aez.mp hy;obtain⟨u,_⟩:=HH k;refine⟨x,?_,(gZ.mp mx).2.2.2⟩;cases q:bS (eX g).gr x with
 |true=>rfl
 |false=>
  have h1:=BK k.gc.bd yX qk k.gr x mx q y my;rw[show bS ((wl g).foldl (dO g.C) g.gr) y=true from u.mo y (by simpa using hy)] at h1;cases h1
theorem Up.trans{ld JR:List Int}{gr OA:List (Key×D)}(a:Up g ld gr)(b:Up { g with ld:=ld,gr:=gr } JR OA):Up g JR OA:=⟨b.gd,λx q=>b.mo x (a.mo x q)⟩
def rN(g:G):Nat:=((aX 1 g.C.length).filter λx=>!d8 g x).length
theorem w_{a:Int}{n:Nat}:(aX a n).Nodup:=(xV a n).imp λh=>by omega
theorem XC{ld:List Int}{gr:List (Key×D)}(mo:∀x,bS g.gr x=true->bS gr x=true):rN { g with ld:=ld,gr:=gr }<=rN g:=sub_len (w_.sublist adw) λx m=>by
 obtain⟨m1,m2⟩:=ab5.mp m;refine ab5.mpr ⟨m1,?_⟩;cases q:d8 g x with
 |false=>rfl
 |true=>rw[show d8 ({ g with ld:=ld,gr:=gr }:G) x=true from mo x q] at m2;cases m2
theorem aaY{ld:List Int}{gr:List (Key×D)}(u:Up g ld gr)(n:mh g gr):rN { g with ld:=ld,gr:=gr } < rN g:=by
 obtain⟨x,h1,h2⟩:=n;have:=sub_len (l:=x::(aX 1 g.C.length).filter λx=>!bS gr x) (m:=(aX 1 g.C.length).filter λx=>!d8 g x) (aby.mpr ⟨(λm=>by have:=(ab5.mp m).2;rw[h1] at this;cases this),w_.sublist adw⟩) λy m=>by
  rcases aaV.mp m with rfl|m
  .exact ab5.mpr ⟨u.gd.gr.bd h1,by rw[h2];rfl⟩
  .obtain⟨m1,m2⟩:=ab5.mp m;refine ab5.mpr ⟨m1,?_⟩;cases q:d8 g y with
   |false=>rfl
   |true=>rw[u.mo y q] at m2;cases m2
 exact this
theorem Qm:∀(m n:Nat) (g:G),rN g<=m->m<n->Gd g->Lf g->g.ht=false->∃ld gr,kG cS (sZ (xO 0 "Gate" "put_out_leaning" Ar aI)) n [some (gD g,.own)]=some (.nx [some (gD { g with ld:=ld,gr:=gr },.own)])/\Up g ld gr/\Fin { g with ld:=ld,gr:=gr }/\(mh g gr\/gr=g.gr/\(c9 g≠none->ld=g.ld)/\(Full g->ld=g.ld))/\(Fin g->gr=g.gr/\ld=g.ld)
 |m,n+1,g,hm,hn,k,lf,hh=>by
  obtain⟨b,ld,gr,e,u,ht,hf,hs⟩:=acw k lf;cases b with
  |false=>
   obtain⟨f1,f2,f3,f4⟩:=hf rfl;refine⟨ld,gr,La (Mv hh e),u,f2 hh,.inr ⟨f1,f3,f4⟩,λf=>⟨f1,?_⟩⟩;cases hb:c9 g with
   |none=>exact f4 ((f.go hh).2.2 hb)
   |some p=>exact f3 (by rw[hb];exact λz=>by cases z)
  |true=>
   have nw:=ht rfl;have l1:=aaY u nw;obtain⟨u2,Sj⟩:=HH u.gd;cases m with
   |zero=>omega
   |succ m=>
    have l2:=XC (g:={ g with ld:=ld,gr:=gr }) (ld:=ld) (gr:=(eX { g with ld:=ld,gr:=gr }).gr) u2.mo;obtain⟨Jl,Ma,e3,u3,f3,_,_⟩:=Qm m n (eX { g with ld:=ld,gr:=gr }) (ado l2 (by omega)) (by omega) u2.gd Sj hh;have u4:Up g Jl Ma:=(u.trans u2).trans u3;refine⟨Jl,Ma,(WA (Mv hh e) (N4 u.gd)).trans e3,u4,f3,.inl ?_,λf=>absurd (hs f hh) (by decide)⟩;obtain⟨x,h1,h2⟩:=nw;exact⟨x,u3.mo x (u2.mo x h1),h2⟩
theorem ZV(k:Gd g):∃ld gr,ng (gD g) []=some (.aA,gD (iA { g with ld:=ld,gr:=gr }))/\Up g ld gr/\Fin { g with ld:=ld,gr:=gr }/\(g.ht=true->ld=g.ld)/\(mh g gr\/gr=g.gr/\(c9 g≠none->ld=g.ld)/\(Full g->ld=g.ld))/\(Fin g->gr=g.gr/\ld=g.ld):=by
 obtain⟨u,lf⟩:=HH k;have fin:∀{ld:List Int}{gr:List (Key×D)},Up g ld gr->kG cS (sZ (xO 0 "Gate" "put_out_leaning" Ar aI)) 4000 [some (gD (eX g),.own)]=some (.nx [some (gD { g with ld:=ld,gr:=gr },.own)])->ng (gD g) []=some (.aA,gD (iA { g with ld:=ld,gr:=gr })):=λ{ld gr} u e=>by
  have hl:=u.gd.len;have hl:g.ln.length+ld.length<=60:=hl;exact oH rfl (sq (iz (N4 k)) (sq (iz e) (m_ (g:={ g with ld:=ld,gr:=gr }) (g':=iA { g with ld:=ld,gr:=gr }) (eU (g:={ g with ld:=ld,gr:=gr }) (t:=.sh [0]) rfl (Zj (by show g.ln.length+ld.length<=900;omega) (by show ld.length<64;omega) (by have:=k.h1;show g.h<=60;omega))) rfl rfl rfl))) rfl
 have old:(∀z,mh (eX g) z->mh g z):=λz ⟨x,h1,h2⟩=>⟨x,h1,by
  cases q:d8 g x with
  |false=>rfl
  |true=>rw[show d8 (eX g) x=true from u.mo x q] at h2;cases h2⟩
 by_cases hh:g.ht=true
 .refine⟨g.ld,(eX g).gr,fin u (La (Rr (g:=eX g) hh)),u,⟨lf,λh=>by rw[show g.ht=true from hh] at h;cases h⟩,λ_=>rfl,?_,λf=>?_⟩
  .by_cases l:Lf g
   .exact .inr ⟨by rw[zO k l],λ_=>rfl,λ_=>rfl⟩
   .exact .inl (Li k l)
  .rw[zO k f.lf];exact⟨rfl,rfl⟩
 .have hh:g.ht=false:=by simpa using hh
  have nl:rN (eX g)<=60:=by
   have:=adG (λx=>!d8 (eX g) x) (aX 1 g.C.length);rw[jy] at this;have:=k.gc.ln;unfold rN;show((aX 1 g.C.length).filter λx=>!d8 (eX g) x).length<=60;omega
  obtain⟨ld,gr,e,u3,f3,d,s⟩:=Qm 60 4000 (eX g) nl (by omega) u.gd lf hh;refine⟨ld,gr,fin (u.trans u3) e,u.trans u3,f3,(λh=>by rw[hh] at h;cases h),?_,λf=>?_⟩
  .by_cases l:Lf g
   .rw[zO k l] at d;exact d
   .obtain⟨x,h1,h2⟩:=Li k l;exact .inl ⟨x,u3.mo x h1,h2⟩
  .rw[zO k f.lf] at s;exact s f
end
section
variable{g g' g3:G}{ρ:av}{d r:D}{t:Tag}{f m:Str}{fv:EF}{F:MF}
theorem C6{i j:Int}(h:fv ρ=some (.int j,t))(h0:ρ[0]? = some (some (gD g,.own)))(hl:(gF g).lookup f=some (.int i))(e:dD f (.int (i+j)) (gF g)=gF g'):ir (zU 0 "Gate" f fv) ρ=some (.nx (bP ρ 0 (gD g'))):=by
 refine iz ?_;unfold zU;rw[h,h0];show(if("Gate":Str)="Gate"/\(gF g).length<1000 then(match(gF g).lookup f with|some (.int k)=>some (Out.nx (bP ρ 0 (.ins "Gate" (dD f (.int (k+j)) (gF g)))))|_=>none) else none)=_;rw[if_pos ⟨rfl,by show 12<1000;decide⟩,hl];dsimp only;rw[e];rfl
theorem vW(h0:ρ[0]? = some (some (gD g,.own)))(h:F (gD g) []=some (r,gD g'))(hm:(gF g).lookup m=none:=by rfl):ir (sZ (xO 0 "Gate" m F aI)) ρ=some (.nx (bP ρ 0 (gD g'))):=iz (by
 unfold sZ;rw[xo h0 h hm];rfl)
noncomputable def wK(g:G):G:={ g with ld:=[],ht:=true,br:=g.br+1 }
theorem abl(h:ng (gD (wK g)) []=some (.aA,gD g3)):Kl (gD g) []=some (.aA,gD g3):=
 oH rfl (sq (ρ':=[some (gD { g with ld:=[] },.own)]) (m_ (g:=g) (g':={ g with ld:=[] }) (d:=.lst []) (t:=.own) rfl rfl rfl rfl) (sq (ρ':=[some (gD { g with ld:=[],ht:=true },.own)]) (m_ (g:={ g with ld:=[] }) (g':={ g with ld:=[],ht:=true }) (d:=.bl true) (t:=.own) rfl rfl rfl rfl)
  (sq (ρ':=[some (gD (wK g),.own)]) (C6 (g:={ g with ld:=[],ht:=true }) (g':=wK g) (i:=g.br) (j:=1) (t:=.own) rfl rfl rfl rfl) (vW (g:=wK g) rfl h)))) rfl
theorem aa8(h:ng (gD { g with ht:=false }) []=some (.aA,gD g3)):L4 (gD g) []=some (.aA,gD g3):=
 oH rfl (sq (ρ':=[some (gD { g with ht:=false },.own)]) (m_ (g:=g) (g':={ g with ht:=false }) (d:=.bl false) (t:=.own) rfl rfl rfl rfl) (vW (g:={ g with ht:=false }) rfl h)) rfl
noncomputable def sJ(g:G)(c:Ch):G:={ g with C:=g.C++[c] }
theorem abc{q:Int}{l:List Int}{E:List Ed}{o:Nat}(hl:l.length<=100)(hE:E.length<=100)(hm:tM g.C.length q l E=true)(hC:g.C.length<60)(h:ng (gD (sJ g (q,l,E))) []=some (.aA,gD g3)):HQ (gD g) [.int q,iL l,eL E]=some (.int (g.C.length+1),gD g3):=by
 have h1:Ab 0 "Gate" "known" "Changes" "added" zK (ay (aj 1) (ay (aj 2) (ay (aj 3) aI))) [some (gD g,.own),some (.int q,.sh []),some (iL l,.sh []),some (eL E,.sh []),none]=some (.int (g.C.length+1),[some (gD (sJ g (q,l,E)),.own),some (.int q,.sh []),some (iL l,.sh []),some (eL E,.sh []),none]):=by
  show(if("Gate":Str)="Gate"/\("Changes":Str)="Changes"/\([("entries",D.lst (g.C.map ent))]:List (Str×D)).lookup ("added":Str)=none/\apart 0 [(.int q,.sh []),(iL l,.sh []),(eL E,.sh [])]=true then(zK (obj g.C) [.int q,iL l,eL E]).map _ else none)=_;rw[if_pos ⟨rfl,rfl,rfl,rfl⟩,aaP hl hE hm hC];rfl
 refine kD rfl (sq (ρ':=[some (gD (sJ g (q,l,E)),.own),some (.int q,.sh []),some (iL l,.sh []),some (eL E,.sh []),some (.int (g.C.length + 1),.own)]) (iz (by
  show(match Ab 0 "Gate" "known" "Changes" "added" zK (ay (aj 1) (ay (aj 2) (ay (aj 3) aI))) [some (gD g,.own),some (.int q,.sh []),some (iL l,.sh []),some (eL E,.sh []),none] with|some (d,ρ')=>some (Out.nx (iC ρ' 4 d .own))|none=>none)=_;rw[h1];rfl)) (sq (ρ':=[some (gD g3,.own),some (.int q,.sh []),some (iL l,.sh []),some (eL E,.sh []),some (.int (g.C.length+1),.own)]) (vW (g:=sJ g (q,l,E)) rfl h) rfl))
def gW(g:G)(x:Int):G:={ g with ld:=if x∈g.ld then g.ld.takeWhile (λy=>!(y==x)) else g.ld,gr:=putD g.gr (Sum.inl x) (.tup [.str "withdrawn"]),br:=g.br+1 }
theorem P8:∀{l:List Int}{x:Int},x∈l->l.findIdx? (· == x)=some (l.takeWhile λy=>!(y==x)).length
 |[],x,m=>nomatch m
 |a::l,x,m=>by
  rw[List.findIdx?_cons,List.takeWhile_cons];cases e:(a==x) with
  |true=>rfl
  |false=>
   rw[P8 ((aaV.mp m).resolve_left λq=>by rw[q] at e;simp at e)];rfl
theorem AH{l:List Int}{x:Int}:l.takeWhile (λy=>!(y==x)) <+: l:=List.takeWhile_prefix _
theorem RT{l:List Int}{x:Int}:l.take (l.takeWhile λy=>!(y==x)).length=l.takeWhile λy=>!(y==x):=by
 obtain⟨r,e⟩:=AH (l:=l) (x:=x)
 conv=>lhs;rw[<- e]
 rw[e];exact(List.prefix_iff_eq_take.mp (AH (l:=l) (x:=x))).symm
theorem Pc:∀{l:List Int}{x:Int},x∉l.takeWhile (λy=>!(y==x))
 |[],x,m=>nomatch m
 |a::l,x,m=>by
  rw[List.takeWhile_cons] at m;cases e:(a==x) with
  |true=>rw[e] at m;cases m
  |false=>
   rw[e] at m;rcases aaV.mp m with q|q
   .rw[<- q] at e;simp at e
   .exact Pc q
theorem aaZ{x:Int}(k:Gd g)(hx:1<=x/\x<=(g.C.length:Int))(nl:x∉g.ln)(no:d8 g x=false)(h:ng (gD (gW g x)) []=some (.aA,gD g3)):Qa (gD g) [.int x]=some (.aA,gD g3):=by
 have t1:l7 (tV (bY "Changes" "has" DE (bA "Gate" "known" (aj 0)) (ay (aj 1) aI))) [some (gD g,.own),some (.int x,.sh [])]=some false:=kN (b:=true) (bU (Cb (C:=g.C) (x:=.int x) (t2:=.sh []) (fl (g:=g) (t:=.sh [0]) rfl) rfl ((D9 g.C x).trans (by unfold inR;rw[aaD hx.1,aaD hx.2];rfl))));have t2:lM (tV (e2 (jB false) (aj 1) (bA "Gate" "on_line" (aj 0)))) (tV (e2 (pC false) (aj 1) (bA "Gate" "grounds" (aj 0)))) [some (gD g,.own),some (.int x,.sh [])]=some false:=
  (GO ((bU (aK (d1:=.int x) (t1:=.sh []) rfl (fl (g:=g) (d:=iL g.ln) (t:=.sh [0]) rfl) (d:=.bl (decide (x∈g.ln))) (by unfold iL;rw[yL,if_neg aa9,BR]))).trans (by rw[abD nl]))).trans (bU (aK (d1:=.int x) (t1:=.sh []) rfl (fl (g:=g) (t:=.sh [0]) rfl) (by show some (D.bl (d8 g x))=_;rw[no])))
 have t3:tV (e2 (jB false) (aj 1) (bA "Gate" "laid_ones" (aj 0))) [some (gD g,.own),some (.int x,.sh [])]=some (decide (x∈g.ld)):=bU (aK (d1:=.int x) (t1:=.sh []) rfl (fl (g:=g) (d:=iL g.ld) (t:=.sh [0]) rfl) (by unfold iL;rw[yL,if_neg aa9,BR]));refine oH rfl (fC t1 (fC t2 (sq (ρ':=[some (gD { g with ld:=(gW g x).ld },.own),some (.int x,.sh [])]) ?_ (sq (ρ':=[some (gD { g with ld:=(gW g x).ld,gr:=(gW g x).gr },.own),some (.int x,.sh [])]) (iz (A4 (g:={ g with ld:=(gW g x).ld }) (x:=x) (d:=.tup [.str "withdrawn"]) (t:=.own) (t2:=.sh []) rfl rfl rfl rfl k.gr.im (by have:=k.gr.len;have:=k.gc.ln;show g.gr.length<=100;omega)))
  (sq (ρ':=[some (gD (gW g x),.own),some (.int x,.sh [])]) (C6 (g:={ g with ld:=(gW g x).ld,gr:=(gW g x).gr }) (g':=gW g x) (i:=g.br) (j:=1) (t:=.own) rfl rfl rfl rfl) (vW (g:=gW g x) rfl h)))))) rfl
 by_cases mx:x∈g.ld
 .rw[aaD mx] at t3;have e1:e2 Gg (bA "Gate" "laid_ones" (aj 0)) (aj 1) [some (gD g,.own),some (.int x,.sh [])]=some (.int (g.ld.takeWhile λy=>!(y == x)).length,.own):=aK (d2:=.int x) (t2:=.sh []) (fl (g:=g) (d:=iL g.ld) (t:=.sh [0]) rfl) rfl (by
   show(match dM (g.ld.map D.int) with|some ts=>(ts.findIdx? (· == x)).map λj:Nat=>D.int j|none=>none)=_;rw[tQ];dsimp only;rw[P8 mx];rfl)
  have c:sV (bA "Gate" "laid_ones" (aj 0)) (e2 Gg (bA "Gate" "laid_ones" (aj 0)) (aj 1)) [some (gD g,.own),some (.int x,.sh [])]=some (iL (gW g x).ld,.own):=by
   unfold sV;rw[fl (g:=g) (d:=iL g.ld) (t:=.sh [0]) rfl,e1];show(if aN (g.ld.map D.int)=true then some (D.lst (cutD (g.ld.map D.int) none (some ((g.ld.takeWhile λy=>!(y==x)).length:Int))),Tag.own) else none)=_;rw[if_pos (eE _),N6 (by rw[List.length_map];exact List.IsPrefix.length_le AH),<- List.map_take,RT];unfold gW;rw[if_pos mx];rfl
  exact pR t3 (m_ (g:=g) (g':={ g with ld:=(gW g x).ld }) c rfl rfl rfl)
 .rw[abD mx] at t3;refine AQ t3 ?_;unfold gW;rw[if_neg mx];rfl
abbrev hd(ta:Ta)(L:List Int):List Str:=(pX ta L).getD []
theorem acg{n t:Int}{ta:Ta}{L:List Int}:(aY (kX n t ta) (kL L)).getD (tob n t [])=tob n t (hd ta L):=by
 rw[Pj];unfold hd;cases pX ta L<;>rfl
theorem Ut{n t:Int}{ta:Ta}{L:List Int}{h:List Str}:putD (kX n t ta) (kL L) (tob n t h)=kX n t (gp ta L h):=GN (λ_ _=>rB)
theorem YO{L:List Int}{w:Str}(hL:L≠[])(k:Gd g)(tn:(g.ta.map (·.1)).Nodup)(tl:g.ta.length<=5000)(hw:w∈(["yes","no","unsure"]:List Str))(hm:word g.n g.t (hd g.ta L)="more"):
  tN "Gate" "tallies" "Tally" "tell" (rJ "Tally" vX (ay (e2 dW (bA "Gate" "numbers" (aj 0)) (eC (.int 2))) (ay (e2 dW (bA "Gate" "numbers" (aj 0)) (eC (.int 3))) aI))) NR [some (gD g,.own),some (tD L,.sh []),some (.str w,.sh []),none,none] =
   some (.nx [some (gD { g with ta:=gp g.ta L (hd g.ta L++[w]) },.own),some (tD L,.sh []),some (.str w,.sh []),none,some (.str (word g.n g.t (hd g.ta L++[w])),.own)]):=by
 have e1:rJ "Tally" vX (ay (e2 dW (bA "Gate" "numbers" (aj 0)) (eC (.int 2))) (ay (e2 dW (bA "Gate" "numbers" (aj 0)) (eC (.int 3))) aI)) [some (gD g,.own),some (tD L,.sh []),some (.str w,.sh []),none,none]=some (tob g.n g.t [],.own):=by
  show(match vX (.ins "Tally" []) [.int g.n,.int g.t] with|some (.aA,d)=>some (d,Tag.own)|_=>none)=_;rw[Rz k.nt]
 unfold tN;show(match(gF g).lookup ("tallies":Str),gP (L.map D.int),rJ "Tally" vX (ay (e2 dW (bA "Gate" "numbers" (aj 0)) (eC (.int 2))) (ay (e2 dW (bA "Gate" "numbers" (aj 0)) (eC (.int 3))) aI)) [some (gD g,.own),some (tD L,.sh []),some (.str w,.sh []),none,none] with
  |some (.cU ak),some ks,some (dn,.own)=>_
  |_,_,_=>none)=_
 rw[e1,t_,show(gF g).lookup ("tallies":Str)=some (.cU (kX g.n g.t g.ta)) from rfl];dsimp only;rw[acg];unfold tob;dsimp only;have n1:((kX g.n g.t g.ta).map (·.1)).Nodup:=by
  unfold kX;rw[ac7,show((λkv:List Key×D=>kv.1) ∘ λp:List Int×List Str=>(kL p.1,tob g.n g.t p.2))=kL ∘ (·.1) from rfl,<- ac7];unfold List.Nodup at tn ⊢;rw[adV];exact tn.imp λq e=>q (rB e)
 rw[if_pos ⟨rfl,rfl,rfl,by unfold kL;rw[aeF];exact ac6.mpr λ_ _=>rfl,λz=>hL (List.map_eq_nil_iff.mp z),n1,size_le (by unfold kX;rw[List.length_map];omega)⟩];have ht:=Uh (n:=g.n) (t:=g.t) hw hm (by have:=NG hm;have:=k.nt;omega);unfold tob at ht;rw[ht];dsimp only;have tp:=Ut (n:=g.n) (t:=g.t) (ta:=g.ta) (L:=L) (h:=hd g.ta L++[w]);unfold tob at tp;rw[if_pos (show aD (D.str (word g.n g.t (hd g.ta L++[w])))=true from rfl),tp];rfl
def bG(g:G)(L:List Int)(w:Str):G:={ g with ta:=gp g.ta L (hd g.ta L++[w]),an:=g.an+1,en:=if(word g.n g.t (hd g.ta L++[w]) == "more")=true then g.en else g.en++[.tup [tD L,.str (word g.n g.t (hd g.ta L++[w]))]] }
def qw(g:G)(L:List Int):G:={ g with ld:=g.ld.drop (L.length-g.ln.length),ln:=L,gw:=g.gw++[L] }
theorem u0(L:List (List Int)):aN (bB L)=true:=rT.mpr λd m=>by
 obtain⟨l,_,rfl⟩:=abw.mp m;exact eE l
theorem Xl{L:List Int}(h1:g.ln.length<=L.length)(h2:L.length<=g.ln.length+g.ld.length)(hg:g.gw.length<=5000):rP (gD g) [tD L]=some (.aA,gD (qw g L)):=by
 have c:yt (bA "Gate" "laid_ones" (aj 0)) (e2 j8 (e1 gk (aj 1)) (e1 gk (bA "Gate" "on_line" (aj 0)))) [some (gD g,.own),some (tD L,.sh [])]=some (iL (g.ld.drop (L.length-g.ln.length)),.own):=by
  have e1:e2 j8 (e1 gk (aj 1)) (e1 gk (bA "Gate" "on_line" (aj 0))) [some (gD g,.own),some (tD L,.sh [])]=some (.int ((L.length-g.ln.length:Nat):Int),.own):=aK (bT (d:=tD L) (t:=.sh []) rfl (by show some (D.int (L.map D.int).length)=_;rw[List.length_map])) (bT (fl (g:=g) (d:=iL g.ln) (t:=.sh [0]) rfl) (by show some (D.int (g.ln.map D.int).length)=_;rw[List.length_map])) (by show some (D.int (_-_))=_;rw[Int.natCast_sub h1]);unfold yt;rw[fl (g:=g) (d:=iL g.ld) (t:=.sh [0]) rfl,e1];show(if aN (g.ld.map D.int)=true then some (D.lst (cutD (g.ld.map D.int) (some ((L.length-g.ln.length:Nat):Int)) none),Tag.own) else none)=_;rw[if_pos (eE _),LG (by rw[List.length_map];omega),<- List.map_drop];rfl
 refine oH rfl (sq (ρ':=[some (gD { g with ld:=g.ld.drop (L.length - g.ln.length) },.own),some (tD L,.sh [])]) (m_ (g:=g) (g':={ g with ld:=g.ld.drop (L.length - g.ln.length) }) c rfl rfl rfl) (sq (ρ':=[some (gD { g with ld:=g.ld.drop (L.length - g.ln.length),ln:=L },.own),some (tD L,.sh [])]) (m_ (g:={ g with ld:=g.ld.drop (L.length - g.ln.length) }) (g':={ g with ld:=g.ld.drop (L.length - g.ln.length),ln:=L }) (bT (d:=tD L) (t:=.sh []) rfl Ie) rfl rfl rfl) (iz ((yT (es:=gF { g with ld:=g.ld.drop (L.length - g.ln.length),ln:=L }) (d:=tD L) (t:=.sh []) (ds:=bB g.gw) rfl rfl rfl ?_).trans (by
  have:gD (qw g L)=.ins "Gate" (dD "grown" (.lst (bB g.gw++[tD L])) (gF { g with ld:=g.ld.drop (L.length-g.ln.length),ln:=L })):=by
   unfold gD gF qw bB;rw[adb];rfl
  rw[<- this]))))) rfl
 rw[u0,show aD (tD L)=true from eE L,aaD (size_le (by unfold bB;rw[List.length_map];omega))];rfl
def mS(g:G)(L:List Int)(w:Str):G:=if(word g.n g.t (hd g.ta L++[w]) == "yes")=true then qw (bG g L w) L else bG g L w
theorem YZ{L:List Int}{w:Str}(hk:L∈g.lk)(hL:L≠[])(k:Gd g)(tn:(g.ta.map (·.1)).Nodup)(tl:g.ta.length<=5000)(hw:w∈(["yes","no","unsure"]:List Str))(hm:word g.n g.t (hd g.ta L)="more")(em:aN g.en=true)(el:g.en.length<=5000)(gl:g.gw.length<=5000)(h1:g.ln.length<=L.length)(h2:L.length<=g.ln.length+g.ld.length)
  (hs:ng (gD (mS g L w)) []=some (.aA,gD g3)):JJ (gD g) [tD L,.str w]=some (.str (word g.n g.t (hd g.ta L++[w])),gD g3):=by
 generalize ew:word g.n g.t (hd g.ta L++[w])=u;have ft:=YO hL k tn tl hw hm;rw[ew] at ft;have hu:∀g':G,ir (sZ (xO 0 "Gate" "grow" rP (ay (aj 1) aI))) [some (gD g',.own),some (tD L,.sh []),some (.str w,.sh []),none,some (.str u,.own)]=(rP (gD g') [tD L]).map λv=>.nx [some (v.2,.own),some (tD L,.sh []),some (.str w,.sh []),none,some (.str u,.own)]:=λg'=>by
  show ir (λρ=>(xO 0 "Gate" "grow" rP (ay (aj 1) aI) ρ).map λw=>.nx w.2) _=_;have:xO 0 "Gate" "grow" rP (ay (aj 1) aI) [some (gD g',.own),some (tD L,.sh []),some (.str w,.sh []),none,some (.str u,.own)]=(rP (gD g') [tD L]).map λv=>(v.1,bP [some (gD g',.own),some (tD L,.sh []),some (.str w,.sh []),none,some (.str u,.own)] 0 v.2):=by
   show(if("Gate":Str)="Gate"/\(gF g').lookup ("grow":Str)=none/\apart 0 [(tD L,.sh [])]=true then _ else none)=_;rw[if_pos ⟨rfl,rfl,rfl⟩];rfl
  unfold ir;dsimp only;rw[this];cases rP (gD g') [tD L]<;>rfl
 refine kD rfl (fC (bU (aK (d1:=tD L) (t1:=.sh []) rfl (fl (g:=g) (t:=.sh [0]) rfl) ((NS true L g.lk).trans (by rw[aaD hk];rfl)))) (sq ft (sq (ρ':=[some (gD { g with ta:=gp g.ta L (hd g.ta L++[w]),an:=g.an+1 },.own),some (tD L,.sh []),some (.str w,.sh []),none,some (.str u,.own)]) (C6 (g:={ g with ta:=gp g.ta L (hd g.ta L++[w]) }) (g':={ g with ta:=gp g.ta L (hd g.ta L++[w]),an:=g.an+1 }) (i:=g.an) (j:=1) (t:=.own) rfl rfl rfl rfl) (sq (ρ':=[some (gD (bG g L w),.own),some (tD L,.sh []),some (.str w,.sh []),none,some (.str u,.own)]) ?_ (sq (ρ':=[some (gD (mS g L w),.own),some (tD L,.sh []),some (.str w,.sh []),none,some (.str u,.own)]) ?_ (sq (ρ':=[some (gD g3,.own),some (tD L,.sh []),some (.str w,.sh []),none,some (.str u,.own)]) (vW (g:=mS g L w) rfl hs) rfl))))))
 .have ht:tV (e2 l5 (aj 4) (eC (.str "more"))) [some (gD { g with ta:=gp g.ta L (hd g.ta L++[w]),an:=g.an+1 },.own),some (tD L,.sh []),some (.str w,.sh []),none,some (.str u,.own)]=some (!(u == "more")):=rfl;unfold bG;rw[ew];cases e:(u==("more":Str)) with
  |true=>rw[e] at ht;rw[iK,ht];rfl
  |false=>
   rw[e] at ht;refine pR ht (iz ((yT (es:=gF { g with ta:=gp g.ta L (hd g.ta L++[w]),an:=g.an+1 }) (d:=.tup [tD L,.str u]) (t:=.sh [4]) (ds:=g.en) rfl rfl rfl ?_).trans ?_))
   .have:aD (.tup [tD L,.str u])=true:=by unfold tD;simp only[aD,aN,eE,ad0]
    rw[this,em,aaD (size_le (by omega))];rfl
   .rfl
 .have ht:tV (e2 oEq (aj 4) (eC (.str "yes"))) [some (gD (bG g L w),.own),some (tD L,.sh []),some (.str w,.sh []),none,some (.str u,.own)]=some (u == "yes"):=rfl;unfold mS;rw[ew];cases e:(u==("yes":Str)) with
  |true=>
   rw[e] at ht;refine pR ht ((hu (bG g L w)).trans ?_);rw[Xl (g:=bG g L w) h1 h2 gl];rfl
  |false=>rw[e] at ht;rw[iK,ht];rfl
end
theorem MA(n t:Int)(h:List Str):word n t h="yes"\/bw (word n t h)=true\/word n t h="more":=by
 unfold word
 split
 .exact .inl rfl
 .split
  .exact .inr (.inl rfl)
  .split
   .exact .inr (.inl rfl)
   .exact .inr (.inr rfl)
theorem IB{n t:Int}(h:1<=n/\n<=t/\t<=20):word n t []="more":=by
 unfold word;rw[if_neg (by show ¬((0:Nat):Int) >= n;omega),if_neg (by show ¬((0:Nat):Int) >= n;omega),if_neg (by show ¬((0:Nat):Int) >= t;omega)]
theorem vf{g:G}(k:Gd g)(l:List Int):wd g l=word g.n g.t (hd g.ta l):=by
 unfold wd hd;cases pX g.ta l with
 |none=>exact(IB k.nt).symm
 |some h=>rfl
structure Gt(k:Nat)(g:G):Prop where
 tn:(g.ta.map (·.1)).Nodup
 tl:g.ta.length<=k
 yl:∀l,word g.n g.t (hd g.ta l)="yes"->l.length<=g.ln.length
 em:aN g.en=true
 el:g.en.length<=k
 gl:g.gw.length<=k
 lg:g.gw.getLastD []=g.ln
 st:g.ht=true->g.ld=[]
 ll:(g.lk.length:Int)<=g.h
structure Lk(g:G)(ps:List Int):Prop where
 ri:kq (eo g) ps
 ge:lim (eo g) g.h<=ps.length
 le:(ps.length:Int)<=g.h
 eq:g.lk=ps.map λp=>cM g p.toNat
structure Gi(k:Nat)(g:G):Prop where
 gd:Gd g
 gt:Gt k g
 fin:Fin g
 xW:∃ps,Lk g ps
theorem nv{g:G}{p:Nat}(h:p<=g.ld.length):(cM g p).length=g.ln.length+p:=by
 unfold cM;rw[abq,aeD];omega
theorem YU{g:G}{ps:List Int}(h:kq (eo g) ps):(ps.map λp=>cM g p.toNat).Nodup:=by
 unfold List.Nodup;rw[adV];refine h.so.imp_of_mem λ{a b} ma mb lt e=>?_
 have:=congrArg List.length e;have ha:=h.bd a ma;have hb:=h.bd b mb;have:=oO (g:=g);rw[nv (by omega),nv (by omega)] at *;omega
theorem TU{g:G}(k:Gd g)(hl:(g.lk.length:Int)<=g.h):Lk (iA g) (qd g):=by
 have hk:(ig g).length<=g.lk.length:=by
  have:=sub_len (l:=(ig g).map λp=>cM g p.toNat) (m:=g.lk) ?_ λl m=>?_
  .rwa [List.length_map] at this
  .unfold List.Nodup;rw[adV];refine pY.1.imp_of_mem λ{a b} ma mb lt e=>?_
   have:=congrArg List.length e;have ha:=(pY (g:=g)).2.1 a ma;have hb:=(pY (g:=g)).2.1 b mb;rw[nv (by omega),nv (by omega)] at this;omega
  .obtain⟨p,mp,rfl⟩:=abw.mp m;exact aaK ((aaH _ _).mp (ab5.mp mp).2).1
 have hi:(jL (eo g) (ig g)).length<=(ig g).length:=adG _ _;have hh:=k.h1;obtain⟨a,b⟩:=IJ (size:=g.ld.length) (e:=eo g) (aP:=g.h) (bad:=l9 g) 100 (jL (eo g) (ig g)) (by omega);exact⟨(Ke (g:=g)).1,a,b (by omega),rfl⟩
theorem settled{k:Nat}{g:G}(gd:Gd g)(gt:Gt k g):∃ld gr,ng (gD g) []=some (.aA,gD (iA { g with ld:=ld,gr:=gr }))/\Gi k (iA { g with ld:=ld,gr:=gr })/\Up g ld gr/\(mh g gr\/gr=g.gr/\(c9 g≠none->ld=g.ld)/\(Full g->ld=g.ld))/\(Fin g->gr=g.gr/\ld=g.ld):=by
 obtain⟨ld,gr,e,u,f,h,d,s⟩:=ZV gd;have L:=TU (g:={ g with ld:=ld,gr:=gr }) u.gd gt.ll;have v:=u.gd;refine⟨ld,gr,e,⟨⟨v.w1,v.h1,v.nt,v.gc,v.row,v.nd,v.nR,v.iT,v.gr,v.run⟩,⟨gt.tn,gt.tl,gt.yl,gt.em,gt.el,gt.gl,gt.lg,λq=>(h q).trans (gt.st q),?_⟩,⟨f.lf,f.go⟩,_,L⟩,u,d,s⟩;rw[L.eq,List.length_map];exact L.le
theorem Gi.mem{k:Nat}{g:G}(i:Gi k g){l:List Int}(m:l∈g.lk):∃p:Nat,1<=p/\(p:Int)<eo g/\p<=g.ld.length/\l=cM g p/\word g.n g.t (hd g.ta l)="more":=by
 obtain⟨ps,L⟩:=i.xW;rw[L.eq] at m;obtain⟨x,mx,rfl⟩:=abw.mp m;have hx:=L.ri.bd x mx;have he:=oO (g:=g);have hp:x.toNat<=g.ld.length:=by omega
 refine⟨x.toNat,by omega,by omega,hp,rfl,?_⟩;have nb:iS g x.toNat=false:=by
  cases e:c9 g with
  |none=>exact Jo.mp e _ (by omega) hp
  |some q=>
   refine(uU e).2.2.2 _ (by omega) ?_;unfold eo l9 at hx;rw[e] at hx;have:x<(q:Int):=hx.2;omega
 unfold iS at nb;rw[vf i.gd] at nb;rcases MA g.n g.t (hd g.ta (cM g x.toNat)) with h|h|h
 .have:=i.gt.yl _ h;rw[nv hp] at this;omega
 .rw[h] at nb;cases nb
 .exact h
def f9(g:G)(x:Int):Bool:=!decide (x∈g.ln)&&!d8 g x
def act(g:G):Nat:=((aX 1 g.C.length).filter (f9 g)).length
theorem JU{g g':G}(hC:g'.C=g.C)(h:∀x,f9 g' x=true->f9 g x=true){x:Int}(mx:x∈aX 1 g.C.length)(h1:f9 g x=true)(h2:f9 g' x=false):act g'+1<=act g:=by
 unfold act;rw[hC];refine sub_len (l:=x::(aX 1 g.C.length).filter (f9 g')) (aby.mpr ⟨(λm=>by rw[(ab5.mp m).2] at h2;cases h2),w_.sublist adw⟩) λy m=>?_
 rcases aaV.mp m with rfl|m
 .exact ab5.mpr ⟨mx,h1⟩
 .exact ab5.mpr ⟨(ab5.mp m).1,h y (ab5.mp m).2⟩
theorem NO{g g':G}(hC:g'.C=g.C)(h:∀x,f9 g' x=true->f9 g x=true):act g'<=act g:=by
 unfold act;rw[hC];exact sub_len (w_.sublist adw) λy m=>ab5.mpr ⟨(ab5.mp m).1,h y (ab5.mp m).2⟩
theorem zX{g:G}{ld:List Int}{gr:List (Key×D)}(u:Up g ld gr)(x:Int)(h:f9 (iA { g with ld:=ld,gr:=gr }) x=true):f9 g x=true:=by
 unfold f9 at h ⊢;obtain⟨a,b⟩:=(aaH _ _).mp h;refine(aaH _ _).mpr ⟨a,?_⟩;cases q:d8 g x with
 |false=>rfl
 |true=>rw[show d8 (iA { g with ld:=ld,gr:=gr }) x=true from u.mo x q] at b;cases b
theorem UG{g:G}{ld:List Int}{gr:List (Key×D)}(u:Up g ld gr)(n:mh g gr):act (iA { g with ld:=ld,gr:=gr })+1<=act g:=by
 obtain⟨x,h1,h2⟩:=n;have nl:x∉g.ln:=λm=>by
  have:bS gr x=false:=u.gd.iT x (abb _ m);rw[h1] at this;cases this
 refine JU (g:=g) rfl (zX u) (u.gd.gr.bd h1) ?_ ?_
 .unfold f9;rw[abD nl,h2];rfl
 .unfold f9;show(!decide (x∈g.ln)&&!bS gr x)=false;rw[h1,Bool.not_true,Bool.and_false]
def rest(g:G):Int:=(act g:Int)*(g.w+1)+(eo g-1)
def mX(g:G):Nat:=(g.lk.map λl=>(hd g.ta l).length).sum
def gU(g:G):Int:=g.h*g.t*rest g-mX g
theorem K5:∀{l:List (List Int)}{f:List Int->Nat}{b:Nat},(∀x∈l,f x<=b)->(l.map f).sum<=l.length*b
 |[],_,_,_=>adq _
 |a::l,f,b,h=>by
  have h1:=h a aam;have h2:=K5 (l:=l) (f:=f) λx m=>h x (aal _ m)
  rw[aas,List.sum_cons,abQ,Nat.succ_mul];omega
theorem OB{k:Nat}{g:G}(i:Gi k g):(mX g:Int)<=g.h*(g.t-1):=by
 obtain⟨ps,L⟩:=i.xW;have ht:=i.gd.nt;have h1:=K5 (l:=g.lk) (f:=λl=>(hd g.ta l).length) (b:=(g.t-1).toNat) λl m=>by
  obtain⟨p,_,_,_,_,hm⟩:=i.mem m;have:=NG hm;omega
 have h2:(g.lk.length:Int)<=g.h:=i.gt.ll;have h3:(mX g:Int)<=(g.lk.length:Int)*(g.t-1):=by
  have:(mX g:Int)<=((g.lk.length*(g.t-1).toNat:Nat):Int):=by exact_mod_cast h1
  rw[Int.natCast_mul,Int.toNat_of_nonneg (by omega)] at this;exact this
 exact Int.le_trans h3 (aej h2 (by omega))
theorem Uc{k:Nat}{g:G}(i:Gi k g):0<=rest g:=by
 have:=oO (g:=g);have:=i.gd.w1;have:0<=(act g:Int)*(g.w+1):=adL (by omega) (by omega);unfold rest;omega
theorem Oa{k k':Nat}{g g':G}(i:Gi k g)(i':Gi k' g')(hh:g'.h=g.h)(ht:g'.t=g.t)(hr:rest g'+1<=rest g):gU g'+1<=gU g:=by
 have h1:=OB i;have a:=i.gd.h1;have b:=i.gd.nt;unfold gU;rw[hh,ht];have:g.h*g.t*rest g'<=g.h*g.t*(rest g-1):=aeq (by omega) (adL (by omega) (by omega));rw[Int.mul_sub,aeO] at this;rw[Int.mul_sub,aeO] at h1;omega
theorem H_{k:Nat}{g:G}(i:Gi k g):(g.lk=[]->0<=gU g)/\(g.lk≠[]->1<=gU g):=by
 have a:=i.gd.h1;have b:=i.gd.nt;constructor
 .intro e;unfold gU mX;rw[e];have:=adL (adL (show 0<=g.h by omega) (show 0<=g.t by omega)) (Uc i);show 0<=g.h*g.t*rest g-((0:Nat):Int);omega
 .intro e;obtain⟨l,r,el⟩:=adT e;obtain⟨p,p1,p2,_⟩:=i.mem (show l∈g.lk from el ▸ aam);have h1:=OB i;have:1<=rest g:=by
   have:=i.gd.w1;have:0<=(act g:Int)*(g.w+1):=adL (by omega) (by omega);unfold rest;omega
  have:g.h*g.t*1<=g.h*g.t*rest g:=aeq this (adL (by omega) (by omega));unfold gU;rw[Int.mul_sub,aeO] at h1;rw[aeO] at this;omega
theorem I0{k k':Nat}{g g':G}(i':Gi k' g')(hw:g'.w=g.w)(he:2<=eo g)(ha:act g'+1<=act g):rest g'+1<=rest g:=by
 have h1:=oO (g:=g');have h2:=i'.gd.nR;have h3:=i'.gd.w1;unfold rest;rw[hw] at h2 h3 ⊢;have:((act g':Int)+1)*(g.w+1)<=(act g:Int)*(g.w+1):=aej (by omega) (by omega);rw[Int.add_mul,Int.one_mul] at this;omega
theorem Gd.re{g:G}(k:Gd g)(ta:Ta)(lk:List (List Int))(ht:Bool)(gw:List (List Int))(en:List D)(an br:Int):Gd { g with ta:=ta,lk:=lk,ht:=ht,gw:=gw,en:=en,an:=an,br:=br }:=⟨k.w1,k.h1,k.nt,k.gc,k.row,k.nd,k.nR,k.iT,k.gr,k.run⟩
structure Sm(g g':G):Prop where
 w:g'.w=g.w
 h:g'.h=g.h
 n:g'.n=g.n
 t:g'.t=g.t
theorem LQ{k:Nat}{g:G}(i:Gi k g):∃g',Kl (gD g) []=some (.aA,gD g')/\Gi k g'/\Sm g g'/\g'.C=g.C/\act g'<=act g:=by
 have v:=(i.gd.cut (ld:=[]) List.nil_prefix i.gd.gr λx m=>i.gd.iT x (abb _ (by rwa [acH] at m))).re g.ta g.lk true g.gw g.en g.an (g.br+1);have t:=i.gt;obtain⟨ld,gr,e,i',u,_,_⟩:=settled (g:=wK g) v ⟨t.tn,t.tl,t.yl,t.em,t.el,t.gl,t.lg,λ_=>rfl,t.ll⟩;exact⟨_,abl e,i',⟨rfl,rfl,rfl,rfl⟩,rfl,NO (g:=g) rfl λx h=>zX u x h⟩
theorem CG{k:Nat}{g:G}(i:Gi k g):∃g',L4 (gD g) []=some (.aA,gD g')/\Gi k g'/\Sm g g'/\g'.C=g.C/\act g'<=act g/\g'.ht=false:=by
 have v:=i.gd.re g.ta g.lk false g.gw g.en g.an g.br;have t:=i.gt;obtain⟨ld,gr,e,i',u,_,_⟩:=settled (g:={ g with ht:=false }) v ⟨t.tn,t.tl,t.yl,t.em,t.el,t.gl,t.lg,(λq=>by cases q),t.ll⟩;exact⟨_,aa8 e,i',⟨rfl,rfl,rfl,rfl⟩,rfl,NO (g:=g) rfl λx h=>zX u x h,rfl⟩
theorem RO{k:Nat}{g:G}(i:Gi k g){x:Int}(hx:x∈wl g\/x∈g.ld):∃g',Qa (gD g) [.int x]=some (.aA,gD g')/\Gi k g'/\Sm g g'/\g'.C=g.C/\g'.ht=g.ht:=by
 have kd:=i.gd;have i9:(1<=x/\x<=(g.C.length:Int))/\x∉g.ln/\d8 g x=false:=by
  rcases hx with h|h
  .have:=gZ.mp h;exact⟨this.1,this.2.1,this.2.2.2⟩
  .exact⟨kd.row x (aat _ h),λm=>(acE.mp kd.nd).2.2 x m x h rfl,kd.iT x (aat _ h)⟩
 have pre:(gW g x).ld <+: g.ld/\x∉(gW g x).ld:=by
  unfold gW
  by_cases m:x∈g.ld
  .dsimp only;rw[if_pos m];exact⟨AH,Pc⟩
  .dsimp only;rw[if_neg m];exact⟨List.prefix_refl _,m⟩
 have v:=(kd.cut (gr:=putD g.gr (Sum.inl x) (.tup [.str "withdrawn"])) pre.1 (kd.gr.put (fG.mpr (by omega)) rfl) λy m=>by
  have ny:y≠x:=λe=>(abo.mp m).elim (λq=>i9.2.1 (e ▸ q)) λq=>pre.2 (e ▸ q)
  rw[oK,abD ny,Bool.false_or];exact kd.iT y ((abo.mp m).elim (abb _) λq=>aat _ (pre.1.subset q))).re g.ta g.lk g.ht g.gw g.en g.an (g.br+1)
 have t:=i.gt;obtain⟨ld,gr,e,i',u,_,_⟩:=settled (k:=k) (g:=gW g x) v ⟨t.tn,t.tl,t.yl,t.em,t.el,t.gl,t.lg,λq=>by
  have:=pre.1;rw[t.st q] at this;exact List.prefix_nil.mp this,t.ll⟩
 exact⟨_,aaZ kd i9.1 i9.2.1 i9.2.2 e,i',⟨rfl,rfl,rfl,rfl⟩,rfl,rfl⟩
structure Gc(n:Nat)(c:Ch):Prop where
 ee:Ee c.2.2
 bd:∀x∈c.2.1,1<=x/\x<=(n:Int)
 few:c.2.1.length<=60
 ok:tM n c.1 c.2.1 c.2.2=true
section
variable{C:List Ch}{c:Ch}{m:Int}
theorem LS(h1:1<=m)(h2:m<=(C.length:Int)):ch (C++[c]) m=ch C m:=by
 unfold ch;rw[adi (by omega)]
theorem VB(h1:1<=m)(h2:m<=(C.length:Int)):lean (sec (C++[c])) m=lean (sec C) m:=by
 rw[<- um h1 (by rw[abq,adn];omega),LS h1 h2,um h1 h2]
theorem Ee.nil:Ee []:=⟨⟨.nil,adq _⟩,.nil,λp m=>nomatch m⟩
theorem Rx(g:GoodC C)(k:Gc C.length c)(hl:C.length<60):GoodC (C++[c]):=by
 have at_:∀(Q:Ch->Prop),Q (0,[],[])->Q c->(∀m,Q (ch C m))->∀m,Q (ch (C++[c]) m):=λQ q0 qc h m=>by
  unfold ch;rw[List.getElem?_append]
  split
  .exact h m
  .cases e:([c]:List Ch)[(m-1).toNat-C.length]? with
   |none=>exact q0
   |some x=>
    have:=adA e;rw[aaX.mp this];exact qc
 refine⟨by rw[abq,adn];omega,λm=>at_ (λc=>Ee c.2.2) Ee.nil k.ee (λm=>g.ed m) m,λm x h1 h2 mx=>?_,λm=>?_⟩
 .rw[abq,adn] at h2
  by_cases h3:m<=(C.length:Int)
  .rw[VB h1 h3] at mx;exact g.bd m x h1 h3 mx
  .have e:(ch (C++[c]) m)=c:=by
    unfold ch;rw[show(m-1).toNat=C.length by omega,ads (abu _),Nat.sub_self];rfl
   rw[<- um h1 (by rw[abq,adn];omega),e] at mx;have:=k.bd x mx;omega
 .by_cases h1:1<=m
  .by_cases h2:m<=((C++[c]).length:Int)
   .rw[<- um h1 h2];refine at_ (λc=>c.2.1.length<=60) (adq _) k.few (λm=>?_) m;unfold ch;cases e:C[(m-1).toNat]? with
    |none=>exact adq _
    |some x=>
     have cQ:=(abf.mp e).1;have:=g.few (((m-1).toNat:Int)+1);rw[<- um (by omega) (by omega)] at this;unfold ch at this;rw[show((((m-1).toNat:Int)+1-1).toNat)=(m-1).toNat by omega,e] at this;exact this
   .unfold lean;rw[if_pos h1,List.getElem?_eq_none (by rw[List.length_map];omega)];exact adq _
  .unfold lean;rw[if_neg h1];exact adq _
theorem RZ{row:List Int}(h:Row C row):ez (C++[c]) row=ez C row:=adN λx m=>by
 unfold cH;rw[LS (h x m).1 (h x m).2]
end
theorem ZG{k:Nat}{g:G}(i:Gi k g){c:Ch}(hc:Gc g.C.length c)(hl:g.C.length<60):∃d g',HQ (gD g) [.int c.1,iL c.2.1,eL c.2.2]=some (d,gD g')/\Gi k g'/\Sm g g'/\g'.C=g.C++[c]:=by
 have v:=i.gd;have lc:(g.C++[c]).length=g.C.length+1:=by rw[abq];rfl
 have v':Gd (sJ g c):=⟨v.w1,v.h1,v.nt,Rx v.gc hc hl,(λx m=>by have:=v.row x m;show 1<=x/\x<=(((g.C++[c]).length:Nat):Int);rw[lc];omega),v.nd,v.nR,v.iT,⟨v.gr.im,v.gr.nd,λq m=>by
  obtain⟨x,e,mx⟩:=v.gr.ks q m;have:=fG.mp mx;exact⟨x,e,fG.mpr (show 1<=x/\x<1+(((g.C++[c]).length:Nat):Int) by rw[lc];omega)⟩⟩,by
  obtain⟨w,h⟩:=v.run;exact⟨w,(congrArg (e_ []) (RZ v.row)).trans h⟩⟩
 have t:=i.gt;obtain⟨ld,gr,e,i',u,_,_⟩:=settled (g:=sJ g c) v' ⟨t.tn,t.tl,t.yl,t.em,t.el,t.gl,t.lg,t.st,t.ll⟩;exact⟨_,_,abc (o:=0) (by have:=hc.few;omega) (by have:=hc.ee.ed.ln;omega) hc.ok hl e,i',⟨rfl,rfl,rfl,rfl⟩,rfl⟩
theorem vO{ta:Ta}{L l:List Int}{h:List Str}:hd (gp ta L h) l=if l=L then h else hd ta l:=by
 unfold hd pX
 by_cases e:l=L
 .rw[if_pos e,e,Eb];rfl
 .rw[if_neg e,PU e]
theorem G6{κ α:Type}[DecidableEq κ]{es:List (κ×α)}{q:κ}{d:α}:(gp es q d).length<=es.length+1:=by
 unfold gp
 split
 .rw[List.length_map];omega
 .rw[abq];exact abu _
theorem KS{f f':List Int->Nat}{L:List Int}(h1:f' L=f L+1)(h2:∀l,l≠L->f' l=f l):∀{ls:List (List Int)},ls.Nodup->(L∈ls->(ls.map f').sum=(ls.map f).sum+1)/\(L∉ls->(ls.map f').sum=(ls.map f).sum)
 |[],_=>⟨λm=>(nomatch m),λ_=>rfl⟩
 |a::r,nd=>by
  obtain⟨n1,n2⟩:=aby.mp nd;obtain⟨a1,a2⟩:=KS h1 h2 (ls:=r) n2;rw[aas,aas,List.sum_cons,List.sum_cons];refine⟨λm=>?_,λm=>?_⟩
  .rcases aaV.mp m with rfl|m
   .rw[h1,a2 n1];omega
   .rw[h2 a λe=>n1 (e ▸ m),a1 m];omega
  .rw[h2 a λe=>m (e ▸ aam),a2 λq=>m (aal _ q)]
theorem UO{a b:List Int}(ha:a.Pairwise (· < ·))(hb:b.Pairwise (· < ·))(h:∀x,x∈a↔x∈b):a=b:=by
 have p:a.Perm b:=(List.perm_ext_iff_of_nodup (ha.imp λh=>by omega) (hb.imp λh=>by omega)).mpr h;exact(Bw p (ha.imp λh=>by omega)).trans (Bw (List.Perm.refl _) (hb.imp λh=>by omega)).symm
theorem Rh{k:Nat}{g:G}(i:Gi k g)(hk:k<=4000){L:List Int}(hL:L∈g.lk){w:Str}(hw:w∈(["yes","no","unsure"]:List Str)):∃d g',JJ (gD g) [tD L,.str w]=some (d,gD g')/\Gi (k+1) g'/\Sm g g'/\g'.C=g.C/\gU g'+1<=gU g/\g'.ht=g.ht:=by
 obtain⟨p,p1,p2,p3,eL,hm⟩:=i.mem hL;have Pn:L.length=g.ln.length+p:=by rw[eL,nv p3]
 have nL:L≠[]:=λe=>by rw[e] at Pn;simp at Pn;omega
 have he:2<=eo g:=by omega
 have t:=i.gt;have v:=i.gd;have fa:=λ(g3:G) (hs:ng (gD (mS g L w)) []=some (.aA,gD g3))=>YZ hL nL v t.tn (ado t.tl (by omega)) hw hm t.em (ado t.el (by omega)) (ado t.gl (by omega)) (by omega) (by omega) hs
 have yw:aN (bG g L w).en=true/\(bG g L w).en.length<=k+1:=by
  unfold bG;dsimp only
  split
  .exact⟨t.em,by have:=t.el;omega⟩
  .refine⟨rT.mpr λd m=>?_,by rw[abq];have:=t.el;simp;omega⟩;rcases abo.mp m with m|m
   .exact rT.mp t.em d m
   .rw[aaX.mp m];unfold tD;simp only[aD,aN,eE,ad0]
 have JP:(bG g L w).ta.length<=k+1:=ado G6 (by have:=t.tl;omega);have wZ:((bG g L w).ta.map (·.1)).Nodup:=Dp t.tn;have v1:Gd (bG g L w):=v.re _ g.lk g.ht g.gw _ _ g.br
 by_cases hy:word g.n g.t (hd g.ta L++[w])="yes"
 .have e2:mS g L w=qw (bG g L w) L:=by unfold mS;rw[hy];rfl
  have dp:L.length-g.ln.length=p:=by omega
  have ea:L++g.ld.drop p=g.ln++g.ld:=by rw[eL];unfold cM;rw[adJ,List.take_append_drop]
  have v2:Gd (qw (bG g L w) L):=by
   refine⟨v.w1,v.h1,v.nt,v.gc,?_,?_,?_,?_,v.gr,?_⟩
   .show Row g.C (L++g.ld.drop (L.length-g.ln.length));rw[dp,ea];exact v.row
   .show(L++g.ld.drop (L.length-g.ln.length)).Nodup;rw[dp,ea];exact v.nd
   .show((g.ld.drop (L.length-g.ln.length)).length:Int)<=g.w;rw[List.length_drop];have:=v.nR;omega
   .show ∀x∈L++g.ld.drop (L.length-g.ln.length),d8 g x=false;rw[dp,ea];exact v.iT
   .show ∃v,e_ [] (ez g.C (L++g.ld.drop (L.length-g.ln.length)))=some v;rw[dp,ea];exact v.run
  obtain⟨ld,gr,e,i',u,_,_⟩:=settled (k:=k + 1) (g:=qw (bG g L w) L) v2 ⟨wZ,JP,λl hl=>by
   have hl:word g.n g.t (hd (gp g.ta L (hd g.ta L++[w])) l)="yes":=hl;rw[vO] at hl;show l.length<=L.length
   split at hl
   .rename_i q;rw[q];exact abu _
   .have:=t.yl l hl;omega,yw.1,yw.2,by show(g.gw++[L]).length<=k+1;rw[abq];have:=t.gl;simp;omega,by show(g.gw++[L]).getLastD []=L;rw[List.getLastD_concat],λq=>by
   show g.ld.drop _=[];rw[t.st q,List.drop_nil],t.ll⟩
  refine⟨_,_,fa _ (by rw[e2];exact e),i',⟨rfl,rfl,rfl,rfl⟩,rfl,Oa i i' rfl rfl (I0 (k:=k) i' rfl he ?_),rfl⟩;obtain⟨x,r,ex⟩:=adT (λe:g.ld=[]=>by rw[e] at p3;simp at p3;omega);have mx:x∈g.ld:=ex ▸ aam;have mL:x∈L:=by
   rw[eL];unfold cM;rw[ex,show p=(p-1)+1 by omega,List.take_succ_cons];exact aat _ aam
  have sub:∀y∈g.ln,y∈L:=λy m=>by rw[eL];exact abb _ m
  refine JU (g:=g) rfl (λy hy=>?_) (fG.mpr (by have:=v.row x (aat _ mx);omega)) (x:=x) ?_ ?_
  .have:=zX u y hy;unfold f9 at this ⊢;obtain⟨a,b⟩:=(aaH _ _).mp this;refine(aaH _ _).mpr ⟨?_,b⟩;have a:(!decide (y∈L))=true:=a;simp only[aeR,decide_eq_false_iff_not] at a ⊢;exact λm=>a (sub y m)
  .unfold f9;rw[abD λm=>(acE.mp v.nd).2.2 x m x mx rfl,show d8 g x=false from v.iT x (aat _ mx)];rfl
  .unfold f9;show(!decide (x∈L)&&_)=false;rw[aaD mL];rfl
 .have e2:mS g L w=bG g L w:=by
   unfold mS;rw[if_neg (by simpa using hy)]
  have t1:Gt (k + 1) (bG g L w):=⟨wZ,JP,λl hl=>by
   have hl:word g.n g.t (hd (gp g.ta L (hd g.ta L++[w])) l)="yes":=hl;rw[vO] at hl
   split at hl
   .exact absurd hl hy
   .exact t.yl l hl,yw.1,yw.2,by have:=t.gl;show g.gw.length<=k+1;omega,t.lg,t.st,t.ll⟩
  obtain⟨ld,gr,e,i',u,d,s⟩:=settled v1 t1;have Lp:∀l,wd (bG g L w) l=if l=L then word g.n g.t (hd g.ta L++[w]) else wd g l:=λl=>by
   rw[vf v1,vf v];show word g.n g.t (hd (gp g.ta L (hd g.ta L++[w])) l)=_;rw[vO]
   split<;>rfl
  rcases MA g.n g.t (hd g.ta L++[w]) with h|h|h
  .exact absurd h hy
  .refine⟨_,_,fa _ (by rw[e2];exact e),i',⟨rfl,rfl,rfl,rfl⟩,rfl,Oa i i' rfl rfl ?_,rfl⟩;have ae:act (bG g L w)=act g:=rfl;rcases d with n|⟨hg,hb,_⟩
   .exact I0 (k:=k) i' rfl he (ae ▸ UG u n)
   .have bp:iS (bG g L w) p=true:=by
     unfold iS;rw[Lp,if_pos (show cM (bG g L w) p=L from eL.symm)];exact h
    cases eb:c9 (bG g L w) with
    |none=>rw[Jo.mp eb p p1 p3] at bp;cases bp
    |some q=>
     have hq:=uU eb;have qp:q<=p:=Nat.le_of_not_lt λlt=>by rw[hq.2.2.2 p p1 lt] at bp;cases bp
     have Z_:=hb (by rw[eb];exact λz=>by cases z);subst hg;rw[Z_];have e1:eo (iA { bG g L w with ld:=(bG g L w).ld,gr:=(bG g L w).gr })=q:=by
      show endOf _ ((c9 (bG g L w)).map λp:Nat=>(p:Int))=_;rw[eb];rfl
     unfold rest;rw[e1];show(act g:Int)*(g.w+1)+((q:Int)-1)+1<=_;omega
  .have Nr:wd (bG g L w)=wd g:=funext λl=>by
    rw[Lp]
    split
    .rename_i q;rw[h,q,vf v,hm]
    .rfl
   have be:c9 (bG g L w)=c9 g:=by
    unfold c9;show List.find? (iS (bG g L w)) _=_;rw[show iS (bG g L w)=iS g from funext λq=>by unfold iS;rw[Nr];rfl];rfl
   have f1:Fin (bG g L w):=⟨i.fin.lf,λq=>by
    have:=i.fin.go q;rw[be];exact this⟩
   obtain⟨rfl,rfl⟩:=s f1;obtain⟨ps,K⟩:=i.xW;have HZ:eo (bG g L w)=eo g:=by unfold eo l9;rw[be];rfl
   have ek:ig (bG g L w)=ps:=UO pY.1 K.ri.so λx=>by
    have hx:kp (bG g L w) (cM (bG g L w) x.toNat)=decide (cM g x.toNat∈g.lk/\wd g (cM g x.toNat)="more"):=by
     unfold kp;rw[Nr,Bool.decide_and];show(decide (cM g x.toNat∈g.lk)&&(wd g (cM g x.toNat) == "more"))=_
     congr 1
    unfold ig;rw[ab5,hx,decide_eq_true_eq,fG];have ade:=oO (g:=g);constructor
    .rintro⟨h1,h2,_⟩
     rw[K.eq] at h2;obtain⟨y,my,ey⟩:=abw.mp h2;have hy:=K.ri.bd y my;have:=congrArg List.length ey;rw[nv (by omega),nv (by have:(x:Int)<1+(g.ld.length:Int):=h1.2;omega)] at this;have:x=y:=by omega
     exact this ▸ my
    .intro mx;have hx:=K.ri.bd x mx;have ml:cM g x.toNat∈g.lk:=by rw[K.eq];exact abw.mpr ⟨x,mx,rfl⟩
     refine⟨⟨hx.1,by show x<1+(g.ld.length:Int);omega⟩,ml,?_⟩;obtain⟨_,_,_,_,_,hmm⟩:=i.mem ml;rw[vf v];exact hmm
   have el:rH (bG g L w)=g.lk:=by
    unfold rH;have:qd (bG g L w)=ps:=by
     unfold qd W;show iO _ _ (eo (bG g L w)) g.h 100 (jL (eo (bG g L w)) (ig (bG g L w)))=ps;rw[ek,HZ,show jL (eo g) ps=ps from List.filter_eq_self.mpr λx m=>aaD (K.ri.bd x m).2];exact VQ K.ge
    rw[this];exact K.eq.symm
   refine⟨_,_,fa _ (by rw[e2];exact e),i',⟨rfl,rfl,rfl,rfl⟩,rfl,?_,rfl⟩;have r1:rest (iA { bG g L w with ld:=(bG g L w).ld,gr:=(bG g L w).gr })=rest g:=by
    unfold rest;rw[show eo (iA { bG g L w with ld:=(bG g L w).ld,gr:=(bG g L w).gr })=eo g from HZ];rfl
   have h1:mX (iA { bG g L w with ld:=(bG g L w).ld,gr:=(bG g L w).gr })=mX g+1:=by
    unfold mX;show((rH (bG g L w)).map λl=>(hd (gp g.ta L (hd g.ta L++[w])) l).length).sum=_;rw[el];refine(KS (L:=L) (f:=λl=>(hd g.ta l).length) ?_ (λl ne=>?_) (by rw[K.eq];exact YU K.ri)).1 hL
    .rw[vO,if_pos rfl,abq];rfl
    .rw[vO,if_neg ne]
   unfold gU;rw[r1,h1];show g.h*g.t*rest g-((mX g+1:Nat):Int)+1<=_;omega
def Wq(Q:Out->Prop)(o:Option Out):Prop:=∃r,o=some r/\Q r
section
variable{Q:Out->Prop}{ρ ρ':av}{f:EF}{tf:TF}{sf sg:SF}{d:D}{t:Tag}{i j:Nat}{b:Bool}
theorem jn(h:sf ρ=some (.nx ρ'))(k:Wq Q (sg ρ')):Wq Q (bV sf sg ρ):=let⟨x,e,p⟩:=k;⟨x,sq h e,p⟩
theorem wn(h:sf ρ=some (.nx ρ'))(k:Wq Q (sg ρ')):Wq Q (bV (ir sf) sg ρ):=jn (iz h) k
theorem f_(h:f ρ=some (d,t))(k:Wq Q (sg (iC ρ i d t))):Wq Q (bV (c8 i f) sg ρ):=jn (by rw[mO,h];rfl) k
theorem wo(h:f ρ=some (d,t))(k:Wq Q (sg (iC ρ i d t))):Wq Q (bV (ir (c8 i f)) sg ρ):=wn (by rw[mO,h];rfl) k
theorem fT(ρ':av)(k:Wq Q (sg ρ'))(e:ρ=ρ':=by rfl):Wq Q (sg ρ):=e ▸ k
theorem nq(h:tf ρ=some b)(h1:b=true->Wq Q (sf ρ))(h2:b=false->Wq Q (sg ρ)):Wq Q (eN tf sf sg ρ):=by
 rw[iK,h];cases b with
 |true=>exact h1 rfl
 |false=>exact h2 rfl
theorem NF{ds:List D}{g:GF}{t:Tag}(I:Nat->av->Prop)(h0:I 0 ρ)(st:∀j ρ d,ds[j]? = some d->I j ρ->∃aM,g d t ρ=some aM/\Wq (λr=>∃aZ,r=.nx aZ/\I (j+1) aZ) (sf aM)):∃ρ',cX g t sf ds ρ=some (.nx ρ')/\I ds.length ρ':=by
 obtain⟨ρ',lp,h⟩:=Mj (g:=g) (t:=t) (f:=sf) I (ds:=ds) (ρ:=ρ) (n:=0) h0 (λj ρ d hd h=>by
  rw[aeU] at h ⊢;obtain⟨aM,e1,_,e2,aZ,rfl,h2⟩:=st j ρ d hd h;exact⟨aM,aZ,e1,.inl e2,h2⟩)
 rw[aeU] at h;exact⟨ρ',lp,h⟩
theorem G2{it:IF}{a:Int}{n:Nat}{x:Nat}(I:Nat->av->Prop)(hi:it ρ=some ((aX a n).map D.int,.own))(h0:I 0 ρ)(st:∀j ρ,j<n->I j ρ->∃aM,gN x (.int (a+j)) (.sh []) ρ=some aM/\Wq (λr=>∃aZ,r=.nx aZ/\I (j+1) aZ) (sf aM))(k:∀ρ',I n ρ'->Wq Q (sg ρ')):Wq Q (bV (jg it (gN x) sf) sg ρ):=by
 obtain⟨ρ',e,h⟩:=NF (sf:=sf) (g:=gN x) (t:=.sh []) (ds:=(aX a n).map D.int) I h0 (λj ρ d hd h=>by
  unfold aX at hd;rw[ac7,ab6] at hd;obtain⟨y,hy,rfl⟩:=ab8.mp hd;obtain⟨hj,e⟩:=abf.mp hy;rw[aeQ] at hj;rw[List.getElem_range] at e;subst e;exact st j ρ hj h)
 rw[List.length_map,jy] at h;exact jn (wY hi e) (k ρ' h)
theorem Aw{I:av->Prop}(h:Wq (λr=>∃ρ',r=.nx ρ'/\I ρ') (sf ρ))(k:∀ρ',I ρ'->Wq Q (sg ρ')):Wq Q (bV sf sg ρ):=let⟨_,e,ρ',e2,p⟩:=h;jn (e.trans (by rw[e2])) (k ρ' p)
theorem abC{I:av->Prop}(h:Wq (λr=>∃ρ',r=.nx ρ'/\I ρ') (sf ρ))(k:∀ρ',I ρ'->Wq Q (sg ρ')):Wq Q (bV (ir sf) sg ρ):=let⟨_,e,ρ',e2,p⟩:=h;wn (e.trans (by rw[e2])) (k ρ' p)
theorem wg{P:D->Prop}(hl:ds.length=n)(h:Wq (λr=>∃d,r=.rt d/\P d) (B (EU N ds))):∃d,bK n N B ds=some d/\P d:=let⟨_,e,d,h,p⟩:=h;⟨d,cg hl (e.trans (by rw[h])),p⟩
theorem E6{P:D->List D->Prop}{J:List Nat}{n N:Nat}{B:SF}{ds:List D}(hl:ds.length=n)(h:Wq (λr=>(∃a es,r=.rt (.tup (a::es))/\P a es)\/∃ρ es,r=.nx ρ/\jT J ρ=some es/\P .aA es) (B (mH J 0 ds++List.replicate (N-ds.length) none))):∃a es,mG J n N B ds=some (a,es)/\P a es:=by
 obtain⟨r,e,h⟩:=h;unfold mG;rw[if_pos hl,e];rcases h with⟨a,es,rfl,p⟩|⟨ρ,es,rfl,ho,p⟩
 .exact⟨a,es,rfl,p⟩
 .dsimp only;rw[ho];exact⟨.aA,es,rfl,p⟩
theorem A3{js:List Nat}{sl:List (Option Nat)}{F:JF}{g:AF}{ps:List (D×Tag)}{r:D}{es:List D}(hg:g ρ=some ps)(hF:F (ps.map (·.1))=some (r,es))(ha:pG js sl ps=true:=by rfl):vt js sl F g ρ=some (.ok r (lW ρ js es)):=by
 unfold vt;rw[hg];dsimp only;rw[if_pos ha,hF];rfl
theorem Ff{f:XR}(h:f ρ=some (.ok d ρ')):v9 f ρ=some (.nx ρ'):=by unfold v9;rw[h]
theorem IZ{f:XR}(h:f ρ=some (.ok d ρ')):yD i f ρ=some (.nx (iC ρ' i d .own)):=by unfold yD;rw[h]
end
section
variable{g:G}
theorem Nj:Qz [gD g]=some (iL g.ln):=cg rfl (cL (bT (fl (g:=g) (t:=.sh []) rfl) uf))
theorem CW:N_ [gD g]=some (iL g.ld):=cg rfl (cL (bT (fl (g:=g) (t:=.sh []) rfl) uf))
theorem wM:HV [gD g]=some (.lst (bB g.lk)):=cg rfl (cL (bT (fl (g:=g) (d:=.lst (bB g.lk)) (t:=.sh []) rfl) (if_pos (u0 _))))
theorem VN:abi [gD g]=some (.lst (bB g.gw)):=cg rfl (cL (bT (fl (g:=g) (d:=.lst (bB g.gw)) (t:=.sh []) rfl) (if_pos (u0 _))))
theorem Uw:VO [gD g]=some (.bl g.ht):=cg rfl (by rw[Aj,fl (g:=g) (d:=.bl g.ht) (t:=.sh []) rfl];rfl)
def outD(gr:List (Key×D))(x:Int):D:=.tup [.int x,(aY gr (Sum.inl x:Key)).getD .aA]
theorem Xj(k:Gd g):ab4 [gD g]=some (.lst ((cj (iB g.gr)).map (outD g.gr))):=by
 have hl:=k.gr.len;have gl:=k.gc.ln;obtain⟨ek,e⟩:=tH k.gr.ks;have el:(iB g.gr).length=g.gr.length:=by have:=congrArg List.length ek;rw[List.length_map,List.length_map] at this;exact this.symm
 have hs:e1 lJ (bA "Gate" "grounds" (aj 0)) [some (gD g,.sh [])]=some (iL (cj (iB g.gr)),.own):=bT (fl (g:=g) (d:=.bH g.gr) (t:=.sh []) rfl) (by
  show(match iI g.gr with|some ns=>if ns.length<64 then some (D.lst ((cj ns).map D.int)) else none|none=>none)=_;rw[e];dsimp only;rw[if_pos (by omega)];rfl)
 have hc:=jr (js:=[none,some 0]) (g:=gN 0) (tt:=jC) (te:=kr (ay (aj 0) (ay (e2 kh (bA "Gate" "grounds" (aj 1)) (aj 0)) aI))) (k:=λd=>match d with | .int x=>some (outD g.gr x) | _=>none) (iP hs) (by rw[List.length_map,uv];exact size_le (by omega)) (λd m=>by
  obtain⟨x,mx,rfl⟩:=abw.mp m;have mi:=k.gr.mem.mp (rG.mp mx);unfold bS at mi;obtain⟨v,hv⟩:=aeg.mp mi;have iv:aD v=true:=rT.mp k.gr.im v (by
   unfold aY at hv;obtain⟨kv,h1,rfl⟩:=ab8.mp hv;exact abw.mpr ⟨kv,adK h1,rfl⟩)
  have hg:e2 kh (bA "Gate" "grounds" (aj 1)) (aj 0) [some (.int x,.sh []),some (gD g,.sh [])]=some (v,.own):=aK (d2:=.int x) (t2:=.sh []) (fl (g:=g) (d:=.bH g.gr) (t:=.sh []) rfl) rfl (by
   show(aY g.gr (Sum.inl x:Key)).bind _=_;rw[hv,acQ,if_pos iv])
  have ho:∃t,kr (ay (aj 0) (ay (e2 kh (bA "Gate" "grounds" (aj 1)) (aj 0)) aI)) [some (.int x,.sh []),some (gD g,.sh [])]=some (outD g.gr x,t):=by
   rw[o_,aW,aW,hg];unfold outD;rw[hv];exact⟨_,rfl⟩
  obtain⟨t,ho⟩:=ho;exact sM (aM:=[some (.int x,.sh []),some (gD g,.sh [])]) rfl rfl ho (by
   unfold outD;rw[hv];simp only[aeo,aD,aN,iv,ad0]))
 rw[adD,show((cj (iB g.gr)).filterMap ((λd=>match d with|D.int x=>some (outD g.gr x)|_=>none) ∘ D.int))=(cj (iB g.gr)).map (outD g.gr) from mC (outD g.gr) _] at hc;exact cg rfl (cL hc)
end
noncomputable def g0(w h n t:Int):G:=⟨w,h,n,t,[],[],[],[],[],[],false,[],[],0,0⟩
theorem UQ{w h n t:Int}(hw:1<=w/\w<=16)(hh:1<=h/\h<=8)(nt:1<=n/\n<=t/\t<=20):Jh (.ins "Gate" []) [.int w,.int h,.int n,.int t]=some (.aA,gD (g0 w h n t)):=by
 have q:∀{i:Nat}{v b:Int},aj i [some (.ins "Gate" [],.own),some (.int w,.sh []),some (.int h,.sh []),some (.int n,.sh []),some (.int t,.sh [])]=some (.int v,.sh [])->1<=v/\v<=b->tV (cC mP (ay (aj i) (ay (eC (.int 1)) (ay (eC (.int b)) aI)))) [some (.ins "Gate" [],.own),some (.int w,.sh []),some (.int h,.sh []),some (.int n,.sh []),some (.int t,.sh [])]=some true:=λh hb=>(vD h).trans (by unfold inR;rw[aaD hb.1,aaD hb.2];rfl)
 refine oH (ρ:=[some (gD (g0 w h n t),.own),some (.int w,.sh []),some (.int h,.sh []),some (.int n,.sh []),some (.int t,.sh [])]) rfl (fC (kN (b:=true) ((LI (q rfl hw)).trans ((LI (q rfl hh)).trans (bU (dJ (ps:=[(.int n,.sh []),(.int t,.sh [])]) rfl (K4 nt)))))) ?_) rfl
 kernel_rfl
theorem gi0{w h n t:Int}(hw:1<=w/\w<=16)(hh:1<=h/\h<=8)(nt:1<=n/\n<=t/\t<=20):Gi 0 (g0 w h n t):=by
 refine⟨⟨hw,hh,nt,⟨adq _,λm=>Ee.nil,λm x h1 h2=>?_,λm=>?_⟩,(λx m=>nomatch m),.nil,?_,(λx m=>nomatch m),⟨rfl,.nil,λk m=>nomatch m⟩,[],rfl⟩,⟨.nil,abu _,λl hl=>?_,rfl,abu _,abu _,rfl,λ_=>rfl,?_⟩,⟨(λx m=>nomatch m),λ_=>⟨(λe=>nomatch e),λ_=>rfl,λ_=>.inr λx m=>nomatch m⟩⟩,[],⟨.nil,λx m=>nomatch m⟩,?_,?_,rfl⟩
 .have h2:m<=((0:Nat):Int):=h2;omega
 .unfold lean;split<;>exact adq _
 .show((0:Nat):Int)<=w;omega
 .rw[show hd (g0 w h n t).ta l=[] from rfl,show word (g0 w h n t).n (g0 w h n t).t []="more" from IB nt] at hl;exact absurd hl (by decide +kernel)
 .show((0:Nat):Int)<=h;omega
 .show lim ((0:Nat)+1:Int) h<=((0:Nat):Int);unfold lim;split<;>omega
 .show((0:Nat):Int)<=h;omega
noncomputable def dI(ns:List Int):D:=.gz (ns.map D.int)
noncomputable def uQ(ns:List Int)(k:Int):Int:=if 0<ns.length then ns.getD (k % ns.length).toNat 0 else 0
def iV(ns:List Int)(k p m:Int):Int:=((uQ ns k+k*k)*48271+11) % p % m
theorem mT{ns:List Int}{k p m:Int}(hm:0<m):0<=iV ns k p m/\iV ns k p m<m:=⟨aeL _ (by omega),aeM _ hm⟩
theorem oW{i j:Int}(h:-(2 ^ 64)<j/\j<2 ^ 64):o7 i j=true:=by unfold o7;rw[aaD h.1,aaD h.2];simp
theorem zP{ns:List Int}:gk (dI ns)=some (.int ns.length):=by unfold dI;show some (D.int (ns.map D.int).length)=_;rw[List.length_map]
theorem Xz{ns:List Int}{k p m:Int}(hk:0<=k/\k<=100000)(hp:0<p)(hm:0<m):sL [dI ns,.int k,.int p,.int m]=some (.int (iV ns k p m)):=by
 have e:∃d,sL [dI ns,.int k,.int p,.int m]=some d/\d=.int (iV ns k p m):=by
  refine wg rfl (f_ (d:=.int 0) (t:=.own) rfl (fT [some (dI ns,.sh []),some (.int k,.sh []),some (.int p,.sh []),some (.int m,.sh []),some (.int 0,.own)] ?_));refine Aw (I:=λρ=>ρ=[some (dI ns,.sh []),some (.int k,.sh []),some (.int p,.sh []),some (.int m,.sh []),some (.int (uQ ns k),.own)]) ?_ λρ e=>?_
  .refine nq (b:=decide ((0:Int)<ns.length)) (bU (aK (bT (d:=dI ns) (t:=.sh []) rfl zP) (d2:=.int 0) (t2:=.own) rfl rfl)) (λh=>?_) λh=>?_
   .have h:=aaK h;have h0:=aeL k (show(ns.length:Int)≠0 by omega);have h1:=aeM k h;have hx:e2 dW (aj 0) (e2 oMod (aj 1) (e1 gk (aj 0))) [some (dI ns,.sh []),some (.int k,.sh []),some (.int p,.sh []),some (.int m,.sh []),some (.int 0,.own)]=some (.int (uQ ns k),.own):=aK (d1:=dI ns) (t1:=.sh []) rfl (aK (d1:=.int k) (t1:=.sh []) rfl (bT (d:=dI ns) (t:=.sh []) rfl zP) (tR h)) (abk (by
     unfold uQ;rw[if_pos (by omega)];exact LV h0 (by omega)) rfl)
    exact⟨_,by rw[mO,hx];rfl,_,rfl,rfl⟩
   .have h:=of_decide_eq_false h;refine⟨_,rfl,_,rfl,?_⟩;unfold uQ;rw[if_neg (by omega)]
  .subst e;exact⟨_,cL (aK (aK (aK (aK (aK (d1:=.int (uQ ns k)) (t1:=.sh [4]) rfl (aK (d1:=.int k) (t1:=.sh []) (d2:=.int k) (t2:=.sh []) rfl rfl (n9 (oW (by omega)))) jv) rfl (n9 (oW (by omega)))) rfl jv) (d2:=.int p) (t2:=.sh []) rfl (tR hp)) (d2:=.int m) (t2:=.sh []) rfl (tR hm)),_,rfl,rfl⟩
 obtain⟨_,e,rfl⟩:=e;exact e
theorem dr{ns:List Int}{ρ:av}{fs fk fp fm:EF}{k p m:Int}{t0 t1 t2 t3:Tag}(h0:fs ρ=some (dI ns,t0))(h1:fk ρ=some (.int k,t1))(h2:fp ρ=some (.int p,t2))(h3:fm ρ=some (.int m,t3))(hk:0<=k/\k<=100000)(hp:0<p)(hm:0<m):cC sL (ay fs (ay fk (ay fp (ay fm aI)))) ρ=some (.int (iV ns k p m),.own):=
 dJ (ps:=[(dI ns,t0),(.int k,t1),(.int p,t2),(.int m,t3)]) (by rw[aW,aW,aW,aW,h0,h1,h2,h3];rfl) (Xz hk hp hm)
theorem xR(h:f ρ=some (.int x,t)):e2 fZ (eC (.int a)) f ρ=some (.int (a+x),.own):=aK rfl h jv
noncomputable def fM(w h n t:Int):D:=.tup [.int w,.int h,.int n,.int t]
theorem Sd{ns:List Int}{m:Int}(hm:1<=m):∃d,acv [dI ns,.int m]=some d/\∃w h n t,d=fM w h n t/\(1<=w/\w<=m)/\(1<=h/\h<=8)/\1<=n/\n<=t/\t<=4:=by
 have b1:=mT (ns:=ns) (k:=51) (p:=10499) (m:=m) (by omega);have b2:=mT (ns:=ns) (k:=52) (p:=10501) (m:=8) (by omega);have b4:=mT (ns:=ns) (k:=54) (p:=10529) (m:=2) (by omega);have b5:=mT (ns:=ns) (k:=55) (p:=10531) (m:=3) (by omega);refine wg rfl (f_ (xR (dr (ns:=ns) (k:=51) (m:=m) (t0:=.sh []) (t1:=.own) (t2:=.own) (t3:=.sh []) rfl rfl rfl rfl (by omega) (by omega) (by omega))) (f_ (xR (dr (ns:=ns) (k:=52) (t0:=.sh []) (t1:=.own) (t2:=.own) (t3:=.own) rfl rfl rfl rfl (by omega) (by omega) (by omega))) ?_));generalize iV ns 51 10499 m=x1 at b1 ⊢;generalize iV ns 52 10501 8=x2 at b2 ⊢;refine fT [some (dI ns,.sh []),some (.int m,.sh []),some (.int (1+x1),.own),some (.int (1+x2),.own),none] ?_;refine Aw (I:=λρ=>∃h,ρ=[some (dI ns,.sh []),some (.int m,.sh []),some (.int (1+x1),.own),some (.int h,.own),none]/\1<=h/\h<=8) (nq (bU (aK (dr (ns:=ns) (k:=53) (t0:=.sh []) (t1:=.own) (t2:=.own) (t3:=.own) rfl rfl rfl rfl (by omega) (by omega) (by omega)) rfl rfl)) (λ_=>⟨_,rfl,_,rfl,1,rfl,by omega⟩) λ_=>⟨_,rfl,_,rfl,1+x2,rfl,by omega⟩) λρ ⟨h,e,hh⟩=>?_
 subst e;refine f_ (xR (dr (ns:=ns) (k:=54) (t0:=.sh []) (t1:=.own) (t2:=.own) (t3:=.own) rfl rfl rfl rfl (by omega) (by omega) (by omega))) ?_;generalize iV ns 54 10529 2=x4 at b4 ⊢;refine fT [some (dI ns,.sh []),some (.int m,.sh []),some (.int (1+x1),.own),some (.int h,.own),some (.int (1+x4),.own)] ?_;have q:=dr (ns:=ns) (ρ:=[some (dI ns,.sh []),some (.int m,.sh []),some (.int (1+x1),.own),some (.int h,.own),some (.int (1+x4),.own)]) (fs:=aj 0) (fk:=eC (.int 55)) (fp:=eC (.int 10531)) (fm:=eC (.int 3)) (t0:=.sh []) (t1:=.own) (t2:=.own) (t3:=.own) rfl rfl rfl rfl (by omega) (by omega) (by omega);generalize iV ns 55 10531 3=x5 at b5 q;refine⟨.rt (fM (1+x1) h (1+x4) (1+x4+x5)),?_,_,rfl,_,_,_,_,rfl,by omega,hh,by omega⟩;have q2:e2 fZ (aj 4) (cC sL (ay (aj 0) (ay (eC (.int 55)) (ay (eC (.int 10531)) (ay (eC (.int 3)) aI))))) [some (dI ns,.sh []),some (.int m,.sh []),some (.int (1+x1),.own),some (.int h,.own),some (.int (1+x4),.own)]=some (.int (1+x4+x5),.own):=aK (d1:=.int (1+x4)) (t1:=.sh [4]) rfl q jv;rw[Aj,o_,aW,aW,aW,aW,q2];rfl
abbrev N3:=List (Int×Ed)
def nD(N:N3):D:=.bH (N.map λp=>((Sum.inl p.1:Key),dT p.2))
structure Eo(p:Ed):Prop where
 s:0<=p.1/\p.1<=4
 o:0<=p.2.1/\p.2.1<=4
 n:0<=p.2.2/\p.2.2<=4
 d:p.2.1≠p.2.2
structure Nk(j:Nat)(N:N3):Prop where
 nd:(N.map (·.1)).Nodup
 ok:∀q∈N,q.2.1=q.1/\Eo q.2
 ln:N.length<=j
theorem ME{κ α:Type}[DecidableEq κ]{es:List (κ×α)}{k:κ}{d:α}{q:κ×α}(m:q∈gp es k d):q∈es\/q=(k,d):=by
 unfold gp at m
 split at m
 .obtain⟨p,mp,rfl⟩:=abw.mp m
  split
  .rename_i e;exact .inr (by rw[e])
  .exact .inl mp
 .exact(abo.mp m).imp id aaX.mp
theorem Nk.put{j:Nat}{N:N3}(h:Nk j N){p:Ed}(e:Eo p):Nk (j+1) (gp N p.1 p):=⟨Dp h.nd,λq m=>(ME m).elim (h.ok q) λz=>by rw[z];exact⟨rfl,e⟩,ado G6 (by have:=h.ln;omega)⟩
structure Sv(es:cJ):Prop where
 kb:Kb es
 bd:∀k,0<=gV es k/\gV es k<=4
structure Eg(E:List Ed):Prop where
 inc:(E.map (·.1)).Pairwise (· < ·)
 ok:∀p∈E,Eo p
 few:E.length<=3
theorem Eg.ee{E:List Ed}(g:Eg E):Ee E:=⟨⟨g.inc.imp λh=>by omega,by have:=g.few;omega⟩,g.inc.imp λh=>by omega,λp m=>fG.mpr (by have:=(g.ok p m).s;omega)⟩
theorem Zk(N:N3):aN ((N.map λp=>((Sum.inl p.1:Key),dT p.2)).map (·.2))=true:=rT.mpr λd m=>by
 rw[ac7] at m;obtain⟨q,_,rfl⟩:=abw.mp m;rfl
theorem KJ:∀N:N3,iI (N.map λp=>((Sum.inl p.1:Key),dT p.2))=some (N.map (·.1))
 |[]=>rfl
 |q::r=>by
  rw[aas];show(iI (r.map λp=>((Sum.inl p.1:Key),dT p.2))).map _=_;rw[KJ r];rfl
theorem Vl{N:N3}{s:Int}(m:s∈N.map (·.1)):∃p,gv N s=some p/\(s,p)∈N:=by
 unfold gv;obtain⟨q,mq,e⟩:=abw.mp m;cases h:N.find? λkv=>decide (kv.1=s) with
 |none=>exact absurd (aaD e) (adR.mp h q mq)
 |some z=>
  have h1:z.1=s:=aaK (aeu (p:=λkv:Int×Ed=>decide (kv.1=s)) h);exact⟨z.2,rfl,h1 ▸ adK h⟩
theorem CZ{ns:List Int}{k p m:Int}(hk:0<=k/\k<=100000)(hp:0<p)(hm:0<m):∃v,(0<=v/\v<m)/\iV ns k p m=v:=⟨_,mT hm,rfl⟩
def rD(ns:List Int)(k:Int)(es:cJ)(N:N3)(s4 s5 s6 s7:Slot):av:=[some (dI ns,.sh []),some (.int k,.sh []),some (bu es,.sh []),some (nD N,.own),s4,s5,s6,s7]
theorem aax{ns:List Int}{k:Int}{es:cJ}(hk:0<=k/\k<=100)(sv:Sv es):∃d,Fw [dI ns,.int k,bu es]=some d/\∃E,d=eL E/\Eg E:=by
 obtain⟨c,bc,ec⟩:=CZ (ns:=ns) (k:=k) (p:=10559) (m:=4) (by omega) (by omega) (by omega);have hc:=dr (ns:=ns) (ρ:=rD ns k es [] none none none none) (fs:=aj 0) (fk:=aj 1) (fp:=eC (.int 10559)) (fm:=eC (.int 4)) (t0:=.sh []) (t1:=.sh []) (t2:=.own) (t3:=.own) rfl rfl rfl rfl (by omega) (by omega) (by omega);rw[ec] at hc;obtain⟨n,rfl⟩:∃n:Nat,c=n:=⟨c.toNat,by omega⟩
 refine wg rfl (f_ (d:=nD []) (t:=.own) rfl (fT (rD ns k es [] none none none none) ?_));refine G2 (λj ρ=>∃N s4 s5 s6 s7,ρ=rD ns k es N s4 s5 s6 s7/\Nk j N) (DX hc (by omega)) ⟨[],_,_,_,_,rfl,.nil,(λq m=>nomatch m),abu _⟩ (λj ρ hj ⟨N,s4,s5,s6,s7,e,nk⟩=>?_) λρ ⟨N,s4,s5,s6,s7,e,nk⟩=>?_
 .subst e;rw[Int.zero_add];have hj:j<4:=by omega
  refine⟨rD ns k es N (some (.int j,.sh [])) s5 s6 s7,rfl,?_⟩;obtain⟨s,bs,e⟩:=CZ (ns:=ns) (k:=k+7*j) (p:=10567) (m:=5) (by omega) (by omega) (by omega);refine f_ (dr (ns:=ns) (k:=k+7*j) (t0:=.sh []) (t1:=.own) (t2:=.own) (t3:=.own) rfl (aK (d1:=.int k) (t1:=.sh []) rfl (aK (d1:=.int 7) (t1:=.own) (d2:=.int j) (t2:=.sh []) rfl rfl (n9 (oW (by omega)))) jv) rfl rfl (by omega) (by omega) (by omega)) ?_;rw[e];refine f_ (d:=.int (gV es s)) (t:=.own) (by rw[EA];show(qU (bu es) (.int s) (.int 0)).map _=_;rw[L8];rfl) (fT (rD ns k es N (some (.int j,.sh [])) (some (.int s,.own)) (some (.int (gV es s),.own)) s7) ?_);have kj:∀s6 s7,e2 fZ (aj 1) (aj 4) (rD ns k es N (some (.int j,.sh [])) (some (.int s,.own)) s6 s7)=some (.int (k+j),.own):=λ_ _=>aK (d1:=.int k) (t1:=.sh []) (d2:=.int j) (t2:=.sh []) rfl rfl jv
  refine Aw (I:=λρ=>∃o,ρ=rD ns k es N (some (.int j,.sh [])) (some (.int s,.own)) (some (.int o,.own)) s7/\0<=o/\o<=4) (nq (bU (aK (dr (ns:=ns) (k:=k+j) (t0:=.sh []) (t1:=.own) (t2:=.own) (t3:=.own) rfl (kj _ _) rfl rfl (by omega) (by omega) (by omega)) rfl rfl)) (λ_=>?_) λ_=>⟨_,rfl,_,rfl,_,rfl,sv.bd s⟩) λρ ⟨o,e,ho⟩=>?_
  .have b:=mT (ns:=ns) (k:=k+j) (p:=10597) (m:=3) (by omega);exact⟨_,by rw[mO,dr (ns:=ns) (k:=k+j) (t0:=.sh []) (t1:=.own) (t2:=.own) (t3:=.own) rfl (kj _ _) rfl rfl (by omega) (by omega) (by omega)];rfl,_,rfl,_,rfl,b.1,by omega⟩
  subst e;obtain⟨v,bv,e⟩:=CZ (ns:=ns) (k:=k+3*j) (p:=10601) (m:=4) (by omega) (by omega) (by omega);refine f_ (dr (ns:=ns) (k:=k+3*j) (t0:=.sh []) (t1:=.own) (t2:=.own) (t3:=.own) rfl (aK (d1:=.int k) (t1:=.sh []) rfl (aK (d1:=.int 3) (t1:=.own) (d2:=.int j) (t2:=.sh []) rfl rfl (n9 (oW (by omega)))) jv) rfl rfl (by omega) (by omega) (by omega)) ?_;rw[e];refine fT (rD ns k es N (some (.int j,.sh [])) (some (.int s,.own)) (some (.int o,.own)) (some (.int v,.own))) ?_;refine Aw (I:=λρ=>∃z,ρ=rD ns k es N (some (.int j,.sh [])) (some (.int s,.own)) (some (.int o,.own)) (some (.int z,.own))/\(0<=z/\z<=4)/\o≠z) (nq (b:=v==o) rfl (λh=>⟨_,rfl,_,rfl,o+1,rfl,by have:=eq_of_beq h;omega,by omega⟩) λh=>⟨_,rfl,_,rfl,v,rfl,by omega,λq=>by rw[q] at h;simp at h⟩) λρ ⟨z,e,hz,ne⟩=>?_
  subst e;have Rn:=nk.put (p:=(s,o,z)) ⟨by show 0<=s/\s<=4;omega,ho,hz,ne⟩;refine⟨.nx (rD ns k es (gp N s (s,o,z)) (some (.int j,.sh [])) (some (.int s,.own)) (some (.int o,.own)) (some (.int z,.own))),?_,_,rfl,_,_,_,_,_,rfl,Rn⟩;show(if(aD (dT (s,o,z))&&aN ((N.map λp=>((Sum.inl p.1:Key),dT p.2)).map (·.2))&&decide ((N.map λp=>((Sum.inl p.1:Key),dT p.2)).length<sizeLine))=true then some (Out.nx (bP _ 3 (.bH (putD (N.map λp=>((Sum.inl p.1:Key),dT p.2)) (Sum.inl s:Key) (dT (s,o,z)))))) else none)=_;rw[if_pos (by rw[Zk,List.length_map,aaD (size_le (by have:=nk.ln;omega))];rfl),GN (φ:=(Sum.inl:Int->Key)) (ψ:=dT) λa b=>aeN];rfl
 .subst e;have hn:=nk.ln;have hs:e1 lJ (aj 3) (rD ns k es N s4 s5 s6 s7)=some (iL (cj (N.map (·.1))),.own):=bT (d:=nD N) (t:=.sh [3]) rfl (by
   show(match iI (N.map λp=>((Sum.inl p.1:Key),dT p.2)) with|some ns=>if ns.length<64 then some (D.lst ((cj ns).map D.int)) else none|none=>none)=_;rw[KJ];dsimp only;rw[if_pos (by rw[List.length_map];omega)];rfl)
  have hv:∀x∈cj (N.map (·.1)),∃p,gv N x=some p/\p.1=x/\Eo p:=λx mx=>by
   obtain⟨p,h1,h2⟩:=Vl (rG.mp mx);exact⟨p,h1,nk.ok _ h2⟩
  have hc:=jr (js:=[none,some 3]) (g:=gN 0) (tt:=jC) (te:=e2 kh (aj 1) (aj 0)) (k:=λd=>match d with | .int x=>(gv N x).map dT | _=>none) (iP hs) (by rw[List.length_map,uv,List.length_map];exact size_le (by omega)) (λd m=>by
   obtain⟨x,mx,rfl⟩:=abw.mp m;obtain⟨p,h1,_⟩:=hv x mx;show _=some ((gv N x).map dT);rw[h1];exact lX (aM:=[some (.int x,.sh []),some (nD N,.sh [])]) rfl rfl (aK (d1:=nD N) (t1:=.sh []) (d2:=.int x) (t2:=.sh []) rfl rfl (by
    show(aY (N.map λp=>((Sum.inl p.1:Key),dT p.2)) (Sum.inl x:Key)).bind _=_;rw[xg (φ:=(Sum.inl:Int->Key)) (ψ:=dT) λa b=>aeN,h1];rfl)))
  have he:((cj (N.map (·.1))).map D.int).filterMap (λd=>match d with|.int x=>(gv N x).map dT|_=>none)=((cj (N.map (·.1))).filterMap λx=>gv N x).map dT:=by
   rw[adD,List.map_filterMap];rfl
  rw[he] at hc;refine⟨_,cL hc,_,rfl,_,rfl,?_,λp m=>?_,?_⟩
  .have e1:((cj (N.map (·.1))).filterMap λx=>gv N x).map (·.1)=cj (N.map (·.1)):=by
    have:∀l:List Int,(∀x∈l,∃p,gv N x=some p/\p.1=x/\Eo p)->(l.filterMap λx=>gv N x).map (·.1)=l:=λl=>by
     induction l with
     |nil=>intro _;rfl
     |cons x r ih=>
      intro h;obtain⟨p,h1,h2,_⟩:=h x aam;rw[adv,h1];dsimp only;rw[aas,h2,ih λy m=>h y (aal _ m)]
    exact this _ hv
   rw[e1];exact Sg nk.nd
  .obtain⟨x,mx,e⟩:=aeG.mp m;obtain⟨q,h1,_,h3⟩:=hv x mx;rw[h1] at e;cases e;exact h3
  .have:=List.length_filterMap_le (λx=>gv N x) (cj (N.map (·.1)));rw[uv,List.length_map] at this;omega
def rS(ns:List Int)(k:Int)(es:cJ)(m:Int)(s4 s5 s6 s7 s8:Slot):av:=[some (dI ns,.sh []),some (.int k,.sh []),some (bu es,.own),some (.int m,.sh []),s4,s5,s6,s7,s8]
def qL(c:Ch):D:=.tup [.int c.1,iL c.2.1,eL c.2.2]
theorem Sv.di{es:cJ}{E:List Ed}(s:Sv es)(g:Eg E):Sv (di es E):=by
 refine⟨s.kb.di g.ee,λk=>?_⟩;obtain⟨g1,g2⟩:=A8 E es k g.ee.nd
 by_cases mj:k∈E.map (·.1)
 .obtain⟨p,mp,rfl⟩:=abw.mp mj;unfold gV;rw[g1 p mp rfl];exact(g.ok p mp).n
 .unfold gV;rw[g2 mj];exact s.bd k
theorem YL{p:Ed}(h:Eo p):oS p=true:=by
 have h1:=h.s;have h2:=h.o;have h3:=h.n;unfold oS inR;rw[aaD h1.1,aaD (show p.1<=999 by omega),aaD h2.1,aaD (show p.2.1<=1000000000 by omega),aaD h3.1,aaD (show p.2.2<=1000000000 by omega),show(p.2.1==p.2.2)=false from by simpa using h.d];rfl
theorem VL{ns:List Int}{k:Int}{es:cJ}{m:Nat}(hk:0<=k/\k<=100)(sv:Sv es)(hm:m<=60):∃a e,acs [dI ns,.int k,bu es,.int m]=some (a,e)/\∃c,a=qL c/\e=[bu (di es c.2.2)]/\Gc m c/\Eg c.2.2:=by
 refine E6 rfl (wo (d:=iL []) (t:=.own) rfl (fT (rS ns k es m (some (iL [],.own)) none none none none) ?_));refine abC (I:=λρ=>∃l:List Int,ρ=rS ns k es m (some (iL l,.own)) none none none none/\l.Pairwise (· < ·)/\(∀x∈l,1<=x/\x<=(m:Int))/\l.length<=60) (nq (bU (aK (dr (ns:=ns) (k:=k) (t0:=.sh []) (t1:=.sh []) (t2:=.own) (t3:=.own) rfl rfl rfl rfl (by omega) (by omega) (by omega)) rfl rfl)) (λ_=>?_) λ_=>⟨_,rfl,_,rfl,[],rfl,.nil,(λx m=>nomatch m),by simp⟩) λρ ⟨l,e,l1,l2,l3⟩=>?_
 .have hi:mZ (eC (.int 1)) (e2 fZ (aj 3) (eC (.int 1))) (rS ns k es m (some (iL [],.own)) none none none none)=some ((aX 1 m).map D.int,.own):=by
   rw[wm (i:=1) (j:=m+1) rfl rfl (lH (by omega) (by omega)) (lH (by omega) (by omega)),show((m:Int)+1-1).toNat=m by omega]
  have hc:=wU (js:=[none,some 0,some 1]) (p:=λx=>iV ns (k + 5 * x) 10613 4 == 0) (r:=[some (dI ns,.sh []),some (.int k,.sh [])]) (tt:=tV (e2 oEq (cC sL (ay (aj 1) (ay (e2 fZ (aj 2) (e2 vU (eC (.int 5)) (aj 0))) (ay (eC (.int 10613)) (ay (eC (.int 4)) aI))))) (eC (.int 0)))) hi (by rw[jy];omega) (λx=>rfl) (λx mx=>by
   have:=fG.mp mx;exact bU (aK (dr (ns:=ns) (k:=k+5*x) (t0:=.sh []) (t1:=.own) (t2:=.own) (t3:=.own) rfl (aK (d1:=.int k) (t1:=.sh []) rfl (aK (d1:=.int 5) (t1:=.own) (d2:=.int x) (t2:=.sh []) rfl rfl (n9 (oW (by omega)))) jv) rfl rfl (by omega) (by omega) (by omega)) rfl rfl))
  refine⟨_,by rw[mO,hc];rfl,_,rfl,_,rfl,(xV 1 m).sublist adw,λx mx=>by have:=fG.mp (ab5.mp mx).1;omega,?_⟩;have:=adG (λx=>iV ns (k+5*x) 10613 4==0) (aX 1 m);rw[jy] at this;omega
 subst e;obtain⟨_,fE,E,rfl,gE⟩:=aax (ns:=ns) hk sv;have b:=mT (ns:=ns) (k:=k) (p:=10627) (m:=10) (by omega);have hd:=dr (ns:=ns) (ρ:=rS ns k es m (some (iL l,.own)) none none none none) (fs:=aj 0) (fk:=aj 1) (fp:=eC (.int 10627)) (fm:=eC (.int 10)) (t0:=.sh []) (t1:=.sh []) (t2:=.own) (t3:=.own) rfl rfl rfl rfl (by omega) (by omega) (by omega);generalize iV ns k 10627 10=r at b hd;have ht:Ak (cC sL (ay (aj 0) (ay (aj 1) (ay (eC (.int 10627)) (ay (eC (.int 10)) aI))))) 4 (cC Fw (ay (aj 0) (ay (aj 1) (ay (aj 2) aI)))) (rS ns k es m (some (iL l,.own)) none none none none)=some (.ok (qL (r,l,E)) (rS ns k es m none none none none none)):=by
  unfold Ak;rw[hd,dJ (F:=Fw) (ps:=[(dI ns,.sh []),(.int k,.sh []),(bu es,.sh [2])]) rfl fE];rfl
 refine wn (IZ ht) (fT (rS ns k es m none (some (qL (r,l,E),.own)) none none none) ?_);have kl:=sv.kb.len;have el:=gE.few;obtain⟨t6,t7,t8,lp⟩:=AK (g:=gT (d7 (gN 6) (d7 (gN 7) (d7 (gN 8) lZ)))) (t:=.sh [5]) (f:=pI 2 (aj 6) (aj 8)) (λv x y z=>rS ns k v m none (some (qL (r,l,E),.lk)) x y z) (λ_ _ _ _ _=>rfl) (λv p h=>CQ (es:=v) (k:=p.1) (v:=p.2.2) (t1:=.sh [8]) (t2:=.sh [6]) rfl rfl rfl h) (E:=E) (v:=es) (x:=none) (y:=none) (z:=none) (by omega);refine wn (uX (t:=.sh [5]) rfl lp) (fT (rS ns k (di es E) m none (some (qL (r,l,E),.own)) t6 t7 t8) ?_);refine⟨_,rfl,.inl ⟨_,_,rfl,(r,l,E),rfl,rfl,⟨gE.ee,l2,l3,?_⟩,gE⟩⟩;unfold tM xA inR;rw[aaD b.1,aaD (show r<=9 by omega),El l1,El gE.inc,ac6.mpr (λp mp=>YL (gE.ok p mp)),aaD (show(E.length:Int)<=20 by omega),ac6.mpr (λx mx=>by rw[aaD (l2 x mx).1,aaD (l2 x mx).2];rfl)];rfl
theorem WQ{ns l:List Int}{t:Int}(ht:0<=t/\t<=100000):∃d,RW [dI ns,tD l,.int t]=some d/\∃w:Str,d=.str w/\w∈(["yes","no","unsure"]:List Str):=by
 refine wg rfl (f_ (d:=.int t) (t:=.sh []) rfl ?_);obtain⟨ρ',lp,x,tg,s4,e,hx⟩:=NF (g:=gN 4) (t:=.sh []) (ds:=l.map D.int) (sf:=c8 3 (e2 oMod (e2 fZ (e2 vU (aj 3) (eC (.int 67))) (aj 4)) (eC (.int 1000003)))) (ρ:=[some (dI ns,.sh []),some (tD l,.sh []),some (.int t,.sh []),some (.int t,.sh []),none,none]) (λ_ ρ=>∃x tg s4,ρ=[some (dI ns,.sh []),some (tD l,.sh []),some (.int t,.sh []),some (.int x,tg),s4,none]/\0<=x) ⟨t,_,_,rfl,ht.1⟩ (λj ρ d hd ⟨x,tg,s4,e,hx⟩=>by
  subst e;rw[ab6] at hd;obtain⟨y,hy,rfl⟩:=ab8.mp hd;have hm:e2 oMod (e2 fZ (e2 vU (aj 3) (eC (.int 67))) (aj 4)) (eC (.int 1000003)) [some (dI ns,.sh []),some (tD l,.sh []),some (.int t,.sh []),some (.int x,tg),some (.int y,.sh []),none]=some (.int ((x*67+y) % 1000003),.own):=aK (aK (aK (d1:=.int x) rfl rfl (n9 (oW (by omega)))) (d2:=.int y) (t2:=.sh []) rfl jv) rfl (tR (by omega));exact⟨[some (dI ns,.sh []),some (tD l,.sh []),some (.int t,.sh []),some (.int x,tg),some (.int y,.sh []),none],rfl,.nx [some (dI ns,.sh []),some (tD l,.sh []),some (.int t,.sh []),some (.int ((x*67+y) % 1000003),.own),some (.int y,.sh []),none],by rw[mO,hm];rfl,_,rfl,_,_,_,rfl,aeL _ (by omega)⟩)
 subst e;refine jn (yQ (ach rfl) lp) ?_;have h0:=aeL x (show(4001:Int)≠0 by omega);have h1:=aeM x (show(0:Int)<4001 by omega);refine f_ (dr (ns:=ns) (k:=x % 4001) (t0:=.sh []) (t1:=.own) (t2:=.own) (t3:=.own) rfl (aK (d1:=.int x) rfl rfl (tR (by omega))) rfl rfl (by omega) (by omega) (by omega)) ?_;generalize iV ns (x % 4001) 100057 12=v;refine fT [some (dI ns,.sh []),some (tD l,.sh []),some (.int t,.sh []),some (.int x,tg),s4,some (.int v,.own)] ?_;have q:=xR (a:=5) (dr (ns:=ns) (ρ:=[some (dI ns,.sh []),some (tD l,.sh []),some (.int t,.sh []),some (.int x,tg),s4,some (.int v,.own)]) (fs:=aj 0) (fk:=eC (.int 56)) (fp:=eC (.int 10631)) (fm:=eC (.int 6)) (t0:=.sh []) (t1:=.own) (t2:=.own) (t3:=.own) rfl rfl rfl rfl (by omega) (by omega) (by omega));have q1:=bU (aK (op:=oLt) (d1:=.int v) (t1:=.sh [5]) (f:=aj 5) rfl q Pz);have q2:tV (e2 oEq (aj 5) (eC (.int 11))) [some (dI ns,.sh []),some (tD l,.sh []),some (.int t,.sh []),some (.int x,tg),s4,some (.int v,.own)]=some (v==11):=rfl;have fin:∀w:Str,w∈(["yes","no","unsure"]:List Str)->∃d,Out.rt (D.str w)=.rt d/\∃w:Str,d=.str w/\w∈(["yes","no","unsure"]:List Str):=λw m=>⟨_,rfl,w,rfl,m⟩
 cases b1:decide (v<5+iV ns 56 10631 6) with
 |true=>rw[b1] at q1;exact⟨_,ja (pR q1 rfl),fin "yes" (by decide +kernel)⟩
 |false=>
  rw[b1] at q1;cases b2:v==11 with
  |true=>rw[b2] at q2;exact⟨_,fC q1 (ja (pR q2 rfl)),fin "unsure" (by decide +kernel)⟩
  |false=>rw[b2] at q2;exact⟨_,fC q1 (fC q2 rfl),fin "no" (by decide +kernel)⟩
noncomputable abbrev Rc:=List (List Int×Int)
def lB(R:Rc):List (List Key×D):=R.map λp=>(kL p.1,D.int p.2)
def gG(R:Rc):D:=.cU (lB R)
structure Rk(j:Nat)(R:Rc):Prop where
 ln:R.length<=j
 bd:∀q∈R,0<=q.2/\q.2<=(j:Int)
theorem aaE{κ α:Type}[DecidableEq κ]{es:List (κ×α)}{k:κ}{v:α}(h:gv es k=some v):(k,v)∈es:=by
 unfold gv at h;obtain⟨kv,h1,rfl⟩:=ab8.mp h;have:kv.1=k:=aaK (aeu (p:=λkv:κ×α=>decide (kv.1=k)) h1);exact this ▸ adK h1
theorem Pk{l:List Int}(h:l≠[]):oR (tD l)=some (kL l):=by
 unfold oR tD;dsimp only;rw[t_];dsimp only;rw[if_pos ⟨by unfold kL;rw[aeF];exact ac6.mpr λ_ _=>rfl,λz=>h (List.map_eq_nil_iff.mp z)⟩]
theorem pW{i:Nat}{ρ:av}{g g':G}{m:Str}{F:MF}{ga:AF}{ps:List (D×Tag)}{r:D}(h0:ρ[i]? = some (some (gD g,.own)))(ha:ga ρ=some ps)(h:F (gD g) (ps.map (·.1))=some (r,gD g'))(hp:apart i ps=true:=by rfl)(hm:(gF g).lookup m=none:=by rfl):sZ (xO i "Gate" m F ga) ρ=some (.nx (bP ρ i (gD g'))):=by
 unfold sZ xO;rw[h0,ha];show Option.map _ (if("Gate":Str)="Gate"/\(gF g).lookup m=none/\apart i ps=true then(F (gD g) (ps.map (·.1))).map _ else none)=_;rw[if_pos ⟨rfl,hm,hp⟩,h];rfl
theorem MQ{Q:Out->Prop}{sf:SF}{ρ ρ':av}(h:sf ρ=some (.nx ρ'))(q:Q (.nx ρ')):Wq Q (ir sf ρ):=⟨_,iz h,q⟩
theorem R5{L:List (List Int)}{v:Int}(h:0<=v/\v<L.length):∃l∈L,dW (.lst (bB L)) (.int v)=some (tD l):=by
 have cQ:v.toNat<L.length:=by omega
 refine⟨L[v.toNat],List.getElem_mem cQ,qT ?_ (eE _)⟩;unfold dU j6 bB;rw[List.length_map,if_pos (by omega),if_pos (by omega),acQ,ab6,aaQ cQ];rfl
structure An(k j:Nat)(g:G)(e:List D)(down:Prop):Prop where
 ex:∃g' R',e=[gD g',gG R']/\Gi (k+1) g'/\Rk (j+1) R'/\Sm g g'/\g'.C=g.C/\(down->gU g'+1<=gU g/\g'.ht=g.ht)
theorem Ip{ns:List Int}{q:Int}{k j:Nat}{g:G}{R:Rc}(hq:0<=q/\q<=100000)(i:Gi k g)(hk:k<=4000)(rk:Rk j R)(hj:j<=4000)(hl:g.lk≠[]):∃a e,K_ [dI ns,.int q,gD g,gG R]=some (a,e)/\An k j g e True:=by
 have ll:0<g.lk.length:=List.length_pos_iff.mpr hl;have b:=mT (ns:=ns) (k:=q) (p:=100103) (m:=(g.lk.length:Int)) (by omega);obtain⟨l,ml,hx⟩:=R5 b;obtain⟨p,p1,p2,p3,el,_⟩:=i.mem ml;have nl:l≠[]:=λe=>by
  have:=nv p3;rw[<- el,e] at this;simp at this;omega
 refine E6 rfl (wo (eU (g:=g) (t:=.sh [2]) rfl wM) (fT [some (dI ns,.sh []),some (.int q,.sh []),some (gD g,.own),some (gG R,.own),some (.lst (bB g.lk),.own),none] ?_));refine wo (aK (d1:=.lst (bB g.lk)) (t1:=.sh [4]) rfl (dr (ns:=ns) (k:=q) (m:=(g.lk.length:Int)) (t0:=.sh []) (t1:=.sh []) (t2:=.own) (t3:=.own) rfl rfl rfl (bT (d:=.lst (bB g.lk)) (t:=.sh [4]) rfl (by show some (D.int (bB g.lk).length)=_;unfold bB;rw[List.length_map])) hq (by omega) (by omega)) hx) (fT [some (dI ns,.sh []),some (.int q,.sh []),some (gD g,.own),some (gG R,.own),some (.lst (bB g.lk),.own),some (tD l,.own)] ?_);have vb:0<=(gv R l).getD 0/\(gv R l).getD 0<=(j:Int):=by
  cases e:gv R l with
  |none=>show(0:Int)<=0/\(0:Int)<=j;omega
  |some v=>exact rk.bd _ (aaE e)
 generalize hv:(gv R l).getD 0=v at vb;have hg:e2 fZ (e3 uz (aj 3) (aj 5) (eC (.int 0))) (eC (.int 1)) [some (dI ns,.sh []),some (.int q,.sh []),some (gD g,.own),some (gG R,.own),some (.lst (bB g.lk),.own),some (tD l,.own)]=some (.int (v+1),.own):=by
  refine aK (d1:=.int v) (t1:=.own) ?_ rfl jv;rw[EA];show(uz (gG R) (tD l) (.int 0)).map _=_;have:uz (gG R) (tD l) (.int 0)=some (.int v):=by
   unfold uz gG;rw[Pk nl];dsimp only;have hm:(aY (lB R) (kL l)).getD (.int 0)=.int v:=by
    unfold lB;rw[xg (ψ:=D.int) (λ_ _=>rB),<- hv];cases gv R l<;>rfl
   rw[hm];rfl
  rw[this];rfl
 have hr:=rk.ln;refine wn (ρ':=[some (dI ns,.sh []),some (.int q,.sh []),some (gD g,.own),some (gG (gp R l (v+1)),.own),some (.lst (bB g.lk),.own),some (tD l,.own)]) ?_ ?_
 .unfold DW;rw[hg];show(match oR (tD l) with|some k=>if(aD (.int (v+1))&&aN (List.map Prod.snd (lB R))&&decide ((lB R).length<sizeLine))=true then some (Out.nx (bP [some (dI ns,.sh []),some (.int q,.sh []),some (gD g,.own),some (gG R,.own),some (.lst (bB g.lk),.own),some (tD l,.own)] 3 (.cU (putD (lB R) k (.int (v+1)))))) else none|none=>none)=_;rw[Pk nl];dsimp only;rw[if_pos (by rw[rT.mpr (λd m=>by unfold lB at m;rw[ac7] at m;obtain⟨p,_,rfl⟩:=abw.mp m;rfl),aaD (size_le (by unfold lB;rw[List.length_map];omega))];rfl),show putD (lB R) (kL l) (.int (v+1))=lB (gp R l (v+1)) from GN (φ:=kL) (ψ:=D.int) λ_ _=>rB];rfl
 .obtain⟨_,fw,w,rfl,mw⟩:=WQ (ns:=ns) (l:=l) (t:=v) (by omega);obtain⟨d,g',fa,i',s,hC,ph,hh⟩:=Rh i hk ml mw;refine MQ (pW (g:=g) (g':=g') (ps:=[(tD l,.sh [5]),(.str w,.own)]) rfl ?_ fa) (.inr ⟨_,_,rfl,rfl,g',gp R l (v+1),rfl,i',⟨ado G6 (by omega),λz m=>?_⟩,s,hC,λ_=>⟨ph,hh⟩⟩)
  .have hi:e2 j8 (AL (aj 3) (aj 5)) (eC (.int 1)) [some (dI ns,.sh []),some (.int q,.sh []),some (gD g,.own),some (gG (gp R l (v+1)),.own),some (.lst (bB g.lk),.own),some (tD l,.own)]=some (.int v,.own):=by
    refine aK (d1:=.int (v+1)) (t1:=.sh [3]) ?_ rfl (by show some (D.int (v+1-1))=_;rw[Int.add_sub_cancel]);show(gP (l.map D.int)).bind _=_;rw[t_,acQ,show aY (lB (gp R l (v+1))) (kL l)=_ from xg (φ:=kL) (ψ:=D.int) (λ_ _=>rB) _,Eb];rfl
   rw[aW,aW,dJ (ps:=[(dI ns,.sh []),(tD l,.sh [5]),(.int v,.own)]) (by rw[aW,aW,aW,hi];rfl) fw];rfl
  .rcases ME m with m|rfl
   .have:=rk.bd z m;omega
   .show 0<=v+1/\v+1<=((j+1:Nat):Int);omega
theorem Gi.up{k:Nat}{g:G}(i:Gi k g):Gi (k+1) g:=⟨i.gd,⟨i.gt.tn,by have:=i.gt.tl;omega,i.gt.yl,i.gt.em,by have:=i.gt.el;omega,by have:=i.gt.gl;omega,i.gt.lg,i.gt.st,i.gt.ll⟩,i.fin,i.xW⟩
theorem Rk.up{j:Nat}{R:Rc}(r:Rk j R):Rk (j+1) R:=⟨by have:=r.ln;omega,λq m=>by have:=r.bd q m;omega⟩
theorem Y0{Q:Out->Prop}{sf:SF}{ρ:av}(h:Wq (λr=>∃ρ',r=.nx ρ'/\Q (.nx ρ')) (sf ρ)):Wq Q (ir sf ρ):=let⟨_,e,ρ',e2,q⟩:=h;MQ (e.trans (by rw[e2])) q
theorem XA(h:0<=i/\i<l.length):∃x∈l,dW (iL l) (.int i)=some (.int x):=by
 have cQ:i.toNat<l.length:=by omega
 refine⟨l[i.toNat],List.getElem_mem cQ,qT ?_ rfl⟩;unfold dU j6;rw[List.length_map,if_pos (by omega),if_pos (by omega),acQ,ab6,aaQ cQ];rfl
theorem IL:gk (iL l)=some (.int l.length):=by unfold iL;rw[zV,List.length_map]
theorem Du{L:List (List Int)}:gk (.lst (bB L))=some (.int L.length):=by show some (D.int (bB L).length)=_;unfold bB;rw[List.length_map]
theorem aa4{ns:List Int}{q:Int}{k j:Nat}{g:G}{R:Rc}(hq:0<=q/\q<=100000)(i:Gi k g)(hk:k<=4000)(rk:Rk j R)(hj:j<=4000):∃a e,UJ [dI ns,.int q,gD g,gG R]=some (a,e)/\An k j g e False:=by
 have gl:=i.gd.gc.ln;have ll:=i.gd.len;have wl':=DQ (g:=g);refine E6 rfl (wo (aK (eU (g:=g) (t:=.sh [2]) rfl (ua (by omega))) (eU (g:=g) (t:=.sh [2]) rfl CW) (sS (by rw[adM];omega))) (wo (dr (ns:=ns) (k:=q) (t0:=.sh []) (t1:=.sh []) (t2:=.own) (t3:=.own) rfl rfl rfl rfl hq (by omega) (by omega)) ?_));generalize iV ns q 100169 9=v;refine fT [some (dI ns,.sh []),some (.int q,.sh []),some (gD g,.own),some (gG R,.own),some (iL (wl g++g.ld),.own),some (.int v,.own)] (Y0 ?_);have fin:∀{s4 s5:Slot}{g':G}{R':Rc},Gi (k+1) g'->Rk (j+1) R'->Sm g g'->g'.C=g.C->∃ρ',Out.nx [some (dI ns,.sh []),some (.int q,.sh []),some (gD g',.own),some (gG R',.own),s4,s5]=.nx ρ'/\((∃a es,Out.nx ρ'=.rt (.tup (a::es))/\An k j g es False)\/∃ρ es,Out.nx ρ'=.nx ρ/\jT [2,3] ρ=some es/\An k j g es False):=λi' r' s c=>⟨_,rfl,.inr ⟨_,_,rfl,rfl,_,_,rfl,i',r',s,c,λf=>f.elim⟩⟩
 refine nq (bU (eU (g:=g) (t:=.sh [2]) rfl Uw)) (λ_=>?_) λhs=>?_
 .obtain⟨g',e,i',s,c,_⟩:=CG i;exact⟨_,pW (g:=g) (g':=g') (ps:=[]) rfl rfl e,fin i'.up rk.up s c⟩
 refine nq (tL (a:=decide (v<6)) (b:=decide ((0:Int)<g.lk.length)) rfl (bU (aK (bT (eU (g:=g) (t:=.sh [2]) rfl wM) Du) rfl xF))) (λh=>?_) λ_=>?_
 .have h:=aaK ((aaH _ _).mp h).2;obtain⟨a,e,fa,⟨g',R',rfl,i',r',s,c,_⟩⟩:=Ip (ns:=ns) hq i hk rk hj (λz=>by rw[z] at h;simp at h);exact⟨_,Ff (A3 (ps:=[(dI ns,.sh []),(.int q,.sh []),(gD g,.sh [2]),(gG R,.sh [3])]) rfl fa),fin i' r' s c⟩
 refine nq (tL (a:=v==6) (b:=decide ((0:Int)<(wl g++g.ld).length)) rfl (bU (aK (bT (d:=iL (wl g++g.ld)) (t:=.sh [4]) rfl IL) rfl xF))) (λh=>?_) λ_=>?_
 .have h:=aaK ((aaH _ _).mp h).2;obtain⟨x,mx,hx⟩:=XA (mT (ns:=ns) (k:=q) (p:=100109) h);obtain⟨g',e,i',s,c,_⟩:=RO i (x:=x) (abo.mp mx);refine⟨_,pW (g:=g) (g':=g') (ps:=[(.int x,.own)]) rfl ?_ e,fin i'.up rk.up s c⟩;rw[aW,aK (op:=dW) (d1:=iL (wl g++g.ld)) (t1:=.sh [4]) rfl (dr (ns:=ns) (k:=q) (t0:=.sh []) (t1:=.sh []) (t2:=.own) (t3:=.own) rfl rfl rfl (bT (d:=iL (wl g++g.ld)) (t:=.sh [4]) rfl IL) hq (by omega) h) hx];rfl
 refine nq (b:=v==7) rfl (λ_=>?_) λ_=>⟨_,rfl,fin i.up rk.up ⟨rfl,rfl,rfl,rfl⟩ rfl⟩
 obtain⟨g',e,i',s,c,_⟩:=LQ i;exact⟨_,pW (g:=g) (g':=g') (ps:=[]) rfl rfl e,fin i'.up rk.up s c⟩
theorem ZS{k:Nat}{g:G}(i:Gi k g)(hh:g.ht=false)(h:g.lk=[]):g.ld=[]/\wl g=[]:=by
 obtain⟨ps,L⟩:=i.xW;have e:=L.eq;rw[h] at e;have ep:ps=[]:=List.map_eq_nil_iff.mp e.symm;have hl:=L.ge;rw[ep] at hl;have h1:=i.gd.h1;have h2:=oO (g:=g);have e1:eo g=1:=by
  have hl:lim (eo g) g.h<=((0:Nat):Int):=hl;unfold lim at hl
  split at hl<;>omega
 obtain⟨f1,f2,_⟩:=i.fin.go hh;have:g.ld=[]:=by
  unfold eo l9 at e1;cases eb:c9 g with
  |none=>
   rw[eb] at e1;have e1:(g.ld.length:Int)+1=1:=e1;exact adZ (by omega)
  |some p=>
   rw[eb] at e1;have e1:(p:Int)=1:=e1;exact absurd (by rw[eb,show p=1 by omega]) f1
 exact⟨this,f2 this⟩
theorem GR{g:G}{x:Int}:f9 g x=true↔x∉g.ln/\d8 g x=false:=by
 unfold f9;simp only[aaH,aeR,decide_eq_false_iff_not]
theorem Ym{g:G}(h1:g.ld=[])(h2:wl g=[]):act g=0:=by
 unfold act;rw[List.length_eq_zero_iff,ad7];intro x mx h;obtain⟨a,b⟩:=GR.mp h;have:=fG.mp mx;have:x∈wl g:=gZ.mpr ⟨by omega,a,by rw[h1];exact adp,b⟩;rw[h2] at this;cases this
theorem Zr{k:Nat}{g:G}(i:Gi k g)(h:act g=0):g.ld=[]/\wl g=[]/\g.lk=[]:=by
 have no:∀x∈aX 1 g.C.length,¬f9 g x=true:=ad7.mp (List.length_eq_zero_iff.mp h);have h1:g.ld=[]:=adX.mpr λx m=>by
  have mr:=aat g.ln m;have:=i.gd.row x mr;exact no x (fG.mpr (by omega)) (GR.mpr ⟨λq=>(acE.mp i.gd.nd).2.2 x q x m rfl,i.gd.iT x mr⟩)
 refine⟨h1,adX.mpr λx m=>?_,?_⟩
 .have:=gZ.mp m;exact no x (Mf m) (GR.mpr ⟨this.2.1,this.2.2.2⟩)
 .refine adX.mpr λl m=>?_
  obtain⟨p,p1,_,p3,_⟩:=i.mem m;rw[h1] at p3;simp at p3;omega
def rL(ns:List Int)(st:D)(h:Int)(g:G)(es:cJ)(R:Rc)(m:Int)(s7 s8 s9 iR i_:Slot):av:=[some (dI ns,.sh []),some (st,.own),some (.int h,.own),some (gD g,.own),some (bu es,.own),some (gG R,.own),some (.int m,.own),s7,s8,s9,iR,i_]
theorem min2{a n:Nat}:sQ (.int a) (.int n)=some (.int (min a n:Nat)):=by
 show some (D.int (if(n:Int)<a then(n:Int) else a))=_;rw[show(if(n:Int)<a then(n:Int) else a)=((min a n:Nat):Int) by split<;>omega]
abbrev Ca:TF:=jY (tV (e2 qY (e1 gk (bY "Gate" "wanted" HV (aj 3) aI)) (eC (.int 0)))) (tV (e2 oLe (aj 10) (aj 9)))
abbrev Je:SF:=bV (v9 (vt [3,5] [none,none,some 3,some 5] K_ (ay (aj 0) (ay (aj 10) (uc 3 (uc 5 aI)))))) (c8 10 (e2 fZ (aj 10) (eC (.int 1))))
theorem Xc{ns:List Int}{st:D}{h M:Int}{es:cJ}{m:Int}{k:Nat}{g:G}{R:Rc}{tn:Int}{s7 s8:Slot}(hM:M<=1000)(hk:k<=2000)(i:Gi k g)(rk:Rk k R)(h0:0<=tn)(hs:tn<=M)(hl:g.lk≠[]):
  ∃g' R' wz vF,Je (rL ns st h g es R m s7 s8 (some (.int M,.own)) (some (.int tn,.own)) none)=some (.nx (rL ns st h g' es R' m wz vF (some (.int M,.own)) (some (.int (tn+1),.own)) none))/\Gi (k+1) g'/\Rk (k+1) R'/\gU g'+1<=gU g/\g'.C=g.C/\g'.ht=g.ht:=by
 obtain⟨a,e,fa,⟨g',R',rfl,i',r',s,c,d⟩⟩:=Ip (ns:=ns) (q:=tn) (by omega) i (by omega) rk (by omega) hl;obtain⟨d1,d2⟩:=d trivial;have e1:=Ff (A3 (ρ:=rL ns st h g es R m s7 s8 (some (.int M,.own)) (some (.int tn,.own)) none) (js:=[3,5]) (sl:=[none,none,some 3,some 5]) (g:=ay (aj 0) (ay (aj 10) (uc 3 (uc 5 aI)))) (ps:=[(dI ns,.sh []),(.int tn,.sh [10]),(gD g,.sh [3]),(gG R,.sh [5])]) rfl fa);exact⟨g',R',cD 5 (cD 3 s7),cD 5 (cD 3 s8),sq e1 rfl,i',r',d1,c,d2⟩
theorem abY{ns:List Int}{st:D}{h M:Int}{es:cJ}{m:Int}(hM:M<=1000)(f:Nat):∀(n k:Nat) {g:G}{R:Rc}{tn:Int}{s7 s8:Slot},gU g<=f->f<n->k+f<=2000->Gi k g->Rk k R->0<=tn->tn+gU g<=M->g.ht=false->
  ∃g' R' wZ wz vF k',gx Ca Je n (rL ns st h g es R m s7 s8 (some (.int M,.own)) (some (.int tn,.own)) none)=some (.nx (rL ns st h g' es R' m wz vF (some (.int M,.own)) (some (.int wZ,.own)) none))/\Gi k' g'/\g'.lk=[]/\wZ<=M/\g'.C=g.C/\g'.ht=false/\k'<=2000:=by
 induction f with
 |zero=>
  intro n k g R tn s7 s8 hf hn hk i rk h0 hs ht;obtain⟨n,rfl⟩:∃n',n=n'+1:=⟨n-1,by omega⟩
  obtain⟨p1,p2⟩:=H_ i;have hl:g.lk=[]:=ady λq=>by have:=p2 q;omega
  have c1:Ca (rL ns st h g es R m s7 s8 (some (.int M,.own)) (some (.int tn,.own)) none)=some (decide ((0:Int)<g.lk.length)&&decide (tn<=M)):=tL (bU (aK (bT (eU (g:=g) (t:=.sh [3]) rfl wM) Du) rfl xF)) rfl;refine⟨g,R,tn,s7,s8,k,?_,i,hl,by have:=p1 hl;omega,rfl,ht,by omega⟩;rw[hl] at c1;exact GU c1
 |succ f ih=>
  intro n k g R tn s7 s8 hf hn hk i rk h0 hs ht;obtain⟨n,rfl⟩:∃n',n=n'+1:=⟨n-1,by omega⟩
  obtain⟨p1,p2⟩:=H_ i;have c1:Ca (rL ns st h g es R m s7 s8 (some (.int M,.own)) (some (.int tn,.own)) none)=some (decide ((0:Int)<g.lk.length)&&decide (tn<=M)):=tL (bU (aK (bT (eU (g:=g) (t:=.sh [3]) rfl wM) Du) rfl xF)) rfl
  by_cases hl:g.lk=[]
  .refine⟨g,R,tn,s7,s8,k,?_,i,hl,by have:=p1 hl;omega,rfl,ht,by omega⟩;rw[hl] at c1;exact GU c1
  .have p2:=p2 hl;have ll:0<g.lk.length:=List.length_pos_iff.mpr hl;rw[aaD (show(0:Int)<g.lk.length by omega),aaD (show tn<=M by omega)] at c1;obtain⟨g',R',wz,vF,e1,i',r',d1,c,d2⟩:=Xc (ns:=ns) (st:=st) (h:=h) (es:=es) (m:=m) (s7:=s7) (s8:=s8) hM (by omega) i rk h0 (by omega) hl;obtain⟨g2,R2,S4,oY,qm,k2,e2,i2,z1,z2,z3,z4,z5⟩:=ih n (k+1) (g:=g') (R:=R') (tn:=tn+1) (s7:=wz) (s8:=vF) (by omega) (by omega) (by omega) i' r' (by omega) (by omega) (d2.trans ht);exact⟨g2,R2,S4,oY,qm,k2,(JB c1 e1).trans e2,i2,z1,z2,z3.trans c,z4,z5⟩
theorem aaS{gr:List (Key×D)}{l:List Int}{ρ:av}{f:EF}{t:Tag}(h:f ρ=some (.lst (l.map (outD gr)),t))(hl:l.length<=1000):gY [none] (f7 f) (gN 0) jC (e2 dW (aj 0) (eC (.int 0))) ρ=some (iL l,.own):=by
 have hc:=jr (js:=[none]) (g:=gN 0) (tt:=jC) (te:=e2 dW (aj 0) (eC (.int 0))) (ρ:=ρ) (k:=λd=>match d with | .tup [.int x,_]=>some (.int x) | _=>none) (iP h) (by rw[List.length_map];exact size_le (by omega)) (λd m=>by
  obtain⟨x,mx,rfl⟩:=abw.mp m;exact lX (aM:=[some (outD gr x,.sh [])]) rfl rfl rfl)
 rw[hc,adD,show l.filterMap ((λd=>match d with|D.tup [.int x,_]=>some (D.int x)|_=>none) ∘ outD gr)=l.map D.int from mC D.int _];rfl
theorem NP:∀{L:List (List Int)}{a:List Int},(a::L)[L.length]? = some (L.getLastD a)
 |[],a=>rfl
 |b::L,a=>by
  rw[abQ,List.getElem?_cons_succ];exact NP.trans (by rw[List.getLastD_cons])
theorem S6{L:List (List Int)}:dW (.lst (bB ([]::L))) (.int (-1))=some (tD (L.getLastD [])):=by
 refine qT ?_ (eE _);unfold dU j6 bB;rw[List.length_map,abQ,if_neg (by omega),if_pos (by omega),acQ,ab6,show(-1+((L.length+1:Nat):Int)).toNat=L.length by omega,NP];rfl
theorem Yq{ns:List Int}(hl:ns.length<=63):vp [dI ns]=some (.bl true):=by
 have e:∃d,vp [dI ns]=some d/\d=.bl true:=by
  obtain⟨_,fs,w,h8,n,t,rfl,hw,hh8,h1,h2,h3⟩:=Sd (ns:=ns) (m:=5) (by omega);refine wg rfl (f_ (dJ (ps:=[(dI ns,.sh []),(.int 5,.own)]) rfl fs) ?_);have hm:=aeL h8 (show(3:Int)≠0 by omega);have xu:=aeM h8 (show(0:Int)<3 by omega);refine f_ (xR (aK (d1:=.int h8) (t1:=.own) rfl rfl (tR (by omega)))) ?_;generalize hh:1+h8 % 3=h;have hb:1<=h/\h<=3:=by omega
  clear hm xu hh;refine fT [some (dI ns,.sh []),some (fM w h8 n t,.own),some (.int h,.own),none,none,none,none,none,none,none,none,none] ?_;have fg:=UQ (w:=w) (h:=h) (n:=n) (t:=t) (by omega) (by omega) (by omega);have i0:=gi0 (w:=w) (h:=h) (n:=n) (t:=t) (by omega) (by omega) (by omega);refine f_ (d:=gD (g0 w h n t)) (t:=.own) (by
   show(match Jh (.ins "Gate" []) [.int w,.int h,.int n,.int t] with|some (.aA,d)=>some (d,Tag.own)|_=>none)=_;rw[fg]) (f_ (d:=bu []) (t:=.own) rfl (f_ (d:=gG []) (t:=.own) rfl (f_ (d:=.int ((0:Nat):Int)) (t:=.own) rfl (fT (rL ns (fM w h8 n t) h (g0 w h n t) [] [] ((0:Nat):Int) none none none none none) ?_))))
  refine G2 (a:=0) (n:=min 10 ns.length) (λj ρ=>∃g es s7 s8,ρ=rL ns (fM w h8 n t) h g es [] (j:Int) s7 s8 none none none/\Gi 0 g/\g.C.length=j/\Sv es/\Sm (g0 w h n t) g) (DX (n:=min 10 ns.length) (t:=.own) (aK (d1:=.int ((10:Nat):Int)) (t1:=.own) rfl (bT (d:=dI ns) (t:=.sh []) rfl zP) min2) (by omega)) ⟨_,_,_,_,rfl,i0,rfl,⟨Kb.nil,λk=>by show(0:Int)<=0/\(0:Int)<=4;omega⟩,⟨rfl,rfl,rfl,rfl⟩⟩ (λj ρ hj ⟨g,es,s7,s8,e,i,hC,sv,sm⟩=>?_) λρ ⟨g,es,s7,s8,e,i,hC,sv,sm⟩=>?_
  .subst e;rw[Int.zero_add];obtain⟨a,e,QO,c,rfl,rfl,gc,eg⟩:=VL (ns:=ns) (k:=(j:Int)) (m:=j) (by omega) sv (by omega);obtain⟨d,g',fa,i',s,QN⟩:=ZG i (c:=c) (by rw[hC];exact gc) (by omega);refine⟨rL ns (fM w h8 n t) h g es [] (j:Int) (some (.int j,.sh [])) s8 none none none,rfl,?_⟩;refine jn (IZ (A3 (ps:=[(dI ns,.sh []),(.int j,.sh []),(bu es,.sh [4]),(.int j,.sh [6])]) rfl QO)) (fT (rL ns (fM w h8 n t) h g (di es c.2.2) [] (j:Int) (some (.int j,.sh [])) (some (qL c,.own)) none none none) ?_);refine jn (pW (g:=g) (g':=g') (ps:=[(.int c.1,.sh [8]),(iL c.2.1,.sh [8]),(eL c.2.2,.sh [8])]) rfl rfl fa) ?_;exact⟨.nx (rL ns (fM w h8 n t) h g' (di es c.2.2) [] ((j+1:Nat):Int) (some (.int j,.sh [])) (some (qL c,.own)) none none none),rfl,_,rfl,_,_,_,_,rfl,i',by rw[QN,abq,hC];rfl,sv.di eg,⟨s.w.trans sm.w,s.h.trans sm.h,s.n.trans sm.n,s.t.trans sm.t⟩⟩
  subst e;generalize adt:min 10 ns.length=m at hC;have hm:m<=10:=by omega
  have hi:mZ (eC (.int 10)) (e2 sQ (eC (.int 40)) (e1 gk (aj 0))) (rL ns (fM w h8 n t) h g es [] (m:Int) s7 s8 none none none)=some ((aX 10 (min 40 ns.length-10)).map D.int,.own):=by
   rw[wm (i:=10) (j:=((min 40 ns.length:Nat):Int)) (t2:=.own) rfl (aK (d1:=.int ((40:Nat):Int)) (t1:=.own) rfl (bT (d:=dI ns) (t:=.sh []) rfl zP) min2) (lH (by omega) (by omega)) (lH (by omega) (by omega)),show(((min 40 ns.length:Nat):Int)-10).toNat=min 40 ns.length-10 by omega]
  refine G2 (λj ρ=>∃g R s7 s8,ρ=rL ns (fM w h8 n t) h g es R (m:Int) s7 s8 none none none/\Gi j g/\Rk j R/\g.C.length=m/\Sm (g0 w h n t) g) hi ⟨_,_,_,_,rfl,i,⟨abu _,λq m=>nomatch m⟩,hC,sm⟩ (λj ρ hj ⟨g,R,s7,s8,e,i,rk,hC,sm⟩=>?_) λρ ⟨g,R,s7,s8,e,i,rk,hC,sm⟩=>?_
  .subst e;obtain⟨a,e,fd,⟨g',R',rfl,i',r',s,c,_⟩⟩:=aa4 (ns:=ns) (q:=10+(j:Int)) (by omega) i (by omega) rk (by omega);exact⟨rL ns (fM w h8 n t) h g es R (m:Int) (some (.int (10+j),.sh [])) s8 none none none,rfl,_,Ff (A3 (ps:=[(dI ns,.sh []),(.int (10+j),.sh []),(gD g,.sh [3]),(gG R,.sh [5])]) rfl fd),rL ns (fM w h8 n t) h g' es R' (m:Int) (some (.int (10+j),.sh [])) (cD 5 (cD 3 s8)) none none none,rfl,_,_,_,_,rfl,i',r',by rw[c];exact hC,⟨s.w.trans sm.w,s.h.trans sm.h,s.n.trans sm.n,s.t.trans sm.t⟩⟩
  subst e;generalize hj:min 40 ns.length-10=j at i rk;obtain⟨g1,Sx,i1,s1,c1,_,YS⟩:=CG i;refine jn (pW (g:=g) (g':=g1) (ps:=[]) rfl rfl Sx) (fT (rL ns (fM w h8 n t) h g1 es R (m:Int) (cD 3 s7) (cD 3 s8) none none none) ?_);have ew:g1.w=w:=s1.w.trans sm.w;have eh:g1.h=h:=s1.h.trans sm.h;have et:g1.t=t:=s1.t.trans sm.t;have hM:∃M,M=t*h*(m+(m+1)*w)/\gU g1<=M/\0<=M/\M<=1000:=by
   refine⟨_,rfl,?_,?_,?_⟩
   .have a1:act g1<=m:=by
     have:=adG (f9 g1) (aX 1 g1.C.length);rw[jy,c1,hC] at this;unfold act;rw[c1,hC];exact this
    have a2:=oO (g:=g1);have a3:=i1.gd.nR;rw[ew] at a3;have a4:(act g1:Int)*(w+1)<=(m:Int)*(w+1):=aej (by omega) (by omega);have a5:rest g1<=m+(m+1)*w:=by
     unfold rest;rw[ew];rw[Int.mul_add,aeO] at a4;rw[Int.mul_add,aeO] at a4 ⊢;rw[Int.add_mul,Int.one_mul];omega
    unfold gU;rw[eh,et];have a6:h*t*rest g1<=h*t*(m+(m+1)*w):=aeq a5 (adL (by omega) (by omega));rw[Int.mul_comm t h];omega
   .exact adL (adL (by omega) (by omega)) (Int.add_nonneg (by omega) (adL (by omega) (by omega)))
   .have b1:t*h<=4*3:=Int.mul_le_mul (by omega) (by omega) (by omega) (by omega);have b2:((m:Int)+1)*w<=11*5:=Int.mul_le_mul (by omega) (by omega) (by omega) (by omega);have b3:t*h*(m+(m+1)*w)<=12*65:=Int.mul_le_mul (by omega) (by omega) (Int.add_nonneg (by omega) (adL (by omega) (by omega))) (by omega);omega
  obtain⟨M,eM,m1,m2,m3⟩:=hM;refine f_ (d:=.int M) (t:=.own) ?_ (f_ (d:=.int 0) (t:=.own) rfl (fT (rL ns (fM w h8 n t) h g1 es R (m:Int) (cD 3 s7) (cD 3 s8) (some (.int M,.own)) (some (.int 0,.own)) none) ?_))
  .rw[eM];exact aK (aK (d1:=.int t) (t1:=.own) (d2:=.int h) (t2:=.sh [2]) rfl rfl (n9 (oW (by omega)))) (aK (d1:=.int m) (t1:=.sh [6]) rfl (aK (d1:=.int (m + 1)) (t1:=.own) (d2:=.int w) (t2:=.own) rfl rfl (n9 (oW (by omega)))) jv) (n9 (by
    have b1:t*h<=4*3:=Int.mul_le_mul (by omega) (by omega) (by omega) (by omega);have b0:0<=t*h:=adL (by omega) (by omega);unfold o7;rw[aaD (show -(2 ^ 64)<t*h by omega),aaD (show t*h<2 ^ 64 by omega)];rfl))
  obtain⟨g2,R2,tn,oY,qm,k2,UX,i2,z1,z2,z3,z4,z5⟩:=abY (ns:=ns) (st:=fM w h8 n t) (h:=h) (es:=es) (m:=(m:Int)) (M:=M) m3 1000 4000 j (g:=g1) (R:=R) (tn:=0) (s7:=cD 3 s7) (s8:=cD 3 s8) (by omega) (by omega) (by omega) i1 rk (by omega) (by omega) YS;refine jn UX ?_;obtain⟨B_,EY⟩:=ZS i2 z4 z1;have gl:=i2.gd.gc.ln;have qX:g2.C.length=m:=by rw[z3,c1];exact hC
  have hlen:=i2.gd.len;have J9:jG (iL []) (.lst [])=some (.bl false):=DN [] [];have ge:∀{s:List Slot}{f:EF},f=aj 3->f (some (dI ns,.sh [])::some (fM w h8 n t,.own)::some (.int h,.own)::some (gD g2,.own)::s)=some (gD g2,.sh [3]):=λe=>by rw[e];rfl
  have t1:lM (tV (e2 qY (aj 10) (aj 9))) (lM (tV (e2 jG (bY "Gate" "laid" N_ (aj 3) aI) (iU aI))) (tV (e2 jG (bY "Gate" "waiting" xJ (aj 3) aI) (iU aI)))) (rL ns (fM w h8 n t) h g2 es R2 (m:Int) oY qm (some (.int M,.own)) (some (.int tn,.own)) none)=some false:=
   (GO (bU (aK (d1:=.int tn) (t1:=.sh [10]) (d2:=.int M) (t2:=.sh [9]) rfl rfl (by rw[xF,abD (by omega)])))).trans ((GO (bU (aK (eU (g:=g2) (t:=.sh [3]) rfl CW) rfl (by rw[B_];exact J9)))).trans (bU (aK (eU (g:=g2) (t:=.sh [3]) rfl (ua (by omega))) rfl (by rw[EY];exact J9))))
  refine jn (AQ t1 rfl) ?_;have kl:=i2.gd.gr.len;have mem:∀x,x∈g2.ln++cj (iB g2.gr)↔x∈aX 1 m:=λx=>by
   rw[abo,rG,i2.gd.gr.mem];constructor
   .intro q;rcases q with q|q
    .have:=i2.gd.row x (abb _ q);exact fG.mpr (by omega)
    .have:=i2.gd.gr.bd q;rw[qX] at this;exact this
   .intro q;have q:=fG.mp q;refine ady λnn=>?_
    have:x∈wl g2:=gZ.mpr ⟨by omega,λz=>nn (.inl z),by rw[B_];exact adp,by
     cases z:d8 g2 x with
     |false=>rfl
     |true=>exact absurd (.inr z) nn⟩
    rw[EY] at this;cases this
  have nd:(g2.ln++cj (iB g2.gr)).Nodup:=acE.mpr ⟨(acE.mp i2.gd.nd).1,(oX _).nodup_iff.mpr i2.gd.gr.nK,λa ma b mb e=>by
   have:=i2.gd.iT a (abb _ ma);rw[show d8 g2 a=true from e ▸ i2.gd.gr.mem.mp (rG.mp mb)] at this;cases this⟩
  have LA:cj (g2.ln++cj (iB g2.gr))=aX 1 m:=(Bw ((List.perm_ext_iff_of_nodup w_ nd).mpr λx=>(mem x).symm) ((xV 1 m).imp λq=>by omega)).symm;have hg:(iB g2.gr).length<=60:=by
   have:=sub_len (l:=iB g2.gr) (m:=aX 1 m) i2.gd.gr.nK λx q=>(mem x).mp (aat _ (rG.mpr q))
   rw[jy] at this;omega
  have O7:(g2.ln++cj (iB g2.gr)).length<64:=by
   have:=sub_len nd λx q=>(mem x).mp q
   rw[jy] at this;omega
  refine f_ (d:=iL (aX 1 m)) (t:=.own) (bT (aK (eU (g:=g2) (t:=.sh [3]) rfl Nj) (aaS (eU (g:=g2) (t:=.sh [3]) rfl (Xj i2.gd)) (by rw[uv];omega)) (sS (by rw[abq] at O7;rw[adM];omega))) ((K2 O7).trans (by rw[LA];rfl))) (fT (rL ns (fM w h8 n t) h g2 es R2 (m:Int) oY qm (some (.int M,.own)) (some (.int tn,.own)) (some (iL (aX 1 m),.own))) ?_);have hr:gY [none] (tE (aj 6)) (gN 0) jC (e2 fZ (aj 0) (eC (.int 1))) (rL ns (fM w h8 n t) h g2 es R2 (m:Int) oY qm (some (.int M,.own)) (some (.int tn,.own)) (some (iL (aX 1 m),.own)))=some (iL (aX 1 m),.own):=by
   have:=Ld (js:=[none]) (g:=gN 0) (tt:=jC) (te:=e2 fZ (aj 0) (eC (.int 1))) (p:=λ_=>true) (f:=λx=>x + 1) (DX (e:=aj 6) (ρ:=rL ns (fM w h8 n t) h g2 es R2 (m:Int) oY qm (some (.int M,.own)) (some (.int tn,.own)) (some (iL (aX 1 m),.own))) (n:=m) (t:=.sh [6]) rfl (by omega)) (by rw[jy];omega) (λx mx=>by
    rw[if_pos rfl];exact lX (aM:=[some (.int x,.sh [])]) rfl rfl (aK (d1:=.int x) (t1:=.sh []) rfl rfl jv))
   rw[this,List.filter_eq_self.mpr λ_ _=>rfl];unfold aX;rw[ac7];refine congrArg (λz=>some (iL z,Tag.own)) (adN λy _=>?_);show(0:Int)+y+1=1+y;omega
  refine jn (AQ (bU (aK (d1:=iL (aX 1 m)) (t1:=.sh [11]) rfl hr ((DN _ _).trans (by rw[aaD rfl];rfl)))) rfl) ?_;refine jn (AQ (bU (aK (bT (eU (g:=g2) (t:=.sh [3]) rfl Nj) yK) (aK (aK (d1:=.lst (bB [[]])) (t1:=.own) (op:=fP) (d:=.lst (bB ([]::g2.gw))) rfl (eU (g:=g2) (t:=.sh [3]) rfl VN) ?_) (d2:=.int (-1)) (t2:=.own) rfl S6) (by rw[i2.gt.lg];exact Wc (Nc _)))) rfl) ?_
  .show(if(aN (bB [[]])&&aN (bB g2.gw)&&decide ((bB [[]]).length+(bB g2.gw).length<=sizeLine))=true then some (D.lst (bB [[]]++bB g2.gw)) else none)=_;have hgl:=i2.gt.gl;rw[if_pos (by rw[u0,u0,aaD (by unfold bB;rw[List.length_map,List.length_map,adM];show 1+g2.gw.length<=_;omega)];rfl)];rfl
  obtain⟨g3,f3,i3,_,_,a3⟩:=LQ i2;refine jn (pW (g:=g2) (g':=g3) (ps:=[]) rfl rfl f3) (fT (rL ns (fM w h8 n t) h g3 es R2 (m:Int) (cD 3 oY) (cD 3 qm) (some (.int M,.own)) (some (.int tn,.own)) (some (iL (aX 1 m),.own))) ?_);obtain⟨g4,f4,i4,_,_,a4,_⟩:=CG i3;refine jn (pW (g:=g3) (g':=g4) (ps:=[]) rfl rfl f4) (fT (rL ns (fM w h8 n t) h g4 es R2 (m:Int) (cD 3 (cD 3 oY)) (cD 3 (cD 3 qm)) (some (.int M,.own)) (some (.int tn,.own)) (some (iL (aX 1 m),.own))) ?_);have a0:=Ym B_ EY;obtain⟨b1,b2,b3⟩:=Zr i4 (by omega);have zY:uu (iL []) (.lst [])=some (.bl true):=Sn [] [];exact⟨_,cL (r_ (b:=true) (c:=true) (aK (eU (g:=g4) (t:=.sh [3]) rfl wM) rfl (by rw[b3];exact zY)) (r_ (b:=true) (c:=true) (aK (eU (g:=g4) (t:=.sh [3]) rfl CW) rfl (by rw[b1];exact zY)) (aK (eU (g:=g4) (t:=.sh [3]) rfl (ua (by have:=i4.gd.gc.ln;omega))) rfl (by rw[b2];exact zY)))),_,rfl,rfl⟩
 obtain⟨_,e,rfl⟩:=e;exact e
end K94
namespace HT
open PySem PySem.W PyProof.Rows
section
variable{p q:Program}{loose:List Str}{Xt:Shared->Bool}{N:Nat}{ann:Option Value}{K:Params->Frag}{as ts:List Addr}{e:∀P,as=(K P).map (·.1)}
end
end HT
namespace K94
open PySem L2 L2.Ev
local macro_rules | `(tactic| walk_at "ba")=>`(tactic| first | exact ba_n 1 rfl fun _ _ _ _ _ _ _=>rfl | exact ba_n 2 rfl fun _ _ _ _ _ _ _=>rfl | exact ba_n 3 rfl fun _ _ _ _ _ _ _=>rfl | exact ba_n 4 rfl fun _ _ _ _ _ _ _=>rfl | exact ba_n 5 rfl fun _ _ _ _ _ _ _=>rfl)
set_option maxHeartbeats 0 in
theorem all_mk{l:PySem.W.OpenLaw}{w:World}{K:PySem.W.Frag}{h:Heap}{mg:Str->Option Value}{fa:Addr}(X:K.In h)(G:h.Ns mainGlobals mg)(GX:mg "law"=some (.ref fa))(q:r8 L K=true)(t:tab.map (look K)=tab.map want):
  ∃fd:FuncData,(∀(s:Shared) (v:Value),BindsTo s fd ⟨[v],[]⟩ [("_law_script",v)])/\∀base:Heap,K.In base->base.Ns mainGlobals mg->b_ l.prog w K mg base cT 16 fa fd ["_law_script"] (bh K vp):=by
 refine aaB (sp:=λ_=>bh K vp) X G GX (Ow (s:=top 55) 24 t rfl) (λ_ _ _ _ _ _ _ _=>.of_eq rfl) λbase _ _ _ _ F=>?_
 have E:En L ⟨l.prog,w,K,mg,base⟩:=Z6 X G q;have W0:=eV X G t 0 (Cm _ E);have W1:=eV X G t 1 (G0 _ ⟨E,W0⟩);have W2:=eV X G t 2 (Gn _ E);have W3:=eV X G t 3 (G7 _ ⟨E,W2⟩);have W25:=Gq t q 25 (O2 _ E);have UH:=Gq t q 34 (BQ _ ⟨E,W3,W2,W25⟩);have W4:=eV X G t 4 (GV _ ⟨E,W0⟩);have W5:=eV X G t 5 (De _ ⟨E,W0,W4⟩);have W6:=eV X G t 6 (D_ _ E);have Ek:=cI t 26 (EZ _ E);have HE:=cI t 27 (B4 _ ⟨E,W2,Ek⟩);have W7:=eV X G t 7 (BS _ ⟨E,W2,W6⟩);have QV:=cI t 28 (G3 _ ⟨E,W2,W6,HE,W7⟩);have Y7:=cI t 29 (Co _ ⟨E,QV,Ek⟩);have W35:=cI t 35 (Gs _ E);have wD:=cI t 36 (B9 _ ⟨E,Ek,W35⟩);have BI:=cI t 30 (F6 _ ⟨E,HE⟩);have Qn:=cI t 31 (Hs _ ⟨E,BI⟩);have Um:=cI t 37 (Hw _ ⟨E,wD,Qn⟩);have O3:=cI t 60 (FL _ E);have Dj:=cI t 38 (Fi _ ⟨E,O3⟩);have FU:=cI t 39 (Hz _ E);have HG:=cI t 40 (E5 _ ⟨E,Dj,FU⟩);have W8:=eV X G t 8 (BH _ E);have W9:=eV X G t 9 (HN _ E);have Se:=eV X G t 10 (O9 _ ⟨E,W8,W9⟩);have Az:=cI t 32 (Cv _ ⟨E,BI⟩);have OD:=eV X G t 11 (Fc _ ⟨E,Se,Az⟩);have QH:=eV X G t 12 (Dl _ ⟨E,OD⟩);have ZF:=cI t 33 (DA _ ⟨E,BI⟩);have U6:=eV X G t 13 (D8 _ ⟨E,ZF⟩);have Xi:=eV X G t 14 (Gm _ ⟨E,W8,Az⟩);have Z8:=eV X G t 15 (GK _ ⟨E,U6,Xi⟩);have Pg:=eV X G t 16 (EO _ ⟨E,Qn⟩);have WS:=eV X G t 17 (FF _ ⟨E,QH,Z8,Pg,Az⟩);have W41:=cI t 41 (GQ _ ⟨E,HG,FU,Dj⟩);have Wh:=cI t 42 (D7 _ ⟨E,OD⟩);have Vj:=eV X G t 18 (F_ _ ⟨E,W8⟩);have W43:=cI t 43 (Ft _ ⟨E,Pg,wD,Wh,Vj,Az⟩);have XI:=cI t 44 (CD _ ⟨E,HG,WS,wD,W41,W43⟩);have W45:=cI t 45 (BN _ ⟨E,Dj⟩);have W19:=eV X G t 19 (Cd _ E);have RA:=eV X G t 20 (EE _ ⟨E,W19⟩);have V2:=cI t 46 (Dy _ ⟨E,W45,FU,RA,HG⟩);have xQ:=cI t 47 (Ex _ ⟨E,Um,XI,V2⟩);have VD:=cI t 48 (E_ _ ⟨E,Y7,xQ⟩);have IM:=cI t 49 (DS _ E);have UU:=cI t 50 (DG _ E);have Pf:=cI t 51 (HC _ ⟨E,xQ⟩);have DF:=cI t 52 (DM _ E);have R9:=cI t 61 (Ce _ ⟨E,O3⟩);have Zs:=Gq t q 62 (Hx _ ⟨E,W3⟩);have Y_:=cI t 53 (Hy _ E);have So:=cI t 54 (E3 _ ⟨E,R9,Zs,Y_,xQ⟩);have Yz:=eV X G t 21 (F4 _ ⟨E,W0⟩);have LP:=eV X G t 22 (DV _ ⟨E,DF,W0,So,Yz⟩);have W55:=cI t 55 (Cp _ ⟨E,HE,xQ⟩);have PV:=cI t 56 (Gy _ ⟨E,xQ⟩);have Rt:=eV X G t 23 (CS _ ⟨E,wD,IM,W0,UU,Pf,DF,LP,W55,PV⟩);have W57:=cI t 57 (FQ _ E);have Tn:=cI t 58 (Dm _ E);have W59:=cI t 59 (ED _ E);exact o_law _ ⟨E,W1,UH,W5,VD,Rt,Pf,DF,LP,wD,IM,W57,Tn,W59,PV⟩ _ _ F
theorem wk:Wk:=λhY hT hL hq ht xG X3=>
 L2.Xg (n:=63) (k:=16) (x:="_law_script") (CX:=λ_=>cT) (sp:=λw=>bh (_:PySem.W.Frag) vp) rfl (by decide) xG ⟨λ_=>rfl,by decide,by decide,rfl⟩ hY hT hL (λw mg fa h KX G wB=>all_mk KX G (X3 ▸ wB) (hq w) (ht w)) (λw H a ns hl hz=>by
  refine⟨[dI ns],[]++[],.bl true,.cons (.yG hz (xH ns)) .nil,Yq hl,λH' v jW _ r _ _=>?_⟩;cases r;rfl) λ_ _ _ _ _ z=>z
open PySem PySem.W PyProof.Rows L2 L2.Ev
end K94
theorem PySem.Challenge.cw_linegate_k94_whole_comes_to_an_end_holds : PySem.Challenge.rw_linegate_k94_whole_comes_to_an_end.Holds := by
 exact K94.early K94.wk
