import PyProof.Rows.All
import Wide.All
import OpenK.AllK
import Wide.FinOn
import PySem.Challenge.RW_linegate_k92_whole_counts
set_option Elab.async false
set_option linter.all false
set_option maxRecDepth 100000
set_option hygiene false
local macro_rules|`(tactic|exists 20,$p)=>`(tactic|refine ⟨_,$p,@fun H0 S z aq ρ σ H Q d tg ok e q=>?_⟩)
local macro_rules|`(tactic|exists 21,$p)=>`(tactic|refine ⟨_,$p,@fun H0 S z aq ρ σ H Q d tg ok e k=>?_⟩)
local macro_rules|`(tactic|exists 22,$p)=>`(tactic|refine ⟨_,$p,@fun H0 S z aq ρ σ H Q c ok e k=>?_⟩)
local macro_rules|`(tactic|exists 23,$p)=>`(tactic|refine ⟨_,$p,@fun H0 S z aq ρ σ H E o ok e k=>?_⟩)
local macro_rules|`(tactic|exists 24,$p)=>`(tactic|refine ⟨_,$p,@fun H0 S z aq ρ σ H R ds tg ok e k=>?_⟩)
local macro_rules|`(tactic|exists 25,$p)=>`(tactic|refine ⟨_,$p,@fun H0 S z aq ρ σ H E o ok e q=>?_⟩)
set_option hygiene true
noncomputable section
abbrev aaa:=@List.mem_cons_of_mem
abbrev aar:=@List.mem_cons_self
abbrev aax:=@List.map_cons
abbrev aaE:=@PySem.Heap.get?_push_of_some
abbrev aaM:=@List.mem_append_right
abbrev aaN:=@decide_eq_true
abbrev aaP:=@of_decide_eq_true
abbrev aaQ:=@PySem.wpAny_bind
abbrev aaR:=@List.getElem?_eq_getElem
abbrev aaY:=@Bool.and_eq_true
abbrev aa1:=@List.mem_singleton
abbrev aa3:=@List.mem_cons
abbrev aa6:=@Bool.false_ne_true
abbrev abb:=@List.length_append
abbrev abh:=@List.getElem?_eq_some_iff
abbrev abn:=@List.mem_append_left
abbrev abo:=@PySem.Heap.lt_size
abbrev abv:=@List.nodup_cons
abbrev abD:=@List.mem_append
abbrev abG:=@List.mem_map
abbrev abH:=@Nat.le_refl
abbrev abN:=@decide_eq_false
abbrev abP:=@List.length_cons
abbrev abS:=@Option.some.inj
abbrev abW:=@List.size_toArray
abbrev ab2:=@PySem.Heap.get?_push_size
abbrev ab3:=@List.getElem?_map
abbrev ab9:=@Option.map_eq_some_iff
abbrev ace:=@List.nodup_nil
abbrev acm:=@List.append_nil
abbrev acr:=@PySem.wpAny_pure
abbrev acu:=@Nat.ne_of_lt
abbrev acy:=@List.mem_filter
abbrev acB:=@List.nodup_append
abbrev acH:=@Nat.lt_of_lt_of_le
abbrev acM:=@List.getElem?_set_ne
abbrev acR:=@Option.bind_some
abbrev acT:=@List.map_map
abbrev acZ:=@List.map_append
abbrev ac4:=@List.all_eq_true
abbrev ac7:=@List.getD_eq_getElem?_getD
abbrev ac9:=@List.find?_cons
abbrev adg:=@beq_eq_false_iff_ne
abbrev adn:=@List.any_eq_true
abbrev adp:=@List.pairwise_cons
abbrev adq:=@PySem.Heap.get?_update_other
abbrev adw:=@Nat.le_trans
abbrev adz:=@List.getElem?_append_left
abbrev adD:=@List.mem_of_getElem?
abbrev adG:=@List.lookup_cons
abbrev adH:=@List.length_singleton
abbrev adU:=@List.find?_cons_of_neg
abbrev adX:=@List.not_mem_nil
abbrev ad0:=@Nat.zero_le
abbrev ad3:=@List.contains_iff_mem
abbrev aeb:=@List.length_filter_le
abbrev aed:=@List.getElem?_append_right
abbrev aef:=@List.filterMap_cons
abbrev aeg:=@Option.bind_eq_some_iff
abbrev aeh:=@List.foldl_cons
abbrev aej:=@List.append_assoc
abbrev aeo:=@List.getElem?_set_self
abbrev aeq:=@Nat.lt_irrefl
abbrev aes:=@List.filterMap_map
abbrev aeu:=@Array.length_toList
abbrev aeA:=@Array.getD_eq_getD_getElem?
abbrev aeE:=@List.filter_sublist
abbrev aeG:=@PySem.wpAny_truthy_bool
abbrev aeI:=@PySem.sizeLine_eq
abbrev aeP:=@List.find?_eq_none
abbrev aeR:=@PySem.wpAny_mono
abbrev aeT:=@List.mem_of_find?_eq_some
abbrev aeU:=@PySem.wpAny_holding
abbrev aeV:=@Ne.symm
abbrev aeW:=@Nat.le_of_lt
abbrev aeX:=@List.pairwise_map
abbrev aeY:=@PySem.wpAny_Call_Name_kw
abbrev aeZ:=@List.any_cons
abbrev ae0:=@Nat.lt_of_le_of_lt
abbrev ae1:=@List.cons.injEq
abbrev ae2:=@PySem.Around.under_plainId
abbrev ae3:=@List.find?_cons_of_pos
abbrev ae5:=@List.map_congr_left
abbrev ae7:=@Bool.eq_false_iff
abbrev ae8:=@Classical.byContradiction
abbrev ae9:=@PySem.Heap.get?_update_self
abbrev afa:=@Option.isSome_iff_exists
abbrev afb:=@PySem.tupleKind_room_in1
abbrev afc:=@List.prefix_refl
abbrev afd:=@List.filter_cons_of_pos
abbrev afe:=@List.filter_cons_of_neg
abbrev afg:=@Nat.ne_of_gt
abbrev afh:=@Option.isSome_map
abbrev afi:=@PySem.codeAny_builtin
abbrev afj:=@PyProof.Rows.callWith_type1
abbrev afl:=@PySem.Heap.get?_update_ne
abbrev afm:=@List.append_eq_nil_iff
abbrev afo:=@Array.perm_iff_toList_perm
abbrev afp:=@beq_self_eq_true
abbrev afq:=@PySem.F.plain_min_loop
abbrev afr:=@Bool.false_eq_true
abbrev afs:=@Bool.and_self
abbrev aft:=@PySem.wpAny_passesOwn
abbrev afu:=@List.length_set
abbrev afv:=@List.any_map
abbrev afw:=@List.getElem?_replicate
abbrev afx:=@PySem.plainId_quiet
abbrev afy:=@Nat.lt_succ_self
abbrev afz:=@List.length_take
abbrev afA:=@Option.getD_some
abbrev afB:=@List.eq_nil_of_length_eq_zero
abbrev afC:=@decide_eq_decide
abbrev afD:=@PySem.Heap.size_push
abbrev afE:=@List.filter_eq_nil_iff
abbrev afF:=@PySem.wpAny_newObj_type
abbrev afG:=@beq_iff_eq
abbrev afH:=@decide_eq_true_eq
abbrev afI:=@List.exists_cons_of_ne_nil
abbrev afJ:=@Bool.and_eq_true_iff
abbrev afK:=@PySem.Heap.get?_none_of_le
abbrev afL:=@List.getElem?_of_mem
abbrev afM:=@Classical.not_forall
abbrev afN:=@PySem.wpAny_tryCatch
abbrev afO:=@List.drop_eq_getElem_cons
abbrev afP:=@List.pairwise_iff_getElem
abbrev afQ:=@List.filter_cons
abbrev afR:=@Nat.zero_add
abbrev afS:=@Int.le_trans
abbrev afT:=@List.all_map
abbrev afU:=@List.mem_filterMap
abbrev afV:=@Bool.eq_iff_iff
abbrev afW:=@List.all_cons
abbrev afX:=@PySem.wpAny_updateSeq
abbrev afY:=@or_false
abbrev afZ:=@List.find?_some
abbrev af0:=@List.prefix_append
abbrev af1:=@Sum.inl.inj
abbrev af2:=@Nat.lt_succ_of_lt
abbrev af3:=@List.length_range
abbrev af4:=@List.mem_range
abbrev af5:=@List.map_nil
set_option autoImplicit true
namespace L2
open PySem PySem.Spec
open PySem PySem.Spec PyProof.Rows
noncomputable def vC(o:Obj):Option (Value×Str×Pos):=match o.data with
 |.func fd=>match fd.body with
  |.stmts [.Return (some (.Call _ _ [⟨_,.Lambda _ _ _ pos,_⟩] _)) _]=>some (fd.code,fd.qualname++".<locals>."++"<lambda>",pos)
  |_=>none
 |_=>none
def z8(K:PySem.W.Frag)(p:Addr×Obj):Option (Addr×Addr×Str×Pos):=match vC p.2 with
 |some (.ref c,q,pos)=>match K.lookup c with
  |some ⟨_,_,.fields vs,_⟩=>match(vs[11]? : Option Value) with
   |some (.ref P)=>some (c,P,q,pos)
   |_=>none
  |_=>none
 |_=>none
def i7(K:PySem.W.Frag):List (Addr×Addr×Str×Pos):=K.filterMap (z8 K)
noncomputable def pU(K:PySem.W.Frag):Bool:=K.all λp=>match p.2.data with
 |.seq au _=>au.size==0||au.toList.any λv=>match v with|.int _ _=>false|_=>true
 |_=>true
def xP(K:PySem.W.Frag):Bool:=(pU K&&K.all λp=>(vC p.2).isNone||(z8 K p).isSome)&&match i7 K with
 |[]=>true
 |[r]=>PySem.W.codeHdIn K r.1 r.2.1&&(K.lookup r.2.1).isNone
 |_=>false
end L2
namespace L2
open PySem PySem.Spec PyProof.Rows
noncomputable def inClass(s:Stmt)(j:Nat):Stmt:=match s with
 |.ClassDef _ _ _ body _ _ _ _ _ _ _=>body.getD j (.Pass ⟨0,0,0,0⟩)
 |_=>.Pass ⟨0,0,0,0⟩
noncomputable def lW(s:Stmt):Arguments:=match s with
 |.FunctionDef _ a _ _ _ _ _ _ _ _=>a
 |_=>{ posonlyargs:=[],args:=[],vararg:=none,kwonlyargs:=[],kw_defaults:=[],kwarg:=none,defaults:=[] }
noncomputable def g_(s:Stmt):List Stmt:=match s with
 |.FunctionDef _ _ b _ _ _ _ _ _ _=>b
 |_=>[]
noncomputable def cR(s:Stmt):Scope:=match s with
 |.FunctionDef _ _ _ _ _ _ sc _ _ _=>sc
 |_=>{ kind:=.function,names:=[],isGenerator:=false,isCoroutine:=false }
theorem tabs_ok{K:Params->PySem.W.Frag}{e:∀P,as=(K P).map (·.1)}(h:∀w:World,(i7 (K w.params)).map (·.2.1)=ts)(w:World)(hp:Heap)(Y:(PySem.W.kmHook K as e ts).says w hp):∀r∈i7 (K w.params),hp.get? r.2.1=some (PySem.W.tabObj #[]):=
 λr m=>PySem.W.km_tabs_of Y _ (by rw[<- h w];exact List.mem_map_of_mem m)
end L2
namespace L2.Ev
open PySem PySem.Spec PySem.W PyProof.Rows
structure Ls where
 bt:List Str
 gi:List (Str×Int)
 tp:List (Str×List Str)
 cl:List Str
 na:List (Str×Str)
 ni:Bool
noncomputable def cA(K:Frag)(c:Str):Addr:=match nsIn K mainGlobals c with
 |some (some (.ref a))=>a
 |_=>0
noncomputable def jx:Stmt->Str
 |.FunctionDef x ..=>x
 |_=>Str.empty
def jL(c:Str)(s:Stmt):Str:=if c==Str.empty then jx s else c++"."++jx s
noncomputable def strOf:Value->Option Str
 |.str s _=>some s
 |_=>none
def GQ(K:Frag)(x:Str)(l:List Str):Bool:=match nsIn K mainGlobals x with
 | some (some (.ref a))=>(match K.lookup a with
  |some ⟨c,none,.seq au _,_⟩=>c == .type "tuple"&&decide (au.size<=sizeLine)&&au.toList.map strOf==l.map some
  |_=>false)
 |_=>false
noncomputable def Nn(K:Frag)(x:Str)(n:Int):Bool:=match nsIn K mainGlobals x with
 |some (some (.int m _))=>m==n
 |_=>false
def vR(K:Frag)(c:Str):Bool:=nsIn K mainGlobals c==some (some (.ref (cA K c)))&&plainGet K (cA K c) Str.empty&&hasDictIn K (cA K c)&&plainOver K (cA K c)&&findIn K (.ref (cA K c)) "__setattr__" == some (some (.builtin "object.__setattr__"))&&makesIn K (cA K c)&&keepIn K (.ref (cA K c))
def tE(L:Ls)(K:Frag):Bool:=(!L.ni||pU K)&&L.bt.all (λx=>nsIn K mainGlobals x==some none)&&L.gi.all (λp=>Nn K p.1 p.2)&&L.tp.all (λp=>GQ K p.1 p.2)&&L.cl.all (vR K)&&L.na.all (λp=>findIn K (.ref (cA K p.1)) p.2==some none)
noncomputable def Ql(fd:FuncData):FuncData:={ fd with kwdefaults:=.none,doc:=.none,pyModule:=.none,annotations:=none,code:=.none,closureTuple:=.none }
def Cd(K:Frag)(q:Str):Option (Option Value)->Option FuncData
 | some (some (.ref a))=>(match K.lookup a with
  |some ⟨_,_,.func fd,_⟩=>if(codeIn K fd.code q&&keepIn K (.ref a)&&isFn K (.ref a))=true then some (Ql fd) else none
  |_=>none)
 |_=>none
def look(K:Frag)(p:Str×Stmt):Option FuncData:=Cd K (jL p.1 p.2) (if p.1==Str.empty then nsIn K mainGlobals (jx p.2) else findIn K (.ref (cA K p.1)) (jx p.2))
def want(p:Str×Stmt):Option FuncData:=some (fnOf (jx p.2) (jL p.1 p.2) (lW p.2) (g_ p.2) (cR p.2) .none .none .none .none none .none .none)
end L2.Ev
namespace K92
open PySem L2 L2.Ev
noncomputable def top(i:Nat):Stmt:=PySem.Challenge.pw_linegate_k92_whole_counts.main.body.getD i (.Pass ⟨0,0,0,0⟩)
noncomputable def L:Ls:=⟨["all","bool","dict","int","isinstance","len","list","min","range","repr","sorted","tuple","zip"],[("GREATEST_RANK",9),("GREATEST_SLOT",999),("GREATEST_VALUE",1000000000),("MOST_CHANGES",60),("MOST_EDITS",20),("MOST_HANDS",8),("MOST_TRIES",20),("MOST_WIDTH",16)],[("BAD_WORDS",["no","unsure"]),("WORDS",["yes","no","unsure"])],["Changes","Gate","Tally"],[("Changes","entries"),("Gate","answers"),("Gate","breaks"),("Gate","ended"),("Gate","grounds"),("Gate","grown"),("Gate","halted"),("Gate","known"),("Gate","laid_ones"),("Gate","looks"),("Gate","numbers"),("Gate","on_line"),("Gate","tallies"),("Tally","heard"),("Tally","need"),("Tally","tries")],true⟩
end K92
namespace HT
open PySem PySem.W PyProof.Rows
noncomputable def C8:List Obj->List Obj
 |[]=>[]
 |[a]=>[a]
 |a::_::l=>a::C8 l
def Cf:Nat->List Obj->BT
 |0,_=>.nil
 |_+1,[]=>.nil
 |k+1,o::l=>.node o (Cf k (C8 l)) (Cf k (C8 l.tail))
noncomputable def nM(tb:String->Option Builtin)(p:Program)(w:World)(ug:Nat)(ann:Option Value):Nat->SharedT->Thread->Option SharedT
 |0,_,_=>none
 |k+1,s,t=>match through t with
  |true=>some s
  |false=>match stepOk ug ann t with
   |false=>none
   |true=>match stepT (denote tb) p w s t with
    |none=>none
    |some (s',t')=>nM tb p w ug ann k s' t'
theorem Pb{tb:String->Option Builtin}{p:Program}{w:World}{ug:Nat}{ann:Option Value}:∀{k:Nat}{s s':SharedT}{t:Thread},nM tb p w ug ann k s t=some s'->topRun tb p w ug ann k s.abs t=some s'.abs
 |0,_,_,_,h=>by cases h
 |k+1,s,s',t,h=>by
  unfold nM at h;unfold topRun;cases e:through t with
  |true=>rw[e] at h;cases h;rfl
  |false=>
   rw[e] at h;cases o:stepOk ug ann t with
   |false=>rw[o] at h;cases h
   |true=>
    rw[o] at h;cases g:stepT (denote tb) p w s t with
    |none=>rw[g] at h;cases h
    |some r=>obtain⟨s2,t2⟩:=r;rw[g] at h;rw[stepT_spec g];exact Pb h
def CV(P:Params):BT:=Cf 12 (boot_heap P).objs.toList
noncomputable def nE:Nat:=11
theorem Tp(P:Params):(boot_heap P).objs.size=nE:=by kernel_rfl
theorem boot_abs(P:Params):absHeap (CV P) nE (boot_heap P).life=boot_heap P:=by kernel_rfl
def sN(P:Params)(os:OsState):SharedT:=⟨CV P,nE,(boot_heap P).life,Array.mk [],boot_drawn,boot_toks,os⟩
theorem adV{p q:Program}{loose:List Str}{Xt:Shared->Bool}{α:Type}{Yf:Shared->α}{Ya:World->α}{N:Nat}{ann:Option Value}
  (he:opening p=plainProg p.main.scope.names) (hf:∀s,fenceModules? p s=some s) (hN:Nat.ble 600 N=true)
  (hz:∀P:Params,((boot_heap P).isNs mainGlobals,(boot_heap P).nsMap mainGlobals "__annotations__")=(true,ann))
  (h:∀(w:World) (os:OsState),(nM treeTable p w nE ann N (sN w.params os) (topStub p)).map (λsT=>
    ((staticsOk (importedModules p.main.body) (boot_heap w.params) sT.abs.heap&&namesBound p sT.abs.heap&&gensDone sT.abs&&laidKept (boot_heap w.params) sT.abs.heap),openSeen q loose (importedModules p.main.body) Xt true sT.abs,Yf sT.abs))=some (true,openGood q loose,Ya w)) :
  LeftO p q loose Xt Yf Ya N:=λw=>by
 obtain⟨⟨hh,gs,d,k,os⟩,e,e'⟩:=ab9.mp (boot_open he hN hf w);obtain⟨rfl,rfl,rfl,rfl⟩:hh=boot_heap w.params/\gs=Array.mk []/\d=boot_drawn/\k=boot_toks:=by simpa using e'
 obtain⟨z1,z2⟩:_/\_:=by simpa only[Prod.mk.injEq] using hz w.params
 obtain⟨sT,r,l⟩:=ab9.mp (h w os);obtain⟨l1,l2,l3⟩:_/\_/\_:=by simpa only[Prod.mk.injEq] using l
 have r':=Pb r;have ab:(sN w.params os).abs=⟨boot_heap w.params,Array.mk [],boot_drawn,boot_toks,os⟩:=by
  show Shared.mk (absHeap (CV w.params) nE (boot_heap w.params).life) _ _ _ _=_;rw[boot_abs];rfl
 rw[ab] at r';have t:topFrom treeTable p w N ⟨boot_heap w.params,Array.mk [],boot_drawn,boot_toks,os⟩=some sT.abs:=by
  unfold topFrom;dsimp only;rw[z1,z2,Tp,r'];show(match staticsOk (importedModules p.main.body) (boot_heap w.params) sT.abs.heap&&namesBound p sT.abs.heap&&gensDone sT.abs&&laidKept (boot_heap w.params) sT.abs.heap with|true=>_|false=>_)=_;rw[l1]
 unfold openEnds;rw[e];show(topFrom treeTable p w N _).map _=_;rw[t];exact congrArg some (Prod.ext l2 l3)
theorem Rw{p q:Program}{loose:List Str}{Xt:Shared->Bool}{α:Type}{Yf:Shared->α}{Ya:World->α}{N:Nat}{ann:Option Value}
  (he:opening p=plainProg p.main.scope.names) (hf:∀s,fenceModules? p s=some s) (hN:Nat.ble 600 N=true)
  (hz:∀P:Params,((boot_heap P).isNs mainGlobals,(boot_heap P).nsMap mainGlobals "__annotations__")=(true,ann))
  (h1:∀(w:World) (os:OsState),(nM treeTable p w nE ann N (sN w.params os) (topStub p)).map (λsT=>((staticsOk (importedModules p.main.body) (boot_heap w.params) sT.abs.heap&&namesBound p sT.abs.heap&&gensDone sT.abs&&laidKept (boot_heap w.params) sT.abs.heap),openSeen q loose (importedModules p.main.body) Xt true sT.abs))=some (true,openGood q loose))
  (h3:∀(w:World) (os:OsState),(nM treeTable p w nE ann N (sN w.params os) (topStub p)).map (λsT=>Yf sT.abs)=some (Ya w)) :
  LeftO p q loose Xt Yf Ya N:=adV he hf hN hz λw os=>by
 obtain⟨sT,r,e1⟩:=ab9.mp (h1 w os);have e3:=h3 w os;rw[r] at e3 ⊢;have e3:=abS e3;obtain⟨e1,e2⟩:_/\_:=by simpa only[Prod.mk.injEq] using e1
 show some (_,_,_)=some (true,openGood q loose,Ya w);rw[e1,<- e2,<- e3]
noncomputable def tg(s:SharedT)(a:Nat):Option Obj:=match Nat.blt a s.n with
 |true=>match s.tree.get a with
  |some o=>alive o
  |none=>none
 |false=>none
theorem V8{s:SharedT}{a:Nat}{o:Obj}(h:tg s a=some o):s.abs.heap.get? a=some o:=by
 unfold tg at h;cases e:Nat.blt a s.n with
 |false=>rw[e] at h;cases h
 |true=>
  rw[e] at h;dsimp only at h;cases g:s.tree.get a with
  |none=>rw[g] at h;cases h
  |some o'=>
   rw[g] at h;have cj:a<s.n:=by simpa using e
   exact(abs_get cj g).trans h
theorem DI{s:SharedT}:∀{as:List Addr}{os:List Obj},as.map (tg s)=os.map some->as.map s.abs.heap.get? = os.map some
 |[],[],_=>rfl
 |[],_::_,h=>by cases h
 |_::_,[],h=>by cases h
 |a::as,o::os,h=>by
  rw[aax,aax] at h;injection h with h1 h2;rw[aax,aax,V8 h1,DI h2]
end HT
namespace HT
open PySem PySem.W PyProof.Rows
variable{p q:Program}{loose:List Str}{Xt:Shared->Bool}{N:Nat}{ann:Option Value}{K:Params->Frag}{as ts:List Addr}{e:∀P,as=(K P).map (·.1)}
theorem left_Tkm(he:opening p=plainProg p.main.scope.names)(hf:∀s,fenceModules? p s=some s)(hN:Nat.ble 600 N=true)
  (hz:∀P:Params,((boot_heap P).isNs mainGlobals,(boot_heap P).nsMap mainGlobals "__annotations__")=(true,ann))
  (h1:∀(w:World) (os:OsState),(nM treeTable p w nE ann N (sN w.params os) (topStub p)).map (λsT=>((staticsOk (importedModules p.main.body) (boot_heap w.params) sT.abs.heap&&namesBound p sT.abs.heap&&gensDone sT.abs&&laidKept (boot_heap w.params) sT.abs.heap),openSeen q loose (importedModules p.main.body) Xt true sT.abs))=some (true,openGood q loose))
  (h3:∀(w:World) (os:OsState),(nM treeTable p w nE ann N (sN w.params os) (topStub p)).map (λsT=>(as.map (tg sT),ts.map (tg sT)))=some (((K w.params).map (·.2)).map some,(ts.map λ_=>tabObj #[]).map some)) :
  LeftO p q loose Xt (Hook.obs (kmHook K as e ts)) (Hook.val (kmHook K as e ts)) N:=Rw he hf hN hz h1 λw os=>by
 obtain⟨sT,r,e1⟩:=ab9.mp (h3 w os);obtain⟨e1,e2⟩:_/\_:=by simpa only[Prod.mk.injEq] using e1
 rw[r];show some (as.map sT.abs.heap.get?,ts.map sT.abs.heap.get?)=some ((K w.params).map λp=>some p.2,ts.map λ_=>some (tabObj #[]));rw[DI e1,DI e2,acT,acT];rfl
end HT
namespace K92
open PySem L2 L2.Ev
def tab:List (Str×Stmt):=[49,50,11,42,55,53,19,20,17,26,32,31,33,30,28,29,16,37,35,54,57,51,52,12,18,58,56,36,59,60].map (λi=>(Str.empty,top i))++[0,2,9,10,4,5,3,11,1].map (λi=>(("Changes":Str),inClass (top 25) i))++[0,18,19,8,7,10,12,22,24,21,20,11,26,13,27,25,29,28,23,3,1,2,4,5,9,16,6].map (λi=>(("Gate":Str),inClass (top 47) i))++[3,1,0].map (λi=>(("Tally":Str),inClass (top 41) i))
noncomputable def isNm:Stmt->Bool
 |.FunctionDef x ..=>!(x == "law")
 |_=>true
noncomputable def lo:List Str:=(["_wall","LinegateError","NoFit","NoChange","TooMany","NoRule","NoAnswer","NoLook","TooLate","within","rising","GREATEST_SLOT","GREATEST_VALUE","unfit","edited_in_turn","are_edits","misfit","sheet_of_values","MOST_CHANGES","MOST_EDITS","GREATEST_RANK","Changes","sheet_of","free","filled","first_fitting","in_turn","values_behind","fits","wanted_places","most_bad","middle_of_gap","WORDS","MOST_TRIES","Tally","makes_tally","MOST_WIDTH","MOST_HANDS","BAD_WORDS","Gate","_law_draw","_law_settings","_law_edits","_law_spec","_law_word","_law_told","_law_way","_law_figures","_law_answered","_law_done","_law_bounds"]:List String).map Str.ofString
def vw:Program:={ PySem.Challenge.pw_linegate_k92_whole_counts with main:={ (PySem.Challenge.pw_linegate_k92_whole_counts).main with body:=(PySem.Challenge.pw_linegate_k92_whole_counts).main.body.filter λs=>!isNm s } }
def Wk:Prop:=∀{YP:World->Heap->Prop}{K:Params->PySem.W.Frag}{d:DefRec},(∀(w:World) (h:Heap),YP w h->(K w.params).In h)->(∀(w:World) (h:Heap),YP w h->∀r∈i7 (K w.params),h.get? r.2.1=some (PySem.W.tabObj #[]))->(∀w:World,xP (K w.params)=true)->(∀w:World,tE L (K w.params)=true)->(∀w:World,tab.map (look (K w.params))=tab.map want)->d.params.defaults=[]->d.name="law"->PySem.W.WalkO vw lo (PySem.W.XL vw []) YP (PySem.W.OpenLaw.row PySem.Challenge.rw_linegate_k92_whole_counts).toRowW d [] (λf vs=>PySem.call f vs)
end K92
namespace K92
open PySem L2 L2.Ev
open PySem PySem.W PyProof.Rows L2 L2.Ev
def xt(s:Shared):Bool:=xlAt vw [] s&&recOk (RowW.records (OpenRow.toRowW (OpenLaw.row PySem.Challenge.rw_linegate_k92_whole_counts))) s
theorem xt1(s:Shared)(e:xt s=true):XL vw [] (s.heap.nsMap mainGlobals) s.heap:=xl_of s (afJ.mp e).1
theorem rn(w:World)(os:OsState):(HT.nM treeTable PySem.Challenge.pw_linegate_k92_whole_counts w HT.nE (some (.ref 6)) 20000 (HT.sN w.params os) (topStub PySem.Challenge.pw_linegate_k92_whole_counts)).map (λsT=>((staticsOk (importedModules (PySem.Challenge.pw_linegate_k92_whole_counts).main.body) (boot_heap w.params) sT.abs.heap&&namesBound PySem.Challenge.pw_linegate_k92_whole_counts sT.abs.heap&&gensDone sT.abs&&laidKept (boot_heap w.params) sT.abs.heap),openSeen vw lo (importedModules (PySem.Challenge.pw_linegate_k92_whole_counts).main.body) xt true sT.abs))=some (true,openGood vw lo):=by kernel_rfl
theorem xt2(s:Shared)(e:xt s=true):RecFacts (RowW.records (OpenRow.toRowW (OpenLaw.row PySem.Challenge.rw_linegate_k92_whole_counts))) s.heap:=recFacts_of (afJ.mp e).2
local macro_rules | `(tactic| o_head $H)=>`(tactic| (refine PySem.W.holds_open (q:=K92.vw) (loose:=K92.lo) (N:=20000) (Xt:=K92.xt) (XP:=XL K92.vw []) (Yf:=Hook.obs $H) (Ya:=Hook.val $H) (YP:=Hook.says $H) ?hl (Hook.of $H) (Hook.keeps $H) K92.xt1 XL.keeps (by rfl) (by rfl) (by rfl) K92.xt2 (by rfl) (by assumption) (by decide +kernel) ⟨rfl,rfl,rfl,rfl,rfl,by decide +kernel⟩ ?hw ?hc;(case hl=>exact HT.left_Tkm (ann:=some (.ref 6)) (by rfl) (fun _=>rfl) (by decide) (fun _=>by kernel_rfl) K92.rn fun w os=>by kernel_rfl);(case hw=>w_witness2)))
theorem wsd:OpenLaw.wellSaid PySem.Challenge.rw_linegate_k92_whole_counts=true:=by kernel_rfl
set_option maxHeartbeats 0 in
theorem early(H:Wk):PySem.Challenge.rw_linegate_k92_whole_counts.Holds:=by
 w_on;refine holds_law wsd λafn=>?_;k_head
 k_fill
 exact H (λw h Y=>PySem.W.km_in_of Y) (L2.tabs_ok λw=>by kernel_rfl) (λw=>by kernel_rfl) (λw=>by kernel_rfl) (λw=>by kernel_rfl) rfl rfl
end K92
local macro_rules | `(tactic| walk_at "va")=>`(tactic| exact ⟨rfl,by first | exact Or.inl rfl | exact Or.inr (Or.inl rfl) | exact Or.inr (Or.inr rfl),by decide,by decide⟩)
local macro_rules | `(tactic| exists $h:ident, $x, $w:ident, $e:ident) => `(tactic| (rcases $h:ident : $x:term with _ | $w:ident; (rw [$h:ident] at $e:ident; cases $e:ident); rw [$h:ident] at $e:ident))
local macro_rules | `(tactic| exists $h:ident, $x, $w:ident, $e:ident, 0) => `(tactic| (rcases $h:ident : $x:term with _ | $w:ident; (rw [$h:ident] at $e:ident; cases $e:ident)))
theorem ci{c:Prop}[Decidable c]{α:Type}{a:Option α}{y:α}(e:(if c then a else none)=some y):c/\a=some y:=by
 by_cases h:c
 .rw[if_pos h] at e;exact⟨h,e⟩
 .rw[if_neg h] at e;cases e
namespace L2
open PySem PySem.Spec
theorem UH:entryFor table "proto.unchain"=some Builtin.«proto.unchain»:=entryFor_of_tree (by kernel_rfl)
theorem Uq{α:Type}{Q:α->Shared->Prop}(hh:A.handled=some (.ref h))(he:s.heap.get? e=some oe)(hd:oe.data=.fields ve)(h2:2<ve.size)
  (hx:s.heap.get? h=some oh) (DS:oh.data=.fields vh) (CU:vh[2]? = some .none) (ne:h≠e) (q:E (.ref e) { s with heap:=s.heap.update e (Obj.mapFields (·.setIfInBounds 2 (.ref h))) }):wpAny (model prog w) A (raiseNew (.ref e):Sem α) Q E s:=by
 unfold raiseNew;refine aaQ (wpAny_handled ?_);rw[hh];dsimp only;rw[if_pos (by simpa using ne)];refine aaQ (aeU (wpAny_runValue (afi UH ?_)));unfold Builtin.«proto.unchain»;refine aaQ (wpAny_field hx DS CU ?_);rw[if_pos (by rfl)];refine acr ?_;refine aaQ ?_;unfold updateField;refine aaQ (wpAny_load he ?_);rw[hd];dsimp only;rw[if_pos h2];exact wpAny_update' he (wpAny_throw q)
theorem Z2{prog:Program}{w:World}{A:Around}{E:Value->Shared->Prop}{s:Shared}{it h:Addr}{x left step:Int}{oh:Obj}{vh:Array Value}{Q:Option Value->Shared->Prop}(hh:A.handled=some (.ref h))(hx:s.heap.get? h=some oh)(DS:oh.data=.fields vh)(CU:vh[2]? = some .none)(hit:IsRangeIter s.heap it x left step)(WY:left<=0)
  (hQ:∀h',Heap.ExtBut it s.heap h'->Q none { s with heap:=h' }):wpAny (model prog w) A (pyNext (.ref it)) Q E s:=by
 have hT:s.TypeIs (.ref it) "range_iterator":=⟨_,hit,rfl⟩
 unfold pyNext;refine aaQ (wpAny_attempt (wpAny_callSpecial?_slot hT F.slot_range_iterator_next
  (wpAny_call_entry F.slot_range_iterator_next hT F.entry_range_iterator_next ?_ (F.args_range_iterator_next_1 _))))
 show wpAny _ _ (field (.ref it) 0 >>= _) _ _ s;refine aaQ (wpAny_field hit rfl rfl ?_);refine aaQ (wpAny_field hit rfl rfl ?_);refine aaQ (wpAny_field hit rfl rfl ?_);show wpAny _ _ (if left<=0 then _ else _) _ _ s;rw[if_pos WY];refine aaQ (wpAny_rule ?_);refine aaQ ?_;refine aaQ ?_;simp only[newExc,newTuple];refine aaQ (afF ?_ (by size_fits));refine aaQ (wpAny_of_eq (by first|rfl|(simp only[firstArgMember];rfl)) ?_);refine afF ?_ (by size_fits);have hn:h≠(s.heap.push { cls:=.type "tuple",dict:=none,data:=.seq ([]:List Value).toArray }).objs.size:=acu (abo (aaE _ hx));refine Uq (by first|exact hh|(show A.in1.handled=_;exact hh)) (ab2 _ rfl) rfl (by simp<;>lia) (aaE _ (aaE _ hx)) DS CU hn ?_;refine aaQ (wpAny_isInstance ⟨_,ae9 _ (ab2 _ rfl) rfl,rfl⟩ isSubtype_stop ?_);refine acr (hQ _ λb o hb e=>?_);rw[adq _ _ (aeV (acu (abo (aaE _ e))))];exact aaE _ (aaE _ e)
open PySem PySem.Spec PyProof.Rows
noncomputable abbrev Key:=Sum Int Str
noncomputable def rJ:Key->Value->Bool
 |.inl k,v=>Value.isInt k v
 |.inr x,v=>Value.isStrOf x v
noncomputable def Wl(w:World):Key->Int
 |.inl k=>hashInt k
 |.inr x=>hashStr w x
theorem lO:∀{k:Key}{v:Value},rJ k v=true->(∃i t,k=Sum.inl i/\v=Value.int i t)\/(∃x t,k=Sum.inr x/\v=Value.str x t)
 |.inl i,v,h=>by
  obtain⟨t,e⟩:=Value.isInt_shape h;exact .inl ⟨i,t,rfl,e⟩
 |.inr x,v,h=>by
  obtain⟨t,e⟩:=Value.isStrOf_shape h;exact .inr ⟨x,t,rfl,e⟩
theorem Ub(i:Int)(t:Tok):rJ (.inl i) (.int i t)=true:=by simp[rJ,Value.isInt]
theorem RW(x:Str)(t:Tok):rJ (.inr x) (.str x t)=true:=by simp[rJ,Value.isStrOf]
theorem VH(a b:Int):decide ((Sum.inl a:Key)=Sum.inl b)=(a==b):=by
 by_cases e:a=b
 .subst e;simp
 .have h:¬(Sum.inl a:Key)=Sum.inl b:=λq=>e (af1 q)
  rw[abN h];exact(adg.mpr e).symm
theorem Z1(a b:Str):decide ((Sum.inr a:Key)=Sum.inr b)=decide (a=b):=by
 by_cases e:a=b
 .subst e;simp
 .have h:¬(Sum.inr a:Key)=Sum.inr b:=λq=>e (Sum.inr.inj q)
  rw[abN h,abN e]
theorem adI(a:Int)(b:Str):decide ((Sum.inl a:Key)=Sum.inr b)=false:=abN (λq=>nomatch q)
theorem Rx(a:Str)(b:Int):decide ((Sum.inr a:Key)=Sum.inl b)=false:=abN (λq=>nomatch q)
def fR(prog:Program)(w:World):PySem.KeyKind prog w Key where
 is:=rJ
 hash:=Wl w
 inj:=λv a b ha hb=>by
  rcases lO ha with⟨i,t,rfl,rfl⟩|⟨x,t,rfl,rfl⟩
  .rcases lO hb with⟨j,u,rfl,e⟩|⟨y,u,rfl,e⟩
   .injection e with e1 _;rw[e1]
   .exact nomatch e
  .rcases lO hb with⟨j,u,rfl,e⟩|⟨y,u,rfl,e⟩
   .exact nomatch e
   .injection e with e1 _;rw[e1]
 byValue:=λk v h=>by
  rcases lO h with⟨i,t,rfl,rfl⟩|⟨x,t,rfl,rfl⟩<;>rfl
 pyHash:=λhv h=>by
  rcases lO hv with⟨i,t,rfl,rfl⟩|⟨x,t,rfl,rfl⟩
  .exact wpAny_pyHash_int h
  .exact wpAny_pyHash_str h
 eqBool:=λhu hv h=>by
  rcases lO hu with⟨i,t,rfl,rfl⟩|⟨x,t,rfl,rfl⟩
  .rcases lO hv with⟨j,u,rfl,rfl⟩|⟨y,u,rfl,rfl⟩
   .rw[VH] at h;exact wpAny_eqBool_int h
   .rw[adI] at h;exact SeqAt.EqAt.int_str i t y u _ _ _ _ h
  .rcases lO hv with⟨j,u,rfl,rfl⟩|⟨y,u,rfl,rfl⟩
   .rw[Rx] at h;exact SeqAt.EqAt.str_int x t j u _ _ _ _ h
   .rw[Z1] at h;exact wpAny_eqBool_str h
 «strs»:=λk x t v h=>by
  rcases lO h with⟨i,u,rfl,e⟩|⟨y,u,rfl,e⟩
  .exact nomatch e
  .injection e with e1 _;subst e1;cases v<;>rfl
theorem Uv(prog:Program)(w:World)(i:Int)(t:Tok):(fR prog w).is (.inl i) (.int i t)=true:=Ub i t
theorem RL(prog:Program)(w:World)(x:Str)(t:Tok):(fR prog w).is (.inr x) (.str x t)=true:=RW x t
inductive V where
 |aD|bl (b:Bool)|int (i:Int)|str (x:Str)|jE (b:Array UInt8)|sU (b:UInt64)|ref (a:Addr)|ty (n:String)
 deriving DecidableEq
def RelV:V->Value->Prop
 |.aD,u=>u=Value.none
 |.bl b,u=>u=Value.bool b
 |.int i,u=>∃t,u=Value.int i t
 |.str x,u=>∃t,u=Value.str x t
 |.jE b,u=>∃t,u=Value.bytes b t
 |.sU b,u=>∃t,u=Value.float b t
 |.ref a,u=>u=Value.ref a
 |.ty n,u=>u=Value.type n
noncomputable abbrev aQ:List V->List Value->Prop:=Paired RelV
theorem aQ.length{xs:List V}{us:List Value}(r:aQ xs us):xs.length=us.length:=Paired.length r
theorem aQ.get:∀{xs:List V}{us:List Value}{i:Nat}{x:V},aQ xs us->xs[i]? = some x->∃u,us[i]? = some u/\RelV x u
 |_,_,_,_,.nil,e=>by simp at e
 |_,_,0,_,.cons r _,e=>by simp at e;subst e;exact⟨_,rfl,r⟩
 |_,_,i+1,x,.cons _ t,e=>by
  obtain⟨u,h1,h2⟩:=aQ.get t (by simpa using e);exact⟨u,by simpa using h1,h2⟩
theorem aQ.set(r:RelV x u):∀{xs:List V}{us:List Value} (i:Nat),aQ xs us->aQ (xs.set i x) (us.set i u)
 |_,_,_,.nil=>.nil
 |_,_,0,.cons _ t=>.cons r t
 |_,_,i+1,.cons q t=>.cons q (aQ.set r i t)
theorem aQ.append:∀{xs ys:List V}{us ws:List Value},aQ xs us->aQ ys ws->aQ (xs++ys) (us++ws)
 |_,_,_,_,.nil,s=>s
 |_,_,_,_,.cons r t,s=>.cons r (aQ.append t s)
theorem aQ.take:∀{xs:List V}{us:List Value} (n:Nat),aQ xs us->aQ (xs.take n) (us.take n)
 |_,_,0,_=>.nil
 |_,_,_+1,.nil=>.nil
 |_,_,n+1,.cons r t=>.cons r (aQ.take n t)
theorem aQ.drop:∀{xs:List V}{us:List Value} (n:Nat),aQ xs us->aQ (xs.drop n) (us.drop n)
 |_,_,0,r=>r
 |_,_,_+1,.nil=>.nil
 |_,_,n+1,.cons _ t=>aQ.drop n t
def gX:Option V->Option Value->Prop
 |some v,some u=>RelV v u
 |none,none=>True
 |_,_=>False
def KV{κ:Type}:List (κ×V)->List (κ×Value)->Prop:=Paired λ(p:κ×V) (q:κ×Value)=>p.1=q.1/\RelV p.2 q.2
noncomputable def kV:Key->V
 |.inl i=>.int i
 |.inr x=>.str x
def nY(h:Heap)(a:Addr)(items:Array Value):Prop:=∃o,h.get? a=some o/\o.cls=.type "tuple"/\o.dict=none/\∃n,o.data=.seq items n
theorem nY.isTup(x:nY h a items):IsTup h a items:=let⟨o,e,c,_,d⟩:=x;⟨o,e,c,d⟩
theorem nY.lt(x:nY h a items):a<h.objs.size:=let⟨_,e,_⟩:=x;abo e
theorem nY.new(h:Heap)(items:Array Value):nY (h.push { cls:=.type "tuple",data:=.seq items }) h.objs.size items:=⟨_,ab2 _ rfl,rfl,rfl,_,rfl⟩
inductive HO where
 |lst (xs:List V)
 |tup (xs:List V)
 |dK (aj:List (Key×V))|dT (aj:List (List Key×V))
 |set (S:Int->Bool) (n:Nat)
 |ins (C dx:Addr) (fs:List (Str×V))
 |own (x:Addr)
 |xd (fs:List (Str×V))
 |met (f x:Addr)
 |bZ (lo hi:Int)
 |ck (o:Obj) (u:HO)
 |tN (ps:Array Value)
 |iP (q:Str) (pos:Pos)|ju (q:Str)
 |ext (φ:Heap->Prop)
noncomputable abbrev Hp:=Addr->Option HO
inductive lK where
 |tup (xs:List V)|uX (o:Obj) (xs:List V)|iP (q:Str) (pos:Pos)|ju (q:Str)
noncomputable def lK.ho:lK->HO
 |.tup xs=>.tup xs
 |.uX o xs=>.ck o (.tup xs)
 |.iP q p=>.iP q p
 |.ju q=>.ju q
noncomputable def lK.tp:lK->Option (List V)
 |.tup xs=>some xs
 |.uX _ xs=>some xs
 |_=>none
def Tk(H:Hp)(b:Addr)(xs:List V):Prop:=∃t:lK,t.tp=some xs/\H b=some t.ho
noncomputable def upd(H:Hp)(a:Addr)(o:HO):Hp:=λb=>if b=a then some o else H b
theorem bQ{H:Hp}{a:Addr}{o:HO}:upd H a o a=some o:=by unfold upd;rw[if_pos rfl]
theorem aL{H:Hp}{a b:Addr}{o:HO}(h:b≠a):upd H a o b=H b:=by unfold upd;rw[if_neg h]
theorem UD{H:Hp}{o u:HO}(h:H a=some o)(h':H b=some u)(d:o≠u):a≠b:=by
 intro e;subst e;rw[h] at h';exact d (abS h')
theorem cT{H:Hp}{o:HO}(h:H a=some o)(h':H b=none):a≠b:=by
 intro e;subst e;rw[h] at h';cases h'
section
variable(P:Program)(w:World)
def dh(H:Hp)(h:Heap)(a:Addr):HO->Prop
 |.lst xs=>xs.length<=sizeLine/\∃(au:List Value) (n:Nat),aQ xs au/\h.get? a=some { cls:=.type "list",data:=.seq au.toArray n }
 |.tup xs=>xs.length<=sizeLine/\∃au:List Value,aQ xs au/\nY h a au.toArray
 |.dK aj=>aj.length<=sizeLine/\(a==sysModules)=false/\∃vs,KV aj vs/\h.DictOf (fR P w) a vs
 |.dT aj=>aj.length<=sizeLine/\(a==sysModules)=false/\∃xs:List (List Key×Addr×Value),
   Paired (λ(p:List Key×V) (q:List Key×Addr×Value)=>p.1=q.1/\Tk H q.2.1 (p.1.map kV)/\RelV p.2 q.2.2) aj xs/\
   ∃o es ep,h.get? a=some o/\o.ExactDict/\o.data=.dict es ep/\es.toList=xs.map (entryOfKey (tupleKind (fR P w)))/\(xs.map (·.1)).Nodup
 |.set S n=>h.SetOf (intKind P w) a S n
 |.ins C dx fs=>H dx=some (.own a)/\fs.length<=1000/\dx≠a/\h.get? a=some (PySem.W.instObj C dx)/\
   ∃mA,h.Ns1 dx mA/\(∀f,gX (fs.lookup f) (mA f))/\PySem.Within mA (fs.map (·.1))
 |.own _=>∃o,h.get? a=some o
 |.xd fs=>∃mA,h.Ns1 a mA/\∀f,gX (fs.lookup f) (mA f)
 |.bZ lo hi=>∃t u v,h.get? a=some { cls:=.type "range",data:=.fields #[.int lo t,.int hi u,.int 1 v] }
 |.ck o u=>h.get? a=some o/\dh H h a u
 |.tN ps=>h.get? a=some { cls:=.none,data:=.fields ps }
 |.iP q pos=>∃ps:Array Value,h.get? a=some { cls:=.none,data:=.fields ps }/\(ps=#[]\/∃c,ps=#[rawInt pos.line,rawInt pos.col,.ref c]/\H c=some (.ju q))
 |.ju q=>h.CodeRec (.ref a) q
 |.met f x=>h.get? a=some (PySem.W.methodObj (.ref f) (.ref x))
 |.ext φ=>φ h/\(∃o,h.get? a=some o)/\∀h1 h2:Heap,φ h1->(∀o,h1.get? a=some o->h2.get? a=some o)->φ h2
def d7(H:Hp)(h:Heap):Prop:=∀a o,H a=some o->dh P w H h a o
end
section
variable{P:Program}{w:World}{H H':Hp}{h h':Heap}{a:Addr}{o:HO}
theorem dh.lt(x:dh P w H h a o):a<h.objs.size:=by
 cases o with
 |lst xs=>obtain⟨_,_,_,_,e⟩:=x;exact abo e
 |tup xs=>obtain⟨_,_,_,p⟩:=x;exact p.lt
 |dK aj=>obtain⟨_,_,_,_,o,_,_,e,_⟩:=x;exact abo e
 |dT aj=>obtain⟨_,_,_,_,o,_,_,e,_⟩:=x;exact abo e
 |set S n=>obtain⟨o,_,_,_,e,_⟩:=x;exact abo e
 |ins C dx fs=>obtain⟨_,_,_,e,_⟩:=x;exact abo e
 |own y=>obtain⟨_,e⟩:=x;exact abo e
 |xd fs=>obtain⟨_,⟨_,_,_,e,_⟩,_⟩:=x;exact abo e
 |bZ lo hi=>obtain⟨_,_,_,e⟩:=x;exact abo e
 |ck ob u=>obtain⟨e,_⟩:=x;exact abo e
 |tN ps=>exact abo (show h.get? a=some _ from x)
 |iP q pos=>obtain⟨_,e,_⟩:=x;exact abo e
 |ju q=>obtain⟨_,_,_,_,e,g,_⟩:=x;cases e;exact abo g
 |met f y=>exact abo (show h.get? a=some _ from x)
 |ext φ=>obtain⟨_,⟨_,e⟩,_⟩:=x;exact abo e
theorem Paired.zO{α β:Type}{F G:α->β->Prop}:∀{Ng:List α}{Lu:List β},Paired F Ng Lu->(∀a b,F a b->G a b)->Paired G Ng Lu
 |_,_,.nil,_=>.nil
 |_,_,.cons r t,f=>.cons (f _ _ r) (Paired.zO t f)
theorem dh.mz(x:dh P w H h a o)(k:∀b u,(b=a\/H b=some (.own a))->h.get? b=some u->h'.get? b=some u)
  (ho:∀b,H b=some (.own a)->H' b=some (.own a)) (ht:∀b (t:lK),H b=some t.ho->H' b=some t.ho):dh P w H' h' a o:=by
 induction o with
 |lst xs=>obtain⟨z,au,n,r,e⟩:=x;exact⟨z,au,n,r,k _ _ (.inl rfl) e⟩
 |tup xs=>obtain⟨z,au,r,ob,e,c⟩:=x;exact⟨z,au,r,ob,k _ _ (.inl rfl) e,c⟩
 |dK aj=>obtain⟨z,y,vs,r,ob,es,ep,e,c⟩:=x;exact⟨z,y,vs,r,ob,es,ep,k _ _ (.inl rfl) e,c⟩
 |dT aj=>
  obtain⟨z,y,xs,r,ob,es,ep,e,c⟩:=x;exact⟨z,y,xs,Paired.zO r λp q z=>⟨z.1,let⟨t,e,g⟩:=z.2.1;⟨t,e,ht _ t g⟩,z.2.2⟩,ob,es,ep,k _ _ (.inl rfl) e,c⟩
 |set S n=>obtain⟨ob,es,ep,t,e,c⟩:=x;exact⟨ob,es,ep,t,k _ _ (.inl rfl) e,c⟩
 |ins C dx fs=>
  obtain⟨d,z,ne,e,mA,⟨od,es,ep,e2,c⟩,r⟩:=x;exact⟨ho _ d,z,ne,k _ _ (.inl rfl) e,mA,⟨od,es,ep,k _ _ (.inr d) e2,c⟩,r⟩
 |own y=>obtain⟨ob,e⟩:=x;exact⟨ob,k _ _ (.inl rfl) e⟩
 |xd fs=>obtain⟨mA,⟨od,es,ep,e,c⟩,r⟩:=x;exact⟨mA,⟨od,es,ep,k _ _ (.inl rfl) e,c⟩,r⟩
 |bZ lo hi=>obtain⟨t,u,v,e⟩:=x;exact⟨t,u,v,k _ _ (.inl rfl) e⟩
 |ck ob u ih=>obtain⟨e,q⟩:=x;exact⟨k _ _ (.inl rfl) e,ih q⟩
 |iP q pos=>obtain⟨ps,e,g⟩:=x;exact⟨ps,k _ _ (.inl rfl) e,g.imp id λ⟨c,e1,e2⟩=>⟨c,e1,ht c (.ju q) e2⟩⟩
 |ju q=>obtain⟨_,o,vs,t,e,g,r⟩:=x;cases e;exact⟨_,o,vs,t,rfl,k _ _ (.inl rfl) g,r⟩
 |tN ps=>
  have e:=x;exact k a _ (.inl rfl) e
 |met f y=>
  have e:=x;exact k a _ (.inl rfl) e
 |ext φ=>obtain⟨p,⟨o,e⟩,st⟩:=x;exact⟨st _ _ p λo q=>k _ _ (.inl rfl) q,⟨o,k _ _ (.inl rfl) e⟩,st⟩
theorem d7.lt(x:d7 P w H h)(e:H a=some o):a<h.objs.size:=(x a o e).lt
theorem d7.fresh(x:d7 P w H h)(e:h.objs.size<=a):H a=none:=by
 cases q:H a with
 |none=>rfl
 |some u=>exact absurd (acH (x.lt q) e) (aeq _)
theorem d7.kept(x:d7 P w H h)(k:∀b u,h.get? b=some u->h'.get? b=some u):d7 P w H h':=λa o e=>
 (x a o e).mz (λb u _ q=>k b u q) (λ_ q=>q) λ_ _ q=>q
theorem d7.laid(x:d7 P w H h)(k:∀b u,h.get? b=some u->h'.get? b=some u)(hp:h.objs.size<=a)(new:dh P w (upd H a o) h' a o):d7 P w (upd H a o) h':=λb u e=>by
 have hn:=x.fresh hp
 by_cases hb:b=a
 .subst hb;rw[bQ] at e;cases e;exact new
 .rw[aL hb] at e;exact(x b u e).mz (λc v _ q=>k c v q) (λc q=>by rw[aL (cT q hn)];exact q) λc xs q=>by rw[aL (cT q hn)];exact q
end
def Rd(H:Hp)(a:Addr)(u:HO):Prop:=H a=some u\/∃o,H a=some (.ck o u)
theorem Rd.ok{P:Program}{w:World}{H:Hp}{h:Heap}{a:Addr}{u:HO}(r:Rd H a u)(x:d7 P w H h):dh P w H h a u:=by
 rcases r with r|⟨o,r⟩
 .exact x a u r
 .obtain⟨_,q⟩:=x a _ r;exact q
def xu:Option HO->Prop
 |some (.lst _)=>True
 |some (.dK _)=>True
 |some (.dT _)=>True
 |some (.set _ _)=>True
 |some (.ins _ _ _)=>True
 |some (.ext _)=>True
 |_=>False
section
variable{P:Program}{w:World}{H:Hp}{h h':Heap}{x e:Addr}{o':HO}
theorem d7.write(ok:d7 P w H h)(mu:xu (H x))(he:e=x\/H e=some (.own x))(k:∀b u,b≠e->h.get? b=some u->h'.get? b=some u)(vg:∃u,h'.get? e=some u)
  (new:dh P w (upd H x o') h' x o'):d7 P w (upd H x o') h':=λb u q=>by
 have KN:∀c y,H c=some (.own y)->c≠x:=λc y r z=>by subst z;rw[r] at mu;exact mu
 have ab4:∀c (t:lK),H c=some t.ho->c≠x:=λc t r z=>by subst z;rw[r] at mu;cases t<;>exact mu
 by_cases hb:b=x
 .subst hb;rw[bQ] at q;cases q;exact new
 .rw[aL hb] at q
  by_cases su:b=e
  .have q':H b=some (.own x):=by
    rcases he with z|z
    .exact absurd (su.trans z) hb
    .rw[su];exact z
   rw[q] at q';cases q';obtain⟨v,hv⟩:=vg;exact⟨v,by rw[su];exact hv⟩
  .refine(ok b u q).mz (λc v hc r=>k c v ?_ r) (λc r=>by rw[aL (KN c b r)];exact r) λc xs r=>by rw[aL (ab4 c xs r)];exact r
   rcases hc with rfl|hc
   .exact su
   .rintro rfl
    rcases he with z|z
    .exact KN c b hc z
    .rw[hc] at z;cases z;exact hb rfl
end
structure Un(fs ex:List Addr)(H H':Hp)(h h':Heap):Prop where
 keep:∀b o,h.get? b=some o->H b=none->b∉fs->b∉ex->h'.get? b=some o
 slot:∀b o,h.get? b=some o->H b=none->b∈fs->b∉ex->∃sl,h'.get? b=some { o with slots:=sl }
 free:∀b o,h.get? b=some o->H b=none->b∉ex->H' b=none
 there:∀b o,h.get? b=some o->b∉ex->∃o',h'.get? b=some o'
 ko:∀b (t:lK),H b=some t.ho->H' b=some t.ho
 jU:∀b o u,H b=some (.ck o u)->H' b=some (.ck o u)
 lQ:∀b ps,H b=some (.tN ps)->∃more,H' b=some (.tN (ps++more))
section
variable{fs qS ex ex':List Addr}{H H1 H2:Hp}{h h1 h2 h':Heap}{a x e:Addr}{o:HO}
theorem Un.any(u:Un fs ex H H1 h h1){b:Addr}{ob:Obj}(q:h.get? b=some ob)(n:H b=none)(hx:b∉ex):∃sl,h1.get? b=some { ob with slots:=sl }:=by
 by_cases hb:b∈fs
 .exact u.slot b ob q n hb hx
 .exact⟨ob.slots,u.keep b ob q n hb hx⟩
theorem Un.kept(k:∀b u,h.get? b=some u->h'.get? b=some u):Un fs ex H H h h':=
 ⟨λb ob q _ _ _=>k b ob q,λb ob q _ _ _=>⟨ob.slots,k b ob q⟩,λ_ _ _ n _=>n,λb ob q _=>⟨ob,k b ob q⟩,λ_ _ q=>q,λ_ _ _ q=>q,λ_ ps q=>⟨#[],by rw[q];simp⟩⟩
theorem Un.refl:Un fs ex H H h h:=Un.kept λ_ _ q=>q
theorem Un.laid(k:∀b u,h.get? b=some u->h'.get? b=some u)(hp:h.objs.size<=a)(hn:H a=none):Un fs ex H (upd H a o) h h' where
 keep:=λb u q _ _ _=>k b u q
 slot:=λb u q _ _ _=>⟨u.slots,k b u q⟩
 free:=λb u q n _=>by rw[aL (acu (acH (abo q) hp))];exact n
 there:=λb u q _=>⟨u,k b u q⟩
 ko:=λb xs q=>by rw[aL (cT q hn)];exact q
 jU:=λb u xs q=>by rw[aL (cT q hn)];exact q
 lQ:=λb ps q=>⟨#[],by rw[aL (cT q hn),q];simp⟩
theorem Un.write(mu:xu (H x))(he:e=x\/H e=some (.own x))(k:∀b u,b≠e->h.get? b=some u->h'.get? b=some u)(vg:∃u,h'.get? e=some u):Un fs ex H (upd H x o) h h':=by
 have hx:∀b,H b=none->b≠x:=λb n z=>by subst z;rw[n] at mu;exact mu
 have hb:∀b,H b=none->b≠e:=λb n z=>by
  subst z;rcases he with r|r
  .exact hx b n r
  .rw[n] at r;cases r
 have hm:∀b u,H b=some u->¬xu (some u)->b≠x:=λb u q nm z=>by subst z;rw[q] at mu;exact nm mu
 refine⟨λb u q n _ _=>k b u (hb b n) q,λb u q n _ _=>⟨u.slots,k b u (hb b n) q⟩,λb u q n _=>by rw[aL (hx b n)];exact n,λb u q _=>?_,
  λb xs q=>by rw[aL (hm b _ q (by cases xs<;>exact λz=>z))];exact q,λb u xs q=>by rw[aL (hm b _ q λz=>z)];exact q,λb ps q=>⟨#[],by rw[aL (hm b _ q λz=>z),q];simp⟩⟩
 by_cases su:b=e
 .subst su;exact vg
 .exact⟨u,k b u su q⟩
end
noncomputable def AE(h:Heap)(H:Hp):List Addr:=(List.range h.objs.size).filter λa=>(H a).isSome
def qL(h:Heap)(H:Hp):Heap:=PySem.W.hideAll h (AE h H)
theorem Vo(h:Heap)(H:Hp):(qL h H).objs.size=h.objs.size:=PySem.W.hideAll_size _ _
theorem Dq(e:h.get? b=some o)(n:H b=none):(qL h H).get? b=some o:=
 PySem.W.hideAll_get _ e λhm=>by
  have q:=(acy.mp hm).2;rw[n] at q;simp at q
theorem ac5(e:(qL h H).get? b=some o):h.get? b=some o/\H b=none:=by
 have e':=PySem.W.of_hideAll (AE h H) e;refine⟨e',?_⟩;cases q:H b with
 |none=>rfl
 |some x=>
  have hm:b∈AE h H:=acy.mpr ⟨af4.mpr (abo e'),by simp[q]⟩;have z:(qL h H).get? b=none:=PySem.W.hideAll_none (AE h H) hm;rw[z] at e;cases e
structure Mod(K:PySem.W.Frag)(mg:Str->Option Value)(base:Heap):Prop where
 yC:K.In base
 glob:base.Ns mainGlobals mg
 blt:∃mb,base.Ns builtinsNs mb/\∀x:Str,x≠"__name__"->mb x=bootBuiltins x
 nolimit:base.NoLimit
 bmn:∃bm ob,mg "__builtins__"=some (.ref bm)/\bm≠builtinsNs/\base.get? bm=some ob/\ob.cls=.type "module"/\ob.dict=some builtinsNs/\ob.data=.plain
structure Cx where
 prog:Program
 w:World
 K:PySem.W.Frag
 mg:Str->Option Value
 base:Heap
 A:Around
 N:List Str
 eN:Shared
 pC:Hp
 env:Env
 outer:List Env
 stack:List Env
 ex:List Addr
 fn:Str->Bool
 calm:Bool
 pn:List (Addr×Obj)
 xe:Value->Shared->Prop
noncomputable def d_(l:List Env):List Addr:=l.filterMap (·.frame)
abbrev Cx.fs(X:Cx):List Addr:=d_ X.outer
def AD(sc:Scope)(x:Str):Prop:=sc.names.lookup x=some .local\/sc.names.lookup x=some .cell\/sc.names.lookup x=some .free
def Loc(sc:Scope)(x:Str):Prop:=sc.names.lookup x=some .local\/sc.names.lookup x=some .cell
def Look(env:Env)(h:Heap)(m:Str->Option Value)(x:Str)(u:Value):Prop:=
 (env.kindOf x=some .local/\m x=some u)\/((env.kindOf x=some .cell\/env.kindOf x=some .free)/\∃c,env.cells.lookup x=some c/\h.IsCell c (some u))
structure Cx.Ok(X:Cx):Prop where
 mod:Mod X.K X.mg X.base
 kind:X.env.scope.kind=.function
 glob:X.env.globals=mainGlobals
 blt:X.env.builtins=builtinsNs
 above:X.eN.heap.objs.size<=X.env.locals
 inj:∀x y c,X.env.cells.lookup x=some c->X.env.cells.lookup y=some c->x=y
 has:∀x,(X.env.kindOf x=some .cell\/X.env.kindOf x=some .free)->∃c,X.env.cells.lookup x=some c
 vG:∀x c,X.fn x=true->X.env.cells.lookup x=some c->X.eN.heap.objs.size<=c
 hd:X.calm=true->X.A.handled=none
 frames:X.A.frames=some X.stack
 vO:X.stack=X.outer\/(X.stack=X.env::X.outer/\X.env.frame=some X.env.locals)
 Bm:∀b∈X.ex,b≠X.env.locals/\∀x c,X.env.cells.lookup x=some c->c≠b
 bs:∀b o,X.base.get? b=some o->X.eN.heap.get? b=some o/\X.pC b=none
 kD:X.base.objs.size<=X.eN.heap.objs.size
 vq:∀b o,X.base.get? b=some o->b∉X.ex
 ud:∀b∈X.ex,b∉X.fs
 kC:X.eN.heap.FunFrames X.base X.outer
 qo:∀b∈X.fs,X.pC b=none
def xU(A:Around)(H:Hp):Prop:=A.handled=none\/∃(a:Addr) (ob:Obj) (u:HO) (vs:Array Value),A.handled=some (.ref a)/\H a=some (.ck ob u)/\ob.data=.fields vs/\vs[2]? = some .none
theorem xU.mono{A:Around}{H H':Hp}(h:xU A H)(f:∀b o u,H b=some (.ck o u)->H' b=some (.ck o u)):xU A H':=h.elim .inl λ⟨a,ob,u,vs,h1,h2,h3⟩=>.inr ⟨a,ob,u,vs,h1,f _ _ _ h2,h3⟩
structure Hq(K:PySem.W.Frag)(A:Around)(H:Hp):Prop where
 hd:xU A H
 ok:xP K=true
 lm:∀r∈i7 K,H r.2.1=some (.iP r.2.2.1 r.2.2.2)
theorem Hq.mono{K:PySem.W.Frag}(h:Hq K A H)(f:∀b o u,H b=some (.ck o u)->H' b=some (.ck o u))(g:∀b (t:lK),H b=some t.ho->H' b=some t.ho):Hq K A H':=
 ⟨h.hd.mono f,h.ok,λr m=>g _ (.iP _ _) (h.lm r m)⟩
structure Inv(X:Cx)(af:List (Addr×Obj))(σ:List (Option V))(H:Hp)(s:Shared):Prop where
 ok:X.Ok
 os:s.os=X.eN.os
 bare:AllBare s.gens
 base:Un X.fs X.ex X.pC H X.eN.heap s.heap
 loc:∃m,s.heap.Ns X.env.locals m/\∀(i:Nat) (x:Str) (v:V),X.N[i]? = some x->σ[i]? = some (some v)->AD X.env.scope x->∃u,RelV v u/\Look X.env s.heap m x u
 cell:∀x c,X.env.cells.lookup x=some c->∃v,s.heap.IsCell c v
 free:H X.env.locals=none
 jh:∀x c,X.env.cells.lookup x=some c->H c=none
 pin:∀p∈X.pn++af,s.heap.get? p.1=some p.2/\H p.1=none/\p.1≠X.env.locals/\p.1∉X.fs/\∀v,p.2.data≠.cell v
 aI:d7 X.prog X.w H s.heap
 len:σ.length=X.N.length
 hq:Hq X.K X.A H
section
variable{X:Cx}{af:List (Addr×Obj)}{σ:List (Option V)}{H H':Hp}{s:Shared}{h':Heap}
theorem Cx.Ok.R7(ok:X.Ok)(e:X.base.get? b=some o):b∉X.fs:=λhb=>by
 have:=(ok.kC.mem hb).1;rw[e] at this;cases this
theorem Inv.bs(I:Inv X af σ H s):∀b o,X.base.get? b=some o->s.heap.get? b=some o/\H b=none:=λb o e=>
 ⟨I.base.keep b o (I.ok.bs b o e).1 (I.ok.bs b o e).2 (I.ok.R7 e) (I.ok.vq b o e),I.base.free b o (I.ok.bs b o e).1 (I.ok.bs b o e).2 (I.ok.vq b o e)⟩
theorem Inv.bk(I:Inv X af σ H s):∀b o,X.base.get? b=some o->s.heap.get? b=some o:=λb o e=>(I.bs b o e).1
theorem Inv.mod(I:Inv X af σ H s):Mod X.K X.mg X.base:=I.ok.mod
theorem Inv.eU(I:Inv X af σ H s):X.K.In s.heap:=I.ok.mod.yC.keeps I.bk
theorem Inv.lt(I:Inv X af σ H s):X.env.locals<s.heap.objs.size:=let⟨_,hn,_⟩:=I.loc;hn.lt
theorem Inv.sz(I:Inv X af σ H s):X.eN.heap.objs.size<=s.heap.objs.size:=adw I.ok.above (aeW I.lt)
theorem Inv.Q_(I:Inv X af σ H s)(h:s.heap.objs.size<=a):a∉X.fs:=λhb=>by
 obtain⟨_,o,ho,_⟩:=I.ok.kC.mem hb;exact absurd (acH (abo ho) (adw I.sz h)) (aeq _)
theorem Inv.mZ(I:Inv X af σ H s):∀x c,X.env.cells.lookup x=some c->c≠X.env.locals:=λx c e z=>by
 obtain⟨v,o,ho,hd⟩:=I.cell x c e;obtain⟨m,⟨o',es,ep,mF,Ec,_⟩,_⟩:=I.loc;rw[z,mF] at ho;cases ho;rw[Ec] at hd;cases hd
theorem Inv.kC(I:Inv X af σ H s):s.heap.FunFrames X.base X.outer:=by
 have all:∀(l:List Env),(∀b∈d_ l,b∈X.fs)->X.eN.heap.FunFrames X.base l->s.heap.FunFrames X.base l:=by
  intro l
  induction l with
  |nil=>intro _ _;trivial
  |cons env r ih=>
   intro hs hl;obtain⟨hk,⟨L,o,hf,hn,ho,hd⟩,hr⟩:=hl;have hL:=hs L (by unfold d_;rw[aef,hf];exact aar);obtain⟨sl,e⟩:=I.base.slot L o ho (I.ok.qo L hL) hL λz=>I.ok.ud L z hL
   exact⟨hk,⟨L,_,hf,hn,e,hd⟩,ih (λb hb=>hs b (by unfold d_;rw[aef,hf];exact aaa _ hb)) hr⟩
 exact all X.outer (λ_ hb=>hb) I.ok.kC
theorem Inv.stack(I:Inv X af σ H s):s.heap.FunFrames X.base X.stack:=by
 rcases I.ok.vO with e|⟨e,hf⟩
 .rw[e];exact I.kC
 .rw[e];obtain⟨m,hn,_⟩:=I.loc;refine .cons (by rw[I.ok.kind];decide) hf hn ?_ I.kC;exact afK (adw I.ok.kD I.ok.above)
theorem Inv.HF(I:Inv X af σ H s):∀b∈d_ X.stack,b∈X.env.locals::X.fs:=λb hb=>by
 rcases I.ok.vO with e|⟨e,hf⟩
 .rw[e] at hb;exact aaa _ hb
 .rw[e] at hb;unfold d_ at hb;rw[aef,hf] at hb;exact hb
theorem Inv.EA(I:Inv X af σ H s):∀b∈d_ X.stack,H b=none:=λb hb=>by
 rcases aa3.mp (I.HF b hb) with e|hb
 .rw[e];exact I.free
 .obtain⟨_,o,ho,_⟩:=I.ok.kC.mem hb;exact I.base.free b o ho (I.ok.qo b hb) λz=>I.ok.ud b z hb
theorem Inv.step{g':Array GenState}{d':Drawn}{ch:List Addr}(I:Inv X af σ H s)
  (nG:∀b∈ch,(b∈X.ex\/X.eN.heap.objs.size<=b)/\b≠X.env.locals/\(∀x c,X.env.cells.lookup x=some c->c≠b)/\∀p∈X.pn++af,p.1≠b)
  (keep:∀b o,b≠X.env.locals->b∉X.fs->b∉ch->s.heap.get? b=some o->H b=none->h'.get? b=some o)
  (slot:∀b o,b≠X.env.locals->b∈X.fs->b∉ch->s.heap.get? b=some o->H b=none->∃sl,h'.get? b=some { o with slots:=sl }) (free:∀b o,b∉ch->s.heap.get? b=some o->H b=none->H' b=none)
  (there:∀b o,b∉ch->s.heap.get? b=some o->∃o',h'.get? b=some o')
  (ko:∀b (t:lK),H b=some t.ho->H' b=some t.ho) (jU:∀b o u,H b=some (.ck o u)->H' b=some (.ck o u)) (lQ:∀b ps,H b=some (.tN ps)->∃more,H' b=some (.tN (ps++more)))
  (ns:∀m,s.heap.Ns X.env.locals m->h'.Ns X.env.locals m) (aI:d7 X.prog X.w H' h') (hg:AllBare g') :
  Inv X af σ H' { s with heap:=h',gens:=g',drawn:=d',toks:=t' }:=by
 have Ri:∀b o,X.eN.heap.get? b=some o->b≠X.env.locals:=λb o e=>acu (acH (abo e) I.ok.above)
 have A2:∀b o,X.eN.heap.get? b=some o->b∉X.ex->b∉ch:=λb o e hx hb=>by
  rcases(nG b hb).1 with z|z
  .exact hx z
  .exact absurd (acH (abo e) z) (aeq _)
 have cellK:∀x c,X.env.cells.lookup x=some c->∀v,s.heap.IsCell c v->h'.IsCell c v:=λx c e v ⟨o,ho,hd⟩=>by
  have lI:c∉ch:=λz=>(nG c z).2.2.1 x c e rfl
  by_cases hc:c∈X.fs
  .obtain⟨sl,q⟩:=slot c o (I.mZ x c e) hc lI ho (I.jh x c e);exact⟨_,q,hd⟩
  .exact⟨o,keep c o (I.mZ x c e) hc lI ho (I.jh x c e),hd⟩
 refine⟨I.ok,I.os,hg,⟨λb o e n hb hx=>?_,λb o e n hb hx=>?_,λb o e n hx=>?_,λb o e hx=>?_,λb xs e=>ko b xs (I.base.ko b xs e),λb o xs e=>jU b o xs (I.base.jU b o xs e),λb ps e=>?_⟩,?_,λx c e=>?_,?_,λx c e=>?_,λp hp=>?_,aI,I.len,I.hq.mono jU ko⟩
 .exact keep b o (Ri b o e) hb (A2 b o e hx) (I.base.keep b o e n hb hx) (I.base.free b o e n hx)
 .obtain⟨sl,e1⟩:=I.base.slot b o e n hb hx;obtain⟨Y8,e2⟩:=slot b _ (Ri b o e) hb (A2 b o e hx) e1 (I.base.free b o e n hx);exact⟨Y8,e2⟩
 .obtain⟨o',e1⟩:=I.base.there b o e hx;exact free b o' (A2 b o e hx) e1 (I.base.free b o e n hx)
 .obtain⟨o',e1⟩:=I.base.there b o e hx;exact there b o' (A2 b o e hx) e1
 .obtain⟨m1,e1⟩:=I.base.lQ b ps e;obtain⟨m2,e2⟩:=lQ b _ e1;exact⟨m1++m2,by rw[e2,Array.append_assoc]⟩
 .obtain⟨m,hn,hl⟩:=I.loc;refine⟨m,ns m hn,λi x v e1 e2 e3=>?_⟩;obtain⟨u,r,l⟩:=hl i x v e1 e2 e3;refine⟨u,r,?_⟩;rcases l with l|⟨k,c,e,z⟩
  .exact .inl l
  .exact .inr ⟨k,c,e,cellK x c e _ z⟩
 .obtain⟨v,z⟩:=I.cell x c e;exact⟨v,cellK x c e v z⟩
 .obtain⟨m,⟨o,_,_,ho,_⟩,_⟩:=I.loc;exact free _ o (λz=>(nG _ z).2.1 rfl) ho I.free
 .obtain⟨v,o,ho,hd⟩:=I.cell x c e;exact free c o (λz=>(nG c z).2.2.1 x c e rfl) ho (I.jh x c e)
 .obtain⟨e,n,ne,nf,d⟩:=I.pin p hp;have lI:p.1∉ch:=λz=>(nG p.1 z).2.2.2 p hp rfl
  exact⟨keep p.1 p.2 ne nf lI e n,free p.1 p.2 lI e n,ne,nf,d⟩
theorem Inv.un(I:Inv X af σ H s)(u:Un X.fs [] H H' s.heap h')(aI:d7 X.prog X.w H' h'):Inv X af σ H' { s with heap:=h',toks:=t' }:=by
 obtain⟨m,⟨o,es,ep,ho,r⟩,_⟩:=id I.loc;obtain⟨sl,hL⟩:=u.any ho I.free (by simp);exact I.step (g':=s.gens) (d':=s.drawn) (ch:=[]) (λ_ z=>nomatch z) (λb o _ hb _ e n=>u.keep b o e n hb (by simp)) (λb o _ hb _ e n=>u.slot b o e n hb (by simp)) (λb o _ e n=>u.free b o e n (by simp)) (λb o _ e=>u.there b o e (by simp)) u.ko u.jU u.lQ (λm' hm=>by
  obtain⟨o',cU,yI,mF,r'⟩:=hm;rw[ho] at mF;cases mF;exact⟨_,cU,yI,hL,r'⟩) aI I.bare
theorem Inv.call{g':Array GenState}{d':Drawn}(I:Inv X af σ H s)(u:Un (d_ X.stack) ch H H' s.heap h')(aI:d7 X.prog X.w H' h')(hg:AllBare g')
  (nG:∀b∈ch,(b∈X.ex\/X.eN.heap.objs.size<=b)/\b≠X.env.locals/\(∀x c,X.env.cells.lookup x=some c->c≠b)/\∀p∈X.pn++af,p.1≠b) :
  Inv X af σ H' { s with heap:=h',gens:=g',drawn:=d',toks:=t' }:=by
 obtain⟨m,⟨o,es,ep,ho,r⟩,_⟩:=id I.loc;obtain⟨sl,hL⟩:=u.any ho I.free λz=>(nG _ z).2.1 rfl
 exact I.step (ch:=ch) nG (λb o hL hb hc e n=>u.keep b o e n (λz=>(aa3.mp (I.HF b z)).elim hL hb) hc) (λb o _ _ hc e n=>u.any e n hc) (λb o hc e n=>u.free b o e n hc) (λb o hc e=>u.there b o e hc) u.ko u.jU u.lQ (λm' hm=>by
  obtain⟨o',cU,yI,mF,r'⟩:=hm;rw[ho] at mF;cases mF;exact⟨_,cU,yI,hL,r'⟩) aI hg
theorem Inv.turned(I:Inv X af σ H s)(k:∀b o,b≠it->s.heap.get? b=some o->h'.get? b=some o)(hn:H it=none)(hL:it≠X.env.locals)
  (h1:it∈X.ex\/X.eN.heap.objs.size<=it) (h2:∀x c,X.env.cells.lookup x=some c->c≠it) (h3:∀p∈X.pn++af,p.1≠it):Inv X af σ H { s with heap:=h',toks:=t' }:=by
 have QM:∀b u,H b=some u->b≠it:=λb u e z=>by rw[z,hn] at e;cases e
 refine I.step (g':=s.gens) (d':=s.drawn) (ch:=[it]) (λb hb=>?_) (λb o _ _ hc e _=>k b o (λz=>hc (by simp[z])) e) (λb o _ _ hc e _=>⟨o.slots,k b o (λz=>hc (by simp[z])) e⟩) (λ_ _ _ _ n=>n)
  (λb o hc e=>⟨o,k b o (λz=>hc (by simp[z])) e⟩) (λ_ _ e=>e) (λ_ _ _ e=>e) (λb ps e=>⟨#[],by rw[e];simp⟩) (λm hm=>?_) (λb u e=>?_) I.bare
 .have e:b=it:=by simpa using hb
  subst e;exact⟨h1,hL,h2,h3⟩
 .obtain⟨o,es,ep,ho,r⟩:=hm;exact⟨o,es,ep,k _ o (aeV hL) ho,r⟩
 .refine(I.aI b u e).mz (λc v hc q=>k c v ?_ q) (λ_ q=>q) λ_ _ q=>q
  rcases hc with z|z
  .rw[z];exact QM b u e
  .exact QM c _ z
theorem Inv.tok(I:Inv X af σ H s)(t:Nat):Inv X af σ H { s with toks:=t }:=I.un Un.refl I.aI
theorem Inv.kept(I:Inv X af σ H s)(k:∀b u,s.heap.get? b=some u->h'.get? b=some u):Inv X af σ H { s with heap:=h',toks:=t' }:=I.un (Un.kept k) (I.aI.kept k)
theorem Inv.laid{o:HO}(I:Inv X af σ H s)(k:∀b u,s.heap.get? b=some u->h'.get? b=some u)(hp:s.heap.objs.size<=a)(new:dh X.prog X.w (upd H a o) h' a o):
  Inv X af σ (upd H a o) { s with heap:=h',toks:=t' }:=I.un (Un.laid k hp (I.aI.fresh hp)) (I.aI.laid k hp new)
theorem Inv.write{o:HO}(I:Inv X af σ H s)(mu:xu (H x))(he:e=x\/H e=some (.own x))(k:∀b u,b≠e->s.heap.get? b=some u->h'.get? b=some u)(vg:∃u,h'.get? e=some u)
  (new:dh X.prog X.w (upd H x o) h' x o):Inv X af σ (upd H x o) { s with heap:=h',toks:=t' }:=I.un (Un.write mu he k vg) (I.aI.write mu he k vg new)
theorem Inv.rq(I:Inv X af σ H s)(h:∀p∈EN,s.heap.get? p.1=some p.2/\H p.1=none/\p.1≠X.env.locals/\p.1∉X.fs/\∀v,p.2.data≠.cell v):Inv X EN σ H s:=
 ⟨I.ok,I.os,I.bare,I.base,I.loc,I.cell,I.free,I.jh,λp hp=>(abD.mp hp).elim (λz=>I.pin p (abn _ z)) (h p),I.aI,I.len,I.hq⟩
theorem Rk{N:List Str}(hN:N.Nodup){i j:Nat}(a:N[i]? = some x)(b:N[j]? = some x):i=j:=by
 obtain⟨h1,e1⟩:=abh.mp a;obtain⟨h2,e2⟩:=abh.mp b;exact(List.getElem_inj hN).mp (e1.trans e2.symm)
theorem Q5{Q:Unit->Shared->Prop}(I:Inv X af σ H s)(hN:X.N.Nodup)(hi:X.N[i]? = some x)(hx:Loc X.env.scope x)(r:RelV v u)
  (h:∀s',Inv X af (σ.set i (some v)) H s'->(∃a,Heap.SameBut a s.heap s'.heap/\(a=X.env.locals\/X.env.cells.lookup x=some a))->Q () s') (hf:X.fn x=true\/X.env.scope.names.lookup x=some .local:=by first|exact .inl rfl|exact .inr rfl|assumption):wpAny M A (storeName X.env x u) Q E s:=by
 obtain⟨m,hn,hl⟩:=id I.loc;have aak:(X.env.scope.kind == .class||(X.env.scope.kind == .module&&X.env.locals != X.env.globals))=false:=by rw[I.ok.kind];rfl
 have KA:i<σ.length:=by rw[I.len];exact(abh.mp hi).1
 have mZ:=I.mZ;have tracked:∀{a:Addr}{h':Heap},(∃o,s.heap.get? a=some o/\H a=none)->Heap.SameBut a s.heap h'->d7 X.prog X.w H h':=λ{a h'} ha hs b ob e=>by
  obtain⟨_,_,PB⟩:=ha;refine(I.aI b ob e).mz (λc w' hc q=>(hs.2 c ?_).trans q) (λ_ q=>q) λ_ _ q=>q
  rintro rfl
  rcases hc with rfl|hc
  .rw[PB] at e;cases e
  .rw[PB] at hc;cases hc
 rcases hx with hk|hk
 .refine wpAny_storeName_local hk hn (λh' Se hs=>?_) aak;obtain⟨oL,_,_,zJ,_⟩:=id hn;refine h _ ⟨I.ok,I.os,I.bare,⟨λb o e n hb hx=>?_,λb o e n hb hx=>?_,I.base.free,λb o e hx=>?_,I.base.ko,I.base.jU,I.base.lQ⟩,⟨_,Se,λj y v' e1 e2 e3=>?_⟩,λy c e=>?_,I.free,I.jh,λp hp=>?_,tracked ⟨oL,zJ,I.free⟩ hs,by simpa using I.len,I.hq⟩ ⟨_,hs,.inl rfl⟩
  .exact(hs.2 b (acu (acH (abo e) I.ok.above))).trans (I.base.keep b o e n hb hx)
  .obtain⟨sl,e1⟩:=I.base.slot b o e n hb hx;exact⟨sl,(hs.2 b (acu (acH (abo e) I.ok.above))).trans e1⟩
  .obtain⟨o',e1⟩:=I.base.there b o e hx;exact⟨o',(hs.2 b (acu (acH (abo e) I.ok.above))).trans e1⟩
  .by_cases hj:j=i
   .subst hj;rw[hi] at e1;cases e1;rw[aeo KA] at e2;cases e2;exact⟨u,r,.inl ⟨hk,by simp⟩⟩
   .rw[acM (aeV hj)] at e2;obtain⟨u',r',q⟩:=hl j y v' e1 e2 e3;refine⟨u',r',?_⟩;rcases q with⟨k,e⟩|⟨k,c,e,z⟩
    .refine .inl ⟨k,?_⟩;have:y≠x:=λe=>hj (Rk hN e1 (e ▸ hi))
     simp[this,e]
    .exact .inr ⟨k,c,e,z.sameBut hs (mZ y c e)⟩
  .obtain⟨w',z⟩:=I.cell y c e;exact⟨w',z.sameBut hs (mZ y c e)⟩
  .obtain⟨e,n,ne,nf,d⟩:=I.pin p hp;exact⟨(hs.2 p.1 ne).trans e,n,ne,nf,d⟩
 .have HS:X.fn x=true:=by
   rcases hf with z|z
   .exact z
   .rw[z] at hk;cases hk
  obtain⟨c,hc⟩:=I.ok.has x (.inl hk);obtain⟨w',z⟩:=I.cell x c hc;refine wpAny_storeName_cell I.ok.kind hk hc z (λh' rC hs=>?_);obtain⟨oc,k9,V2⟩:=id z;refine h { s with heap:=h' } ⟨I.ok,I.os,I.bare,⟨λb o e n hb hx=>?_,λb o e n hb hx=>?_,I.base.free,λb o e hx=>?_,I.base.ko,I.base.jU,I.base.lQ⟩,⟨m,hn.sameBut hs (aeV (mZ x c hc)),λj y v' e1 e2 e3=>?_⟩,λy c' e=>?_,I.free,I.jh,λp hp=>?_,tracked ⟨oc,k9,I.jh x c hc⟩ hs,by simpa using I.len,I.hq⟩ ⟨c,hs,.inr hc⟩
  .exact(hs.2 b (acu (acH (abo e) (I.ok.vG x c HS hc)))).trans (I.base.keep b o e n hb hx)
  .obtain⟨sl,e1⟩:=I.base.slot b o e n hb hx;exact⟨sl,(hs.2 b (acu (acH (abo e) (I.ok.vG x c HS hc)))).trans e1⟩
  .obtain⟨o',e1⟩:=I.base.there b o e hx;exact⟨o',(hs.2 b (acu (acH (abo e) (I.ok.vG x c HS hc)))).trans e1⟩
  .by_cases hj:j=i
   .subst hj;rw[hi] at e1;cases e1;rw[aeo KA] at e2;cases e2;exact⟨u,r,.inr ⟨.inl hk,c,hc,rC⟩⟩
   .rw[acM (aeV hj)] at e2;obtain⟨u',r',q⟩:=hl j y v' e1 e2 e3;refine⟨u',r',?_⟩;rcases q with q|⟨k,c',e,z'⟩
    .exact .inl q
    .refine .inr ⟨k,c',e,z'.sameBut hs ?_⟩
     rintro rfl
     exact hj (Rk hN e1 (I.ok.inj _ _ _ e hc ▸ hi))
  .by_cases PF:c'=c
   .subst PF;exact⟨_,rC⟩
   .obtain⟨w2,z2⟩:=I.cell y c' e;exact⟨w2,z2.sameBut hs PF⟩
  .obtain⟨e,n,ne,nf,d⟩:=I.pin p hp;refine⟨(hs.2 p.1 ?_).trans e,n,ne,nf,d⟩;intro q;rw[q,k9] at e;have q':=abS e;exact d w' (by rw[<- q'];exact V2)
theorem F4{Q:Unit->Shared->Prop}(I:Inv X af σ H s)(hN:X.N.Nodup)(hi:X.N[i]? = some x)(hx:Loc X.env.scope x)(r:RelV v u)
  (h:∀s',Inv X af (σ.set i (some v)) H s'->Q () s') (hf:X.fn x=true\/X.env.scope.names.lookup x=some .local:=by first|exact .inl rfl|exact .inr rfl|assumption):wpAny M A (storeName X.env x u) Q E s:=
 Q5 I hN hi hx r (λs' I' _=>h s' I') hf
theorem Inv.YL(I:Inv X af σ H s)(ho:s'.os=s.os)(u:Un (d_ X.stack) ch H H' s.heap s'.heap)(aI:d7 X.prog X.w H' s'.heap)(hg:AllBare s'.gens)
  (nG:∀b∈ch,(b∈X.ex\/X.eN.heap.objs.size<=b)/\b≠X.env.locals/\(∀x c,X.env.cells.lookup x=some c->c≠b)/\∀p∈X.pn++af,p.1≠b):Inv X af σ H' s':=by
 obtain⟨h',g',d',t',o'⟩:=s';have e:=ho;subst e;exact I.call (g':=g') (d':=d') u aI hg nG
end
abbrev XK:=Value->Option Addr->Hp->Prop
noncomputable abbrev St:=List (Option V)
abbrev VK:=V->Hp->Prop
abbrev TE:=St->Hp->VK->Prop
abbrev TT:=St->Hp->(Bool->Hp->Prop)->Prop
abbrev TA:=St->Hp->(List V->Hp->Prop)->Prop
structure Ends where
 nx:St->Hp->Prop
 rt:VK
 bk:St->Hp->Prop:=λ_ _=>False
 ct:St->Hp->Prop:=λ_ _=>False
abbrev TS:=Ends->St->Hp->Prop
def EP(X:Cx)(af:List (Addr×Obj))(σ:St)(Q:VK)(u:Value)(s':Shared):Prop:=∃v H',Inv X af σ H' s'/\RelV v u/\Q v H'
def TP(X:Cx)(af:List (Addr×Obj))(σ:St)(Q:Bool->Hp->Prop)(b:Bool)(s':Shared):Prop:=∃H',Inv X af σ H' s'/\Q b H'
def AP(X:Cx)(af:List (Addr×Obj))(σ:St)(Q:List V->Hp->Prop)(us:List Value)(s':Shared):Prop:=∃vs H',Inv X af σ H' s'/\aQ vs us/\Q vs H'
def SP(X:Cx)(af:List (Addr×Obj))(D:Ends)(f:Flow)(s':Shared):Prop:=
 match f with
 |.next=>∃aE H',Inv X af aE H' s'/\D.nx aE H'
 |.brk=>∃aE H',Inv X af aE H' s'/\D.bk aE H'
 |.cont=>∃aE H',Inv X af aE H' s'/\D.ct aE H'
 |.ret u=>∃v aE H',Inv X af aE H' s'/\RelV v u/\D.rt v H'
def PE(X:Cx)(e:Expr)(t:TE):Prop:=
 ∀(af:List (Addr×Obj)) (s:Shared) (σ:St) (H:Hp) (Q:VK),Inv X af σ H s->t σ H Q->wpAny (model X.prog X.w) X.A (eval e X.env) (EP X af σ Q) X.xe s
def PT(X:Cx)(e:Expr)(t:TT):Prop:=
 ∀(af:List (Addr×Obj)) (s:Shared) (σ:St) (H:Hp) (Q:Bool->Hp->Prop),Inv X af σ H s->t σ H Q->wpAny (model X.prog X.w) X.A (isTrue e X.env (eval e X.env)) (TP X af σ Q) X.xe s
def PW(X:Cx)(e:Expr)(t:TT):Prop:=
 ∀(whole:Sem Value) (af:List (Addr×Obj)) (s:Shared) (σ:St) (H:Hp) (Q:Bool->Hp->Prop),Inv X af σ H s->t σ H Q->wpAny (model X.prog X.w) X.A (isTrue e X.env whole) (TP X af σ Q) X.xe s
theorem PW.pt{t:TT}(h:PW X e t):PT X e t:=h _
def PA(X:Cx)(es:List Expr)(t:TA):Prop:=
 ∀(pos:Pos) (af:List (Addr×Obj)) (s:Shared) (σ:St) (H:Hp) (Q:List V->Hp->Prop),Inv X af σ H s->t σ H Q->wpAny (model X.prog X.w) X.A (spliced (backTo pos (starEach es X.env))) (AP X af σ Q) X.xe s
def PS(X:Cx)(st:Stmt)(t:TS):Prop:=
 ∀(af:List (Addr×Obj)) (s:Shared) (σ:St) (H:Hp) (D:Ends),Inv X af σ H s->t D σ H->wpAny (model X.prog X.w) X.A (exec st X.env) (SP X af D) X.xe s
def ir(X:Cx)(st:List Stmt)(t:TS):Prop:=
 ∀(af:List (Addr×Obj)) (s:Shared) (σ:St) (H:Hp) (D:Ends),Inv X af σ H s->t D σ H->wpAny (model X.prog X.w) X.A (execs st X.env) (SP X af D) X.xe s
theorem aM{α:Type}{t:Sem α}{Q Q':α->Shared->Prop}(h:wpAny M A t Q E s)(hQ:∀a s,Q a s->Q' a s):wpAny M A t Q' E s:=aeR h hQ λ_ _ x=>x
section
variable{X:Cx}
def n5(i:Nat):TE:=λσ H Q=>∃v,σ[i]? = some (some v)/\Q v H
def tC(v:V):TE:=λ_ H Q=>Q v H
theorem Jb(hN:X.N[i]? = some x)(hv:AD X.env.scope x)(hd:(x==("__debug__":Str))=false:=by decide)(l_:(x==("__classdict__":Str))=false:=by decide):PE X (.Name x pos) (n5 i):=by
 intro af s σ H Q I h;obtain⟨v,e,h⟩:=h;obtain⟨m,hn,hl⟩:=I.loc;obtain⟨u,r,l⟩:=hl i x v hN e hv;have fin:EP X af σ Q u s:=⟨v,H,I,r,h⟩
 rcases l with⟨hk,hm⟩|⟨hk,c,hc,Pc⟩
 .exact wpAny_Name (wpAny_loadName_local I.ok.kind hk hn hm fin) hd
 .rcases hk with hk|hk
  .exact wpAny_Name (wpAny_loadName_cell I.ok.kind hk hc Pc fin) hd
  .exact wpAny_Name (wpAny_loadName_free I.ok.kind hk hc Pc fin l_) hd
theorem HL{i j pos}:PE X (.Constant (.int i) j pos) (tC (.int i)):=λ_ _ _ H _ I h=>wpAny_Constant_int ⟨.int i,H,I.tok _,⟨_,rfl⟩,h⟩
theorem aah{b j pos}:PE X (.Constant (.bool b) j pos) (tC (.bl b)):=λ_ _ _ H _ I h=>Constant_bool ⟨.bl b,H,I,rfl,h⟩
theorem aei{j pos}:PE X (.Constant .none j pos) (tC .aD):=λ_ _ _ H _ I h=>Constant_none ⟨.aD,H,I,rfl,h⟩
theorem MR{x j pos}:PE X (.Constant (.str x) j pos) (tC (.str x)):=λ_ _ _ H _ I h=>Calls.Constant_str ⟨.str x,H,I.tok _,⟨_,rfl⟩,h⟩
def Gl(X:Cx)(x:Str):Prop:=X.env.kindOf x=some .globalImplicit
theorem B4(I:Inv X af σ H s)(hg:Gl X x)(hm:X.mg x=some u)(h:Q u s)
  (hd:(x==("__debug__":Str))=false:=by decide):wpAny (model X.prog X.w) X.A (eval (.Name x pos) X.env) Q E s:=
 Calls.Name_function_global I.ok.kind hg (Calls.loadGlobal_global (by rw[I.ok.glob];exact I.mod.glob.keeps I.bk) hm h) hd
theorem qC(I:Inv X af σ H s)(hg:Gl X x)(hm:X.mg x=none)(hv:bootBuiltins x=some u)(h:Q u s)
  (hn:x≠"__name__":=by decide) (hd:(x==("__debug__":Str))=false:=by decide):wpAny (model X.prog X.w) X.A (eval (.Name x pos) X.env) Q E s:=by
 obtain⟨mb,h1,h2⟩:=I.mod.blt;exact Calls.Name_function_global I.ok.kind hg (Calls.loadGlobal_builtin (by rw[I.ok.glob];exact I.mod.glob.keeps I.bk) hm (by rw[I.ok.blt];exact h1.keeps I.bk) ((h2 x hn).trans hv) h) hd
theorem Lw(hg:Gl X x)(hm:X.mg x=some u)(r:RelV v u)(hd:(x==("__debug__":Str))=false:=by decide):PE X (.Name x pos) (tC v):=
 λ_ _ _ H _ I h=>B4 I hg hm ⟨v,H,I,r,h⟩ hd
theorem aaL{x:Str}{v:V}{u:Value}{pos:Pos}(hg:Gl X x)(hm:X.mg x=none)(hv:bootBuiltins x=some u)(r:RelV v u)(hn:x≠"__name__":=by decide)(hd:(x==("__debug__":Str))=false:=by decide):PE X (.Name x pos) (tC v):=
 λ_ _ _ H _ I h=>qC I hg hm hv ⟨v,H,I,r,h⟩ hn hd
variable{a b:Expr}{ta tb:TE}{pos:Pos}
def PC(X:Cx)(op:CmpOp)(a b:Expr)(t:TE):Prop:=
 ∀(af:List (Addr×Obj)) (s:Shared) (σ:St) (H:Hp) (Q:VK),Inv X af σ H s->t σ H Q->
  wpAny (model X.prog X.w) X.A (eval a X.env) (λv bN=>wpAny (model X.prog X.w) X.A (eval b X.env) (λu qT=>wpAny (model X.prog X.w) X.A (compareOp op v u) (EP X af σ Q) X.xe qT) X.xe bN) X.xe s
def tB(t:TE):TT:=λσ H Q=>t σ H λx H1=>∃c,x=.bl c/\Q c H1
theorem LJ{op:CmpOp}(h:PC X op a b t)(h1:behindInMarks op b=false:=by first|exact ZU _ (by decide) (by decide)|rfl):PE X (.Compare a [op] [b] pos) t:=λaf s σ H Q I hw=>wpAny_Compare1 (h af s σ H Q I hw) h1
theorem YK{op:CmpOp}{t:TE}(h:PC X op a b t)(h1:behindInMarks op b=false:=by first|exact ZU _ (by decide) (by decide)|rfl):PT X (.Compare a [op] [b] pos) (tB t):=by
 intro af s σ H Q I hw;refine wpAny_isTrue_Compare1 (aM (h af s σ H _ I hw) λv s1 h1=>aM h1 λu s2 h2=>aM h2 λc s3 ⟨x,H1,I1,r1,q1⟩=>?_) h1;obtain⟨d,rfl,q⟩:=q1;cases r1;exact aeG ⟨H1,I1,q⟩
theorem P7(h:PE X e t)(he:∀whole,isTrue e X.env whole=(do let v <- whole;standAt e.pos;holding [v] (truthy v)):=by intro _;rfl):PT X e (tB t):=by
 intro af s σ H Q I hw;refine isTrue_plain (aM (h af s σ H _ I hw) λv s1 ⟨x,H1,I1,r1,q1⟩=>?_) (he _);obtain⟨d,rfl,q⟩:=q1;cases r1;exact aeG ⟨H1,I1,q⟩
variable{tA Aj:TT}{rest:List Expr}
def Xf(t u:TT):TT:=λσ H Q=>t σ H λc H1=>if c=true then u σ H1 Q else Q false H1
def Xn(t u:TT):TT:=λσ H Q=>t σ H λc H1=>if c=true then Q true H1 else u σ H1 Q
def RJ(t:TT):TT:=λσ H Q=>t σ H λc H1=>Q (!c) H1
theorem Jo(ha:PT X a tA):PW X (.BoolOp .And [a] pos) tA:=by
 intro wh af s σ H Q I h;refine isTrue_and (aM (ha af s σ H Q I h) λc s1 e=>?_);cases c with
 |true=>exact isTrue_and_nil e
 |false=>exact e
theorem acj(ha:PT X a tA):PW X (.BoolOp .Or [a] pos) tA:=by
 intro wh af s σ H Q I h;refine isTrue_or (aM (ha af s σ H Q I h) λc s1 e=>?_);cases c with
 |false=>exact isTrue_or_nil e
 |true=>exact e
theorem NJ(ha:PT X a tA)(hb:PW X (.BoolOp .And (b::rest) pos) Aj):PW X (.BoolOp .And (a::b::rest) pos) (Xf tA Aj):=by
 intro wh af s σ H Q I h;refine isTrue_and (aM (ha af s σ H _ I h) λc s1 ⟨H1,I1,q1⟩=>?_);cases c with
 |true=>exact hb wh af s1 σ H1 Q I1 q1
 |false=>exact⟨H1,I1,q1⟩
theorem Y9(ha:PT X a tA)(hb:PW X (.BoolOp .Or (b::rest) pos) Aj):PW X (.BoolOp .Or (a::b::rest) pos) (Xn tA Aj):=by
 intro wh af s σ H Q I h;refine isTrue_or (aM (ha af s σ H _ I h) λc s1 ⟨H1,I1,q1⟩=>?_);cases c with
 |true=>exact⟨H1,I1,q1⟩
 |false=>exact hb wh af s1 σ H1 Q I1 q1
theorem SQ(ha:PT X a tA):PT X (.UnaryOp .Not a pos) (RJ tA):=by
 intro af s σ H Q I h;exact isTrue_not (ha af s σ H (λc H1=>Q (!c) H1) I h)
def ZT(ta tb:TE):TE:=λσ H Q=>ta σ H λx H1=>∃c,x=.bl c/\if c=true then tb σ H1 Q else Q (.bl false) H1
def aep(ta tb:TE):TE:=λσ H Q=>ta σ H λx H1=>∃c,x=.bl c/\if c=true then Q (.bl true) H1 else tb σ H1 Q
def XU(ta:TE):TE:=λσ H Q=>ta σ H λx H1=>∃c,x=.bl c/\Q (.bl (!c)) H1
theorem OB{op}(h:PE X a t):PE X (.BoolOp op [a] pos) t:=λaf s σ H Q I hw=>BoolOp_one (h af s σ H Q I hw)
theorem Tw(ha:PE X a ta)(hb:PE X (.BoolOp .And (b::rest) pos) tb):PE X (.BoolOp .And (a::b::rest) pos) (ZT ta tb):=by
 intro af s σ H Q I h;refine BoolOp_and (aM (ha af s σ H _ I h) λv s1 ⟨x,H1,I1,r1,q1⟩=>?_);obtain⟨c,rfl,q1⟩:=q1;cases r1;refine aeG ?_;cases c with
 |true=>exact hb af s1 σ H1 Q I1 q1
 |false=>exact⟨.bl false,H1,I1,rfl,q1⟩
theorem JM(ha:PE X a ta)(hb:PE X (.BoolOp .Or (b::rest) pos) tb):PE X (.BoolOp .Or (a::b::rest) pos) (aep ta tb):=by
 intro af s σ H Q I h;refine BoolOp_or (aM (ha af s σ H _ I h) λv s1 ⟨x,H1,I1,r1,q1⟩=>?_);obtain⟨c,rfl,q1⟩:=q1;cases r1;refine aeG ?_;cases c with
 |false=>exact hb af s1 σ H1 Q I1 q1
 |true=>exact⟨.bl true,H1,I1,rfl,q1⟩
theorem Zy(ha:PE X a ta):PE X (.UnaryOp .Not a pos) (XU ta):=by
 intro af s σ H Q I h;refine UnaryOp_ (aM (ha af s σ H _ I h) λv s1 ⟨x,H1,I1,r1,q1⟩=>?_);obtain⟨c,rfl,q1⟩:=q1;cases r1;exact not_of (aeG ⟨.bl (!c),H1,I1,rfl,q1⟩)
def Zp(t:TT)(ta tb:TE):TE:=λσ H Q=>t σ H λc H1=>if c=true then ta σ H1 Q else tb σ H1 Q
theorem Yh{c:Expr}(hc:PT X c tA)(ha:PE X a ta)(hb:PE X b tb):PE X (.IfExp c a b pos) (Zp tA ta tb):=by
 intro af s σ H Q I h;refine wpAny_IfExp (aM (hc af s σ H _ I h) λd s1 ⟨H1,I1,q1⟩=>?_);cases d with
 |true=>exact ha af s1 σ H1 Q I1 q1
 |false=>exact hb af s1 σ H1 Q I1 q1
end
def bY(K:PySem.W.Frag)(H:Hp)(a:Addr)(xs:List V):Prop:=
 Rd H a (.lst xs)\/
  ∃(o:Obj) (au:Array Value) (n:Nat),K.lookup a=some o/\o.cls=.type "list"/\o.dict=none/\o.data=.seq au n/\au.size<=sizeLine/\aQ xs au.toList
def cg(K:PySem.W.Frag)(H:Hp)(a:Addr)(xs:List V):Prop:=
 Rd H a (.tup xs)\/
  ∃(o:Obj) (au:Array Value) (n:Nat),K.lookup a=some o/\o.cls=.type "tuple"/\o.dict=none/\o.data=.seq au n/\au.size<=sizeLine/\aQ xs au.toList
noncomputable def SN:Value->Option V
 |.none=>some .aD
 |.bool b=>some (.bl b)
 |.int i _=>some (.int i)
 |.str x _=>some (.str x)
 |.bytes b _=>some (.jE b)
 |.float b _=>some (.sU b)
 |.ref a=>some (.ref a)
 |.type n=>some (.ty n)
 |_=>none
theorem RelV.abs(r:RelV x u):SN u=some x:=by
 cases x with
 |aD=>cases r;rfl
 |bl _=>cases r;rfl
 |int _=>obtain⟨t,rfl⟩:=r;rfl
 |str _=>obtain⟨t,rfl⟩:=r;rfl
 |jE _=>obtain⟨t,rfl⟩:=r;rfl
 |sU _=>obtain⟨t,rfl⟩:=r;rfl
 |ref _=>cases r;rfl
 |ty _=>cases r;rfl
theorem RelV.inj(r:RelV x u)(q:RelV y u):x=y:=abS (r.abs.symm.trans q.abs)
theorem aQ.inj:∀{xs ys:List V}{us:List Value},aQ xs us->aQ ys us->xs=ys
 |_,_,_,.nil,.nil=>rfl
 |_,_,_,.cons r t,.cons r' t'=>by rw[r.inj r',aQ.inj t t']
section
variable{X:Cx}{af:List (Addr×Obj)}{σ:St}{H:Hp}{s:Shared}{a:Addr}{xs ys:List V}
theorem bY.of{K:PySem.W.Frag}(h:H a=some (.lst xs)):bY K H a xs:=.inl (.inl h)
theorem cg.of{K:PySem.W.Frag}(h:H a=some (.tup xs)):cg K H a xs:=.inl (.inl h)
theorem Inv.list(I:Inv X af σ H s)(h:bY X.K H a xs):∃au:List Value,aQ xs au/\PlainL s.heap a au.toArray/\xs.length<=sizeLine:=by
 rcases h with h|⟨o,au,n,hk,hc,hd,hs,hz,r⟩
 .obtain⟨z,au,n,r,e⟩:=h.ok I.aI;exact⟨au,r,⟨_,n,e,rfl,rfl,rfl⟩,z⟩
 .refine⟨au.toList,r,⟨o,n,I.eU a o hk,hc,hd,by simpa using hs⟩,?_⟩;have e:=r.length;simp only[aeu] at e;omega
theorem Inv.Nf(I:Inv X af σ H s)(h:cg X.K H a xs):∃au:List Value,aQ xs au/\nY s.heap a au.toArray/\xs.length<=sizeLine:=by
 rcases h with h|⟨o,au,n,hk,hc,hd,hs,hz,r⟩
 .obtain⟨z,au,r,p⟩:=h.ok I.aI;exact⟨au,r,p,z⟩
 .refine⟨au.toList,r,⟨o,I.eU a o hk,hc,hd,n,by simpa using hs⟩,?_⟩;have e:=r.length;simp only[aeu] at e;omega
theorem Inv.tuple(I:Inv X af σ H s)(h:cg X.K H a xs):∃au:List Value,aQ xs au/\IsTup s.heap a au.toArray/\xs.length<=sizeLine:=by
 rcases h with h|⟨o,au,n,hk,hc,hd,hs,hz,r⟩
 .obtain⟨z,au,r,p⟩:=h.ok I.aI;exact⟨au,r,p.isTup,z⟩
 .refine⟨au.toList,r,⟨o,I.eU a o hk,hc,n,by simpa using hs⟩,?_⟩;have e:=r.length;simp only[aeu] at e;omega
theorem Inv.C6(I:Inv X af σ H s)(h:bY X.K H a xs)(h':bY X.K H a ys):xs=ys:=by
 obtain⟨au,r,⟨o,n,e,_,_,d⟩,_⟩:=I.list h;obtain⟨its',r',⟨o',n',e',_,_,d'⟩,_⟩:=I.list h';rw[e] at e';cases e';rw[d] at d';injection d' with d1 _;have:au=its':=by simpa using congrArg Array.toList d1
 subst this;exact r.inj r'
theorem Inv.aex(I:Inv X af σ H s)(h:cg X.K H a xs)(h':cg X.K H a ys):xs=ys:=by
 obtain⟨au,r,⟨o,e,_,n,d⟩,_⟩:=I.tuple h;obtain⟨its',r',⟨o',e',_,n',d'⟩,_⟩:=I.tuple h';rw[e] at e';cases e';rw[d] at d';injection d' with d1 _;have:au=its':=by simpa using congrArg Array.toList d1
 subst this;exact r.inj r'
end
noncomputable abbrev Cx.l8(X:Cx)(E:Value->Shared->Prop):Cx:={ X with xe:=E }
abbrev Cx.gP(X:Cx):Cx:=X.l8 λ_ _=>False
theorem Cx.Ok.l8{X:Cx}(ok:X.Ok)(E:Value->Shared->Prop):(X.l8 E).Ok:=
 ⟨ok.mod,ok.kind,ok.glob,ok.blt,ok.above,ok.inj,ok.has,ok.vG,ok.hd,ok.frames,ok.vO,ok.Bm,ok.bs,ok.kD,ok.vq,ok.ud,ok.kC,ok.qo⟩
theorem Cx.Ok.oz{X:Cx}{E:Value->Shared->Prop}(ok:(X.l8 E).Ok):X.Ok:=
 ⟨ok.mod,ok.kind,ok.glob,ok.blt,ok.above,ok.inj,ok.has,ok.vG,ok.hd,ok.frames,ok.vO,ok.Bm,ok.bs,ok.kD,ok.vq,ok.ud,ok.kC,ok.qo⟩
section
variable{X:Cx}{af:List (Addr×Obj)}{σ:St}{H:Hp}{s:Shared}{E:Value->Shared->Prop}
theorem Inv.l8(I:Inv X af σ H s)(E:Value->Shared->Prop):Inv (X.l8 E) af σ H s:=⟨I.ok.l8 E,I.os,I.bare,I.base,I.loc,I.cell,I.free,I.jh,I.pin,I.aI,I.len,I.hq⟩
theorem Inv.oz(I:Inv (X.l8 E) af σ H s):Inv X af σ H s:=⟨I.ok.oz,I.os,I.bare,I.base,I.loc,I.cell,I.free,I.jh,I.pin,I.aI,I.len,I.hq⟩
theorem SP.oz{D:Ends}{f:Flow}(h:SP (X.l8 E) af D f s'):SP X af D f s':=by
 cases f with
 |next=>obtain⟨aE,H',I,q⟩:=h;exact⟨aE,H',I.oz,q⟩
 |brk=>obtain⟨aE,H',I,q⟩:=h;exact⟨aE,H',I.oz,q⟩
 |cont=>obtain⟨aE,H',I,q⟩:=h;exact⟨aE,H',I.oz,q⟩
 |ret u=>obtain⟨v,aE,H',I,r,q⟩:=h;exact⟨v,aE,H',I.oz,r,q⟩
theorem ir.gP{st:List Stmt}(h:ir X.gP st t):ir X st t:=λaf s σ H D I hw=>
 aeR (h af s σ H D (I.l8 _) hw) (λ_ _ q=>q.oz) λ_ _ z=>False.elim z
end
section
variable{X:Cx}{st:Stmt}{rest:List Stmt}{t u:TS}{e:Expr}{te:TE}{pos:Pos}
def U3:TS:=λD σ H=>D.nx σ H
def SS(t u:TS):TS:=λD σ H=>t { D with nx:=u D } σ H
theorem Qa:ir X [] U3:=λ_ _ σ H _ I h=>wpAny_execs_nil ⟨σ,H,I,h⟩
theorem yD(h1:PS X st t)(h2:ir X rest u):ir X (st::rest) (SS t u):=by
 intro af s σ H D I h;refine wpAny_execs_cons (aM (h1 af s σ H { D with nx:=u D } I h) λf s1 q=>?_);cases f with
 |next=>
  obtain⟨aE,H',I',q⟩:=q;exact h2 af s1 aE H' D I' q
 |ret v=>exact q
 |brk=>exact q
 |cont=>exact q
theorem MX(h1:PS X st t):ir X [st] t:=by
 intro af s σ H D I h;refine wpAny_execs_cons (aM (h1 af s σ H D I h) λf s1 q=>?_);cases f with
 |next=>exact wpAny_execs_nil q
 |ret v=>exact q
 |brk=>exact q
 |cont=>exact q
theorem Inv.quiet(I:Inv X af σ H s):interactive X.env=false:=by simp[interactive,I.ok.kind]
def aa4(te:TE):TS:=λD σ H=>te σ H λ_ H1=>D.nx σ H1
theorem AK(he:PE X e te)(hs:swapsWith e none pos.line X.env=pure false:=by rfl):PS X (.Expr e pos) (aa4 te):=by
 intro af s σ H D I h;exact wpAny_Expr_any (aM (he af s σ H _ I h) λv s1 ⟨x,H1,I1,r1,q1⟩=>⟨σ,H1,I1,q1⟩) I.quiet hs
def S1(te:TE):TS:=λD σ H=>te σ H D.rt
theorem wY(he:PE X e te):PS X (.Return (some e) pos) (S1 te):=by
 intro af s σ H D I h;exact wpAny_Return_some (aM (he af s σ H _ I h) λv s1 ⟨x,H1,I1,r1,q1⟩=>⟨x,σ,H1,I1,r1,q1⟩)
def Zz(c:TT)(t u:TS):TS:=λD σ H=>c σ H λb H1=>if b=true then t D σ H1 else u D σ H1
theorem NB{tc:TT}(hc:PT X c tc)(ha:ir X a t)(hb:ir X b u):PS X (.If c a b pos) (Zz tc t u):=by
 intro af s σ H D I h;refine wpAny_If (aM (hc af s σ H _ I h) λd s1 ⟨H1,I1,q1⟩=>?_);cases d with
 |true=>exact ha af s1 σ H1 D I1 q1
 |false=>exact hb af s1 σ H1 D I1 q1
def WK:TS:=λ_ _ _=>False
theorem Kz:PS X st WK:=λ_ _ _ _ _ _ h=>h.elim
end
abbrev TG:=V->St->Hp->(St->Hp->Prop)->Prop
abbrev sM:=List V->St->Hp->(St->Hp->Prop)->Prop
def PG(X:Cx)(target:Expr)(t:TG):Prop:=
 ∀(af:List (Addr×Obj)) (s:Shared) (σ:St) (H:Hp) (v:V) (u:Value) (Q:St->Hp->Prop),Inv X af σ H s->RelV v u->t v σ H Q->
  wpAny (model X.prog X.w) X.A (assign target X.env u) (λ_ s'=>∃aE H',Inv X af aE H' s'/\Q aE H') X.xe s
def xY(X:Cx)(ts:List Expr)(t:sM):Prop:=
 ∀(af:List (Addr×Obj)) (s:Shared) (σ:St) (H:Hp) (vs:List V) (us:List Value) (Q:St->Hp->Prop),Inv X af σ H s->aQ vs us->t vs σ H Q->
  wpAny (model X.prog X.w) X.A (assignInOrder ((assignEach ts X.env).map (·.2)) us) (λ_ s'=>∃aE H',Inv X af aE H' s'/\Q aE H') X.xe s
abbrev EY:=V->V->V->Hp->(Hp->Prop)->Prop
def QY(X:Cx)(t:EY):Prop:=
 ∀(af:List (Addr×Obj)) (s:Shared) (σ:St) (H:Hp) (o i v:V) (ov iv u:Value) (Q:Hp->Prop),Inv X af σ H s->RelV o ov->RelV i iv->RelV v u->t o i v H Q->
  wpAny (model X.prog X.w) X.A (setItem ov iv u) (λ_ s'=>∃H',Inv X af σ H' s'/\Q H') X.xe s
section
variable{X:Cx}{pos:Pos}
def rV(i:Nat):TG:=λv σ H Q=>Q (σ.set i (some v)) H
theorem L3(hN:X.N.Nodup)(hi:X.N[i]? = some x)(hx:Loc X.env.scope x)(hf:X.fn x=true\/X.env.scope.names.lookup x=some .local:=by first|exact .inl rfl|exact .inr rfl|assumption):PG X (.Name x pos) (rV i):=by
 intro af s σ H v u Q I r h;exact wpAny_assign_Name (F4 I hN hi hx r (λs' I'=>⟨_,H,I',h⟩) hf)
def Us:sM:=λvs σ H Q=>vs=[]/\Q σ H
def aaV(t:TG)(u:sM):sM:=λvs σ H Q=>∃v r,vs=v::r/\t v σ H λaE H'=>u r aE H' Q
theorem Xg:xY X [] Us:=by
 intro af s σ H vs us Q I r h;obtain⟨e,h⟩:=h;subst e;cases r;exact assignInOrder_nil ⟨σ,H,I,h⟩
theorem Ti{u:sM}(h1:PG X e t)(h2:xY X es u)
  (hs:(assignEach (e::es) X.env).map (·.2)=assign e X.env::(assignEach es X.env).map (·.2):=by rfl):xY X (e::es) (aaV t u):=by
 intro af s σ H vs us Q I r h;obtain⟨v,vr,e1,h⟩:=h;subst e1;cases r with
 |cons r rr=>
  rw[hs];refine assignInOrder_cons (aM (h1 af s σ H _ _ _ I r h) λ_ s1 ⟨mO,H1,I1,q1⟩=>?_);exact h2 af s1 mO H1 _ _ Q I1 rr q1
def R1(K:PySem.W.Frag)(n:Nat)(t:sM):TG:=λv σ H Q=>∃a xs,v=.ref a/\cg K H a xs/\xs.length=n/\t xs σ H Q
theorem X0{t:sM}(hc:X.calm=true)(h:xY X es t)
  (hn:(assignEach es X.env).length=n:=by rfl) (iE:(assignEach es X.env).findIdx? (·.1)=none:=by rfl):PG X (.Tuple es k pos) (R1 X.K n t):=by
 intro af s σ H v u Q I r hw;obtain⟨a,xs,e1,hq,hl,hw⟩:=hw;subst e1;cases r;obtain⟨au,rv,ht,hz⟩:=I.tuple hq;refine assign_Tuple_tuple (I.ok.hd hc) ht (by simp[hn,<- hl,rv.length]) iE λh' hx=>?_
 have I1:=I.kept (t':=s.toks) λb o e=>hx b o (acu (abo e)) e
 exact h af _ σ H xs _ Q I1 (by simpa using rv) hw
def Uu(to ti:TE)(t:EY):TG:=λv σ H Q=>to σ H λo H1=>ti σ H1 λi H2=>t o i v H2 λH3=>Q σ H3
theorem Jk{t:EY}(ho:PE X o to)(hi:PE X i ti)(hs:QY X t)
  (ha:∀v,assign (.Subscript o i pos) X.env v=(do
   let ov <- holding [v] (eval o X.env)
   let iv <- holding [v,ov] (eval i X.env)
   standAt pos
   holding [v,ov,iv] (setItem ov iv v)
   release [v,ov,iv] []):=by intro _;rfl):PG X (.Subscript o i pos) (Uu to ti t):=by
 intro af s σ H v u Q I r h;rw[ha];refine aaQ (aeU (aM (ho af s σ H _ I h) λov s1 ⟨x,H1,I1,r1,q1⟩=>?_));refine aaQ (aeU (aM (hi af s1 σ H1 _ I1 q1) λiv s2 ⟨y,H2,I2,r2,q2⟩=>?_));refine aaQ (wpAny_standAt (aaQ (aeU (aM (hs af s2 σ H2 x y v ov iv u _ I2 r1 r2 r q2) λ_ s3 ⟨H3,I3,q3⟩=>?_))));exact wpAny_release ⟨σ,H3,I3,q3⟩
def Cb(te:TE)(g:TG):TS:=λD σ H=>te σ H λx H1=>g x σ H1 D.nx
theorem Jd(he:PE X e te)(hg:PG X tg g)(hs:swapsWithSole [tg] e pos.line X.env=pure false:=by rfl)(hw:swappedStores [tg] e X.env=pure none:=by rfl)
  (h1:(assignEach [tg] X.env).map (·.2)=[assign tg X.env]:=by rfl):PS X (.Assign [tg] e pos) (Cb te g):=by
 intro af s σ H D I h;refine wpAny_Assign_stores (aM (he af s σ H _ I h) λv s1 ⟨x,H1,I1,r1,q1⟩=>?_) hs hw;rw[h1];exact aM (hg af s1 σ H1 x v _ I1 r1 q1) λ_ s2 q=>q
theorem zB(hN:X.N.Nodup)(hi:X.N[i]? = some x)(hx:Loc X.env.scope x)(he:PE X e te)(hs:swapsWith e (some (.Name x pos')) pos.line X.env=pure false:=by rfl)(hf:X.fn x=true\/X.env.scope.names.lookup x=some .local:=by first|exact .inl rfl|exact .inr rfl|assumption):
  PS X (.Assign [.Name x pos'] e pos) (Cb te (rV i)):=by
 intro af s σ H D I h;refine wpAny_Assign_Name (aM (he af s σ H _ I h) λv s1 ⟨y,H1,I1,r1,q1⟩=>?_) hs;exact F4 I1 hN hi hx r1 (λs2 I2=>⟨_,H1,I2,q1⟩) hf
def V6(c:TT)(tb:TS):TS:=λD σ H=>∃W:Nat->St->Hp->Prop,(∃m,W m σ H)/\∀m σ H,W m σ H->
 c σ H λb H1=>if b=true then ∃N:St->Hp->Prop,(∀aE H',N aE H'->∃m',m'<m/\W m' aE H')/\tb { D with nx:=N,ct:=N,bk:=D.nx } σ H1 else D.nx σ H1
theorem Ol{c:Expr}{body:List Stmt}{tc:TT}{tb:TS}(hp:PassesOwn (model X.prog X.w) X.A X.env X.xe)(hc:PT X c tc)(hb:ir X body tb):PS X (.While c body [] pos) (V6 tc tb):=by
 intro af s σ H D I h;obtain⟨W,⟨m0,w0⟩,turn⟩:=h;refine wpAny_While (codeAny_whileLoop (λn s'=>∃aE H',Inv X af aE H' s'/\W n aE H') ?_ m0 ⟨σ,H,I,w0⟩)
 rintro n s1 ⟨mO,H1,I1,w1⟩
 refine aft hp (aM (hc af s1 mO H1 _ I1 (turn n mO H1 w1)) λb s2 ⟨H2,I2,q2⟩=>?_);cases b with
 |true=>
  obtain⟨N,hN,q2⟩:=q2;rw[if_pos rfl];refine aft hp (aM (hb af s2 mO H2 _ I2 q2) λf s3 q3=>?_);cases f with
  |next=>
   obtain⟨cX,H3,I3,n3⟩:=q3;obtain⟨m',hm,w3⟩:=hN cX H3 n3;exact⟨m',hm,cX,H3,I3,w3⟩
  |cont=>
   obtain⟨cX,H3,I3,n3⟩:=q3;obtain⟨m',hm,w3⟩:=hN cX H3 n3;exact⟨m',hm,cX,H3,I3,w3⟩
  |brk=>exact q3
  |ret v=>exact q3
 |false=>
  rw[if_neg aa6];exact wpAny_execs_nil ⟨mO,H2,I2,q2⟩
end
structure It where
 go:Nat->Hp->Prop
 yd:Nat->Hp->V->Hp->Prop
 stop:Nat->Hp->Prop
 rg:Bool
def iH(X:Cx)(af:List (Addr×Obj))(H:Hp)(b:Addr):Prop:=
 H b=none/\b≠X.env.locals/\b∉X.fs/\(b∈X.ex\/X.eN.heap.objs.size<=b)/\(∀x c,X.env.cells.lookup x=some c->c≠b)/\∀p∈X.pn++af,p.1≠b
theorem Inv.pO(I:Inv X af σ H s)(hb:s.heap.objs.size<=b)(hn:H' b=none):iH X af H' b:=by
 refine⟨hn,afg (acH I.lt hb),I.Q_ hb,.inr (adw I.sz hb),λx c e z=>?_,λp hp z=>?_⟩
 .obtain⟨v,q⟩:=I.cell x c e;exact absurd (acH q.lt (by rw[z];exact hb)) (aeq _)
 .exact absurd (acH (abo (I.pin p hp).1) (by rw[z];exact hb)) (aeq _)
structure Turn(P:Program)(w:World)(K:PySem.W.Frag)(tg:Expr)(J:It)(fp:List Addr)(it:Addr)(tn:Nat->Heap->Prop):Prop where
 mem:it∈fp
 obj:∀i h,tn i h->∀b∈fp,∃o,h.get? b=some o/\∀v,o.data≠.cell v
 keep:∀i h h',tn i h->(∀b∈fp,∀o,h.get? b=some o->h'.get? b=some o)->tn i h'
 item:∀(X:Cx),X.prog=P->X.w=w->X.K=K->(X.calm=true\/J.rg=true)->∀(i:Nat) (af:List (Addr×Obj)) (s:Shared) (σ:St) (H:Hp) (E:Value->Shared->Prop),Inv X af σ H s->(∀b∈fp,iH X af H b)->tn i s.heap->J.go i H->
  wpAny (model P w) X.A (pyNext (.ref it)) (λr s1=>∃u,r=some u/\
   wpAny (model P w) X.A (letOwnedTupleGo tg (.ref it) u) (λ_ s2=>∃x H',Inv X af σ H' s2/\RelV x u/\J.yd i H x H'/\tn (i+1) s2.heap/\∀b∈fp,H' b=none) E s1) E s
 done:∀(X:Cx),X.prog=P->X.w=w->X.K=K->(X.calm=true\/J.rg=true)->∀(i:Nat) (af:List (Addr×Obj)) (s:Shared) (σ:St) (H:Hp) (E:Value->Shared->Prop),Inv X af σ H s->(∀b∈fp,iH X af H b)->tn i s.heap->J.stop i H->
  wpAny (model P w) X.A (pyNext (.ref it)) (λr s1=>r=none/\Inv X af σ H s1) E s
 self:∀(A:Around) (i:Nat) (s:Shared) (Q:Value->Shared->Prop) (E:Value->Shared->Prop),tn i s.heap->Q (.ref it) s->wpAny (model P w) A (pyIter (.ref it)) Q E s
abbrev TI:=St->Hp->(It->Hp->Prop)->Prop
def I_(X:Cx)(af:List (Addr×Obj))(σ:St)(tg:Expr)(R:It->Hp->Prop)(zX:Value)(s2:Shared):Prop:=
 ∃(it:Addr) (fp:List Addr) (tn:Nat->Heap->Prop) (J:It) (H':Hp),zX=.ref it/\Inv X af σ H' s2/\Turn X.prog X.w X.K tg J fp it tn/\tn 0 s2.heap/\(∀b∈fp,iH X af H' b)/\R J H'
def PI(X:Cx)(tg iter:Expr)(wi:TI):Prop:=
 ∀(af:List (Addr×Obj)) (s:Shared) (σ:St) (H:Hp) (R:It->Hp->Prop),Inv X af σ H s->wi σ H R->
  wpAny (model X.prog X.w) X.A (eval iter X.env) (λv s1=>wpAny (model X.prog X.w) X.A (pyIter v) (I_ X af σ tg R) X.xe s1) X.xe s
theorem Ad{n:String}{Q:Unit->Shared->Prop}(ho:s.heap.get? it=some o)(hc:o.cls=.type n)(hd:o.data=.fields vs)
    (hn:["enumerate","zip","dict_itemiterator","dict_reverseitemiterator","odict_iterator","itertools.zip_longest","itertools.pairwise"].contains n=false) (hQ:Q () s):wpAny M A (letOwnedTupleGo tg (.ref it) u) Q E s:=by
  unfold letOwnedTupleGo;cases tg<;>first
    |exact acr hQ
    | (cases u <;> first
        |exact acr hQ
        | (refine aaQ (wpAny_load ho ?_)
           rw[hc,hd];show wpAny M A (if(["enumerate","zip","dict_itemiterator","dict_reverseitemiterator","odict_iterator","itertools.zip_longest","itertools.pairwise"].contains n&&vs[0]?==some (rawInt _))=true then _ else _) Q E s;rw[if_neg (by intro h;rw[hn,Bool.false_and] at h;cases h)];exact acr hQ))
noncomputable def BC(K:PySem.W.Frag)(a:Addr):It:=
 ⟨λi H=>∃xs x,bY K H a xs/\xs[i]? = some x,λi H x H'=>H'=H/\∀xs,bY K H a xs->xs[i]? = some x,λi H=>∃xs,bY K H a xs/\xs.length<=i,false⟩
noncomputable def Cq(K:PySem.W.Frag)(a:Addr):It:=
 ⟨λi H=>∃xs x,cg K H a xs/\xs[i]? = some x,λi H x H'=>H'=H/\∀xs,cg K H a xs->xs[i]? = some x,λi H=>∃xs,cg K H a xs/\xs.length<=i,false⟩
def wz(lo:Int)(n:Nat):It:=⟨λi _=>i<n,λi H x H'=>H'=H/\x=.int (lo+i),λi _=>n<=i,true⟩
theorem ZZ{K:PySem.W.Frag}(a it:Addr):Turn P w K tg (BC K a) [it] it (λi h=>h.IsListIter it a i) where
 mem:=by simp
 obj:=λi h st b hb=>by
  have e:b=it:=by simpa using hb
  subst e;obtain⟨o,e,c,d⟩:=st;exact⟨o,e,λv z=>by rw[d] at z;cases z⟩
 keep:=λi h h' st k=>st.at λo e=>k it (by simp) o e
 item:=by
  intro X hP hw hK hc i af s σ H E I hf st hg;subst hP hw hK;obtain⟨xs,x,hq,hx⟩:=hg;obtain⟨au,rv,p,hz⟩:=I.list hq;obtain⟨u,hu,ru⟩:=rv.get hx;obtain⟨f0,f1,f2,f3,f4,f5⟩:=hf it (by simp);refine wpAny_pyNext_list_item st p.isList (by simpa using hu) λh' kP sb=>?_
  have I1:Inv X af σ H { s with heap:=h' }:=I.turned (λb o hb e=>(sb.2 b hb).trans e) f0 f1 f3 f4 f5;obtain⟨o,e,c,d⟩:=id kP;exact⟨u,rfl,Ad e c d (by decide) ⟨x,H,I1,ru,⟨rfl,λys hy=>by rw[I.C6 hy hq];exact hx⟩,kP,λb hb=>(hf b hb).1⟩⟩
 done:=by
  intro X hP hw hK hc i af s σ H E I hf st hg;subst hP hw hK;obtain⟨xs,hq,hx⟩:=hg;obtain⟨au,rv,p,hz⟩:=I.list hq;obtain⟨f0,f1,f2,f3,f4,f5⟩:=hf it (by simp);have hl:=rv.length;exact wpAny_pyNext_list_end (I.ok.hd (hc.resolve_right λz=>aa6 z)) st p.isList (by simp;omega) λh' eb=>⟨rfl,I.turned (λb o hb e=>eb b o hb e) f0 f1 f3 f4 f5⟩
 self:=λ_ _ _ _ _ st h=>wpAny_pyIter_listiter st h
theorem adZ{K:PySem.W.Frag}(a it:Addr):Turn P w K tg (Cq K a) [it] it (λi h=>h.IsTupleIter it a i) where
 mem:=by simp
 obj:=λi h st b hb=>by
  have e:b=it:=by simpa using hb
  subst e;obtain⟨o,e,c,d⟩:=st;exact⟨o,e,λv z=>by rw[d] at z;cases z⟩
 keep:=λi h h' st k=>st.at λo e=>k it (by simp) o e
 item:=by
  intro X hP hw hK hc i af s σ H E I hf st hg;subst hP hw hK;obtain⟨xs,x,hq,hx⟩:=hg;obtain⟨au,rv,p,hz⟩:=I.tuple hq;obtain⟨u,hu,ru⟩:=rv.get hx;obtain⟨f0,f1,f2,f3,f4,f5⟩:=hf it (by simp);refine wpAny_pyNext_tuple_item st (show s.heap.IsTuple a au.toArray from p) (by simpa using hu) λh' kP sb=>?_
  have I1:Inv X af σ H { s with heap:=h' }:=I.turned (λb o hb e=>(sb.2 b hb).trans e) f0 f1 f3 f4 f5;obtain⟨o,e,c,d⟩:=id kP;exact⟨u,rfl,Ad e c d (by decide) ⟨x,H,I1,ru,⟨rfl,λys hy=>by rw[I.aex hy hq];exact hx⟩,kP,λb hb=>(hf b hb).1⟩⟩
 done:=by
  intro X hP hw hK hc i af s σ H E I hf st hg;subst hP hw hK;obtain⟨xs,hq,hx⟩:=hg;obtain⟨au,rv,p,hz⟩:=I.tuple hq;obtain⟨f0,f1,f2,f3,f4,f5⟩:=hf it (by simp);have hl:=rv.length;exact wpAny_pyNext_tuple_end (I.ok.hd (hc.resolve_right λz=>aa6 z)) st (show s.heap.IsTuple a au.toArray from p) (by simp;omega) λh' eb=>⟨rfl,I.turned (λb o hb e=>eb b o hb e) f0 f1 f3 f4 f5⟩
 self:=λ_ _ _ _ _ st h=>wpAny_pyIter_tupleiter st h
theorem abQ{K:PySem.W.Frag}(it:Addr)(lo:Int)(n:Nat):Turn P w K tg (wz lo n) [it] it (λi h=>IsRangeIter h it (lo+(i:Nat)*1) ((n:Int)-(i:Nat)) 1) where
 mem:=by simp
 obj:=λi h st b hb=>by
  have e:b=it:=by simpa using hb
  subst e;exact⟨_,st,λv z=>by
   have z':Data.fields _=Data.cell v:=z;cases z'⟩
 keep:=λi h h' st k=>k it (by simp) _ st
 item:=by
  intro X hP hw hK hc i af s σ H E I hf st hg;subst hP hw hK;obtain⟨f0,f1,f2,f3,f4,f5⟩:=hf it (by simp);refine wpAny_pyNext_range_item st (by have:i<n:=hg;omega) λh' kP sb=>?_
  have I1:Inv X af σ H { s with heap:=h',toks:=s.toks+1 }:=I.turned (λb o hb e=>(sb.2 b hb).trans e) f0 f1 f3 f4 f5;have e1:lo+((i+1:Nat):Int)*1=lo+(i:Int)*1+1:=by omega
  have e2:(n:Int)-((i+1:Nat):Int)=(n:Int)-(i:Int)-1:=by omega
  refine⟨_,rfl,Ad kP rfl rfl (by decide) ⟨.int (lo+i),H,I1,⟨s.toks,?_⟩,⟨rfl,rfl⟩,by rw[e1,e2];exact kP,λb hb=>(hf b hb).1⟩⟩;rw[Int.mul_one]
 done:=by
  intro X hP hw hK hc i af s σ H E I hf st hg;subst hP hw hK;obtain⟨f0,f1,f2,f3,f4,f5⟩:=hf it (by simp);rcases I.hq.hd with h0|⟨a',ob,u,vs,h0,h1,h2,h3⟩
  .exact wpAny_pyNext_range_end h0 st (by have:n<=i:=hg;omega) λh' eb=>⟨rfl,I.turned (λb o hb e=>eb b o hb e) f0 f1 f3 f4 f5⟩
  .exact Z2 h0 (I.aI a' _ h1).1 h2 h3 st (by have:n<=i:=hg;omega) λh' eb=>⟨rfl,I.turned (λb o hb e=>eb b o hb e) f0 f1 f3 f4 f5⟩
 self:=λ_ _ _ _ _ st h=>wpAny_pyIter_rangeiter st h
section
variable{X:Cx}{tg:Expr}
theorem NX{R:It->Hp->Prop}{lo hi:Int}{t u v:Tok}{tk:Nat}(I:Inv X af σ H s)(h1:-(2 ^ 62)<=lo)(h2:lo<2 ^ 62)(h3:-(2 ^ 62)<=hi)(h4:hi<2 ^ 62)
  (q:R (wz lo (hi-lo).toNat) H):wpAny (model X.prog X.w) X.A (pyIter (.ref s.heap.objs.size)) (I_ X af σ tg R) E { s with heap:=s.heap.push { cls:=.type "range",data:=.fields #[.int lo t,.int hi u,.int 1 v] },toks:=tk }:=by
 refine wpAny_pyIter_range (IsRange.new ..) (small_one h1 h2 h3 h4) ?_;have I1:Inv X af σ H { s with heap:=s.heap.push { cls:=.type "range",data:=.fields #[.int lo t,.int hi u,.int 1 v] },toks:=tk }:=I.kept λb o e=>aaE _ e
 refine⟨(s.heap.push { cls:=.type "range",data:=.fields #[.int lo t,.int hi u,.int 1 v] }).objs.size,[(s.heap.push { cls:=.type "range",data:=.fields #[.int lo t,.int hi u,.int 1 v] }).objs.size],_,_,H,rfl,
  I1.kept λb o e=>aaE _ e,abQ _ lo (hi-lo).toNat,?_,λb hb=>?_,q⟩
 .have e1:lo+((0:Nat):Int)*1=lo:=by simp
  have e2:(((hi-lo).toNat:Nat):Int)-((0:Nat):Int)=Builtin.Range.rangeSize lo hi 1:=by rw[rangeSize_one];split<;>omega
  rw[e1,e2];exact ab2 _ rfl
 .have e:b=(s.heap.push { cls:=.type "range",data:=.fields #[.int lo t,.int hi u,.int 1 v] }).objs.size:=by simpa using hb
  subst e;exact I1.pO (abH _) (I1.aI.fresh (abH _))
def T8(ta:TA):TI:=λσ H R=>ta σ H λvs H1=>∃j:Int,vs=[.int j]/\-(2 ^ 62)<=j/\j<2 ^ 62/\R (wz 0 j.toNat) H1
def adS(ta:TA):TI:=λσ H R=>ta σ H λvs H1=>∃i j:Int,vs=[.int i,.int j]/\(-(2 ^ 62)<=i/\i<2 ^ 62/\-(2 ^ 62)<=j/\j<2 ^ 62)/\R (wz i (j-i).toNat) H1
theorem adk{ta:TA}(hg:Gl X "range")(hm:X.mg "range"=none)(ha:PA X [a] ta)(hs:starEach [a] X.env=[(false,eval a X.env)]:=by rfl):PI X tg (.Call (.Name "range" p) [a] [] pos) (T8 ta):=by
 intro af s σ H R I h;refine Call_ (qC I hg hm boot_range (afj (aM (ha pos af s σ H _ I h) λus s1 ⟨vs,H1,I1,r1,q1⟩=>?_) hs rfl));obtain⟨j,e,q1,q2,q⟩:=q1;subst e;cases r1 with
 |cons r rr=>
  cases rr;obtain⟨t,rfl⟩:=r;exact call_range_1 (NX I1 (by omega) (by omega) q1 q2 (by simpa using q))
theorem adC{ta:TA}(hg:Gl X "range")(hm:X.mg "range"=none)(ha:PA X [a,b] ta)(hs:starEach [a,b] X.env=[(false,eval a X.env),(false,eval b X.env)]:=by rfl)(d8:starEach [b] X.env=[(false,eval b X.env)]:=by rfl):
  PI X tg (.Call (.Name "range" p) [a,b] [] pos) (adS ta):=by
 intro af s σ H R I h;refine Call_ (qC I hg hm boot_range (afj (aM (ha pos af s σ H _ I h) λus s1 ⟨vs,H1,I1,r1,q1⟩=>?_) (by rw[hs,d8]) (by rw[d8];rfl)));obtain⟨i,j,e,⟨q1,q2,q3,q4⟩,q⟩:=q1;subst e;cases r1 with
 |cons r rr=>
  cases rr with
  |cons r' rr=>
   cases rr;obtain⟨t,rfl⟩:=r;obtain⟨t',rfl⟩:=r';exact call_range_2 (NX I1 q1 q2 q3 q4 q)
def YT(wi:TI)(g:TG)(tb:TS):TS:=λD σ H=>wi σ H λJ H1=>∃W:Nat->Nat->St->Hp->Prop,(∃m,W 0 m σ H1)/\∀i m σ H,W i m σ H->
 (J.stop i H/\D.nx σ H)\/(J.go i H/\∃N:St->Hp->Prop,(∀aE H',N aE H'->∃m',m'<m/\W (i+1) m' aE H')/\∀x H',J.yd i H x H'->g x σ H' λg8 H2=>tb { D with nx:=N,ct:=N,bk:=D.nx } g8 H2)
noncomputable def x8(fp:List Addr)(h:Heap):List (Addr×Obj):=fp.filterMap λb=>(h.get? b).map λo=>(b,o)
theorem zS(hb:b∈fp)(e:h.get? b=some o):(b,o)∈x8 fp h:=afU.mpr ⟨b,hb,by rw[e];rfl⟩
theorem RD{p:Addr×Obj}(hp:p∈x8 fp h):p.1∈fp/\h.get? p.1=some p.2:=by
 obtain⟨b,hb,e⟩:=afU.mp hp;exists q,h.get? b,o,e;have e':=abS e;subst e';exact⟨hb,q⟩
theorem Inv.pinned(I:Inv X af σ H s)(hf:∀b∈fp,iH X af H b)(ho:∀b∈fp,∃o,s.heap.get? b=some o/\∀v,o.data≠.cell v):Inv X (af++x8 fp s.heap) σ H s:=
 I.rq λp hp=>(abD.mp hp).elim (λz=>I.pin p (aaM _ z)) λz=>by
  obtain⟨hb,e⟩:=RD z;obtain⟨f0,f1,f2,_⟩:=hf p.1 hb;obtain⟨o,e',d⟩:=ho p.1 hb;rw[e] at e';cases e';exact⟨e,f0,f1,f2,d⟩
theorem Inv.wj(I:Inv X (af++pl) σ H s):Inv X af σ H s:=I.rq λp hp=>I.pin p (aaM _ (abn _ hp))
theorem abX(hp:PassesOwn (model X.prog X.w) X.A X.env X.xe)(hc:X.calm=true)(hi:PI X tg iter wi)(hg:PG X tg g)(hb:ir X body tb)
  (hs:∀x,foldedSetIterable iter X.env x=pure x:=by intro _;rfl):PS X (.For tg iter body [] pos) (YT wi g tb):=by
 intro af s σ H D I h;refine wpAny_For (aM (hi af s σ H _ I h) λv s1 h1=>aM h1 λzX s2 h2=>?_) hs;obtain⟨it,fp,tn,J,H2,e,I2,T,sE,f2,W,⟨m0,w0⟩,turn⟩:=h2;subst e;have tP:∀{H':Hp},(∀b∈fp,H' b=none)->∀b∈fp,iH X af H' b:=λhn b hb=>⟨hn b hb,(f2 b hb).2⟩
 refine codeAny_forLoop_any (λn s'=>∃i aE H',Inv X af aE H' s'/\tn i s'.heap/\(∀b∈fp,H' b=none)/\W i n aE H') ?_ m0 ⟨0,σ,H2,I2,sE,λb hb=>(f2 b hb).1,w0⟩
 rintro n s3 ⟨i,cX,H3,I3,P9,JR,w3⟩
 rcases turn i n cX H3 w3 with⟨stop,qn⟩|⟨go,N,hN,step⟩
 .refine aft hp (aM (T.done X rfl rfl rfl (.inl hc) i af s3 cX H3 X.xe I3 (tP JR) P9 stop) λr s4 ⟨hr,I4⟩=>?_);subst hr;exact wpAny_execs_nil ⟨cX,H3,I4,qn⟩
 .refine aft hp (aM (T.item X rfl rfl rfl (.inl hc) i af s3 cX H3 X.xe I3 (tP JR) P9 go) λr s4 ⟨u,hr,h4⟩=>?_);subst hr;refine aft hp (aM h4 λ_ s5 ⟨x,H5,I5,r5,y5,tX,lN⟩=>?_);have Xs:=I5.pinned (tP lN) (T.obj _ _ tX);refine aft hp (aM (hg _ s5 cX H5 x u _ Xs r5 (step x H5 y5)) λ_ s6 ⟨Wt,H6,I6,q6⟩=>?_);refine aft hp (aM (hb _ s6 Wt H6 _ I6 q6) λf s7 q7=>?_);have again:∀{lP:St}{H7:Hp},Inv X (af++x8 fp s5.heap) lP H7 s7->N lP H7->∃m,m<n/\∃i aE H',Inv X af aE H' s7/\tn i s7.heap/\(∀b∈fp,H' b=none)/\W i m aE H':=λ{lP H7} I7 n7=>by
   obtain⟨m',hm,w7⟩:=hN lP H7 n7;refine⟨m',hm,i+1,lP,H7,I7.wj,T.keep _ _ _ tX λb hb o e=>(I7.pin (b,o) (aaM _ (aaM _ (zS hb e)))).1,λb hb=>?_,w7⟩;obtain⟨o,e,d⟩:=T.obj _ _ tX b hb;exact(I7.pin (b,o) (aaM _ (aaM _ (zS hb e)))).2.1
  cases f with
  |next=>obtain⟨lP,H7,I7,n7⟩:=q7;exact again I7 n7
  |cont=>obtain⟨lP,H7,I7,n7⟩:=q7;exact again I7 n7
  |brk=>obtain⟨lP,H7,I7,q7⟩:=q7;exact⟨lP,H7,I7.wj,q7⟩
  |ret v=>obtain⟨x7,lP,H7,I7,r7,q7⟩:=q7;exact⟨x7,lP,H7,I7.wj,r7,q7⟩
end
abbrev R2:=V->V->Hp->VK->Prop
def dF(X:Cx)(f:Value->Value->Sem Value)(r:R2):Prop:=
 ∀(af:List (Addr×Obj)) (s:Shared) (σ:St) (H:Hp) (x y:V) (v u:Value) (Q:VK),Inv X af σ H s->RelV x v->RelV y u->r x y H Q->
  wpAny (model X.prog X.w) X.A (f v u) (EP X af σ Q) X.xe s
def Gj(X:Cx)(f:Value->Sem Value)(r:V->Hp->VK->Prop):Prop:=
 ∀(af:List (Addr×Obj)) (s:Shared) (σ:St) (H:Hp) (x:V) (v:Value) (Q:VK),Inv X af σ H s->RelV x v->r x H Q->
  wpAny (model X.prog X.w) X.A (f v) (EP X af σ Q) X.xe s
def gu(X:Cx)(f:Value)(r:List V->Hp->VK->Prop):Prop:=
 ∀(af:List (Addr×Obj)) (s:Shared) (σ:St) (H:Hp) (xs:List V) (us:List Value) (Q:VK),Inv X af σ H s->aQ xs us->r xs H Q->
  wpAny (model X.prog X.w) X.A (call f us) (EP X af σ Q) X.xe s
def YW(X:Cx)(r:V->Hp->(Bool->Hp->Prop)->Prop):Prop:=
 ∀(af:List (Addr×Obj)) (s:Shared) (σ:St) (H:Hp) (x:V) (v:Value) (Q:Bool->Hp->Prop),Inv X af σ H s->RelV x v->r x H Q->
  wpAny (model X.prog X.w) X.A (truthy v) (TP X af σ Q) X.xe s
def pY(r:R2)(ta tb:TE):TE:=λσ H Q=>ta σ H λx H1=>tb σ H1 λy H2=>r x y H2 Q
def UN(r:V->Hp->VK->Prop)(ta:TE):TE:=λσ H Q=>ta σ H λx H1=>r x H1 Q
def rI(C:Int->Int->Prop)(g:Int->Int->V):R2:=λx y H Q=>∃i j,x=.int i/\y=.int j/\C i j/\Q (g i j) H
def m8(g:Int->Int->V):R2:=λx y H Q=>∃i j,x=.int i/\y=.int j/\Q (g i j) H
def rU(g:Int->V):V->Hp->VK->Prop:=λx H Q=>∃i,x=.int i/\Q (g i) H
section
variable{X:Cx}{a b c:Expr}{ta tb tc:TE}{pos:Pos}
theorem C5(ha:PE X a ta)(hb:PE X b tb){R:V->V->Hp->Prop}(I:Inv X af σ H s)
  (h:ta σ H λx H1=>tb σ H1 λy H2=>R x y H2){f:Value->Value->Sem Value}
  (hf:∀v u s2 x y H2,Inv X af σ H2 s2->RelV x v->RelV y u->R x y H2->wpAny (model X.prog X.w) X.A (f v u) Q X.xe s2) :
  wpAny (model X.prog X.w) X.A (eval a X.env) (λv bN=>wpAny (model X.prog X.w) X.A (eval b X.env) (λu qT=>wpAny (model X.prog X.w) X.A (f v u) Q X.xe qT) X.xe bN) X.xe s:=by
 refine aM (ha af s σ H _ I h) λv s1 ⟨x,H1,I1,r1,q1⟩=>?_
 refine aM (hb af s1 σ H1 _ I1 q1) λu s2 ⟨y,H2,I2,r2,q2⟩=>?_
 exact hf v u s2 x y H2 I2 r1 r2 q2
theorem Dt{op:Operator}{r:R2}(ho:dF X (binaryOp op) r)(ha:PE X a ta)(hb:PE X b tb):PE X (.BinOp a op b pos) (pY r ta tb):=by
 intro af s σ H Q I h;exact wpAny_BinOp (C5 ha hb I h λv u s2 x y H2 I2 rx ry q=>ho af s2 σ H2 x y v u Q I2 rx ry q)
theorem acW{op:UnaryOp}{r:V->Hp->VK->Prop}(ho:Gj X (unaryOp op) r)(ha:PE X a ta):PE X (.UnaryOp op a pos) (UN r ta):=by
 intro af s σ H Q I h;exact UnaryOp_ (aM (ha af s σ H _ I h) λv s1 ⟨x,H1,I1,r1,q1⟩=>ho af s1 σ H1 x v Q I1 r1 q1)
theorem CA{f:Value->Value->Sem Value}{C:Int->Int->Prop}{g:Int->Int->Int}
  (rule:∀(i j:Int) (t u:Tok) (s:Shared) (Q:Value->Shared->Prop) (E:Value->Shared->Prop),C i j->Q (.int (g i j) s.toks) { s with toks:=s.toks+1 }->wpAny (model X.prog X.w) X.A (f (.int i t) (.int j u)) Q E s) :
  dF X f (rI C λi j=>.int (g i j)):=by
 intro af s σ H x y v u Q I rx ry h;obtain⟨i,j,rfl,rfl,hc,q⟩:=h;obtain⟨t,rfl⟩:=rx;obtain⟨t',rfl⟩:=ry;exact rule i j t t' s _ _ hc ⟨.int (g i j),H,I.tok _,⟨_,rfl⟩,q⟩
theorem O5{f:Value->Value->Sem Value}{g:Int->Int->Int}
  (rule:∀(i j:Int) (t u:Tok) (s:Shared) (Q:Value->Shared->Prop) (E:Value->Shared->Prop),Q (.int (g i j) s.toks) { s with toks:=s.toks+1 }->wpAny (model X.prog X.w) X.A (f (.int i t) (.int j u)) Q E s) :
  dF X f (m8 λi j=>.int (g i j)):=by
 intro af s σ H x y v u Q I rx ry h;obtain⟨i,j,rfl,rfl,q⟩:=h;obtain⟨t,rfl⟩:=rx;obtain⟨t',rfl⟩:=ry;exact rule i j t t' s _ _ ⟨.int (g i j),H,I.tok _,⟨_,rfl⟩,q⟩
theorem B7{f:Value->Value->Sem Value}{g:Int->Int->Bool}
  (rule:∀(i j:Int) (t u:Tok) (s:Shared) (Q:Value->Shared->Prop) (E:Value->Shared->Prop),Q (.bool (g i j)) s->wpAny (model X.prog X.w) X.A (f (.int i t) (.int j u)) Q E s) :
  dF X f (m8 λi j=>.bl (g i j)):=by
 intro af s σ H x y v u Q I rx ry h;obtain⟨i,j,rfl,rfl,q⟩:=h;obtain⟨t,rfl⟩:=rx;obtain⟨t',rfl⟩:=ry;exact rule i j t t' s _ _ ⟨.bl (g i j),H,I,rfl,q⟩
def Sn(i j:Int):Prop:=0<j/\j<1073741824
def xm(i j:Int):Prop:=(-(2 ^ 64)<i/\i<2 ^ 64)\/(-(2 ^ 64)<j/\j<2 ^ 64)
theorem xm.ok{i j:Int}(h:xm i j):IntMulOk i j:=by
 rcases h with⟨h1,h2⟩|⟨h1,h2⟩
 .exact .of_left (intBits_le_64 h1 h2)
 .exact .of_right (intBits_le_64 h1 h2)
theorem OZ:dF X (binaryOp .Add) (m8 λi j=>.int (i+j)):=O5 λ_ _ _ _ _ _ _ q=>add_int q
theorem VJ:dF X (binaryOp .Sub) (m8 λi j=>.int (i-j)):=O5 λ_ _ _ _ _ _ _ q=>sub_int q
theorem aeO:dF X (binaryOp .Mult) (rI xm λi j=>.int (i*j)):=CA λ_ _ _ _ _ _ _ hc q=>mul_int q hc.ok
theorem ZO:dF X (binaryOp .FloorDiv) (rI Sn λi j=>.int (i / j)):=CA λi j _ _ _ _ _ hc q=>by
 have h1:(0:Int)<j:=hc.1;have h2:j<1073741824:=hc.2;exact floordiv_int (by omega) (by rw[Int.fdiv_eq_ediv_of_nonneg i (by omega)];exact q) (.inl (PyProof.noPylong_small (by omega)))
theorem Y_:dF X (binaryOp .Mod) (rI (λ_ j=>0<j) λi j=>.int (i % j)):=CA λi j _ _ _ _ _ hc q=>by
 have h1:=hc;exact mod_int' (by omega) (by rw[Int.fmod_eq_emod_of_nonneg i (by omega)];exact q)
theorem unI{f:Value->Sem Value}{g:Int->Int}
  (rule:∀(i:Int) (t:Tok) (s:Shared) (Q:Value->Shared->Prop) (E:Value->Shared->Prop),Q (.int (g i) s.toks) { s with toks:=s.toks+1 }->wpAny (model X.prog X.w) X.A (f (.int i t)) Q E s) :
  Gj X f (rU λi=>.int (g i)):=by
 intro af s σ H x v Q I rx h;obtain⟨i,rfl,q⟩:=h;obtain⟨t,rfl⟩:=rx;exact rule i t s _ _ ⟨.int (g i),H,I.tok _,⟨_,rfl⟩,q⟩
theorem YV:Gj X (unaryOp .USub) (rU λi=>.int (-i)):=unI λ_ _ _ _ _ q=>neg_int q
end
noncomputable def Qy:V->V->Bool
 |.aD,.aD=>true|.aD,.int _=>true|.int _,.aD=>true|.aD,.bl _=>true|.bl _,.aD=>true|.aD,.str _=>true|.str _,.aD=>true
 |.int _,.int _=>true|.bl _,.bl _=>true|.str _,.str _=>true|.jE _,.jE _=>true
 |.int _,.str _=>true|.str _,.int _=>true|.bl _,.str _=>true|.str _,.bl _=>true
 |_,_=>false
def E4:R2:=λx y H Q=>Qy x y=true/\Q (.bl (decide (x=y))) H
def Kg:R2:=λx y H Q=>Qy x y=true/\Q (.bl (!decide (x=y))) H
theorem AV:decide (V.int i=V.int j)=(i==j):=by
 rw[afV];simp
theorem zu:decide (V.bl i=V.bl j)=(i==j):=by
 rw[afV];simp
theorem Ac:decide (V.str i=V.str j)=(i==j):=by
 rw[afV];simp
theorem I0{i j:Array UInt8}:decide (V.jE i=V.jE j)=(i.toList==j.toList):=by
 rw[afV];cases i;cases j;simp
section
variable{X:Cx}{a b c:Expr}{ta tb tc:TE}{pos:Pos}
theorem dN(I:Inv X af σ H s)(q:Q (.bl k) H)(e:k=k'):EP X af σ Q (.bool k') s:=by
 subst e;exact⟨.bl k,H,I,rfl,q⟩
theorem DK:dF X (compareOp .Eq) E4:=by
 intro af s σ H x y v u Q I rx ry h;obtain⟨hs,q⟩:=h;cases x with
 |aD=>
  cases rx;cases y with
  |aD=>cases ry;exact PySem.EqNone.eq_none_none (dN I q (by simp))
  |bl j=>cases ry;exact PySem.EqNone.eq_none_bool (dN I q (by simp))
  |int j=>obtain⟨t',rfl⟩:=ry;exact PySem.EqNone.eq_none_int (dN I q (by simp))
  |str j=>obtain⟨t',rfl⟩:=ry;exact PySem.EqNone.eq_none_str (dN I q (by simp))
  |_=>exact absurd (show false=true from hs) aa6
 |bl i=>
  cases rx;cases y with
  |aD=>cases ry;exact PySem.EqNone.eq_bool_none (dN I q (by simp))
  |bl j=>cases ry;exact eq_bool (dN I q zu)
  |str j=>obtain⟨t',rfl⟩:=ry;exact PySem.EqMixed.eq_bool_str (dN I q (by simp))
  |_=>exact absurd (show false=true from hs) aa6
 |int i=>
  obtain⟨t,rfl⟩:=rx;cases y with
  |aD=>cases ry;exact PySem.EqNone.eq_int_none (dN I q (by simp))
  |int j=>obtain⟨t',rfl⟩:=ry;exact eq_int (dN I q AV)
  |str j=>obtain⟨t',rfl⟩:=ry;exact PySem.EqMixed.eq_int_str (dN I q (by simp))
  |_=>exact absurd (show false=true from hs) aa6
 |str i=>
  obtain⟨t,rfl⟩:=rx;cases y with
  |aD=>cases ry;exact PySem.EqNone.eq_str_none (dN I q (by simp))
  |bl j=>cases ry;exact PySem.EqMixed.eq_str_bool (dN I q (by simp))
  |int j=>obtain⟨t',rfl⟩:=ry;exact PySem.EqMixed.eq_str_int (dN I q (by simp))
  |str j=>obtain⟨t',rfl⟩:=ry;exact eq_str (dN I q Ac)
  |_=>exact absurd (show false=true from hs) aa6
 |jE i=>
  obtain⟨t,rfl⟩:=rx;cases y with
  |jE j=>obtain⟨t',rfl⟩:=ry;exact PySem.W.eq_bytes (dN I q I0)
  |_=>exact absurd (show false=true from hs) aa6
 |_=>cases y<;>exact absurd (show false=true from hs) aa6
theorem Lv:dF X (compareOp .NotEq) Kg:=by
 intro af s σ H x y v u Q I rx ry h;obtain⟨hs,q⟩:=h;cases x with
 |aD=>
  cases rx;cases y with
  |aD=>cases ry;exact PySem.EqNone.ne_none_none (dN I q (by simp))
  |bl j=>cases ry;exact PySem.EqNone.ne_none_bool (dN I q (by simp))
  |int j=>obtain⟨t',rfl⟩:=ry;exact PySem.EqNone.ne_none_int (dN I q (by simp))
  |str j=>obtain⟨t',rfl⟩:=ry;exact PySem.EqNone.ne_none_str (dN I q (by simp))
  |_=>exact absurd (show false=true from hs) aa6
 |bl i=>
  cases rx;cases y with
  |aD=>cases ry;exact PySem.EqNone.ne_bool_none (dN I q (by simp))
  |bl j=>cases ry;exact ne_bool (dN I q (congrArg not zu))
  |str j=>obtain⟨t',rfl⟩:=ry;exact PySem.EqMixed.ne_bool_str (dN I q (by simp))
  |_=>exact absurd (show false=true from hs) aa6
 |int i=>
  obtain⟨t,rfl⟩:=rx;cases y with
  |aD=>cases ry;exact PySem.EqNone.ne_int_none (dN I q (by simp))
  |int j=>obtain⟨t',rfl⟩:=ry;exact ne_int (dN I q (congrArg not AV))
  |str j=>obtain⟨t',rfl⟩:=ry;exact PySem.EqMixed.ne_int_str (dN I q (by simp))
  |_=>exact absurd (show false=true from hs) aa6
 |str i=>
  obtain⟨t,rfl⟩:=rx;cases y with
  |aD=>cases ry;exact PySem.EqNone.ne_str_none (dN I q (by simp))
  |bl j=>cases ry;exact PySem.EqMixed.ne_str_bool (dN I q (by simp))
  |int j=>obtain⟨t',rfl⟩:=ry;exact PySem.EqMixed.ne_str_int (dN I q (by simp))
  |str j=>obtain⟨t',rfl⟩:=ry;exact ne_str (dN I q (congrArg not Ac))
  |_=>exact absurd (show false=true from hs) aa6
 |jE i=>
  obtain⟨t,rfl⟩:=rx;cases y with
  |jE j=>obtain⟨t',rfl⟩:=ry;exact PySem.W.ne_bytes (dN I q (congrArg not I0))
  |_=>exact absurd (show false=true from hs) aa6
 |_=>cases y<;>exact absurd (show false=true from hs) aa6
theorem MJ:dF X (compareOp .Lt) (m8 λi j=>.bl (decide (i<j))):=B7 λ_ _ _ _ _ _ _ q=>lt_int q
theorem CK:dF X (compareOp .LtE) (m8 λi j=>.bl (decide (i<=j))):=B7 λ_ _ _ _ _ _ _ q=>le_int q
theorem Wd:dF X (compareOp .Gt) (m8 λi j=>.bl (decide (j<i))):=B7 λ_ _ _ _ _ _ _ q=>gt_int q
theorem acL:dF X (compareOp .GtE) (m8 λi j=>.bl (decide (j<=i))):=B7 λ_ _ _ _ _ _ _ q=>ge_int q
theorem O2:dF X (compareOp .Is) (λx y H Q=>y=.aD/\Q (.bl (decide (x=.aD))) H):=by
 intro af s σ H x y v u Q I rx ry h;obtain⟨rfl,q⟩:=h;cases ry;refine is_none_gen (dN I q ?_);cases x<;>first
  |(cases rx;rfl)
  |(obtain⟨t,rfl⟩:=rx;rfl)
theorem VO:dF X (compareOp .IsNot) (λx y H Q=>y=.aD/\Q (.bl (!decide (x=.aD))) H):=by
 intro af s σ H x y v u Q I rx ry h;obtain⟨rfl,q⟩:=h;cases ry;refine isnot_none_gen (dN I q ?_);cases x<;>first
  |(cases rx;rfl)
  |(obtain⟨t,rfl⟩:=rx;rfl)
theorem jo(b:Expr){op:CmpOp}(h:op≠.In:=by decide)(h2:op≠.NotIn:=by decide):behindInMarks op b=false:=by
 have e1:(op==CmpOp.In)=false:=by cases op<;>first|rfl|exact absurd rfl h
 have e2:(op==CmpOp.NotIn)=false:=by cases op<;>first|rfl|exact absurd rfl h2
 cases b<;>simp[behindInMarks,e1,e2]
theorem Y7{op:CmpOp}{r:R2}(ho:dF X (compareOp op) r)(ha:PE X a ta)(hb:PE X b tb)(hm:behindInMarks op b=false):PE X (.Compare a [op] [b] pos) (pY r ta tb):=by
 intro af s σ H Q I h;exact wpAny_Compare1 (C5 ha hb I h λv u s2 x y H2 I2 rx ry q=>ho af s2 σ H2 x y v u Q I2 rx ry q) hm
def Oe(t:TE):TT:=λσ H Q=>t σ H λx H'=>∃k,x=.bl k/\Q k H'
theorem Po{op:CmpOp}{r:R2}(ho:dF X (compareOp op) r)(ha:PE X a ta)(hb:PE X b tb)(hm:behindInMarks op b=false):PT X (.Compare a [op] [b] pos) (Oe (pY r ta tb)):=by
 intro af s σ H Q I h;refine wpAny_isTrue_Compare1 (aM (ha af s σ H _ I h) λv s1 ⟨x,H1,I1,r1,q1⟩=>aM (hb af s1 σ H1 _ I1 q1) λu s2 ⟨y,H2,I2,r2,q2⟩=>
  aM (ho af s2 σ H2 x y v u _ I2 r1 r2 q2) λc s3 ⟨z,H3,I3,r3,k,e,q3⟩=>?_) hm
 subst e;cases r3;exact aeG ⟨H3,I3,q3⟩
def aa8(r r':R2)(ta tb tc:TE):TE:=λσ H Q=>ta σ H λx H1=>tb σ H1 λy H2=>r x y H2 λz H3=>∃k,z=.bl k/\
 (if k=true then tc σ H3 λw' H4=>r' y w' H4 Q else Q (.bl false) H3)
theorem RM{op qZ:CmpOp}{r r':R2}(ho:dF X (compareOp op) r)(mF:dF X (compareOp qZ) r')(ha:PE X a ta)(hb:PE X b tb)(hc:PE X c tc)
  (hm:lastMarks [op,qZ] [b,c]=false:=by with_unfolding_all rfl):PE X (.Compare a [op,qZ] [b,c] pos) (aa8 r r' ta tb tc):=by
 intro af s σ H Q I h;refine Compare_chain (aM (ha af s σ H _ I h) λv s1 ⟨x,H1,I1,r1,q1⟩=>chain_link (aM (hb af s1 σ H1 _ I1 q1) λu s2 ⟨y,H2,I2,r2,q2⟩=>
  aM (ho af s2 σ H2 x y v u _ I2 r1 r2 q2) λd s3 ⟨z,H3,I3,r3,k,e,q3⟩=>?_)) hm
 subst e;cases r3;refine aeG ?_;cases k with
 |false=>exact ite_ff ⟨.bl false,H3,I3,rfl,q3⟩
 |true=>exact ite_tt (chain_last (aM (hc af s3 σ H3 _ I3 q3) λw' s4 ⟨z',H4,I4,r4,q4⟩=>mF af s4 σ H4 y z' u w' Q I4 r2 r4 q4))
def QH(K:PySem.W.Frag)(x:V)(H:Hp)(k:Bool):Prop:=
 match x with
 |.aD=>k=false
 |.bl b=>k=b
 |.int i=>k=(i != 0)
 |.str y=>y.length<=sizeLine/\k=((y.length:Int) != 0)
 |.jE y=>y.size<=sizeLine/\k=((y.size:Int) != 0)
 |.ref p=>(∃xs,bY K H p xs/\k=!xs.isEmpty)\/(∃xs,cg K H p xs/\k=!xs.isEmpty)\/∃aj,H p=some (.dK aj)/\k=!aj.isEmpty
 |_=>False
theorem Wp{κ:Type}{aj:List (κ×V)}{vs:List (κ×Value)}(r:KV aj vs):(!vs.isEmpty)=!aj.isEmpty:=by
 cases r<;>rfl
theorem QD{xs:List V}{au:List Value}(r:aQ xs au):(!au.toArray.isEmpty)=!xs.isEmpty:=by
 cases r<;>simp
theorem uG:(sizeLine:Nat)<2 ^ 63:=by rw[aeI];decide
theorem acK:YW X (λx H Q=>∃k,QH X.K x H k/\Q k H):=by
 intro af s σ H x v Q I rx h;obtain⟨k,e,q⟩:=h;have hl:=uG;have hs:sizeLine=16777216:=aeI;cases x with
 |aD=>
  cases rx;have e':k=false:=e;subst e';exact truthy_none ⟨H,I,q⟩
 |bl b=>
  cases rx;have e':k=b:=e;subst e';exact aeG ⟨H,I,q⟩
 |int i=>
  obtain⟨t,rfl⟩:=rx;have e':k=(i != 0):=e;subst e';exact PySem.P.truthy_int ⟨H,I,q⟩
 |str y=>
  obtain⟨t,rfl⟩:=rx;obtain⟨hy,e'⟩:y.length<=sizeLine/\k=((y.length:Int) != 0):=e;subst e';exact PySem.P.truthy_str (by omega) ⟨H,I.tok _,q⟩
 |jE y=>
  obtain⟨t,rfl⟩:=rx;obtain⟨hy,e'⟩:y.size<=sizeLine/\k=((y.size:Int) != 0):=e;subst e';exact PySem.W.truthy_bytes (by omega) ⟨H,I.tok _,q⟩
 |ref p=>
  cases rx;have e':(∃xs,bY X.K H p xs/\k=!xs.isEmpty)\/(∃xs,cg X.K H p xs/\k=!xs.isEmpty)\/∃aj,H p=some (.dK aj)/\k=!aj.isEmpty:=e;rcases e' with⟨xs,hx,e'⟩|⟨xs,hx,e'⟩|⟨aj,hx,e'⟩
  .subst e';obtain⟨au,r,pl,hz⟩:=I.list hx;have hlen:=r.length;exact wpAny_truthy_list pl.isList (by simp only[abW];omega) ⟨H,I.tok _,by rw[QD r];exact q⟩
  .subst e';obtain⟨au,r,pl,hz⟩:=I.tuple hx;have hlen:=r.length;exact truthy_tuple pl (by simp only[abW];omega) ⟨H,I.tok _,by rw[QD r];exact q⟩
  .subst e';obtain⟨hz,hS,vs,r,m⟩:aj.length<=sizeLine/\(p==sysModules)=false/\∃vs,KV aj vs/\s.heap.DictOf (fR X.prog X.w) p vs:=I.aI p _ hx;have hlen:aj.length=vs.length:=Paired.length r;exact wpAny_truthy_dict hS m (by omega) ⟨H,I.tok _,by rw[Wp r];exact q⟩
 |_=>exact(show False from e).elim
theorem acz(ha:PE X a ta)(he:∀whole,isTrue a X.env whole=(do let v <- whole;standAt a.pos;holding [v] (truthy v))):
  PT X a (λσ H Q=>ta σ H λx H'=>∃k,QH X.K x H' k/\Q k H'):=by
 intro af s σ H Q I h;exact isTrue_plain (aM (ha af s σ H _ I h) λv s1 ⟨x,H1,I1,r1,q1⟩=>acK af s1 σ H1 x v Q I1 r1 q1) (he _)
theorem vals1(r:aQ [x] us):∃u,us=[u]/\RelV x u:=by
 cases r with
 |cons r1 r2=>cases r2;exact⟨_,rfl,r1⟩
theorem vals2(r:aQ [x,y] us):∃u w',us=[u,w']/\RelV x u/\RelV y w':=by
 cases r with
 |cons r1 r2=>
  cases r2 with
  |cons r3 r4=>cases r4;exact⟨_,_,rfl,r1,r3⟩
theorem Zq(hc:X.calm=true):gu X (.builtin "min") (λxs H Q=>∃i j,xs=[.int i,.int j]/\Q (.int (if j<i then j else i)) H):=by
 intro af s σ H xs us Q I r h;obtain⟨i,j,rfl,q⟩:=h;obtain⟨u,w',rfl,⟨t,rfl⟩,⟨t',rfl⟩⟩:=vals2 r;refine min_two_ints (I.ok.hd hc) λh' tk k=>⟨_,H,I.kept k,?_,q⟩
 by_cases hj:j<i
 .rw[if_pos hj,if_pos hj];exact⟨_,rfl⟩
 .rw[if_neg hj,if_neg hj];exact⟨_,rfl⟩
end
structure sy(h:Heap)(x dx C:Addr)(mA:Str->Option Value):Prop where
 obj:h.get? x=some (PySem.W.instObj C dx)
 ns:h.Ns1 dx mA
 ne:dx≠x
theorem abI{h:Heap}{dx:Addr}{mA:Str->Option Value}(n:h.Ns1 dx mA):∃od,h.get? dx=some od/\∀name,PySem.W.lookIn name od=some (mA name):=by
 obtain⟨o,es,ep,ho,hd,hk,_,hm⟩:=n;refine⟨o,ho,λname=>?_⟩;have e:=hm name;unfold nsFind findBy at e;rw[<- Array.find?_toList] at e;unfold PySem.W.lookIn;rw[hd];dsimp only
 split
 .rename_i y q;rw[q] at e;exact congrArg some e
 .rename_i q;rw[q] at e;have a:es.toList.any (·.refKey)=false:=by
   rw[List.any_eq_false];intro y hy;obtain⟨z,t,wV⟩:=hk y (Array.mem_toList_iff.mp hy);simp[DictEntry.refKey,wV]
  have a':¬es.toList.any (·.refKey)=true:=by rw[a];exact aa6
  rw[if_neg a'];exact congrArg some e
theorem sy.look(I:sy h x dx C mA):∃od,PySem.W.InstAt h x (PySem.W.instObj C dx) C (some od)/\∀name,PySem.W.lookIn name od=some (mA name):=
 let⟨od,ho,hl⟩:=abI I.ns
 ⟨od,⟨I.obj,rfl,rfl,ho⟩,hl⟩
section
variable{prog:Program}{w:World}{A:Around}{E:Value->Shared->Prop}{s:Shared}{K:PySem.W.Frag}{x dx C f:Addr}{mA:Str->Option Value}{name:Str}{v:Value}
theorem get_map(X:K.In s.heap)(I:sy s.heap x dx C mA)(hg:PySem.W.plainGet K C name=true)(hh:PySem.W.hasDictIn K C=true)
  (ha:PySem.W.findIn K (.ref C) name=some none) (hv:mA name=some v) (jQ:PySem.W.handedIn v=true) (h:Q v { s with toks:=s.toks+1 }) :
  wpAny (model prog w) A (getAttr (.ref x) name expr) Q E s:=by
 obtain⟨od,J,hl⟩:=I.look;exact PySem.W.get_value X J (PySem.W.plainGet_of hg).1 (PySem.W.findObj_own hh ha rfl (by rw[hl,hv])) jQ h
theorem Sw{pl:Sem Bool}{Q:Value×List Value->Shared->Prop}(X:K.In s.heap)(I:sy s.heap x dx C mA)(hg:PySem.W.plainGet K C name=true)
  (hf:PySem.W.findIn K (.ref C) name=some (some (.ref f))) (ht:PySem.W.isFn K (.ref f)=true) (hv:mA name=none) (h:Q (.ref f,[.ref x]) s) :
  wpAny (model prog w) A (getMethod (.ref x) name pl) Q E s:=by
 obtain⟨od,J,hl⟩:=I.look;exact PySem.W.method_fn X J (PySem.W.plainGet_of hg).1 (PySem.W.plainGet_of hg).2 hf (afG.mp ht) (by show(PySem.W.lookIn name od).map (·.isSome)=some false;rw[hl,hv];rfl) h
theorem WD{Q:Unit->Shared->Prop}(X:K.In s.heap)(I:sy s.heap x dx C mA)
  (hs:PySem.W.findIn K (.ref C) "__setattr__"=some (some (.builtin "object.__setattr__"))) (hp:PySem.W.plainOver K C=true) (ht:PySem.W.takerIn K C name=some none) (hh:PySem.W.hasDictIn K C=true)
  (hw:PySem.Within mA ns) (hsz:ns.length<=sizeLine)
  (h:∀h',sy h' x dx C (λy=>if y=name then some v else mA y)->Heap.SameBut dx s.heap h'->Q () { s with heap:=h',toks:=s.toks+2 }) :
  wpAny (model prog w) A (setAttr (.ref x) name v) Q E s:=by
 obtain⟨od,J,hl⟩:=I.look;refine PySem.W.set_plain X J hs (PySem.W.osa_open (r:=none) X J hp ht λb=>?_);obtain⟨cd,hc,Ec⟩:=PySem.W.any_some hh;have hx:=I.obj;refine aaQ (acr (aaQ (aaQ (wpAny_loadPart hx (aaQ (PySem.W.Looks.here (PySem.W.looks_clsIn X hc) ?_))))));rw[Ec];refine acr (aaQ (acr (aaQ ?_)));refine wpAny_nsSet1 I.ns λh' sD d8=>?_
 obtain⟨oD,esD,epD,EO,Zh,hcD⟩:=sD.count (PySem.Within.cons name v hw);refine aaQ (wpAny_lookBehind EO (by rw[Zh];exact pastItsLine_dict (adw hcD (by rw[abP];omega))) ?_);exact acr (h _ ⟨(d8.2 _ (aeV I.ne)).trans I.obj,sD,I.ne⟩ d8)
theorem R6{R:Result->Shared->Prop}{kw:List (Str×Value)}(X:K.In s.heap)(hm:PySem.W.makesIn K C=true)
  (hi:PySem.W.findIn K (.ref C) "__init__"=some (some (.ref f))) (hf:PySem.W.typeIn K (.ref f)=some (.type "function"))
  (h:codeAny (model prog w) (A.under (.builtin "type.__call__" ⟨.ref C::vs,kw⟩)) (.call (.ref f) ⟨.ref (s.heap.objs.size + 1)::vs,kw⟩) (PySem.W.InitBack (s.heap.objs.size + 1) R)
   { s with heap:=(s.heap.push PySem.W.emptyDict).push (PySem.W.instObj C s.heap.objs.size) }) :
  codeAny (model prog w) A (.call (.ref C) ⟨vs,kw⟩) R s:=by
 obtain⟨hh,g,d,t,os⟩:=s;exact PySem.W.make_core (PySem.W.makes_of X hm) (PySem.W.looks_findIn X hi) (λself=>PySem.W.bind_fn X self hf) (.inl rfl) h
end
noncomputable def e_(f:Str)(v:V):List (Str×V)->List (Str×V)
 |[]=>[(f,v)]
 |(g,x)::r=>if g=f then(g,v)::r else(g,x)::e_ f v r
theorem LS(f g:Str)(v:V):∀fs:List (Str×V),(e_ f v fs).lookup g=if g=f then some v else fs.lookup g
 |[]=>by
  show List.lookup g [(f,v)]=_
  by_cases h:g=f
  .have hb:=afG.mpr h;simp only[List.lookup,hb,if_pos h]
  .have hb:=adg.mpr h;simp only[List.lookup,hb,if_neg h]
 |(k,x)::r=>by
  have ih:=LS f g v r;rw[show e_ f v ((k,x)::r)=(if k=f then(k,v)::r else(k,x)::e_ f v r) from rfl]
  by_cases hk:k=f
  .rw[if_pos hk]
   by_cases h:g=k
   .have hb:=afG.mpr h;simp only[List.lookup,hb,if_pos (h.trans hk)]
   .have hb:=adg.mpr h;simp only[List.lookup,hb,if_neg (λe:g=f=>h (e.trans hk.symm))]
  .rw[if_neg hk]
   by_cases h:g=k
   .have hb:=afG.mpr h;simp only[List.lookup,hb,if_neg (λe:g=f=>hk (h.symm.trans e))]
   .have hb:=adg.mpr h;simp only[List.lookup,hb];exact ih
theorem HC(f:Str)(v:V):∀fs:List (Str×V),f∈(e_ f v fs).map (·.1)/\∀g,g∈fs.map (·.1)->g∈(e_ f v fs).map (·.1)
 |[]=>⟨by simp[e_],λg h=>by simp at h⟩
 |(k,x)::r=>by
  obtain⟨i1,i2⟩:=HC f v r;rw[show e_ f v ((k,x)::r)=(if k=f then(k,v)::r else(k,x)::e_ f v r) from rfl]
  by_cases hk:k=f
  .rw[if_pos hk];subst hk;exact⟨by simp,λg h=>by simpa using h⟩
  .rw[if_neg hk];refine⟨?_,λg h=>?_⟩
   .rw[aax];exact aaa _ i1
   .rw[aax] at h ⊢;rcases aa3.mp h with e|e
    .exact aa3.mpr (.inl e)
    .exact aaa _ (i2 g e)
theorem L_(f:Str)(v:V):∀fs:List (Str×V),(e_ f v fs).length<=fs.length+1
 |[]=>by simp[e_]
 |(k,x)::r=>by
  have ih:=L_ f v r;rw[show e_ f v ((k,x)::r)=(if k=f then(k,v)::r else(k,x)::e_ f v r) from rfl]
  by_cases hk:k=f
  .rw[if_pos hk,abP,abP];omega
  .rw[if_neg hk,abP,abP];omega
theorem gX.some_of{o:Option Value}(r:gX (some v) o):∃u,o=some u/\RelV v u:=by
 cases o with
 |none=>exact(show False from r).elim
 |some u=>exact⟨u,rfl,r⟩
theorem gX.none_of{o:Option Value}(r:gX none o):o=none:=by
 cases o with
 |none=>rfl
 |some u=>exact(show False from r).elim
theorem U5(r:RelV v u):PySem.W.handedIn u=true:=by
 cases v with
 |aD=>cases(show u=Value.none from r);rfl
 |bl b=>cases(show u=Value.bool b from r);rfl
 |int i=>obtain⟨t,e⟩:=(show ∃t,u=Value.int i t from r);cases e;rfl
 |str x=>obtain⟨t,e⟩:=(show ∃t,u=Value.str x t from r);cases e;rfl
 |jE b=>obtain⟨t,e⟩:=(show ∃t,u=Value.bytes b t from r);cases e;rfl
 |sU b=>obtain⟨t,e⟩:=(show ∃t,u=Value.float b t from r);cases e;rfl
 |ref a=>cases(show u=Value.ref a from r);rfl
 |ty n=>cases(show u=Value.type n from r);rfl
section
variable{P:Program}{w:World}{H H':Hp}{h h':Heap}{a C dx:Addr}{fs qS:List (Str×V)}
theorem zV(aI:d7 P w H h)(e:H a=some (.ins C dx fs)):∃mA,sy h a dx C mA/\(∀f,gX (fs.lookup f) (mA f))/\PySem.Within mA (fs.map (·.1))/\fs.length<=1000/\H dx=some (.own a):=by
 obtain⟨d,z,ne,ob,mA,n,r,q⟩:=(show dh P w H h a (.ins C dx fs) from aI a _ e)
 exact⟨mA,⟨ob,n,ne⟩,r,q,z,d⟩
end
structure j7(K:PySem.W.Frag)(C:Addr):Prop where
 pg:PySem.W.plainGet K C Str.empty=true
 hd:PySem.W.hasDictIn K C=true
 po:PySem.W.plainOver K C=true
 sa:PySem.W.findIn K (.ref C) "__setattr__"=some (some (.builtin "object.__setattr__"))
theorem j7.get{K:PySem.W.Frag}(c:j7 K C)(f:Str):PySem.W.plainGet K C f=true:=c.pg
def iC(K:PySem.W.Frag)(C:Addr)(f:Str):Prop:=PySem.W.findIn K (.ref C) f=some none
theorem iC.abe{K:PySem.W.Frag}(n:iC K C f):PySem.W.takerIn K C f=some none:=by
 unfold PySem.W.takerIn;rw[show PySem.W.findIn K (.ref C) f=some none from n];rfl
structure lT(K:PySem.W.Frag)(C:Addr)(m:Str)(f:Addr):Prop where
 at_:PySem.W.findIn K (.ref C) m=some (some (.ref f))
 fn:PySem.W.isFn K (.ref f)=true
 kp:PySem.W.keepIn K (.ref f)=true
section
variable{X:Cx}{af:List (Addr×Obj)}{σ:St}{H:Hp}{s:Shared}{a C dx:Addr}{fs:List (Str×V)}{f:Str}{v:V}{A:Around}{E:Value->Shared->Prop}
theorem LO(I:Inv X af σ H s)(e:H a=some (.ins C dx fs))(c:j7 X.K C)(n:iC X.K C f)(l:fs.lookup f=some v)
  (h:∀u s',Inv X af σ H s'->RelV v u->Q u s'):wpAny (model X.prog X.w) A (getAttr (.ref a) f b) Q E s:=by
 obtain⟨mA,O,r,_,_,_⟩:=zV I.aI e;obtain⟨u,hu,ru⟩:=gX.some_of (by rw[<- l];exact r f);exact get_map I.eU O (c.get f) c.hd n hu (U5 ru) (h u _ (I.tok _) ru)
theorem Lo{pl:Sem Bool}{Q:Value×List Value->Shared->Prop}(I:Inv X af σ H s)(e:H a=some (.ins C dx fs))(c:j7 X.K C)(k:lT X.K C m g)(l:fs.lookup m=none)
  (h:Q (.ref g,[.ref a]) s):wpAny (model X.prog X.w) A (getMethod (.ref a) m pl) Q E s:=by
 obtain⟨mA,O,r,_,_,_⟩:=zV I.aI e;have hn:=gX.none_of (by rw[<- l];exact r m);exact Sw I.eU O (c.get m) k.at_ k.fn hn h
theorem Qm{Q:Unit->Shared->Prop}(I:Inv X af σ H s)(e:H a=some (.ins C dx fs))(c:j7 X.K C)(n:iC X.K C f)(hl:fs.length<1000)(ry:RelV y u)
  (h:∀s',Inv X af σ (upd H a (.ins C dx (e_ f y fs))) s'->Q () s'):wpAny (model X.prog X.w) A (setAttr (.ref a) f u) Q E s:=by
 obtain⟨mA,O,r,wi,_,ho⟩:=zV I.aI e;have hz:(fs.map (·.1)).length<=sizeLine:=by rw[List.length_map,aeI];omega
 refine WD I.eU O c.sa c.po n.abe c.hd wi hz λh' O' sb=>h _ ?_
 have hd:∃o,h'.get? dx=some o:=let⟨o,_,_,e',_⟩:=O'.ns;⟨o,e'⟩
 refine I.write (by rw[e];exact True.intro) (.inr ho) (λb q hb z=>(sb.2 b hb).trans z) hd ?_;refine⟨by rw[aL O.ne];exact ho,?_,O.ne,O'.obj,_,O'.ns,λg=>?_,λg hg=>?_⟩
 .have:=L_ f y fs;omega
 .show gX ((e_ f y fs).lookup g) (if g=f then some u else mA g);rw[LS]
  by_cases q:g=f
  .rw[if_pos q,if_pos q];exact ry
  .rw[if_neg q,if_neg q];exact r g
 .by_cases q:g=f
  .rw[q];exact(HC f y fs).1
  .refine(HC f y fs).2 g (wi g λz=>hg ?_);show(if g=f then some u else mA g)=none;rw[if_neg q];exact z
theorem Inv.made(I:Inv X af σ H s):Inv X af σ (upd (upd H s.heap.objs.size (.own (s.heap.objs.size+1))) (s.heap.objs.size+1) (.ins C s.heap.objs.size []))
  { s with heap:=(s.heap.push PySem.W.emptyDict).push (PySem.W.instObj C s.heap.objs.size) }:=by
 have e1:(s.heap.push PySem.W.emptyDict).get? s.heap.objs.size=some PySem.W.emptyDict:=ab2 s.heap rfl;have e2:((s.heap.push PySem.W.emptyDict).push (PySem.W.instObj C s.heap.objs.size)).get? (s.heap.objs.size+1)=some (PySem.W.instObj C s.heap.objs.size):=by
  have:=ab2 (s.heap.push PySem.W.emptyDict) (o:=PySem.W.instObj C s.heap.objs.size) rfl
  rwa [afD] at this
 have e3:(s.heap.push PySem.W.emptyDict).Ns s.heap.objs.size (λ_=>none):=⟨PySem.W.emptyDict,#[],_,e1,rfl,(λe he=>absurd he (by simp)),λ_=>rfl⟩
 have I1:=I.laid (o:=.own (s.heap.objs.size+1)) (t':=s.toks) (λb u q=>aaE _ q) (abH _) ⟨_,e1⟩;refine I1.laid (λb u q=>aaE _ q) (Nat.le_of_eq (afD _ _)) ?_;have ne:s.heap.objs.size≠s.heap.objs.size+1:=acu (afy _);refine⟨by rw[aL ne,bQ],ad0 _,ne,e2,λ_=>none,(Heap.Ns1.of_empty e3).at λo q=>aaE _ q,λ_=>True.intro,λy hy=>absurd rfl hy⟩
theorem aev{env:Env}(hb:attributeBase e f env (eval e env)=eval e env)
  (h:wpAny (model prog w) A (eval e env) (λo bN=>wpAny (model prog w) A (getAttr o f true) Q E bN) E s):wpAny (model prog w) A (eval (.Attribute e f pos) env) Q E s:=
 Attribute_any_ h (by rw[arm_eval_Attribute,hb])
end
def CL(K:PySem.W.Frag)(ta:TE)(f:Str):TE:=λσ H Q=>ta σ H λx H1=>∃a C dx fs v,x=.ref a/\H1 a=some (.ins C dx fs)/\j7 K C/\iC K C f/\fs.lookup f=some v/\Q v H1
def Wa(K:PySem.W.Frag)(ta tv:TE)(f:Str):TS:=λD σ H=>tv σ H λy H1=>ta σ H1 λx H2=>∃a C dx fs,x=.ref a/\H2 a=some (.ins C dx fs)/\j7 K C/\iC K C f/\fs.length<1000/\
 D.nx σ (upd H2 a (.ins C dx (e_ f y fs)))
def Qc(X:Cx)(op:Operator)(rd:V->V->Hp->VK->Prop):Prop:=
 ∀(af:List (Addr×Obj)) (s:Shared) (σ:St) (H:Hp) (x y:V) (u v:Value) (Q:VK),Inv X af σ H s->RelV x u->RelV y v->rd x y H Q->wpAny (model X.prog X.w) X.A (inplaceOp op u v) (EP X af σ Q) X.xe s
def Zo(K:PySem.W.Frag)(ta tv:TE)(rd:V->V->Hp->VK->Prop)(f:Str):TS:=λD σ H=>ta σ H λx H1=>∃a C dx fs v,x=.ref a/\H1 a=some (.ins C dx fs)/\j7 K C/\iC K C f/\fs.lookup f=some v/\
 tv σ H1 λy H2=>rd v y H2 λz H3=>∃yK qS,H3 a=some (.ins C yK qS)/\qS.length<1000/\D.nx σ (upd H3 a (.ins C yK (e_ f z qS)))
section
variable{X:Cx}{o e value:Expr}{f:Str}{pos pos' Mn:Pos}{ta tv:TE}
theorem pS(he:PE X e ta)(hb:attributeBase e f X.env (eval e X.env)=eval e X.env):PE X (.Attribute e f pos) (CL X.K ta f):=by
 intro af s σ H Q I h;refine aev hb (aM (he af s σ H _ I h) λu s1 ⟨x,H1,I1,rx,a,C,dx,fs,v,ex,ea,c,n,l,q⟩=>?_);subst ex;obtain rfl:u=Value.ref a:=rx;exact LO I1 ea c n l λu' s2 I2 ru=>⟨v,H1,I2,ru,q⟩
theorem SG(ha:PE X o ta)(hv:PE X value tv)(hs:swapsWith value (some (.Attribute o f pos')) pos.line X.env=pure false):PS X (.Assign [.Attribute o f pos'] value pos) (Wa X.K ta tv f):=by
 intro af s σ H D I h;refine plainObj_wpAny_Assign_Attribute (aM (hv af s σ H _ I h) λu s1 ⟨y,H1,I1,ry,q⟩=>aM (ha af s1 σ H1 _ I1 q) λov s2 ⟨x,H2,I2,rx,a,C,dx,fs,ex,ea,c,n,l,q2⟩=>?_) hs;subst ex;obtain rfl:ov=Value.ref a:=rx;exact Qm I2 ea c n l ry λs3 I3=>⟨σ,_,I3,q2⟩
theorem Sq{op:Operator}{rd:V->V->Hp->VK->Prop}(ha:PE X o ta)(hv:PE X value tv)(hop:Qc X op rd):PS X (.AugAssign (.Attribute o f Mn) op value pos) (Zo X.K ta tv rd f):=by
 intro af s σ H D I h;refine wpAny_AugAssign_AttributeAny (aM (ha af s σ H _ I h) λov s1 ⟨x,H1,I1,rx,a,C,dx,fs,v,ex,ea,c,n,l,q⟩=>?_);subst ex;obtain rfl:ov=Value.ref a:=rx;refine LO I1 ea c n l λu s2 I2 ru=>aM (hv af s2 σ H1 _ I2 q) λw3 s3 ⟨y,H2,I3,ry,q3⟩=>aM (hop af s3 σ H2 v y u w3 _ I3 ru ry q3) λw4 s4 ⟨z,H3,I4,rz,yK,qS,Ze,l',q4⟩=>?_
 exact Qm I4 Ze c n l' rz λs5 I5=>⟨σ,_,I5,q4⟩
def ZE:V->V->Hp->VK->Prop:=λx y H Q=>∃i j,x=.int i/\y=.int j/\Q (.int (i+j)) H
theorem WS:Qc X .Add ZE:=by
 rintro af s σ H x y u v Q I rx ry ⟨i,j,rfl,rfl,q⟩
 obtain⟨t,rfl⟩:=(show ∃t,u=Value.int i t from rx)
 obtain⟨t',rfl⟩:=(show ∃t',v=Value.int j t' from ry)
 exact PyProof.Rows.iadd_int ⟨.int (i+j),H,I.tok _,⟨_,rfl⟩,q⟩
end
section
variable{X:Cx}{af:List (Addr×Obj)}{σ:St}{H:Hp}{s:Shared}{A:Around}{E:Value->Shared->Prop}{Q:Value->Shared->Prop}{c:Value}{b:Bool}
inductive jV(K:PySem.W.Frag)(H:Hp):V->Value->Prop where
 |aD:jV K H .aD (.type "NoneType")
 |bl (x:Bool):jV K H (.bl x) (.type "bool")
 |int (i:Int):jV K H (.int i) (.type "int")
 |str (x:Str):jV K H (.str x) (.type "str")
 |sU (x:UInt64):jV K H (.sU x) (.type "float")
 |lst {a:Addr}{xs:List V} (e:H a=some (.lst xs)):jV K H (.ref a) (.type "list")
 |ck {a:Addr}{o:Obj}{xs:List V} (e:H a=some (.ck o (.lst xs))):jV K H (.ref a) (.type "list")
 |tup {a:Addr}{xs:List V} (e:H a=some (.tup xs)):jV K H (.ref a) (.type "tuple")
 |dK {a:Addr}{aj:List (Key×V)} (e:H a=some (.dK aj)):jV K H (.ref a) (.type "dict")
 |dT {a:Addr}{aj:List (List Key×V)} (e:H a=some (.dT aj)):jV K H (.ref a) (.type "dict")
 |ins {a C dx:Addr}{fs:List (Str×V)} (e:H a=some (.ins C dx fs)) (cl:j7 K C) (ha:PySem.W.findIn K (.ref C) "__class__"=some (some (.builtin "object.__class__")))
   (hn:PySem.W.specialIn K (.builtin "object.__class__") "__get__"=some (some (.builtin "getset_descriptor.__get__"))) (MV:PySem.W.takesIn K (.builtin "object.__class__")=some true)
   (hm:PySem.W.mroIn K C (.type "object")=some true):jV K H (.ref a) (.ref C)
theorem ab7(I:Inv X af σ H s)(rx:RelV x u)(ty:jV X.K H x t)(e:PySem.W.kitOne X.K t c=some b)(h:∀tk,Q (.bool b) { s with toks:=tk }):
  wpAny (model X.prog X.w) A (call (.builtin "isinstance") [u,c]) Q E s:=by
 cases ty with
 |aD=>cases(show u=Value.none from rx);exact PySem.W.kia_one PySem.W.kitx_none I.eU True.intro e (λz=>nomatch z) h
 |bl y=>cases(show u=Value.bool y from rx);exact PySem.W.kia_one PySem.W.kitx_bool I.eU True.intro e (λz=>nomatch z) h
 |int i=>obtain⟨t,q⟩:=(show ∃t,u=Value.int i t from rx);cases q;exact PySem.W.kia_one PySem.W.kitx_int I.eU True.intro e (λz=>nomatch z) h
 |str y=>obtain⟨t,q⟩:=(show ∃t,u=Value.str y t from rx);cases q;exact PySem.W.kia_one PySem.W.kitx_str I.eU True.intro e (λz=>nomatch z) h
 |sU y=>obtain⟨t,q⟩:=(show ∃t,u=Value.float y t from rx);cases q;exact PySem.W.kia_one PySem.W.kitx_float I.eU True.intro e (λz=>nomatch z) h
 | @lst a xs ea=>
  cases(show u=Value.ref a from rx);obtain⟨_,_,n,_,h1⟩:=(show dh X.prog X.w H s.heap a (.lst xs) from I.aI a _ ea)
  exact PySem.W.kia_one PySem.W.kitx_list I.eU ⟨_,h1,rfl⟩ e (λz=>nomatch z) h
 | @ck a ob xs ea=>
  cases(show u=Value.ref a from rx);obtain⟨_,_,_,n,_,h1⟩:=(show dh X.prog X.w H s.heap a (.ck ob (.lst xs)) from I.aI a _ ea)
  exact PySem.W.kia_one PySem.W.kitx_list I.eU ⟨_,h1,rfl⟩ e (λz=>nomatch z) h
 | @tup a xs ea=>
  cases(show u=Value.ref a from rx);obtain⟨_,_,_,p⟩:=(show dh X.prog X.w H s.heap a (.tup xs) from I.aI a _ ea)
  obtain⟨o,h1,h2,_⟩:=p;exact PySem.W.kia_one PySem.W.kitx_tuple I.eU ⟨o,h1,h2⟩ e (λz=>nomatch z) h
 | @dK a aj ea=>
  cases(show u=Value.ref a from rx);obtain⟨_,_,vs,_,p⟩:=(show dh X.prog X.w H s.heap a (.dK aj) from I.aI a _ ea)
  obtain⟨o,es,ep,h1,h2,_⟩:=p;exact PySem.W.kia_one PySem.W.kitx_dict I.eU ⟨o,h1,h2.1⟩ e (λz=>nomatch z) h
 | @dT a aj ea=>
  cases(show u=Value.ref a from rx);obtain⟨_,_,xs,_,o,es,ep,h1,h2,_⟩:=(show dh X.prog X.w H s.heap a (.dT aj) from I.aI a _ ea)
  exact PySem.W.kia_one PySem.W.kitx_dict I.eU ⟨o,h1,h2.1⟩ e (λz=>nomatch z) h
 | @ins a C dx fs ea cl ha hn MV hm=>
  cases(show u=Value.ref a from rx);obtain⟨mA,O,_⟩:=zV I.aI ea;obtain⟨od,J,_⟩:=O.look;exact PySem.W.kia_one (PySem.W.kitx_own (cl.get _) cl.hd ha hn MV hm) I.eU J e (λz=>nomatch z) h
end
structure bh(k:Nat)(A:Around)(cm:Bool:=true):Prop where
 hd:cm=true->A.handled=none
 dp:A.depth+3*k+5<recursionLimit
 un:A.units+16*k+200<cLine
 gd:A.guards=some []
theorem bh.mono{j k:Nat}{A:Around}{cm:Bool}(r:bh k A cm)(h:j<=k):bh j A cm:=⟨r.hd,by have:=r.dp;omega,by have:=r.un;omega,r.gd⟩
theorem bh.deeper{k:Nat}{A:Around}{cm:Bool}(r:bh (k+1) A cm)(env:Env):bh k (A.deeper env) cm:=
 ⟨r.hd,by have:=r.dp;show A.depth+1+3*k+5<_;omega,by have:=r.un;show A.units+3+16*k+200<_;omega,r.gd⟩
theorem bh.in1{k:Nat}{A:Around}{cm:Bool}(r:bh (k+1) A cm):bh k A.in1 cm:=
 ⟨r.hd,by have:=r.dp;show A.depth+3*k+5<_;omega,by have:=r.un;show A.units+1+16*k+200<_;omega,r.gd⟩
theorem adK{A:Around}{C:Addr}{us:List Value}{kw:List (Str×Value)}:(A.under (.builtin "type.__call__" ⟨.ref C::us,kw⟩)).depth=A.depth+1:=by
 first|rfl|simp[Around.under,Code.weight,Code.isCreation,Code.isGuard,Code.isCaller,Code.frames,Code.isFrame,guardIds]
theorem Vw{A:Around}{C:Addr}{us:List Value}{kw:List (Str×Value)}:(A.under (.builtin "type.__call__" ⟨.ref C::us,kw⟩)).units=A.units+1:=by
 first|rfl|simp[Around.under,Code.cUnits,Code.frames,Code.isFrame]
theorem bh.make(r:bh (k+1) A cm)(C:Addr)(us:List Value)(kw:List (Str×Value)):bh k (A.under (.builtin "type.__call__" ⟨.ref C::us,kw⟩)) cm:=
 ⟨r.hd,by have:=r.dp;rw[adK];omega,by have:=r.un;rw[Vw];omega,by first|exact r.gd|(simp[Around.under,Code.guards,Code.isGuard,guardIds,pushGuards];exact r.gd)⟩
theorem bh.depth{k:Nat}{A:Around}{cm:Bool}(r:bh k A cm):A.depth<recursionLimit:=by have:=r.dp;omega
theorem bh.units{k:Nat}{A:Around}{cm:Bool}(r:bh k A cm):A.units+64<cLine:=by have:=r.un;omega
def Az:TA:=λ_ H Q=>Q [] H
def LA(ta:TE)(tr:TA):TA:=λσ H Q=>ta σ H λx H1=>tr σ H1 λxs H2=>Q (x::xs) H2
section
variable{X:Cx}{e:Expr}{es:List Expr}{te:TE}{t:TA}{pos:Pos}
theorem fH:PA X [] Az:=λ_ _ _ _ H Q I h=>Calls.spliced_nil ⟨[],H,I,.nil,h⟩
theorem dW(ha:PE X e te)(hr:PA X es t)(hs:starEach (e::es) X.env=(false,eval e X.env)::starEach es X.env:=by rfl):PA X (e::es) (LA te t):=by
 intro pos af s σ H Q I h;rw[hs];refine Calls.spliced_cons (aM (ha af s σ H _ I h) λu s1 ⟨x,H1,I1,r1,q1⟩=>?_);exact aM (hr pos af s1 σ H1 _ I1 q1) λus s2 ⟨xs,H2,I2,r2,q2⟩=>⟨x::xs,H2,I2,.cons r1 r2,q2⟩
def ady(t:TA):TE:=λσ H Q=>t σ H λxs H1=>xs.length<=sizeLine/\∀p,H1 p=none->Q (.ref p) (upd H1 p (.tup xs))
def sR(t:TA):TE:=λσ H Q=>t σ H λxs H1=>xs.length<=sizeLine/\∀p,H1 p=none->Q (.ref p) (upd H1 p (.lst xs))
theorem KS{x1}(h:PA X es t):PE X (.Tuple es x1 pos) (ady t):=by
 intro af s σ H Q I hq;refine wpAny_Tuple_spliced (aM (h pos af s σ H _ I hq) λus s1 ⟨xs,H1,I1,r,z,q⟩=>⟨by rw[<- r.length];exact z,?_⟩);have hf:=I1.aI.fresh (abH _);refine⟨.ref s1.heap.objs.size,upd H1 s1.heap.objs.size (.tup xs),I1.laid (λb u e=>aaE _ e) (abH _) ?_,rfl,q _ hf⟩;exact⟨z,us,r,⟨_,ab2 _ rfl,rfl,rfl,_,rfl⟩⟩
theorem ab8(h:PA X es t):PE X (.List es pos) (sR t):=by
 intro af s σ H Q I hq;refine wpAny_List_spliced (aM (h pos af s σ H _ I hq) λus s1 ⟨xs,H1,I1,r,z,q⟩=>⟨by rw[<- r.length];exact z,?_⟩);have hf:=I1.aI.fresh (abH _);refine⟨.ref s1.heap.objs.size,upd H1 s1.heap.objs.size (.lst xs),I1.laid (λb u e=>aaE _ e) (abH _) ?_,rfl,q _ hf⟩;exact⟨z,us,0,r,ab2 _ rfl⟩
end
abbrev Sp:=List V->Hp->VK->XK->Prop
abbrev j8:=List Env->Hp->Shared->XK->Value->Shared->Prop
structure tK(P:Program)(w:World)(K:PySem.W.Frag)(mg:Str->Option Value)(base:Heap)(A:Around)(outer:List Env)(s:Shared)(H:Hp):Prop where
 frames:A.frames=some outer
 mod:Mod K mg base
 bs:∀b o,base.get? b=some o->s.heap.get? b=some o/\H b=none
 kD:base.objs.size<=s.heap.objs.size
 kC:s.heap.FunFrames base outer
 qo:∀b∈d_ outer,H b=none
 aI:d7 P w H s.heap
 bare:AllBare s.gens
 hq:Hq K A H
def CE(outer:List Env)(P:Program)(w:World)(H:Hp)(s:Shared)(Q:VK)(u:Value)(s':Shared):Prop:=
 ∃v H',s'.os=s.os/\AllBare s'.gens/\Un (d_ outer) [] H H' s.heap s'.heap/\d7 P w H' s'.heap/\RelV v u/\Q v H'
def CR(CX:j8)(outer:List Env)(P:Program)(w:World)(H:Hp)(s:Shared)(Q:VK)(E:XK)(r:Result)(s':Shared):Prop:=
 match r with
 |.ok (.ret u)=>CE outer P w H s Q u s'
 |.ok _=>False
 |.error e=>CX outer H s E e s'
structure cI(P:Program)(w:World)(K:PySem.W.Frag)(mg:Str->Option Value)(base:Heap)(CX:j8)(k:Nat)(f:Addr)(fd:FuncData)(ps:List Str)(sp:Sp)(cm:Bool:=true):Prop where
 len:∀vs H Q E,sp vs H Q E->vs.length=ps.length
 run:∀(A:Around) (outer:List Env) (s:Shared) (H:Hp) (args:Args) (us:List Value) (vs:List V) (Q:VK) (E:XK),bh k A cm->tK P w K mg base A outer s H->BindsTo s fd args (ps.zip us)->aQ vs us->sp vs H Q E->
  codeAny (model P w) A (.call (.ref f) args) (CR CX outer P w H s Q E) s
theorem cI.imp{K:PySem.W.Frag}{sp OD:Sp}(F:cI P w K mg base CX k f fd ps sp cm)
  (h:∀vs H Q E,OD vs H Q E->sp vs H Q E):cI P w K mg base CX k f fd ps OD cm:=
 ⟨λvs H Q E q=>F.len vs H Q E (h _ _ _ _ q),λA outer s H args us vs Q E hr he hb hv hs=>F.run A outer s H args us vs Q E hr he hb hv (h _ _ _ _ hs)⟩
theorem tK.make{K:PySem.W.Frag}{outer:List Env}(e:tK P w K mg base A outer s H)(C:Addr)(us:List Value)(kw:List (Str×Value)):
  tK P w K mg base (A.under (.builtin "type.__call__" ⟨.ref C::us,kw⟩)) outer s H:=⟨by first|exact e.frames|(simpa[Around.under,Code.envs,Code.isFrame,pushEnvs] using e.frames),e.mod,e.bs,e.kD,e.kC,e.qo,e.aI,e.bare,⟨e.hq.hd,e.hq.ok,e.hq.lm⟩⟩
section
variable{X:Cx}{af:List (Addr×Obj)}{σ:St}{H:Hp}{s s':Shared}
theorem Inv.M7(I:Inv X af σ H s):tK X.prog X.w X.K X.mg X.base X.A X.stack s H:=
 ⟨I.ok.frames,I.ok.mod,I.bs,adw I.ok.kD I.sz,I.stack,I.EA,I.aI,I.bare,I.hq⟩
theorem Inv.after(I:Inv X af σ H s)(h:CE X.stack X.prog X.w H s Q u s'):EP X af σ Q u s':=by
 obtain⟨v,H',os,bare,un,aI,r,q⟩:=h;obtain⟨hh,g,d,t,os'⟩:=s';obtain rfl:os'=s.os:=os;exact⟨v,H',I.call (g':=g) (d':=d) (ch:=[]) un aI bare (λb z=>absurd z (by simp)),r,q⟩
end
def aa0(sp:Sp)(gj:List V)(E:XK)(t:TA):TE:=λσ H Q=>t σ H λvs H1=>sp (vs++gj) H1 Q E
def zq(C:Addr)(m:Str)(sp:Sp)(gj:List V)(E:XK)(ta:TE)(t:TA):TE:=λσ H Q=>ta σ H λx H1=>∃a dx fs,x=.ref a/\H1 a=some (.ins C dx fs)/\fs.lookup m=none/\
 t σ H1 λvs H2=>sp (x::(vs++gj)) H2 Q E
def EB(C:Addr)(sp:Sp)(gj:List V)(E:XK)(t:TA):TE:=λσ H Q=>t σ H λvs H1=>∀x dx,H1 x=none->H1 dx=none->dx≠x->
 sp (.ref x::(vs++gj)) (upd (upd H1 dx (.own x)) x (.ins C dx [])) (λv H2=>v=.aD/\Q (.ref x) H2) E
def Binds(K:PySem.W.Frag)(fd:FuncData)(ps:List Str)(ds:List Value):Prop:=
 ∀(s:Shared) (us:List Value),K.In s.heap->(us++ds).length=ps.length->BindsTo s fd ⟨us,[]⟩ (ps.zip (us++ds))
theorem Binds.all{K:PySem.W.Frag}(h:∀us:List Value,us.length=ps.length->bindArgs fd ⟨us,[]⟩=pure (ps.zip us)):Binds K fd ps []:=λs us _ hl=>by
 rw[acm] at hl ⊢;exact .of_eq (h us hl)
def Passes(CX:j8)(X:Cx)(E:XK):Prop:=∀(af:List (Addr×Obj)) (σ:St) (H:Hp) (s:Shared) (e:Value) (s':Shared),Inv X af σ H s->CX X.stack H s E e s'->X.xe e s'
section
variable{X:Cx}{CX:j8}{k:Nat}{f C:Addr}{fd:FuncData}{ps:List Str}{sp:Sp}{gj:List V}{ds:List Value}{E:XK}{x m:Str}{p pos apos:Pos}{e o:Expr}{es:List Expr}{ta:TE}{t:TA}
variable{cm:Bool}
theorem F8(F:cI X.prog X.w X.K X.mg X.base CX k f fd ps sp cm)(hr:bh k X.A cm)(hb:Binds X.K fd ps ds)(hd:aQ gj ds)(hx:Passes CX X E)
  (I:Inv X af σ H s) (r:aQ vs us) (h:sp (vs++gj) H Q E):wpAny (model X.prog X.w) X.A (call (.ref f) us) (EP X af σ Q) X.xe s:=by
 have r2:=r.append hd;have hl:(us++ds).length=ps.length:=by rw[<- r2.length];exact F.len _ _ _ _ h
 refine wpAny_call (codeAny_mono (F.run X.A X.stack s H ⟨us,[]⟩ (us++ds) (vs++gj) Q E hr I.M7 (hb s us I.eU hl) r2 h) λr s' hq=>?_);cases r with
 |error e=>exact hx af σ H s e s' I hq
 |ok fl=>
  cases fl with
  |ret u=>exact I.after hq
  |next=>exact False.elim hq
  |brk=>exact False.elim hq
  |cont=>exact False.elim hq
theorem Mg(F:cI X.prog X.w X.K X.mg X.base CX k f fd ps sp cm)(hr:bh k X.A cm)(hg:Gl X x)(hm:X.mg x=some (.ref f))(hk:PySem.W.keepIn X.K (.ref f)=true)(hb:Binds X.K fd ps ds)(hd:aQ gj ds)(hx:Passes CX X E)
  (ha:PA X (e::es) t) (lR:(x==("__debug__":Str))=false:=by decide) (he:starEach (e::es) X.env=(false,eval e X.env)::starEach es X.env:=by rfl) (hpl:(backTo pos (starEach es X.env)).any (·.1)=false:=by rfl) :
  PE X (.Call (.Name x p) (e::es) [] pos) (aa0 sp gj E t):=by
 intro af s σ H Q I h;refine aeY (B4 I hg hm ?_ lR);refine PySem.W.callWith_K (h₀:=X.base) I.ok.mod.yC hk (aM (ha pos af s σ H _ I h) λus s1 ⟨vs,H1,I1,r,q⟩=>⟨I1.eU,?_⟩) he hpl;exact F8 F hr hb hd hx I1 r q
theorem Au{pl:Sem Bool}(he:PE X o ta)(c:j7 X.K C)(hm:lT X.K C m f)(F:cI X.prog X.w X.K X.mg X.base CX k f fd ps sp cm)(hr:bh k X.A cm)(hb:Binds X.K fd ps ds)(hd:aQ gj ds)(hx:Passes CX X E)(ha:PA X (e::es) t)
  (iE:starEach (e::es) X.env=(false,eval e X.env)::starEach es X.env:=by rfl) (hpl:(backTo pos (starEach es X.env)).any (·.1)=false:=by rfl)
  (ht:eval (.Call (.Attribute o m apos) (e::es) [] pos) X.env=(do
   let ov <- eval o X.env
   standAt apos.atName
   let(f,first) <- holding [ov] (getMethod ov m pl)
   callWith pos f first (backTo pos (starEach (e::es) X.env)) (backToKw pos (keywordEach [] X.env))):=by rfl) :
  PE X (.Call (.Attribute o m apos) (e::es) [] pos) (zq C m sp gj E ta t):=by
 intro af s σ H Q I h;refine PySem.W.methodCall_KW (pl:=pl) (aM (he af s σ H _ I h) λu s1 ⟨x,H1,I1,rx,a,dx,fs,ex,ea,l,q⟩=>?_) ht;subst ex;obtain rfl:u=Value.ref a:=rx;refine Lo I1 ea c hm l ?_;refine PySem.W.callWith_K (first:=[.ref a]) (h₀:=X.base) I.ok.mod.yC hm.kp (aM (ha pos af s1 σ H1 _ I1 q) λus s2 ⟨vs,H2,I2,r,q2⟩=>⟨I2.eU,?_⟩) iE hpl;exact F8 (us:=.ref a::us) (vs:=.ref a::vs) F hr hb hd hx I2 (.cons rfl r) q2
theorem La{pl:Sem Bool}(he:PE X o ta)(c:j7 X.K C)(hm:lT X.K C m f)(F:cI X.prog X.w X.K X.mg X.base CX k f fd ps sp cm)(hr:bh k X.A cm)(hb:Binds X.K fd ps ds)(hd:aQ gj ds)(hx:Passes CX X E)
  (ht:eval (.Call (.Attribute o m apos) [] [] pos) X.env=(do
   let ov <- eval o X.env
   standAt apos.atName
   let(f,first) <- holding [ov] (getMethod ov m pl)
   callWith pos f first (backTo pos (starEach [] X.env)) (backToKw pos (keywordEach [] X.env))):=by rfl) :
  PE X (.Call (.Attribute o m apos) [] [] pos) (zq C m sp gj E ta Az):=by
 intro af s σ H Q I h;refine PySem.W.methodCall_KW (pl:=pl) (aM (he af s σ H _ I h) λu s1 ⟨x,H1,I1,rx,a,dx,fs,ex,ea,l,q⟩=>?_) ht;subst ex;obtain rfl:u=Value.ref a:=rx;refine Lo I1 ea c hm l ?_;exact PySem.W.callWith_K0 (first:=[.ref a]) I1.eU hm.kp (F8 (us:=[.ref a]) (vs:=[.ref a]) F hr hb hd hx I1 (.cons rfl .nil) q)
structure Mk(K:PySem.W.Frag)(C f:Addr):Prop where
 makes:PySem.W.makesIn K C=true
 init:PySem.W.findIn K (.ref C) "__init__"=some (some (.ref f))
 fn:PySem.W.isFn K (.ref f)=true
 kp:PySem.W.keepIn K (.ref C)=true
theorem Rl(M:Mk X.K C f)(F:cI X.prog X.w X.K X.mg X.base CX k f fd ps sp cm)(hr:bh (k+1) X.A cm)(hb:Binds X.K fd ps ds)(hd:aQ gj ds)
  (hx:Passes CX X E) (I:Inv X af σ H s) (r:aQ vs us)
  (h:∀x dx,H x=none->H dx=none->dx≠x->sp (.ref x::(vs++gj)) (upd (upd H dx (.own x)) x (.ins C dx [])) (λv H2=>v=.aD/\Q (.ref x) H2) E) :
  wpAny (model X.prog X.w) X.A (call (.ref C) us) (EP X af σ Q) X.xe s:=by
 have hq:=h (s.heap.objs.size+1) s.heap.objs.size (I.aI.fresh (Nat.le_succ _)) (I.aI.fresh (abH _)) (acu (afy _));have I2:=Inv.made (C:=C) I;have r2:aQ (V.ref (s.heap.objs.size+1)::(vs++gj)) (Value.ref (s.heap.objs.size+1)::(us++ds)):=.cons rfl (r.append hd);have hl:(Value.ref (s.heap.objs.size+1)::us++ds).length=ps.length:=by
  have e:=r2.length;rw[F.len _ _ _ _ hq] at e;exact e.symm
 refine wpAny_call (R6 I.eU M.makes M.init (afG.mp M.fn) (codeAny_mono (F.run _ X.stack _ _ ⟨Value.ref (s.heap.objs.size + 1)::us,[]⟩ (Value.ref (s.heap.objs.size + 1)::(us++ds)) _ _ E (hr.make C us [])
  (I2.M7.make C us []) (hb _ (Value.ref (s.heap.objs.size+1)::us) I2.eU hl) r2 hq) λr s' lM=>?_))
 cases r with
 |error e=>exact hx af σ _ _ e s' I2 lM
 |ok fl=>
  cases fl with
  |ret u=>
   obtain⟨v,H',I3,rv,ev,q3⟩:=I2.after lM;subst ev;exact⟨rv,⟨V.ref (s.heap.objs.size+1),H',I3,rfl,q3⟩⟩
  |next=>exact False.elim lM
  |brk=>exact False.elim lM
  |cont=>exact False.elim lM
theorem Xb(M:Mk X.K C f)(F:cI X.prog X.w X.K X.mg X.base CX k f fd ps sp cm)(hr:bh (k+1) X.A cm)(hg:Gl X x)(hm:X.mg x=some (.ref C))(hb:Binds X.K fd ps ds)(hd:aQ gj ds)(hx:Passes CX X E)
  (ha:PA X (e::es) t) (lR:(x==("__debug__":Str))=false:=by decide) (he:starEach (e::es) X.env=(false,eval e X.env)::starEach es X.env:=by rfl) (hpl:(backTo pos (starEach es X.env)).any (·.1)=false:=by rfl) :
  PE X (.Call (.Name x p) (e::es) [] pos) (EB C sp gj E t):=by
 intro af s σ H Q I h;refine aeY (B4 I hg hm ?_ lR);refine PySem.W.callWith_K (h₀:=X.base) I.ok.mod.yC M.kp (aM (ha pos af s σ H _ I h) λus s1 ⟨vs,H1,I1,r,q⟩=>⟨I1.eU,?_⟩) he hpl;exact Rl M F hr hb hd hx I1 r q
theorem Tj(M:Mk X.K C f)(F:cI X.prog X.w X.K X.mg X.base CX k f fd ps sp cm)(hr:bh (k+1) X.A cm)(hg:Gl X x)(hm:X.mg x=some (.ref C))(hb:Binds X.K fd ps ds)(hd:aQ gj ds)(hx:Passes CX X E)
  (lR:(x==("__debug__":Str))=false:=by decide):PE X (.Call (.Name x p) [] [] pos) (EB C sp gj E Az):=by
 intro af s σ H Q I h;refine aeY (B4 I hg hm ?_ lR);exact PySem.W.callWith_K0 I.eU M.kp (Rl (us:=[]) M F hr hb hd hx I .nil h)
end
structure pI(N P:List Str)(sc:Scope):Prop where
 kind:sc.kind=.function
 co:sc.isCoroutine=false
 gen:sc.isGenerator=false
 nd:N.Nodup
 pre:N.take P.length=P
 par:∀x∈P,sc.names.lookup x=some .local\/sc.names.lookup x=some .cell
 Ui:∀y∈sc.names,y.2≠.free
theorem Ph{kindOf:Str->Option NameKind}:∀{binds:List (Str×Value)}{m:Str->Option Value},(∀v,(x,v)∉binds)->bindL kindOf binds m x=m x
 |[],_,_=>rfl
 |(n,v)::r,m,h=>by
  unfold bindL;rw[Ph λw hw=>h w (aaa _ hw)]
  split
  .have:x≠n:=by rintro rfl;exact h v aar
   simp[this]
  .rfl
theorem Pp{kindOf:Str->Option NameKind}:∀{binds:List (Str×Value)}{m:Str->Option Value},(∀v,(x,v)∉binds)->bindC kindOf binds m x=m x
 |[],_,_=>rfl
 |(n,v)::r,m,h=>by
  unfold bindC;rw[Pp λw hw=>h w (aaa _ hw)]
  split
  .rfl
  .have:x≠n:=by rintro rfl;exact h v aar
   simp[this]
theorem Ma{kindOf:Str->Option NameKind}:∀{P:List Str}{vs:List Value}{i:Nat}{m:Str->Option Value},P.Nodup->P[i]? = some x->vs[i]? = some v->kindOf x=some .local->
  bindL kindOf (P.zip vs) m x=some v
 |[],_,_,_,_,h,_,_=>by simp at h
 |_::_,[],_,_,_,_,h,_=>by simp at h
 |p::P,w::vs,0,m,nd,h1,h2,hk=>by
  simp at h1 h2;subst h1;subst h2;show bindL kindOf ((p,w)::P.zip vs) m p=_;unfold bindL;rw[Ph λv hv=>(abv.mp nd).1 (List.of_mem_zip hv).1,if_pos hk];simp
 |p::P,w::vs,i+1,m,nd,h1,h2,hk=>by
  unfold bindL;exact Ma (abv.mp nd).2 (by simpa using h1) (by simpa using h2) hk
theorem NN{kindOf:Str->Option NameKind}:∀{P:List Str}{vs:List Value}{i:Nat}{m:Str->Option Value},P.Nodup->P[i]? = some x->vs[i]? = some v->kindOf x≠some .local->
  bindC kindOf (P.zip vs) m x=some v
 |[],_,_,_,_,h,_,_=>by simp at h
 |_::_,[],_,_,_,_,h,_=>by simp at h
 |p::P,w::vs,0,m,nd,h1,h2,hk=>by
  simp at h1 h2;subst h1;subst h2;show bindC kindOf ((p,w)::P.zip vs) m p=_;unfold bindC;rw[Pp λv hv=>(abv.mp nd).1 (List.of_mem_zip hv).1,if_neg hk];simp
 |p::P,w::vs,i+1,m,nd,h1,h2,hk=>by
  unfold bindC;exact NN (abv.mp nd).2 (by simpa using h1) (by simpa using h2) hk
noncomputable def start(N:List Str)(vs:List V):St:=vs.map some++List.replicate (N.length-vs.length) none
noncomputable def iW(CX:j8)(P:Program)(w:World)(K:PySem.W.Frag)(mg:Str->Option Value)(base:Heap)(N:List Str)(qual:Str)(scope:Scope)(f:Addr)(cd:Value)(A:Around)(outer:List Env)(s:Shared)(H:Hp)(E:XK)(cm:Bool:=true):Cx where
 prog:=P
 w:=w
 K:=K
 mg:=mg
 base:=base
 A:=A.deeper (envOfC qual scope s.heap.objs.size f cd)
 N:=N
 eN:=s
 pC:=H
 env:=envOfC qual scope s.heap.objs.size f cd
 outer:=outer
 stack:=envOfC qual scope s.heap.objs.size f cd::outer
 ex:=[]
 calm:=cm
 fn:=λ_=>true
 pn:=[]
 xe:=λe s'=>wpAny (model P w) (A.deeper (envOfC qual scope s.heap.objs.size f cd)) (leaving (envOfC qual scope s.heap.objs.size f cd) e) (λ_ rm=>CX outer H s E e rm) (λe' rm=>CX outer H s E e' rm) s'
theorem N9{sc:Scope}{n:Nat}{x:Str}(h:sc.names.lookup x=some .cell):∃c,(cellsFrom n sc.names []).lookup x=some c:=by
 have q:=PySem.W.cellsFrom_some sc.names n [] (.inl h);exact afa.mp q
theorem Zx{CX:j8}{P:Program}{w:World}{K:PySem.W.Frag}{mg:Str->Option Value}{base:Heap}{N ps:List Str}{qual:Str}{scope:Scope}{outer:List Env}
  (S:pI N ps scope) (hd:cm=true->A.handled=none) (e0:tK P w K mg base A outer s H) (hl:vs.length=ps.length) (r:aQ vs us)
  (x:InCallC s s.heap.objs.size (bindL (envOfC qual scope s.heap.objs.size f cd).kindOf (ps.zip us) λ_=>none) (cellsFrom (s.heap.objs.size+1) scope.names []) (bindC (envOfC qual scope s.heap.objs.size f cd).kindOf (ps.zip us) λ_=>none) s1) :
  Inv (iW CX P w K mg base N qual scope f cd A outer s H E cm) [] (start N vs) H s1:=by
 have hpl:ps.length<=N.length:=by have:=congrArg List.length S.pre;rw[afz] at this;omega
 obtain⟨h1,tk,rfl,hk⟩:=x.done;have sC:∀b:Addr,b∉(iW CX P w K mg base N qual scope f cd A outer s H E cm).ex:=λb z=>absurd (show b∈([]:List Addr) from z) (by simp)
 refine⟨⟨e0.mod,S.kind,rfl,rfl,abH _,λy z c h1 h2=>?_,λy hy=>?_,λy c _ h=>?_,hd,Around.frames_deeper e0.frames,.inr ⟨rfl,rfl⟩,λb z=>absurd z (sC b),e0.bs,e0.kD,λb _ _=>sC b,λb z=>absurd z (sC b),e0.kC,e0.qo⟩,
  rfl,e0.bare,Un.kept hk,⟨_,x.toInCall.ns,λi y v h1 h2 h3=>?_⟩,λy c h=>⟨_,x.cell y c h⟩,e0.aI.fresh (abH _),λy c h=>?_,λp hp=>absurd (show p∈([]:List (Addr×Obj)) from hp) (by simp),e0.aI.kept hk,?_,⟨e0.hq.hd,e0.hq.ok,e0.hq.lm⟩⟩
 .exact name_of_addr x.apart (PySem.mem_of_lookup h1) (PySem.mem_of_lookup h2)
 .have hy:=hy;rcases hy with hy|hy
  .exact N9 hy
  .exact absurd rfl (S.Ui _ (PySem.mem_of_lookup hy))
 .exact aeW (x.above y c (PySem.mem_of_lookup h))
 .have hi:i<vs.length:=by
   unfold start at h2
   by_cases hi:i<vs.length
   .exact hi
   .rw[aed (by simpa using hi)] at h2;rw[afw] at h2
    split at h2<;>cases h2
  have ha:vs[i]? = some v:=by
   unfold start at h2;rw[adz (by simpa using hi),ab3] at h2;exists e,vs[i]?,a,h2;cases h2;rfl
  obtain⟨u,hu,rv⟩:=r.get ha;have hp:ps[i]? = some y:=by
   rw[<- S.pre,List.getElem?_take_of_lt (by omega)];exact h1
  have Np:ps.Nodup:=by rw[<- S.pre];exact S.nd.sublist (List.take_sublist _ _)
  refine⟨u,rv,?_⟩;rcases S.par y (adD hp) with k|k
  .exact .inl ⟨k,Ma Np hp hu k⟩
  .obtain⟨c,e⟩:=N9 k;refine .inr ⟨.inl k,c,e,?_⟩;have q:=x.cell y c e;rw[NN Np hp hu (by show scope.names.lookup y≠_;rw[k];decide)] at q;exact q
 .exact e0.aI.fresh (aeW (x.above y c (PySem.mem_of_lookup h)))
 .unfold start;show _=N.length;rw[abb,List.length_map,List.length_replicate];omega
theorem XI{CX:j8}{P:Program}{w:World}{K:PySem.W.Frag}{mg:Str->Option Value}{base:Heap}{k:Nat}{f:Addr}{name qual:Str}{params:Arguments}{body:List Stmt}{scope:Scope}{dV kV doc pm aR ct oc:Value}{an od:Option Addr}
  {oV:Array (Option Value)}{N ps:List Str}{sp:Sp}{cm:Bool} (lk:K.lookup f=some ⟨oc,od,.func (PySem.W.fnOf name qual params body scope dV kV doc pm an aR ct),oV⟩) (l_:PySem.W.codeIn K aR qual=true) (S:pI N ps scope)
  (len:∀vs H Q E,sp vs H Q E->vs.length=ps.length)
  (CM:∀(A:Around) (outer:List Env) (s:Shared) (H:Hp) (vs:List V) (Q:VK) (E:XK),bh k (A.deeper (envOfC qual scope s.heap.objs.size f aR)) cm->sp vs H Q E->
   ∃t,ir (iW CX P w K mg base N qual scope f aR A outer s H E cm) body t/\t { nx:=λ_ H'=>Q .aD H',rt:=Q } (start N vs) H) :
  cI P w K mg base CX (k+1) f (PySem.W.fnOf name qual params body scope dV kV doc pm an aR ct) ps sp cm:=by
 refine⟨len,λA outer s H args us vs Q E hr e0 hb r qU=>?_⟩;have hl:=len _ _ _ _ qU;have KX:K.In s.heap:=e0.mod.yC.keeps λb o e=>(e0.bs b o e).1
 have lim:s.heap.NoLimit:=e0.mod.nolimit.keeps λb o e=>(e0.bs b o e).1
 have Tv:∀y∈ps.zip us,scope.names.lookup y.1=some .local\/(scope.names.lookup y.1=some .cell/\((cellsFrom (s.heap.objs.size+1) scope.names []).lookup y.1).isSome=true):=λ⟨n,v⟩ hy=>by
  rcases S.par n (List.of_mem_zip hy).1 with q|q
  .exact .inl q
  .exact .inr ⟨q,PySem.W.cellsFrom_some _ _ _ (.inl q)⟩
 refine codeAny_call_function hr.depth (KX _ _ lk) rfl S.co S.gen rfl (PySem.W.codeRec_of KX l_) (hb _ _ _ _ ?_);refine wpAny_newFunctionEnv_cells S.kind Tv λenv he s1 x=>?_
 subst he;refine⟨lim.keeps x.toInCall.keep,codeAny_func ?_⟩;obtain⟨t,ht,hq⟩:=CM A outer s H vs Q E (hr.deeper _) qU;have I:Inv (iW CX P w K mg base N qual scope f aR A outer s H E cm) [] (start N vs) H s1:=Zx S hr.hd e0 hl r x;refine aeR (ht [] s1 (start N vs) H _ I hq) (λfl s' hs=>?_) λe s' hs=>hs
 have fin:∀{aE:St}{H':Hp}{v:V}{u:Value},Inv (iW CX P w K mg base N qual scope f aR A outer s H E cm) [] aE H' s'->RelV v u->Q v H'->CE outer P w H s Q u s':=
  λ{aE H' v u} J rv q=>⟨v,H',J.os,J.bare,J.base,J.aI,rv,q⟩
 cases fl with
 |ret u=>
  obtain⟨v,aE,H',J,rv,q⟩:=hs;exact fin J rv q
 |next=>
  obtain⟨aE,H',J,q⟩:=hs;exact fin (v:=V.aD) (u:=Value.none) J rfl q
 |brk=>
  obtain⟨_,_,_,q⟩:=hs;exact False.elim q
 |cont=>
  obtain⟨_,_,_,q⟩:=hs;exact False.elim q
section
variable{X:Cx}{x:Str}{p pos:Pos}{e:Expr}{es:List Expr}{t:TA}{id T:String}{r:List V->Hp->VK->Prop}
def ED(r:List V->Hp->VK->Prop)(t:TA):TE:=λσ H Q=>t σ H λvs H1=>r vs H1 Q
theorem pK(hc:gu X (.builtin id) r)(hg:Gl X x)(hm:X.mg x=none)(hv:bootBuiltins x=some (.builtin id))(ha:PA X (e::es) t)(hn:x≠"__name__":=by decide)(lR:(x==("__debug__":Str))=false:=by decide)
  (he:starEach (e::es) X.env=(false,eval e X.env)::starEach es X.env:=by rfl) (hpl:(backTo pos (starEach es X.env)).any (·.1)=false:=by rfl):PE X (.Call (.Name x p) (e::es) [] pos) (ED r t):=by
 intro af s σ H Q I h;refine aeY (qC I hg hm hv ?_ hn lR);exact PyProof.Rows.callWith_builtin1 (aM (ha pos af s σ H _ I h) λus s1 ⟨vs,H1,I1,r1,q1⟩=>hc af s1 σ H1 vs us Q I1 r1 q1) he hpl
theorem z7(hc:gu X (.type T) r)(hg:Gl X x)(hm:X.mg x=none)(hv:bootBuiltins x=some (.type T))(ha:PA X (e::es) t)(hn:x≠"__name__":=by decide)(lR:(x==("__debug__":Str))=false:=by decide)
  (he:starEach (e::es) X.env=(false,eval e X.env)::starEach es X.env:=by rfl) (hpl:(backTo pos (starEach es X.env)).any (·.1)=false:=by rfl):PE X (.Call (.Name x p) (e::es) [] pos) (ED r t):=by
 intro af s σ H Q I h;refine aeY (qC I hg hm hv ?_ hn lR);exact afj (aM (ha pos af s σ H _ I h) λus s1 ⟨vs,H1,I1,r1,q1⟩=>hc af s1 σ H1 vs us Q I1 r1 q1) he hpl
end
end L2
namespace HT
open PySem PyProof.Rows
section
variable{prog:Program}{w:World}{A:Around}{E:Value->Shared->Prop}{s:Shared}
noncomputable def gI(n d:Nat):Option Int->Nat
 |none=>d
 |some v=>if v<0 then(v+(n:Int)).toNat else min v.toNat n
theorem CT(n d:Nat):gI n d none=d:=rfl
theorem D5(n d k:Nat):gI n d (some (k:Int))=min k n:=by
 show(if(k:Int)<0 then((k:Int)+(n:Int)).toNat else min (k:Int).toNat n)=min k n;rw[if_neg (by omega),Int.toNat_natCast]
end
end HT
namespace L2
open PySem PySem.Spec PyProof.Rows
abbrev TO:=St->Hp->(Option Int->Hp->Prop)->Prop
def PO(X:Cx)(e:Option Expr)(t:TO):Prop:=
 ∀(af:List (Addr×Obj)) (s:Shared) (σ:St) (H:Hp) (Q:Option Int->Hp->Prop),Inv X af σ H s->t σ H Q->
  wpAny (model X.prog X.w) X.A (evalPart e X.env) (λu s'=>∃o H',Inv X af σ H' s'/\IsPart u o/\Q o H') X.xe s
noncomputable def Td:TO:=λ_ H Q=>Q none H
noncomputable def Uz(t:TE):TO:=λσ H Q=>t σ H λx H1=>∃i,x=.int i/\Q (some i) H1
theorem intsAre_of:∀{us:List Value},aQ (ns.map V.int) us->IntsAre us ns:=by
 induction ns with
 |nil=>intro us r;rw[af5] at r;cases r;exact .nil
 |cons n ns ih=>
  intro us r;rw[aax] at r;cases r with
  |cons r1 r2=>
   obtain⟨t,e⟩:=r1;subst e;exact .cons n t (ih r2)
section
variable{X:Cx}{e:Expr}{te:TE}{lo hi:Option Expr}{tl th:TO}{pos p2:Pos}
theorem F6:PO X none Td:=by
 intro af s σ H Q I h;rw[evalPart_none];exact acr ⟨none,H,I,.none,h⟩
theorem EE(h:PE X e te):PO X (some e) (Uz te):=by
 intro af s σ H Q I hw;rw[evalPart_some];refine aM (h af s σ H _ I hw) λu s1 ⟨x,H1,I1,r1,q1⟩=>?_
 obtain⟨i,rfl,q⟩:=q1;obtain⟨t,rfl⟩:=r1;exact⟨some i,H1,I1,.int i t,q⟩
def Kh(X:Cx)(r:V->Option Int->Option Int->Hp->VK->Prop):Prop:=
 ∀(af:List (Addr×Obj)) (s:Shared) (σ:St) (H:Hp) (x:V) (v vl vu:Value) (lo hi:Option Int) (sl:Addr) (Q:VK),Inv X af σ H s->RelV x v->s.heap.IsSliceOf sl vl vu .none->IsPart vl lo->IsPart vu hi->r x lo hi H Q->
  ∃T id,typeLookup (.type T) "__getitem__"=pure (some (.builtin id))/\s.TypeIs v T/\wpAny (model X.prog X.w) X.A (getItem v (.ref sl)) (EP X af σ Q) X.xe s
def tSl(r:V->Option Int->Option Int->Hp->VK->Prop)(te:TE)(tl th:TO):TE:=λσ H Q=>te σ H λx H1=>tl σ H1 λl H2=>th σ H2 λu H3=>r x l u H3 Q
theorem FH{r:V->Option Int->Option Int->Hp->VK->Prop}(hr:Kh X r)(he:PE X e te)(hl:PO X lo tl)(hu:PO X hi th):PE X (.Subscript e (.Slice lo hi none p2) pos) (tSl r te tl th):=by
 intro af s σ H Q I h;refine Subscript_ (aM (he af s σ H _ I h) λv s1 ⟨x,H1,I1,r1,q1⟩=>?_);refine wpAny_Slice (aM (hl af s1 σ H1 _ I1 q1) λvl s2 ⟨l,H2,I2,pl,q2⟩=>aM (hu af s2 σ H2 _ I2 q2) λvu s3 ⟨u,H3,I3,pu,q3⟩=>?_);rw[evalPart_none];refine acr ?_;have I4:Inv X af σ H3 { s3 with heap:=s3.heap.push { cls:=.type "slice",data:=.fields #[vl,vu,.none] } }:=I3.kept λb ob q=>aaE _ q
 obtain⟨T,id,hT,ht,hg⟩:=hr af { s3 with heap:=s3.heap.push { cls:=.type "slice",data:=.fields #[vl,vu,.none] } } σ H3 x v vl vu l u s3.heap.objs.size Q I4 r1 (Heap.IsSliceOf.new ..) pl pu q3;exact tail_any (ops:=[.ref s3.heap.objs.size,v]) ht hT hg (by with_unfolding_all rfl)
def k8(xs:List V)(lo hi:Option Int):List V:=(xs.drop (HT.gI xs.length 0 lo)).take (HT.gI xs.length xs.length hi-HT.gI xs.length 0 lo)
theorem ach(xs:List V)(lo hi:Option Int):(k8 xs lo hi).length<=xs.length:=by
 unfold k8;rw[afz,List.length_drop];omega
end
noncomputable def gJ(n:Nat)(i:Int):Option Nat:=if 0<=i then(if i<n then some i.toNat else none) else if -(n:Int)<=i then some (i+n).toNat else none
def dM{α:Type}(xs:List α)(i:Int):Option α:=(gJ xs.length i).bind λj=>xs[j]?
theorem OU(h:gJ n i=some j):seqIndex? i n=some j/\j<n/\-(n:Int)<=i/\i<n:=by
 unfold gJ at h
 by_cases h0:0<=i
 .rw[if_pos h0] at h;obtain⟨h1,h⟩:=ci h;have e:=abS h;exact⟨by rw[seqIndex_of h0 h1,e],by omega,by omega,h1⟩
 .rw[if_neg h0] at h;obtain⟨h1,h⟩:=ci h;have e:=abS h;exact⟨by rw[seqIndex_neg (by omega) h1,e],by omega,h1,by omega⟩
theorem G2{α:Type}{xs:List α}{v:α}(h:dM xs i=some v):∃j,seqIndex? i xs.length=some j/\xs[j]? = some v/\j<xs.length/\-(xs.length:Int)<=i/\i<xs.length:=by
 unfold dM at h;exists e,gJ xs.length i,j,h;obtain⟨h1,h2,h3,h4⟩:=OU e;exact⟨j,h1,h,h2,h3,h4⟩
def Gm(b:Expr):Prop:=∀o i,subscripted b false o i=operate [o,i] (getItem o i)
def oi(X:Cx)(r:R2):Prop:=
 ∀(value slice:Expr) (af:List (Addr×Obj)) (s:Shared) (σ:St) (H:Hp) (x y:V) (v u:Value) (Q:VK),Inv X af σ H s->RelV x v->RelV y u->r x y H Q->
  subscripted slice false v u=operate [v,u] (getItem v u)->wpAny (model X.prog X.w) X.A (subscriptTail value slice v u) (EP X af σ Q) X.xe s
def vX(X:Cx)(id:String)(r:V->List V->Hp->VK->Prop):Prop:=
 ∀(af:List (Addr×Obj)) (s:Shared) (σ:St) (H:Hp) (x:V) (xs:List V) (v:Value) (us:List Value) (Q:VK),Inv X af σ H s->RelV x v->aQ xs us->r x xs H Q->
  wpAny (model X.prog X.w) X.A (call (.builtin id) (v::us)) (EP X af σ Q) X.xe s
section
variable{X:Cx}{a b:Expr}{ta tb:TE}{pos:Pos}
theorem oi.or{r r':R2}(h:oi X r)(h':oi X r'):oi X (λx y H Q=>r x y H Q\/r' x y H Q):=by
 intro value slice af s σ H x y v u Q I rx ry q hs;rcases q with q|q
 .exact h value slice af s σ H x y v u Q I rx ry q hs
 .exact h' value slice af s σ H x y v u Q I rx ry q hs
theorem Iq{r:R2}(hr:oi X r)(ha:PE X a ta)(hb:PE X b tb)(hs:Gm b):PE X (.Subscript a b pos) (pY r ta tb):=by
 intro af s σ H Q I h;exact Subscript_ (C5 ha hb I h λv u s2 x y H2 I2 rx ry q=>hr a b af s2 σ H2 x y v u Q I2 rx ry q (hs _ _))
def Ep(K:PySem.W.Frag):R2:=λx y H Q=>∃p xs i v,x=.ref p/\y=.int i/\bY K H p xs/\dM xs i=some v/\Q v H
def zL(K:PySem.W.Frag):R2:=λx y H Q=>∃p xs i v,x=.ref p/\y=.int i/\cg K H p xs/\dM xs i=some v/\Q v H
def C_:R2:=λx y H Q=>∃z i c,x=.str z/\y=.int i/\z.length<=sizeLine/\dM z.cps.toList i=some c/\Q (.str ⟨#[c]⟩) H
theorem SI:oi X (Ep X.K):=by
 intro value slice af s σ H x y v u Q I rx ry h hs;obtain⟨p,xs,i,z,rfl,rfl,hq,he,q⟩:=h;cases rx;obtain⟨t,rfl⟩:=ry;obtain⟨au,r,pl,hz⟩:=I.list hq;obtain⟨j,h1,h2,h3,h4,h5⟩:=G2 he;obtain⟨w,ew,fS⟩:=r.get h2;have hl:=r.length;have hn:=uG;have fin:EP X af σ Q w s:=⟨z,H,I,fS,q⟩
 by_cases h0:0<=i
 .have hj:i.toNat=j:=by
   rw[seqIndex_of h0 h5] at h1;exact abS h1
  exact item_listR pl.isList h0 (by omega) (by rw[hj];simpa using ew) fin hs
 .have hj:(i+(au.toArray.size:Int)).toNat=j:=by
   rw[seqIndex_neg (by omega) h4] at h1;rw[abW,<- hl];exact abS h1
  exact subscriptTail_builtinR pl.isList.typeIs slot_list_getitem.lookup
   (wpAny_getItem_list_neg pl.isList (by omega) (by rw[abW]<;>omega) (by omega) (by rw[hj];simpa using ew) ⟨rfl,fin⟩) hs
theorem LF:oi X (zL X.K):=by
 intro value slice af s σ H x y v u Q I rx ry h hs;obtain⟨p,xs,i,z,rfl,rfl,hq,he,q⟩:=h;cases rx;obtain⟨t,rfl⟩:=ry;obtain⟨au,r,pl,hz⟩:=I.tuple hq;obtain⟨j,h1,h2,h3,h4,h5⟩:=G2 he;obtain⟨w,ew,fS⟩:=r.get h2;have hl:=r.length;have hn:=uG;have fin:EP X af σ Q w s:=⟨z,H,I,fS,q⟩
 exact subscriptTail_builtinR pl.typeIs slot_tuple_getitem.lookup
  (getItem_tuple pl (by omega) (by omega) (by rw[abW,<- hl];exact h1) (by simpa using ew) ⟨rfl,fin⟩) hs
theorem acO:oi X C_:=by
 intro value slice af s σ H x y v u Q I rx ry h hs;obtain⟨z,i,c,rfl,rfl,hz,he,q⟩:=h;obtain⟨t,rfl⟩:=rx;obtain⟨t',rfl⟩:=ry;obtain⟨j,h1,h2,h3,h4,h5⟩:=G2 he;have hl:z.cps.toList.length=z.length:=by simp[Str.length]
 rw[hl] at h1 h4 h5;have hn:=uG;exact tail_any (typeIs_str s z t) slot_str_getitem.lookup (getItem_str (by
  have e1:decide (i < -(2 ^ 63:Int))=false:=abN (by omega);have e2:decide (i >= 2 ^ 63)=false:=abN (by omega);rw[e1,e2,Bool.or_false]) (by rw[h1];simpa using h2) ⟨.str ⟨#[c]⟩,H,I.tok _,⟨_,rfl⟩,q⟩) hs
def rIx(K:PySem.W.Frag):R2:=λx y H Q=>Ep K x y H Q\/zL K x y H Q\/C_ x y H Q
theorem Kq:oi X (rIx X.K):=SI.or (LF.or acO)
theorem VM(au:List Value)(n j:Nat)(u:Value):Obj.mapSeq (·.setIfInBounds j u) { cls:=.type "list",data:=.seq au.toArray n }={ cls:=.type "list",data:=.seq (au.set j u).toArray n }:=by
 simp[Obj.mapSeq]
theorem Inv.lst{af:List (Addr×Obj)}{σ:St}{H:Hp}{s:Shared}{p:Addr}{xs:List V}(I:Inv X af σ H s)(h:H p=some (.lst xs)):
  ∃(au:List Value) (n:Nat),aQ xs au/\s.heap.get? p=some { cls:=.type "list",data:=.seq au.toArray n }/\xs.length<=sizeLine:=by
 obtain⟨z,au,n,r,e⟩:=I.aI p _ h;exact⟨au,n,r,e,z⟩
theorem Inv.Vc{af:List (Addr×Obj)}{σ:St}{H:Hp}{s:Shared}{p:Addr}{xs ys:List V}{au its':List Value}{n n':Nat}{f:Obj->Obj}(I:Inv X af σ H s)(h:H p=some (.lst xs))
  (ho:s.heap.get? p=some { cls:=.type "list",data:=.seq au.toArray n }) (hf:f { cls:=.type "list",data:=.seq au.toArray n }={ cls:=.type "list",data:=.seq its'.toArray n' }) (r:aQ ys its') (hz:ys.length<=sizeLine) (t:Nat) :
  Inv X af σ (upd H p (.lst ys)) { s with heap:=s.heap.update p f,toks:=t }:=by
 have e:(s.heap.update p f).get? p=some { cls:=.type "list",data:=.seq its'.toArray n' }:=by
  rw[ae9 f ho (by rw[hf]<;>rfl),hf]
 refine I.write (by rw[h];trivial) (.inl rfl) (λb u hb q=>(adq _ _ (aeV hb)).trans q) ⟨_,e⟩ ?_;exact⟨hz,its',n',r,e⟩
def adO:V->V->V->Hp->(Hp->Prop)->Prop:=λo i v H Q=>∃p xs k j,o=.ref p/\i=.int k/\H p=some (.lst xs)/\gJ xs.length k=some j/\Q (upd H p (.lst (xs.set j v)))
theorem set_list:QY X adO:=by
 intro af s σ H o i v ov iv u Q I ro ri rv h;obtain⟨p,xs,k,j,rfl,rfl,hp,hj,q⟩:=h;cases ro;obtain⟨t,rfl⟩:=ri;obtain⟨au,n,r,ho,hz⟩:=I.lst hp;obtain⟨h1,h2,h3,h4⟩:=OU hj;have hl:=r.length;have hn:=uG;have I':Inv X af σ (upd H p (.lst (xs.set j v))) { s with heap:=s.heap.update p (Obj.mapSeq (·.setIfInBounds j u)) }:=
  I.Vc hp ho (VM au n j u) (r.set rv j) (by rw[afu];exact hz) s.toks
 by_cases h0:0<=k
 .have hk:k.toNat=j:=by
   rw[seqIndex_of h0 h4] at h1;exact abS h1
  exact PySem.W.ki_setAt ho h0 (by omega) (by rw[abW,<- hl];exact h4) (by rw[hk];exact⟨_,I',q⟩)
 .have hk:(k+(au.toArray.size:Int)).toNat=j:=by
   rw[seqIndex_neg (by omega) h3] at h1;rw[abW,<- hl];exact abS h1
  exact PySem.W.ki_setBack ho (by omega) (by rw[abW,<- hl];exact h3) (by omega) (by rw[hk];exact⟨_,I',q⟩)
theorem Tn(lo hi:Option Int)(n:Nat):(sliceBounds lo hi none n).1=((HT.gI n 0 lo:Nat):Int)/\(sliceBounds lo hi none n).2.1=((HT.gI n n hi:Nat):Int)/\(sliceBounds lo hi none n).2.2=1:=by
 refine⟨?_,?_,rfl⟩
 .cases lo with
  |none=>simp[sliceBounds,HT.gI]
  |some i=>
   simp only[sliceBounds,HT.gI,Option.getD_none,show(1:Int) > 0 by decide,if_true]
   by_cases h:i<0
   .simp only[h,if_true]<;>omega
   .simp only[h,if_false]<;>omega
 .cases hi with
  |none=>simp[sliceBounds,HT.gI]
  |some i=>
   simp only[sliceBounds,HT.gI,Option.getD_none,show(1:Int) > 0 by decide,if_true]
   by_cases h:i<0
   .simp only[h,if_true]<;>omega
   .simp only[h,if_false]<;>omega
theorem Ve(au:List Value)(lo hi:Option Int):slicePick au.toArray lo hi none=((au.drop (HT.gI au.length 0 lo)).take (HT.gI au.length au.length hi-HT.gI au.length 0 lo)).toArray:=by
 obtain⟨h1,h2,h3⟩:=Tn lo hi au.toArray.size;unfold slicePick;rw[h1,h2,h3];simp only[sliceRange_one,pick_run,abW]<;>rfl
def NZ(K:PySem.W.Frag):V->Option Int->Option Int->Hp->VK->Prop:=λx lo hi H Q=>∃a xs,x=.ref a/\bY K H a xs/\∀p,H p=none->Q (.ref p) (upd H p (.lst (k8 xs lo hi)))
theorem CO:Kh X (NZ X.K):=by
 intro af s σ H x v vl vu lo hi sl Q I rx hs pl pu h;obtain⟨a,xs,rfl,hx,q⟩:=h;cases rx;obtain⟨au,r,ht,hz⟩:=I.list hx;have hlen:=r.length;refine⟨"list",_,slot_list_getitem.lookup,ht.isList.typeIs,?_⟩;refine wpAny_getItem_list_slice ht.isList hs pl pu .none (by simp) ?_ (by rw[abW]<;>omega);rw[Ve,<- hlen];refine⟨.ref s.heap.objs.size,_,I.laid (λb ob q=>aaE _ q) (abH _) ?_,rfl,q _ (I.aI.fresh (abH _))⟩;exact⟨adw (ach xs lo hi) hz,_,0,(r.drop (HT.gI xs.length 0 lo)).take (HT.gI xs.length xs.length hi-HT.gI xs.length 0 lo),ab2 _ rfl⟩
noncomputable def mL:V->Bool
 |.aD=>true
 |.bl _=>true
 |.int _=>true
 |.str _=>true
 |_=>false
noncomputable def qH:V->V->Bool
 |.aD,.aD=>true
 |.bl a,.bl b=>a==b
 |.bl a,.int b=>(if a then 1 else 0)==b
 |.int a,.bl b=>a==(if b then 1 else 0)
 |.int a,.int b=>a==b
 |.str a,.str b=>a==b
 |_,_=>false
theorem ad8(ry:RelV y u)(rx:RelV x v)(fy:mL y=true)(fx:mL x=true):SeqAt.EqAt A s u v (qH y x):=by
 cases y with
 |aD=>
  cases ry;cases x with
  |aD=>cases rx;exact SeqAt.EqAt.same _
  |bl b=>cases rx;exact SeqAt.EqAt.none_bool b
  |int b=>obtain⟨t,rfl⟩:=rx;exact SeqAt.EqAt.none_int b t
  |str b=>obtain⟨t,rfl⟩:=rx;exact SeqAt.EqAt.none_str b t
  |_=>exact absurd (show false=true from fx) aa6
 |bl a=>
  cases ry;cases x with
  |aD=>cases rx;exact SeqAt.EqAt.bool_none a
  |bl b=>cases rx;exact SeqAt.EqAt.bool_bool a b
  |int b=>obtain⟨t,rfl⟩:=rx;exact SeqAt.EqAt.bool_int a b t
  |str b=>obtain⟨t,rfl⟩:=rx;exact SeqAt.EqAt.bool_str a b t
  |_=>exact absurd (show false=true from fx) aa6
 |int a=>
  obtain⟨t',rfl⟩:=ry;cases x with
  |aD=>cases rx;exact SeqAt.EqAt.int_none a t'
  |bl b=>cases rx;exact SeqAt.EqAt.int_bool a t' b
  |int b=>obtain⟨t,rfl⟩:=rx;exact SeqAt.EqAt.int_int a t' b t
  |str b=>obtain⟨t,rfl⟩:=rx;exact SeqAt.EqAt.int_str a t' b t
  |_=>exact absurd (show false=true from fx) aa6
 |str a=>
  obtain⟨t',rfl⟩:=ry;cases x with
  |aD=>cases rx;exact SeqAt.EqAt.str_none a t'
  |bl b=>cases rx;exact SeqAt.EqAt.str_bool a t' b
  |int b=>obtain⟨t,rfl⟩:=rx;exact SeqAt.EqAt.str_int a t' b t
  |str b=>obtain⟨t,rfl⟩:=rx;exact SeqAt.EqAt.str_str a t' b t
  |_=>exact absurd (show false=true from fx) aa6
 |_=>exact absurd (show false=true from fy) aa6
def iD(x:V)(u:Value):Bool:=match u with
 |.none=>qH .aD x
 |.bool b=>qH (.bl b) x
 |.int i _=>qH (.int i) x
 |.str z _=>qH (.str z) x
 |_=>false
theorem Oo(r:RelV y u)(f:mL y=true):iD x u=qH y x:=by
 cases y with
 |aD=>cases r;rfl
 |bl b=>cases r;rfl
 |int i=>obtain⟨t,rfl⟩:=r;rfl
 |str z=>obtain⟨t,rfl⟩:=r;rfl
 |_=>exact absurd (show false=true from f) aa6
theorem vS:∀{xs:List V}{us:List Value},aQ xs us->xs.all mL=true->us.any (iD x)=xs.any λy=>qH y x
 |_,_,.nil,_=>rfl
 |y::xs,u::us,.cons r t,f=>by
  rw[afW,aaY] at f;rw[aeZ,aeZ,Oo r f.1,vS t f.2]
theorem um(rx:RelV x v)(fx:mL x=true):∀{xs:List V}{us:List Value},aQ xs us->xs.all mL=true->∀u∈us,SeqAt.EqAt A s u v (iD x u)
 |_,_,.nil,_=>λu hu=>by cases hu
 |y::xs,u::us,.cons r t,f=>λu' hu=>by
  rw[afW,aaY] at f;rcases aa3.mp hu with rfl|hu
  .rw[Oo r f.1];exact ad8 r rx f.1 fx
  .exact um rx fx t f.2 u' hu
def vN(x:V)(xs:List V):Bool:=xs.any λy=>qH y x
def zP(K:PySem.W.Frag)(neg:Bool):R2:=λx y H Q=>∃p xs,y=.ref p/\(bY K H p xs\/cg K H p xs)/\mL x=true/\xs.all mL=true/\Q (.bl (if neg then !vN x xs else vN x xs)) H
theorem Of:dF X (compareOp .In) (zP X.K false):=by
 intro af s σ H x y v u Q I rx ry h;obtain⟨p,xs,rfl,hq,fx,fs,q⟩:=h;cases ry;rcases hq with hq|hq
 .obtain⟨au,r,pl,hz⟩:=I.list hq;refine SeqAt.in_listAt (iD x) pl.isList (λw hw=>um rx fx r fs w (by simpa using hw)) ⟨.bl _,H,I,rfl,?_⟩;rw[show au.toArray.any (iD x)=au.any (iD x) by simp,vS r fs];exact q
 .obtain⟨au,r,pl,hz⟩:=I.tuple hq;refine SeqAt.in_tupleAt (iD x) pl (λw hw=>um rx fx r fs w (by simpa using hw)) ⟨.bl _,H,I,rfl,?_⟩;rw[show au.toArray.any (iD x)=au.any (iD x) by simp,vS r fs];exact q
theorem HN:dF X (compareOp .NotIn) (zP X.K true):=by
 intro af s σ H x y v u Q I rx ry h;obtain⟨p,xs,rfl,hq,fx,fs,q⟩:=h;cases ry;rcases hq with hq|hq
 .obtain⟨au,r,pl,hz⟩:=I.list hq;refine SeqAt.notIn_listAt (iD x) pl.isList (λw hw=>um rx fx r fs w (by simpa using hw)) ⟨.bl _,H,I,rfl,?_⟩;rw[show au.toArray.any (iD x)=au.any (iD x) by simp,vS r fs];exact q
 .obtain⟨au,r,pl,hz⟩:=I.tuple hq;refine SeqAt.notIn_tupleAt (iD x) pl (λw hw=>um rx fx r fs w (by simpa using hw)) ⟨.bl _,H,I,rfl,?_⟩;rw[show au.toArray.any (iD x)=au.any (iD x) by simp,vS r fs];exact q
theorem T3:gu X (.builtin "len") (λxs H Q=>∃p ys,xs=[.ref p]/\(bY X.K H p ys\/cg X.K H p ys)/\Q (.int ys.length) H):=by
 intro af s σ H xs us Q I r h;obtain⟨p,ys,rfl,hq,q⟩:=h;obtain⟨u,rfl,rx⟩:=vals1 r;cases rx;have hn:=uG;rcases hq with hq|hq
 .obtain⟨au,r',pl,hz⟩:=I.list hq;have hlen:=r'.length;exact Calls.call_len_list pl.isList (by simp only[abW]<;>omega) ⟨.int ys.length,H,I.tok _,⟨s.toks+1,by rw[abW,hlen]⟩,q⟩
 .obtain⟨au,r',pl,hz⟩:=I.tuple hq;have hlen:=r'.length;exact len_tuple pl (by simp only[abW]<;>omega) ⟨.int ys.length,H,I.tok _,⟨s.toks+1,by rw[abW,hlen]⟩,q⟩
theorem aaS:gu X (.type "list") (λxs H Q=>∃p ys,xs=[.ref p]/\(bY X.K H p ys\/cg X.K H p ys)/\∀l,H l=none->Q (.ref l) (upd H l (.lst ys))):=by
 intro af s σ H xs us Q I r h;obtain⟨p,ys,rfl,hq,q⟩:=h;obtain⟨u,rfl,rx⟩:=vals1 r;cases rx;have fin:∀(au:List Value),aQ ys au->ys.length<=sizeLine->∀(h':Heap) (c':Nat),(∀b o',s.heap.get? b=some o'->h'.get? b=some o')->
   h'.get? s.heap.objs.size=some { cls:=.type "list",dict:=none,data:=.seq au.toArray c',slots:=#[] }->EP X af σ Q (.ref s.heap.objs.size) { s with heap:=h' }:=λau r' hz h' c' kp e=>
  ⟨.ref s.heap.objs.size,_,I.laid kp (abH _) (show dh X.prog X.w _ h' _ (.lst ys) from⟨hz,au,c',r',e⟩),rfl,q _ (I.aI.fresh (abH _))⟩
 rcases hq with hq|hq
 .obtain⟨au,r',pl,hz⟩:=I.list hq;have hlen:=r'.length;obtain⟨o,ho,hc,n,hd⟩:=pl.isList;exact call_list_seq p (.inl rfl) ho hc hd (λh' c' kp e=>fin au r' hz h' c' kp e) (by simp only[abW]<;>omega)
 .obtain⟨au,r',pl,hz⟩:=I.tuple hq;have hlen:=r'.length;obtain⟨o,ho,hc,n,hd⟩:=pl;exact call_list_seq p (.inr rfl) ho hc hd (λh' c' kp e=>fin au r' hz h' c' kp e) (by simp only[abW]<;>omega)
theorem V0:gu X (.type "tuple") (λxs H Q=>∃p ys,xs=[.ref p]/\((bY X.K H p ys/\∀l,H l=none->Q (.ref l) (upd H l (.tup ys)))\/(cg X.K H p ys/\Q (.ref p) H))):=by
 intro af s σ H xs us Q I r h;obtain⟨p,ys,rfl,h⟩:=h;obtain⟨u,rfl,rx⟩:=vals1 r;cases rx;rcases h with⟨hq,q⟩|⟨hq,q⟩
 .obtain⟨au,r',pl,hz⟩:=I.list hq;have hlen:=r'.length;refine call_tuple_list pl.isList (λh' kp=>?_) (by simp only[abW]<;>omega);have I1:=I.kept (t':=s.toks) kp;have I2:Inv X af σ (upd H h'.objs.size (.tup ys)) { s with heap:=h'.push { cls:=.type "tuple",data:=.seq au.toArray } }:=
   I1.laid (λb o e=>aaE _ e) (abH _) (show dh X.prog X.w _ _ _ (.tup ys) from⟨hz,au,r',nY.new _ _⟩)
  exact⟨.ref h'.objs.size,_,I2,rfl,q _ (I1.aI.fresh (abH _))⟩
 .obtain⟨au,r',pl,hz⟩:=I.tuple hq;exact call_tuple_same pl ⟨.ref p,H,I,rfl,q⟩
def Ds(K:PySem.W.Frag)(T:String)(x:V)(H:Hp):Prop:=match x with
 |.str _=>T="str"
 |.int _=>T="int"
 |.ref p=>(T="list"/\∃xs,bY K H p xs)\/(T="tuple"/\∃o,K.lookup p=some o/\o.cls=.type "tuple"/\o.dict=none)\/
   (T="dict"/\((∃aj,H p=some (.dK aj))\/∃aj,H p=some (.dT aj)))\/(T="set"/\∃S n,H p=some (.set S n))
 |_=>False
theorem QZ{T:String}(I:Inv X af σ H s)(r:RelV x v)(ty:Ds X.K T x H):
  s.TypeIs v T/\∀a,v=.ref a->∃ob,s.heap.get? a=some ob/\ob.dict=none:=by
 cases x with
 |str z=>
  obtain⟨t,rfl⟩:=r;cases(show T="str" from ty);exact⟨typeIs_str s z t,λ_ e=>nomatch e⟩
 |int i=>
  obtain⟨t,rfl⟩:=r;cases(show T="int" from ty);exact⟨typeIs_int s i t,λ_ e=>nomatch e⟩
 |ref p=>
  cases r;rcases ty with⟨rfl,xs,hq⟩|⟨rfl,o,hk,hc,hd⟩|⟨rfl,hk⟩|⟨rfl,S,n,hk⟩
  .obtain⟨au,_,pl,_⟩:=I.list hq;refine⟨pl.isList.typeIs,λa e=>?_⟩;cases e;obtain⟨o,n,e,c,hd,_⟩:=pl;exact⟨o,e,hd⟩
  .refine⟨⟨o,I.eU p o hk,hc⟩,λa e=>?_⟩;cases e;exact⟨o,I.eU _ o hk,hd⟩
  .have z:∃o,s.heap.get? p=some o/\o.ExactDict:=by
    rcases hk with⟨aj,hk⟩|⟨aj,hk⟩
    .obtain⟨_,_,_,_,o,_,_,e,ex,_⟩:=I.aI p _ hk;exact⟨o,e,ex⟩
    .obtain⟨_,_,_,_,o,_,_,e,ex,_⟩:=I.aI p _ hk;exact⟨o,e,ex⟩
   obtain⟨o,e,ex⟩:=z;refine⟨⟨o,e,ex.1⟩,λa e2=>?_⟩;cases e2;exact⟨o,e,ex.2.1⟩
  .obtain⟨o,_,_,_,e,ex,_⟩:=I.aI p _ hk;refine⟨⟨o,e,ex.1⟩,λa e2=>?_⟩;cases e2;exact⟨o,e,ex.2.1⟩
 |_=>exact False.elim ty
def Sy(K:PySem.W.Frag)(T:String)(r:V->List V->Hp->VK->Prop)(to:TE):TE:=λσ H Q=>to σ H λx H1=>Ds K T x H1/\r x [] H1 Q
def WV(K:PySem.W.Frag)(T:String)(r:V->List V->Hp->VK->Prop)(to:TE)(t:TA):TE:=λσ H Q=>to σ H λx H1=>Ds K T x H1/\t σ H1 λxs H2=>r x xs H2 Q
variable{o e:Expr}{es:List Expr}{to:TE}{t:TA}{name:Str}{apos fZ:Pos}{T id:String}{r:V->List V->Hp->VK->Prop}
theorem SX(pa:PlainAttrs T)(slot:Slot T name id)(xq:typeOf (.builtin id)=pure (.type "method_descriptor"))(hm:vX X id r)(ho:PE X o to)
  (jf:attributeBase o name X.env (eval o X.env)=eval o X.env:=by rfl) (jt:(apos.endLine==fZ.line)=true:=by rfl):PE X (.Call (.Attribute o name apos) [] [] fZ) (Sy X.K T r to):=by
 intro af s σ H Q I h;refine wpAny_Call_method0_late jf jt (aM (ho af s σ H _ I h) λv s1 ⟨x,H1,I1,r1,ty,q1⟩=>?_);obtain⟨h1,h2⟩:=QZ I1 r1 ty;exact⟨T,id,pa,slot,xq,h1,h2,Calls.callWith_builtin rfl (PySem.evalArgs_none (hm af s1 σ H1 x [] v [] Q I1 r1 .nil q1))⟩
theorem yf(pa:PlainAttrs T)(slot:Slot T name id)(xq:typeOf (.builtin id)=pure (.type "method_descriptor"))(hm:vX X id r)(ho:PE X o to)(ha:PA X (e::es) t)
  (jf:attributeBase o name X.env (eval o X.env)=eval o X.env:=by rfl)
  (lS:((backTo fZ (starEach (e::es) X.env)).all (λx=>!x.1)&&(backToKw fZ (keywordEach [] X.env)).all (λx=>x.1.isSome)
   && decide ((e::es).length+([]:List Keyword).length+(if([]:List Keyword).isEmpty then 0 else 1)<30))=true:=by rfl)
  (jt:(apos.endLine==fZ.line)=true:=by rfl) (hs:starEach (e::es) X.env=(false,eval e X.env)::starEach es X.env:=by rfl) (Zd:(backTo fZ (starEach es X.env)).any (·.1)=false:=by rfl) :
  PE X (.Call (.Attribute o name apos) (e::es) [] fZ) (WV X.K T r to t):=by
 intro af s σ H Q I h;refine wpAny_Call_method_late jf lS jt rfl (aM (ho af s σ H _ I h) λv s1 ⟨x,H1,I1,r1,ty,q1⟩=>?_);obtain⟨h1,h2⟩:=QZ I1 r1 ty;refine⟨T,id,pa,slot,xq,h1,h2,?_⟩;have hA:=ha fZ af s1 σ H1 _ I1 q1;rw[hs] at hA ⊢;refine Calls.callWith_builtin (by show(false||(backTo fZ (starEach es X.env)).any (·.1))=false;rw[Zd]<;>rfl) (Calls.evalArgs_plain ?_);exact aM hA λus s2 ⟨vs,H2,I2,r2,q2⟩=>hm af s2 σ H2 x vs v us Q I2 r1 r2 q2
end
def Ml(X:Cx)(id:String)(r:V->List V->Hp->VK->Prop):Prop:=
 ∀(af:List (Addr×Obj)) (s:Shared) (σ:St) (H:Hp) (x:V) (xs:List V) (v:Value) (us:List Value) (Q:VK),Inv X af σ H s->RelV x v->aQ xs us->r x xs H Q->
  wpAny (model X.prog X.w) X.A (call (.builtin id) (v::us)) (EP X af σ Q) X.xe s
theorem aQ.one:∀{x:V}{us:List Value},aQ [x] us->∃u,us=[u]/\RelV x u
 |_,_,.cons r .nil=>⟨_,rfl,r⟩
theorem aQ.eraseIdx:∀{xs:List V}{us:List Value} (i:Nat),aQ xs us->aQ (xs.eraseIdx i) (us.eraseIdx i)
 |_,_,_,.nil=>.nil
 |_,_,0,.cons _ t=>t
 |_,_,i+1,.cons r t=>.cons r (aQ.eraseIdx i t)
section
variable{X:Cx}{af:List (Addr×Obj)}{σ:St}{H:Hp}{s:Shared}{l b:Addr}{xs ys zs:List V}
theorem Inv.NY{au its':List Value}{n:Nat}{f:Array Value->Array Value}{t':Nat}(I:Inv X af σ H s)(hH:H l=some (.lst xs))
  (e:s.heap.get? l=some { cls:=.type "list",data:=.seq au.toArray n }) (hf:f au.toArray=its'.toArray) (hv:aQ ys its') (hz:ys.length<=sizeLine) :
  Inv X af σ (upd H l (.lst ys)) { s with heap:=s.heap.update l (Obj.mapSeq f),toks:=t' }:=by
 have q:=PySem.IsL.update e f;rw[hf] at q;refine I.write (by rw[hH];exact trivial) (.inl rfl) (λb' u hb hu=>(adq s.heap (Obj.mapSeq f) (aeV hb)).trans hu) ⟨_,q⟩ ?_;exact⟨hz,its',_,hv,q⟩
theorem Inv.Wy(I:Inv X af σ H s)(hv:aQ ys au)(hz:ys.length<=sizeLine):
  Inv X af σ (upd H s.heap.objs.size (.lst ys)) { s with heap:=s.heap.push { cls:=.type "list",data:=.seq au.toArray },toks:=t' }:=
 I.laid (λ_ _ q=>aaE _ q) (abH _) ⟨hz,au,0,hv,ab2 _ rfl⟩
theorem Inv.fresh(I:Inv X af σ H s):H s.heap.objs.size=none:=I.aI.fresh (abH _)
theorem Inv.B9(I:Inv X af σ H s)(hH:H l=some (.lst xs)):xs.length<=sizeLine/\∃(au:List Value) (n:Nat),aQ xs au/\xs.length=au.length/\s.heap.get? l=some { cls:=.type "list",data:=.seq au.toArray n }:=by
 obtain⟨z,au,n,r,e⟩:=I.aI l _ hH;exact⟨z,au,n,r,r.length,e⟩
end
section
variable{X:Cx}
def WW:V->List V->Hp->VK->Prop:=λx vs H Q=>∃l xs y,x=.ref l/\vs=[y]/\H l=some (.lst xs)/\xs.length<sizeLine/\Q .aD (upd H l (.lst (xs++[y])))
theorem Ck:Ml X "list.append" WW:=by
 intro af s σ H x vs v us Q I rx rv h;obtain⟨l,xs,y,rfl,rfl,hH,hz,q⟩:=h;cases rx;obtain⟨u,rfl,ru⟩:=rv.one;obtain⟨z,au,n,r,hl,e⟩:=I.B9 hH;refine call_meets F.slot_list_append ⟨_,e,rfl⟩ F.entry_list_append (F.args_list_append_2 _ _) (PySem.list_append l au.toArray n u (by rw[abW];omega)) ⟨e,?_⟩;refine⟨.aD,_,I.NY (its':=au++[u]) hH e (by simp) (r.append (.cons ru .nil)) ?_,rfl,q⟩;rw[abb,adH];omega
def Wi:R2:=λx y H Q=>∃l b xs zs,x=.ref l/\y=.ref b/\H l=some (.lst xs)/\H b=some (.lst zs)/\xs.length+zs.length<=sizeLine/\∀p,H p=none->Q (.ref p) (upd H p (.lst (xs++zs)))
theorem Uy:dF X (binaryOp .Add) Wi:=by
 intro af s σ H x y v u Q I rx ry h;obtain⟨l,b,xs,zs,rfl,rfl,hH,hB,hz,q⟩:=h;cases rx;cases ry;obtain⟨z,au,n,r,hl,e⟩:=I.B9 hH;obtain⟨z2,JL,n2,r2,rX,e2⟩:=I.B9 hB;refine PySem.P.add_list e e2 ?_ (by rw[abW,abW];omega);have ea:au.toArray++JL.toArray=(au++JL).toArray:=by simp
 rw[ea];exact⟨.ref _,_,I.Wy (r.append r2) (by rw[abb];omega),rfl,q _ I.fresh⟩
end
section
variable{κ:Type}[DecidableEq κ]
noncomputable def dY(aj:List (κ×V))(k:κ):Option V:=(aj.find? λkv=>decide (kv.1=k)).map (·.2)
noncomputable def putK(aj:List (κ×V))(k:κ)(v:V):List (κ×V):=
 if(aj.any λkv=>decide (kv.1=k))=true then aj.map (λkv=>if kv.1=k then(kv.1,v) else kv) else aj++[(k,v)]
theorem wC{p:κ×V}{r:List (κ×V)}{k:κ}(e:p.1=k):dY (p::r) k=some p.2:=by simp[dY,ac9,e]
theorem xy{p:κ×V}{r:List (κ×V)}{k:κ}(e:¬p.1=k):dY (p::r) k=dY r k:=by simp[dY,ac9,e]
theorem Hr(k:κ):∀aj:List (κ×V),(aj.any λkv=>decide (kv.1=k))=(dY aj k).isSome
 |[]=>rfl
 |p::r=>by
  rw[aeZ]
  by_cases e:p.1=k
  .simp only[wC e,aaN e,Bool.true_or,Option.isSome_some]
  .rw[xy e,abN e,Bool.false_or];exact Hr k r
theorem IB(aj:List (κ×V))(k:κ)(v:V):(putK aj k v).length<=aj.length+1:=by
 unfold putK
 split
 .rw[List.length_map];omega
 .rw[abb,abP,List.length_nil];omega
theorem gX.uW{o:Option V}{u:Option Value}(r:gX o u):o.isSome=u.isSome:=by
 cases o with
 |none=>cases u with
  |none=>rfl
  |some _=>exact(show False from r).elim
 |some _=>cases u with
  |none=>exact(show False from r).elim
  |some _=>rfl
theorem gX.getD{o:Option V}{u:Option Value}{d:V}{d':Value}(r:gX o u)(rd:RelV d d'):RelV (o.getD d) (u.getD d'):=by
 cases o with
 |none=>cases u with
  |none=>exact rd
  |some _=>exact(show False from r).elim
 |some _=>cases u with
  |none=>exact(show False from r).elim
  |some _=>exact r
theorem KV.val{aj:List (κ×V)}{vs:List (κ×Value)}(r:KV aj vs)(k:κ):gX (dY aj k) (valueAt vs k):=by
 unfold KV at r
 induction r with
 |nil=>exact True.intro
 | @cons p q ps qs h t ih=>
  obtain⟨h1,h2⟩:=h
  by_cases e:p.1=k
  .have e':=h1.symm.trans e;have b:valueAt (q::qs) k=some q.2:=by simp[valueAt,ac9,e']
   rw[wC e,b];exact h2
  .have e':¬q.1=k:=λz=>e (h1.trans z)
   have b:valueAt (q::qs) k=valueAt qs k:=by simp[valueAt,ac9,e']
   rw[xy e,b];exact ih
theorem KV.any{aj:List (κ×V)}{vs:List (κ×Value)}(r:KV aj vs)(k:κ):(aj.any λkv=>decide (kv.1=k))=vs.any λkv=>decide (kv.1=k):=by
 unfold KV at r
 induction r with
 |nil=>rfl
 |cons h t ih=>rw[aeZ,aeZ,ih,h.1]
theorem KV.Fy{aj:List (κ×V)}{vs:List (κ×Value)}(r:KV aj vs)(k:κ)(ry:RelV y u):
  KV (aj.map λkv=>if kv.1=k then(kv.1,y) else kv) (vs.map λkv=>if kv.1=k then(kv.1,u) else kv):=by
 unfold KV at r ⊢
 induction r with
 |nil=>exact .nil
 | @cons p q ps qs h t ih=>
  rw[aax,aax];refine .cons ?_ ih;obtain⟨h1,h2⟩:=h
  by_cases e:p.1=k
  .rw[if_pos e,if_pos (h1.symm.trans e)];exact⟨h1,ry⟩
  .rw[if_neg e,if_neg (λz=>e (h1.trans z))];exact⟨h1,h2⟩
theorem KV.put{aj:List (κ×V)}{vs:List (κ×Value)}(r:KV aj vs)(k:κ){y:V}{u:Value}(ry:RelV y u):KV (putK aj k y) (stored vs k u):=by
 unfold putK stored;rw[r.any k]
 by_cases e:(vs.any λkv=>decide (kv.1=k))=true
 .rw[if_pos e,if_pos e];exact r.Fy k ry
 .rw[if_neg e,if_neg e];exact Paired.snoc r ⟨rfl,ry⟩
theorem KV.keys{aj:List (κ×V)}{vs:List (κ×Value)}(r:KV aj vs):aj.map (·.1)=vs.map (·.1):=by
 unfold KV at r
 induction r with
 |nil=>rfl
 |cons h t ih=>rw[aax,aax,ih,h.1]
theorem KV.length{aj:List (κ×V)}{vs:List (κ×Value)}(r:KV aj vs):aj.length=vs.length:=Paired.length r
end
theorem qX(r:RelV (kV k) u):(fR P w).is k u=true:=by
 cases k with
 |inl i=>obtain⟨t,e⟩:=(show ∃t,u=Value.int i t from r);subst e;exact Uv P w i t
 |inr x=>obtain⟨t,e⟩:=(show ∃t,u=Value.str x t from r);subst e;exact RL P w x t
theorem Gv:∀{ks:List Key}{us:List Value},aQ (ks.map kV) us->ItemsAre (fR P w) ks us
 |[],_,r=>by rw[af5] at r;cases r;exact .nil
 |k::ks,_,r=>by
  rw[aax] at r;cases r with
  |cons h t=>exact .cons (qX h) (Gv t)
abbrev KT(H:Hp):List (List Key×V)->List (List Key×Addr×Value)->Prop:=Paired λp q=>p.1=q.1/\Tk H q.2.1 (p.1.map kV)/\RelV p.2 q.2.2
theorem KT.val{aj:List (List Key×V)}{xs:List (List Key×Addr×Value)}(r:KT H aj xs)(k:List Key):gX (dY aj k) ((atKey xs k).map (·.2)):=by
 induction r with
 |nil=>exact True.intro
 | @cons p q ps qs h t ih=>
  obtain⟨h1,_,h2⟩:=h
  by_cases e:p.1=k
  .have e':=h1.symm.trans e;have b:atKey (q::qs) k=some q.2:=by simp[atKey,ac9,e']
   rw[wC e,b];exact h2
  .have e':¬q.1=k:=λz=>e (h1.trans z)
   have b:atKey (q::qs) k=atKey qs k:=by simp[atKey,ac9,e']
   rw[xy e,b];exact ih
theorem KT.Fy{aj:List (List Key×V)}{xs:List (List Key×Addr×Value)}(r:KT H aj xs)(k:List Key)(ry:RelV y u):
  KT H (aj.map λkv=>if kv.1=k then(kv.1,y) else kv) (xs.map (putAt k u)):=by
 induction r with
 |nil=>exact .nil
 | @cons p q ps qs h t ih=>
  rw[aax,aax];refine .cons ?_ ih;obtain⟨h1,h2,h3⟩:=h;unfold putAt
  by_cases e:p.1=k
  .rw[if_pos e,if_pos (h1.symm.trans e)];exact⟨h1,h2,ry⟩
  .rw[if_neg e,if_neg (λz=>e (h1.trans z))];exact⟨h1,h2,h3⟩
theorem KT.put{H:Hp}{aj:List (List Key×V)}{xs:List (List Key×Addr×Value)}(r:KT H aj xs)(k:List Key){b:Addr}{y:V}{u:Value}(hb:Tk H b (k.map kV))(ry:RelV y u):
  KT H (putK aj k y) (storedH xs k b u):=by
 have e:(aj.any λkv=>decide (kv.1=k))=(atKey xs k).isSome:=by
  rw[Hr,(r.val k).uW,afh]
 unfold putK storedH;rw[e]
 by_cases q:(atKey xs k).isSome=true
 .rw[if_pos q,if_pos q];exact r.Fy k ry
 .rw[if_neg q,if_neg q];exact Paired.snoc r ⟨rfl,hb,ry⟩
theorem KT.keeps{aj:List (List Key×V)}{xs:List (List Key×Addr×Value)}(r:KT H aj xs)(ht:∀b (t:lK),H b=some t.ho->H' b=some t.ho):KT H' aj xs:=
 Paired.zO r λ_ _ z=>⟨z.1,let⟨t,e,g⟩:=z.2.1;⟨t,e,ht _ t g⟩,z.2.2⟩
section
variable{P:Program}{w:World}{H:Hp}{h:Heap}{a:Addr}
theorem NO{u:HO}(ok:d7 P w H h)(e:Rd H a u):dh P w H h a u:=e.ok ok
theorem oN{aj:List (Key×V)}(ok:d7 P w H h)(e:Rd H a (.dK aj)):aj.length<=sizeLine/\(a==sysModules)=false/\∃vs,KV aj vs/\h.DictOf (fR P w) a vs:=
 show dh P w H h a (.dK aj) from NO ok e
theorem L4{aj:List (Key×V)}(ok:d7 P w H h)(e:H a=some (.dK aj)):aj.length<=sizeLine/\(a==sysModules)=false/\∃vs,KV aj vs/\h.DictOf (fR P w) a vs:=oN ok (.inl e)
theorem uY{ks:List Key}(ok:d7 P w H h)(e:Tk H a (ks.map kV)):(tupleKind (fR P w)).is h ks a:=by
 have q:dh P w H h a (.tup (ks.map kV)):=by
  obtain⟨t,e1,e2⟩:=e;cases t with
  |tup xs=>cases e1;exact ok a _ e2
  |uX o xs=>cases e1;exact(ok a _ e2).2
  |iP _ _=>cases e1
  |ju _=>cases e1
 obtain⟨_,au,r,o,h1,h2,_,n,h3⟩:=q;exact⟨o,au.toArray,n,h1,h2,h3,by simpa using Gv r⟩
theorem nF{aj:List (List Key×V)}(ok:d7 P w H h)(e:Rd H a (.dT aj)):aj.length<=sizeLine/\(a==sysModules)=false/\
  ∃xs,KT H aj xs/\h.DictOfH (tupleKind (fR P w)) a xs:=by
 obtain⟨z,y,xs,r,o,es,ep,h1,h2,h3,h4,h5⟩:=(show dh P w H h a (.dT aj) from NO ok e)
 refine⟨z,y,xs,r,o,es,ep,h1,h2,h3,h4,λx hx=>?_,h5⟩;have all:∀{l:List (List Key×V)}{m:List (List Key×Addr×Value)},KT H l m->∀x∈m,(tupleKind (fR P w)).is h x.1 x.2.1:=by
  intro l m q
  induction q with
  |nil=>intro x hx;exact nomatch hx
  | @cons p q ps qs hq t ih=>
   intro x hx;rcases aa3.mp hx with e|hx
   .subst e;exact uY ok (by rw[<- hq.1];exact hq.2.1)
   .exact ih x hx
 exact all r x hx
theorem aeD{aj:List (List Key×V)}(ok:d7 P w H h)(e:H a=some (.dT aj)):aj.length<=sizeLine/\(a==sysModules)=false/\
  ∃xs,KT H aj xs/\h.DictOfH (tupleKind (fR P w)) a xs:=nF ok (.inl e)
end
def h_(H:Hp)(a:Addr)(y:V)(r:Option V):Prop:=
 (∃aj k,Rd H a (.dK aj)/\y=kV k/\r=dY aj k)\/∃aj k b,Rd H a (.dT aj)/\y=.ref b/\Tk H b (k.map kV)/\r=dY aj k
def oK(H:Hp)(a:Addr)(y v:V)(H':Hp):Prop:=
 (∃aj k,H a=some (.dK aj)/\y=kV k/\aj.length<sizeLine/\H'=upd H a (.dK (putK aj k v)))\/
 ∃aj k b,H a=some (.dT aj)/\y=.ref b/\Tk H b (k.map kV)/\aj.length<sizeLine/\H'=upd H a (.dT (putK aj k v))
theorem h_.k{H:Hp}{a:Addr}{aj:List (Key×V)}{k:Key}(e:H a=some (.dK aj)):h_ H a (kV k) (dY aj k):=.inl ⟨aj,k,.inl e,rfl,rfl⟩
theorem h_.t{H:Hp}{a b:Addr}{aj:List (List Key×V)}{k:List Key}(e:H a=some (.dT aj))(eb:Tk H b (k.map kV)):h_ H a (.ref b) (dY aj k):=.inr ⟨aj,k,b,.inl e,rfl,eb,rfl⟩
theorem oK.k{H:Hp}{a:Addr}{aj:List (Key×V)}{k:Key}{v:V}(e:H a=some (.dK aj))(hl:aj.length<sizeLine):oK H a (kV k) v (upd H a (.dK (putK aj k v))):=.inl ⟨aj,k,e,rfl,hl,rfl⟩
theorem oK.t{H:Hp}{a b:Addr}{aj:List (List Key×V)}{k:List Key}{v:V}(e:H a=some (.dT aj))(eb:Tk H b (k.map kV))(hl:aj.length<sizeLine):
  oK H a (.ref b) v (upd H a (.dT (putK aj k v))):=.inr ⟨aj,k,b,e,rfl,eb,hl,rfl⟩
section
variable{X:Cx}{af:List (Addr×Obj)}{σ:St}{H:Hp}{s:Shared}{a:Addr}{y v:V}{u r:Value}{o:Option V}{A:Around}{E:Value->Shared->Prop}
theorem Inv.big(I:Inv X af σ H s):sysModules<s.heap.objs.size:=by
 have h:=(I.mod.glob.keeps I.bk).lt;exact Nat.lt_trans (by decide) h
theorem Xc(hu:A.units+1<cLine)(I:Inv X af σ H s)(g:h_ H a y (some v))(ry:RelV y u)(h:∀w' s',Inv X af σ H s'->RelV v w'->Q w' s'):
  wpAny (model X.prog X.w) A (getItem (.ref a) u) Q E s:=by
 rcases g with⟨aj,k,e,ey,l⟩|⟨aj,k,b,e,ey,eb,l⟩
 .subst ey;obtain⟨z,hd,vs,rel,dd⟩:=oN I.aI e;obtain⟨w',hw,fS⟩:=gX.some_of (by rw[l];exact rel.val k);exact wpAny_getItem_of (qX ry) dd.mapOf hw (h w' _ (I.tok _) fS)
 .subst ey;cases(show u=Value.ref b from ry);obtain⟨z,hd,xs,rel,dd⟩:=nF I.aI e;obtain⟨w',hw,fS⟩:=gX.some_of (by rw[l];exact rel.val k);obtain⟨p,hp,xg⟩:=ab9.mp hw;refine wpAny_getItem_heap (afb hu) (uY I.aI eb) dd hp ?_;rw[xg];exact h w' _ (I.tok _) fS
theorem Vx(hu:A.units+1<cLine)(I:Inv X af σ H s)(g:h_ H a y o)(ry:RelV y u)(h:∀s',Inv X af σ H s'->Q (.bool o.isSome) s'):
  wpAny (model X.prog X.w) A (compareOp .In u (.ref a)) Q E s:=by
 rcases g with⟨aj,k,e,ey,l⟩|⟨aj,k,b,e,ey,eb,l⟩
 .subst ey;obtain⟨z,hd,vs,rel,dd⟩:=oN I.aI e;refine wpAny_in_of (qX ry) hd dd.mapOf ?_;rw[<- (rel.val k).uW,<- l];exact h _ (I.tok _)
 .subst ey;cases(show u=Value.ref b from ry);obtain⟨z,hd,xs,rel,dd⟩:=nF I.aI e;refine wpAny_in_heap (afb hu) (uY I.aI eb) hd dd ?_;have q:=(rel.val k).uW;rw[afh] at q;rw[<- q,<- l];exact h _ (I.tok _)
theorem R8{Q:Value->Shared->Prop}(hu:A.units+1<cLine)(I:Inv X af σ H s)(g:h_ H a y o)(ry:RelV y u)(h:∀s',Inv X af σ H s'->Q (.bool (!o.isSome)) s'):
  wpAny (model X.prog X.w) A (compareOp .NotIn u (.ref a)) Q E s:=by
 rcases g with⟨aj,k,e,ey,l⟩|⟨aj,k,b,e,ey,eb,l⟩
 .subst ey;obtain⟨z,hd,vs,rel,dd⟩:=oN I.aI e;refine wpAny_notIn_of (qX ry) hd dd.mapOf ?_;rw[<- (rel.val k).uW,<- l];exact h _ (I.tok _)
 .subst ey;cases(show u=Value.ref b from ry);obtain⟨z,hd,xs,rel,dd⟩:=nF I.aI e;refine wpAny_notIn_heap (afb hu) (uY I.aI eb) hd dd ?_;have q:=(rel.val k).uW;rw[afh] at q;rw[<- q,<- l];exact h _ (I.tok _)
theorem P8{ob:HO}(I:Inv X af σ H s)(mu:xu (H a))(hs:Heap.SameBut a s.heap h')(he:∃q,h'.get? a=some q)(new:dh X.prog X.w (upd H a ob) h' a ob):
  Inv X af σ (upd H a ob) { s with heap:=h',toks:=t' }:=
 I.write mu (.inl rfl) (λb q hb z=>(hs.2 b hb).trans z) he new
theorem IG{aj:List (Key×V)}(z:aj.length<=sizeLine)(hd:(a==sysModules)=false)(rel:KV aj vs)(dd:h'.DictOf (fR P w) a vs):
  dh P w H' h' a (.dK aj):=⟨z,hd,vs,rel,dd⟩
theorem Zu{H':Hp}{Q:Unit->Shared->Prop}(hu:A.units+1<cLine)(I:Inv X af σ H s)(g:oK H a y v H')(ry:RelV y u)(rv:RelV v r)(h:∀s',Inv X af σ H' s'->Q () s'):
  wpAny (model X.prog X.w) A (setItem (.ref a) u r) Q E s:=by
 rcases g with⟨aj,k,e,ey,l,eH⟩|⟨aj,k,b,e,ey,eb,l,eH⟩
 .subst ey eH;obtain⟨z,hd,vs,rel,dd⟩:=L4 I.aI e;have hz:vs.length<=sizeLine:=by rw[<- rel.length];exact z
  have hl:(putK aj k v).length<=sizeLine:=by have:=IB aj k v;omega
  refine wpAny_setItem_pairs (hsz:=hz) (qX ry) dd λh' qW hs=>h _ ?_
  have he:∃q,h'.get? a=some q:=let⟨q,_,_,hq,_⟩:=qW;⟨q,hq⟩
  exact P8 I (by rw[e];exact True.intro) hs he (IG hl hd (rel.put k rv) qW)
 .subst ey eH;cases(show u=Value.ref b from ry);obtain⟨z,hd,xs,rel,dd⟩:=aeD I.aI e;have hz:xs.length<=sizeLine:=by rw[<- Paired.length rel];exact z
  have hl:(putK aj k v).length<=sizeLine:=by have:=IB aj k v;omega
  refine wpAny_setItem_heap (hsz:=hz) (afb hu) (uY I.aI eb) dd λh' qW hs=>h _ ?_
  obtain⟨q,es,ep,hq,h2,h3,h4,_,h5⟩:=qW;refine P8 I (by rw[e];exact True.intro) hs ⟨q,hq⟩ ⟨hl,hd,_,(rel.put k eb rv).keeps λc ys ec=>?_,q,es,ep,hq,h2,h3,h4,h5⟩;rw[aL (UD ec e (by cases ys<;>intro z<;>cases z))];exact ec
end
section
variable{X:Cx}{af:List (Addr×Obj)}{σ:St}{H:Hp}{s:Shared}{a:Addr}{aj:List (Key×V)}{k:Key}{u:Value}{A:Around}{E:Value->Shared->Prop}
theorem S3(I:Inv X af σ H s)(e:Rd H a (.dK aj))(h:∀t s',Inv X af σ H s'->Q (.int aj.length t) s'):wpAny (model X.prog X.w) A (call (.builtin "len") [.ref a]) Q E s:=by
 obtain⟨z,hd,vs,rel,dd⟩:=oN I.aI e;refine call_len_dict hd dd (by rw[<- rel.length];rw[aeI] at z;omega) ?_;rw[<- rel.length];exact h _ _ (I.tok _)
end
def xW(i:Expr):Prop:=∀ov iv,subscripted i false ov iv=operate [ov,iv] (getItem ov iv)
theorem LG{env:Env}{T id:String}
  (hl:typeLookup (.type T) "__getitem__"=pure (some (.builtin id))) (hs:xW slice)
  (h:wpAny (model prog w) A (eval value env) (λo bN=>wpAny (model prog w) A (eval slice env) (λi qT=>qT.TypeIs o T/\wpAny (model prog w) A (getItem o i) Q E qT) E bN) E s) :
  wpAny (model prog w) A (eval (.Subscript value slice pos) env) Q E s:=by
 refine Subscript_ (aeR h (λo bN Ag=>aeR Ag (λi qT Gb=>?_) λ_ _ x=>x) λ_ _ x=>x);obtain⟨hT,Gb⟩:=Gb;unfold subscriptTail;refine aaQ ?_;rw[getitemInPython_of_ne hT.not_modules];refine aaQ (wpAny_specialOf hT hl ?_);have fin:wpAny (model prog w) A (subscripted slice false o i) (λr BU=>wpAny (model prog w) A (letTemporaryGo value o r >>= λ_=>pure r) Q E BU) E qT:=by
  rw[hs o i];exact wpAny_operating (aeR Gb (λr BU acC=>aaQ (wpAny_letTemporaryGo (acr acC))) λ_ _ x=>x)
 first
  |exact acr (aaQ fin)
  |exact aaQ (acr (aaQ fin))
  |exact aaQ fin
theorem WA{o:Option V}(I:Inv X af σ H s)(g:h_ H a y o):s.TypeIs (.ref a) "dict":=by
 rcases g with⟨aj,k,e,_,_⟩|⟨aj,k,b,e,_,_,_⟩
 .obtain⟨_,_,vs,_,dd⟩:=oN I.aI e;exact dd.typeIs
 .obtain⟨_,_,xs,_,dd⟩:=nF I.aI e;exact dd.typeIs
def M6(td ty:TE):TE:=λσ H Q=>td σ H λx H1=>ty σ H1 λy H2=>∃a v,x=.ref a/\h_ H2 a y (some v)/\Q v H2
def Vz(ty td:TE):TE:=λσ H Q=>ty σ H λy H1=>td σ H1 λx H2=>∃a o,x=.ref a/\h_ H2 a y o/\Q (.bl o.isSome) H2
def Vu(ty td:TE):TE:=λσ H Q=>ty σ H λy H1=>td σ H1 λx H2=>∃a o,x=.ref a/\h_ H2 a y o/\Q (.bl (!o.isSome)) H2
def Vm(td ty tv:TE):TS:=λD σ H=>tv σ H λv H1=>td σ H1 λx H2=>ty σ H2 λy H3=>∃a H4,x=.ref a/\oK H3 a y v H4/\D.nx σ H4
section
variable{X:Cx}{o i e value:Expr}{pos pos' Mn:Pos}{td ty tv:TE}
theorem KG(hu:X.A.units+1<cLine)(ho:PE X o td)(hi:PE X i ty)(hs:xW i):PE X (.Subscript o i pos) (M6 td ty):=by
 intro af s σ H Q I h;refine LG PySem.F.slot_dict_getitem.lookup hs (aM (ho af s σ H _ I h) λu s1 ⟨x,H1,I1,rx,q1⟩=>aM (hi af s1 σ H1 _ I1 q1) λiv s2 ⟨y,H2,I2,ry,a,v,ex,g,q2⟩=>?_);subst ex;obtain rfl:u=Value.ref a:=rx;exact⟨WA I2 g,Xc hu I2 g ry λw' s3 I3 fS=>⟨v,H2,I3,fS,q2⟩⟩
theorem Rg(hu:X.A.units+1<cLine)(hi:PE X i ty)(ho:PE X o td):PC X .In i o (Vz ty td):=by
 intro af s σ H Q I h;refine aM (hi af s σ H _ I h) λiv s1 ⟨y,H1,I1,ry,q1⟩=>aM (ho af s1 σ H1 _ I1 q1) λu s2 ⟨x,H2,I2,rx,a,ov,ex,g,q2⟩=>?_
 subst ex;obtain rfl:u=Value.ref a:=rx;exact Vx hu I2 g ry λs3 I3=>⟨.bl ov.isSome,H2,I3,rfl,q2⟩
theorem R_(hu:X.A.units+1<cLine)(hi:PE X i ty)(ho:PE X o td):PC X .NotIn i o (Vu ty td):=by
 intro af s σ H Q I h;refine aM (hi af s σ H _ I h) λiv s1 ⟨y,H1,I1,ry,q1⟩=>aM (ho af s1 σ H1 _ I1 q1) λu s2 ⟨x,H2,I2,rx,a,ov,ex,g,q2⟩=>?_
 subst ex;obtain rfl:u=Value.ref a:=rx;exact R8 hu I2 g ry λs3 I3=>⟨.bl (!ov.isSome),H2,I3,rfl,q2⟩
theorem A8(hu:X.A.units+1<cLine)(ho:PE X o td)(hi:PE X i ty)(hv:PE X value tv)(hs:swapsWith value (some (.Subscript o i pos')) pos.line X.env=pure false):
  PS X (.Assign [.Subscript o i pos'] value pos) (Vm td ty tv):=by
 intro af s σ H D I h;refine wpAny_Assign_Subscript (aM (hv af s σ H _ I h) λr s1 ⟨v,H1,I1,rv,q1⟩=>aM (ho af s1 σ H1 _ I1 q1) λu s2 ⟨x,H2,I2,rx,q2⟩=>aM (hi af s2 σ H2 _ I2 q2) λiv s3 ⟨y,H3,I3,ry,a,H4,ex,g,q3⟩=>?_) hs;subst ex;obtain rfl:u=Value.ref a:=rx;exact Zu hu I3 g ry rv λs4 I4=>⟨σ,H4,I4,q3⟩
end
theorem VX(h:Heap)(hb:sysModules<h.objs.size):dh P w H (h.push { cls:=.type "dict",data:=.dict #[] }) h.objs.size (.dK []):=
 ⟨ad0 _,adg.mpr (aeV (acu hb)),[],.nil,Heap.DictOf.new h⟩
theorem Vp{P:Program}{w:World}{H:Hp}(h:Heap)(hb:sysModules<h.objs.size):dh P w H (h.push { cls:=.type "dict",data:=.dict #[] }) h.objs.size (.dT []):=
 ⟨ad0 _,adg.mpr (aeV (acu hb)),[],.nil,_,#[],0,ab2 _ rfl,⟨rfl,rfl,rfl⟩,rfl,rfl,ace⟩
def SM:TE:=λ_ H Q=>∀p,H p=none->Q (.ref p) (upd H p (.dK []))
def abp:TE:=λ_ H Q=>∀p,H p=none->Q (.ref p) (upd H p (.dT []))
section
variable{X:Cx}{pos:Pos}
theorem adW:PE X (.Dict [] [] pos) SM:=λaf s σ H Q I h=>
 wpAny_Dict_empty ⟨.ref s.heap.objs.size,_,I.laid (λ_ _ q=>aaE _ q) (abH _) (VX s.heap I.big),rfl,h _ (I.aI.fresh (abH _))⟩
theorem abZ:PE X (.Dict [] [] pos) abp:=λaf s σ H Q I h=>
 wpAny_Dict_empty ⟨.ref s.heap.objs.size,_,I.laid (a:=s.heap.objs.size) (o:=.dT []) (t':=s.toks) (λ_ _ q=>aaE _ q) (abH _) (Vp s.heap I.big),rfl,h _ (I.aI.fresh (abH _))⟩
end
structure M2(X:Cx)(o:Expr)(m:Str)(apos:Pos)(e f:Expr)(fZ:Pos):Prop where
 base:attributeBase o m X.env (eval o X.env)=eval o X.env
 few:((backTo fZ (starEach [e,f] X.env)).all (λx=>!x.1)&&(backToKw fZ (keywordEach [] X.env)).all (λx=>x.1.isSome)
  && decide (([e,f]:List Expr).length+([]:List Keyword).length+(if([]:List Keyword).isEmpty then 0 else 1)<30))=true
 line:(apos.endLine==fZ.line)=true
 trees:backTo fZ (starEach [e,f] X.env)=[(false,eval e X.env),(false,eval f X.env)]
def LX(H:Hp)(a:Addr):Prop:=(∃aj,Rd H a (.dK aj))\/∃aj,Rd H a (.dT aj)
theorem Vq(I:Inv X af σ H s)(d:LX H a):
  s.TypeIs (.ref a) "dict"/\(∀b,Value.ref a=.ref b->∃ob,s.heap.get? b=some ob/\ob.dict=none)/\(a==sysModules)=false:=by
 rcases d with⟨aj,e⟩|⟨aj,e⟩
 .obtain⟨_,hd,vs,_,dd⟩:=oN I.aI e;refine⟨dd.typeIs,λb q=>?_,hd⟩;cases q;obtain⟨ob,_,_,h1,h2,_⟩:=dd;exact⟨ob,h1,h2.2.1⟩
 .obtain⟨_,hd,xs,_,dd⟩:=nF I.aI e;refine⟨dd.typeIs,λb q=>?_,hd⟩;cases q;obtain⟨ob,_,_,h1,h2,_⟩:=dd;exact⟨ob,h1,h2.2.1⟩
section
variable{X:Cx}{af:List (Addr×Obj)}{σ:St}{H:Hp}{s:Shared}{a:Addr}{y d:V}{u r:Value}{o:Option V}{A:Around}{E:Value->Shared->Prop}
theorem aaO(hu:A.units+1<cLine)(I:Inv X af σ H s)(g:h_ H a y o)(ry:RelV y u)(rd:RelV d r)(h:∀w' s',Inv X af σ H s'->RelV (o.getD d) w'->Q w' s'):
  wpAny (model X.prog X.w) A (call (.builtin "dict.get") [.ref a,u,r]) Q E s:=by
 rcases g with⟨aj,k,e,ey,l⟩|⟨aj,k,b,e,ey,eb,l⟩
 .subst ey;obtain⟨z,hd,vs,rel,dd⟩:=oN I.aI e;refine call_meetsIn PySem.F.slot_dict_get dd.typeIs PySem.F.entry_dict_get (PySem.F.args_dict_get_3 _ _ _) (meets_dict_get_default (fR X.prog X.w) a (qX ry) hd r) ⟨_,dd.mapOf,h _ _ (I.tok _) ?_⟩;rw[l];exact(rel.val k).getD rd
 .subst ey;cases(show u=Value.ref b from ry);obtain⟨z,hd,xs,rel,dd⟩:=nF I.aI e;refine call_meetsIn PySem.F.slot_dict_get dd.typeIs PySem.F.entry_dict_get (PySem.F.args_dict_get_3 _ _ _) (meetsH_dict_get_default (tupleKind (fR X.prog X.w)) a b hd r) ⟨afb hu,k,xs,uY I.aI eb,dd,h _ _ (I.tok _) ?_⟩;rw[l];exact(rel.val k).getD rd
end
def RA(td ty tx:TE):TE:=λσ H Q=>td σ H λx H1=>∃a,x=.ref a/\LX H1 a/\ty σ H1 λy H2=>tx σ H2 λz H3=>∃o,h_ H3 a y o/\Q (o.getD z) H3
section
variable{X:Cx}{o e f:Expr}{apos fZ:Pos}{td ty tx:TE}
theorem FL(hu:X.A.units+1<cLine)(ho:PE X o td)(he:PE X e ty)(hf:PE X f tx)(m:M2 X o "get" apos e f fZ):PE X (.Call (.Attribute o "get" apos) [e,f] [] fZ) (RA td ty tx):=by
 intro af s σ H Q I h;refine wpAny_Call_method m.base m.few m.line PySem.F.plainAttrs_dict PySem.F.slot_dict_get PySem.F.type_dict_get (aM (ho af s σ H _ I h) λu s1 ⟨x,H1,I1,rx,a,ex,d,q1⟩=>?_);subst ex;obtain rfl:u=Value.ref a:=rx;obtain⟨t1,t2,_⟩:=Vq I1 d;refine⟨t1,t2,?_⟩;rw[m.trees];refine Calls.callWith_builtin rfl (Calls.evalArgs_plain (Calls.spliced_cons (aM (he af s1 σ H1 _ I1 q1) λiv s2 ⟨y,H2,I2,ry,q2⟩=>
  Calls.spliced_cons (aM (hf af s2 σ H2 _ I2 q2) λfv s3 ⟨z,H3,I3,rz,ov,g,q3⟩=>Calls.spliced_nil ?_))))
 exact aaO hu I3 g ry rz λw' s4 I4 fS=>⟨_,H3,I4,fS,q3⟩
end
section
variable{X:Cx}{af:List (Addr×Obj)}{σ:St}{H:Hp}{s:Shared}{a:Addr}{aj:List (Key×V)}{A:Around}{E:Value->Shared->Prop}
theorem UE(I:Inv X af σ H s)(e:Rd H a (.dK aj))(h:∀p s',H p=none->Inv X af σ (upd H p (.dK aj)) s'->Q (.ref p) s'):wpAny (model X.prog X.w) A (call (.type "dict") [.ref a]) Q E s:=by
 obtain⟨z,hd,vs,rel,dd⟩:=oN I.aI e;refine kt_call_dict hd dd (by rw[<- rel.length];exact z) λh' qW hs=>?_
 refine h _ _ (I.aI.fresh (abH _)) (I.laid (λb q hq=>?_) (abH _) (IG z (adg.mpr (aeV (acu I.big))) rel qW));exact(hs.2 b (acu (abo hq))).trans (aaE _ hq)
end
end L2
namespace O3
open PySem PySem.W PySem.Calls PyProof.Rows
theorem acU:∀(ns:List Int) (vs:List Value),WellAll P h vs (ns.map WData.int)->IntsAre vs ns:=by
 intro ns
 induction ns with
 |nil=>
  intro vs w;rw[af5] at w;cases w;exact .nil
 |cons n ns ih=>
  intro vs w;rw[aax] at w;cases w with
  |cons a b=>
   cases a;exact .cons _ _ (ih _ b)
theorem Yd{l:OpenLaw}(hn:l.most=some n){args:List WData}
  (Bk:l.row.toRowW.claim.pre args=true) (B0:WellAll P h vals args) :
  ∃a vs ns,vals=[Value.ref a]/\args=[WData.list (ns.map WData.int)]/\h.get? a=some { cls:=.type "list",data:=.seq vs.toArray }/\IntsAre vs ns/\ns.length<=n:=by
 have XZ:=(pre_splitW Bk).1;have hc:l.pre.holds [] { args:=args }=true:=(pre_splitW Bk).2;obtain⟨d,r,rfl,h1,h2⟩:=hasAllW_cons XZ;obtain rfl:=hasAllW_nil h2;obtain⟨xs,rfl,h3⟩:=hasW_list h1;obtain⟨ns,rfl⟩:=items_int h3;have hlen:ns.length<=n:=by
  unfold OpenLaw.pre at hc;have h4:(WTm.not (.lt (.lit (.int (n:Int))) (.len (.arg 0)))).holds [] { args:=[.list (ns.map .int)] }=true:=by
   have h4:=(holds_andW hc).1;rw[hn] at h4;exact h4
  have h5:=condW_of h4 (w_not (w_lt w_lit (w_len_list (w_arg rfl))));rw[List.length_map] at h5;refine Nat.le_of_not_lt λq=>?_
  have q':(n:Int)<((ns.length:Nat):Int):=by omega
  first
   |(rw[aaN q'] at h5;exact absurd h5 (by decide))
   |(simp at h5;omega)
 cases B0 with
 |cons w1 w2=>
  cases w2;cases w1 with
  |list ho D8=>exact⟨_,_,ns,rfl,rfl,ho,acU ns _ D8,hlen⟩
theorem VS(l:OpenLaw)(args:List WData):l.row.toRowW.claim.post args (.bool true) args=true:=
 postW_of (r:=l.row.toRowW) (X:=(true==true))
  (show WShape.has [] (.bool true) .bool=true by first|rfl|decide|simp[WShape.has,WShape.arms,WShape.armsAll])
  (show(WTm.eq .res (.lit (.bool true))).value [] { args:=args,res:=some (.bool true),after:=args }=some (.bool (true==true)) from w_eq_bool (w_res rfl) w_lit) rfl
theorem Z7{l:OpenLaw}{XP:(Str->Option Value)->Heap->Prop}{YP:World->Heap->Prop}
  (hn:l.most=some n) (xB:d.params.defaults=[])
  (call:∀(w:World) (eN bN:Shared) (mg mb:Str->Option Value) (fa:Addr) (o:Obj) (pm cd doc:Value) (a:Addr) (vs:List Value) (ns:List Int),
   Ground q loose [] XP w eN mg mb bN.heap->YP w bN.heap->
   bN.heap.get? fa=some o->o.data=.func (docDef d.name d.params d.body d.scope pm cd doc)->bN.heap.CodeRec cd d.name->mg d.name=some (.ref fa)->
   bN.heap.get? a=some { cls:=.type "list",data:=.seq vs.toArray }->IntsAre vs ns->ns.length<=n->bN.gens=#[]->
   codeAny (model l.prog w) callerA (.call (.ref fa) ⟨[.ref a],[]⟩) (λr s'=>r=.ok (.ret (.bool true))/\OldK bN.heap s'.heap/\s'.os=bN.os/\AllBare s'.gens) bN) :
  WalkO q loose XP YP l.row.toRowW d [] (λf vs=>PySem.call f vs):=by
 intro w eN bN mg mb G Y fa o pm cd doc dV kV ho hd l_ hD vW hg args vals as Bk afk qA B0 yE;obtain rfl:dV=.none:=Dflts.none hD xB;obtain rfl:kV=.none:=Dflts.noKw hD;obtain⟨a,vs,ns,rfl,rfl,D9,hints,hlen⟩:=Yd hn Bk B0;refine enter_call (codeAny_mono (call w eN bN mg mb fa o pm cd doc a vs ns G Y ho (fd_plain hd) l_ vW D9 hints hlen hg) λr s' hq=>?_);obtain⟨rfl,h2,h3,h4⟩:=hq;exact⟨.inl ⟨.bool true,.bool true,[],rfl,λ_=>rfl,.bool true,VS l _,λ_=>⟨List.Pairwise.nil,λ_ hm=>(nomatch hm)⟩⟩,h2,h3,h4⟩
end O3
namespace L2
open PySem PySem.Spec PyProof.Rows
theorem Gf:∀{vs:List Value}{ns:List Int},IntsAre vs ns->aQ (ns.map V.int) vs
 |_,_,.nil=>.nil
 |_,_,.cons n t h=>.cons ⟨t,rfl⟩ (Gf h)
noncomputable abbrev c_:j8:=λ_ _ _ _ _ _=>False
noncomputable abbrev E0:XK:=λ_ _ _=>False
theorem mU{X:Cx}:Passes c_ X E0:=λ_ _ _ _ _ _ _ h=>h.elim
structure jI(K:PySem.W.Frag)(x qual:Str)(st:Stmt)(f:Addr)(fd:FuncData):Prop where
 ex:∃(oc:Value) (od:Option Addr) (kV doc pm:Value) (an:Option Addr) (aR ct:Value) (oV:Array (Option Value)),
  fd=PySem.W.fnOf x qual (lW st) (g_ st) (cR st) .none kV doc pm an aR ct/\K.lookup f=some ⟨oc,od,.func fd,oV⟩/\PySem.W.codeIn K aR qual=true
 kp:PySem.W.keepIn K (.ref f)=true
section
variable{P:Program}{w:World}{K:PySem.W.Frag}{mg:Str->Option Value}{base:Heap}
theorem jI.ok{x qual:Str}{st:Stmt}{f:Addr}{fd:FuncData}{N ps:List Str}{k:Nat}{sp:Sp}{cm:Bool}(F:jI K x qual st f fd)(S:pI N ps (cR st))(len:∀vs H Q E,sp vs H Q E->vs.length=ps.length)
  (CM:∀(aR:{c:Value // c=fd.code}) (A:Around) (outer:List Env) (s:Shared) (H:Hp) (vs:List V) (Q:VK) (E:XK),bh k (A.deeper (envOfC qual (cR st) s.heap.objs.size f aR)) cm->sp vs H Q E->
   ∃t,ir (iW c_ P w K mg base N qual (cR st) f aR A outer s H E cm).gP (g_ st) t/\t { nx:=λ_ H'=>Q .aD H',rt:=Q } (start N vs) H):cI P w K mg base c_ (k+1) f fd ps sp cm:=by
 obtain⟨oc,od,kV,doc,pm,an,aR,ct,oV,rfl,lk,l_⟩:=F.ex;refine XI lk l_ S len λA outer s H vs Q E hr qU=>?_
 obtain⟨t,h,q⟩:=CM ⟨aR,rfl⟩ A outer s H vs Q E hr qU;exact⟨t,h.gP,q⟩
theorem jI.binds{x qual:Str}{st:Stmt}(F:jI K x qual st f fd)
  (h:∀(kV doc pm:Value) (an:Option Addr) (aR ct:Value) (us:List Value),us.length=ps.length->bindArgs (PySem.W.fnOf x qual (lW st) (g_ st) (cR st) .none kV doc pm an aR ct) ⟨us,[]⟩=pure (ps.zip us)):Binds K fd ps []:=by
 obtain⟨oc,od,kV,doc,pm,an,aR,ct,oV,rfl,lk,l_⟩:=F.ex;exact .all (h kV doc pm an aR ct)
theorem Lj{st:Stmt}{od an:Option Addr}{oV:Array (Option Value)}{kV doc pm aR ct:Value}(l:K.lookup f=some ⟨oc,od,.func (PySem.W.fnOf x qual (lW st) (g_ st) (cR st) .none kV doc pm an aR ct),oV⟩)
  (c:PySem.W.codeIn K aR qual=true) (k:PySem.W.keepIn K (.ref f)=true):jI K x qual st f (PySem.W.fnOf x qual (lW st) (g_ st) (cR st) .none kV doc pm an aR ct):=⟨⟨oc,od,kV,doc,pm,an,aR,ct,oV,rfl,l,c⟩,k⟩
end
theorem eZ{A:Around}{k:Nat}{cm:Bool}(hr:bh k A cm):A.units+1<cLine:=ae0 (Nat.add_le_add_left (by decide:1<=64) _) hr.units
theorem BH(h:n<=1000):n<sizeLine:=ae0 h (by decide)
section
variable{X:Cx}
theorem pv(i:Nat){x:Str}{pos:Pos}(hN:X.N[i]? = some x:=by rfl)(hv:AD X.env.scope x:=by first|exact Or.inl rfl|exact Or.inr (Or.inl rfl)|exact Or.inr (Or.inr rfl))(hd:(x==("__debug__":Str))=false:=by decide)
  (l_:(x==("__classdict__":Str))=false:=by decide):PE X (.Name x pos) (n5 i):=Jb hN hv hd l_
end
theorem UT{A B:Prop}(h:B):if false=true then A else B:=by
 rw[if_neg aa6];exact h
theorem XW{A B:Prop}(h:A):if true=true then A else B:=by
 rw[if_pos rfl];exact h
def aH(H H':Hp):Prop:=∀b o,H b=some o->H' b=some o
theorem aH.refl(H:Hp):aH H H:=λ_ _ h=>h
theorem aH.trans{H H1 H2:Hp}(a:aH H H1)(b:aH H1 H2):aH H H2:=λc o h=>b c o (a c o h)
theorem aH.free{H H':Hp}(e:aH H H'){l:Addr}(h:H' l=Option.none):H l=Option.none:=by
 cases q:H l with
 |none=>rfl
 |some o=>
  rw[e l o q] at h;cases h
section
variable{X:Cx}
theorem U8:gu X (.builtin "len") (λxs H Q=>∃a aj,xs=[V.ref a]/\H a=some (.dK aj)/\Q (.int aj.length) H):=by
 intro af s σ H xs us Q I r h;obtain⟨a,aj,rfl,ha,q⟩:=h;obtain⟨u,rfl,ru⟩:=vals1 r;cases ru;exact S3 I (.inl ha) λt s' I'=>⟨.int aj.length,H,I',⟨t,rfl⟩,q⟩
end
noncomputable def Vj(a:Addr)(cls:Value)(de:Option Addr):HO:=.ext λh=>∃oe,h.get? a=some oe/\oe.cls=cls/\(∀dx,de=some dx->oe.dict=some dx/\PySem.W.notCls oe=true)
def DJ(ob:Obj)(a:Addr)(cls:Value)(de:Option Addr):HO:=.ck ob (Vj a cls de)
noncomputable def Rb(n:Nat)(t:Tok):Str->Option Value:=λy=>if y="slot" then some (.int n t) else none
def K5(dx:Addr)(n:Nat):HO:=.ext λh=>∃t,h.Ns1 dx (Rb n t)
noncomputable def abg(o:Obj):Option Value:=match o.data with
 |.fields vs=>vs[2]?
 |_=>none
def ad6(h:Heap)(H:Hp)(nw:Addr->Prop)(e:Addr):Option Addr->Prop
 |none=>True
 |some n=>∃oe dx t,h.get? e=some oe/\oe.dict=some dx/\h.Ns1 dx (Rb n t)/\H dx=none/\nw dx
def Nd(h:Heap)(H:Hp)(nw:Addr->Prop)(e:Addr)(eY:Option Addr):Prop:=(∃oe,h.get? e=some oe/\abg oe=some .none)/\ad6 h H nw e eY
structure Um(h:Heap)(H:Hp)(h0:Heap)(e:Addr)(cls:Value)(eY:Option Addr):Prop where
 py:Nd h H (λa=>h0.get? a=none) e eY
 nw:h0.get? e=none
 fr:H e=none
 ob:∃oe vs a0,h.get? e=some oe/\oe.cls=cls/\vs[0]? = some a0/\oe.data=.fields vs/\vs[1]? = some .none
abbrev XS:=Value->Option Addr->St->Hp->Prop
def U_(X:Cx)(E:XS):Prop:=∀(af:List (Addr×Obj)) (σ:St) (H:Hp) (s:Shared) (e:Addr) (cls:Value) (eY:Option Addr),Inv X af σ H s->Um s.heap H X.eN.heap e cls eY->E cls eY σ H->X.xe (.ref e) s
section
variable{X:Cx}{af:List (Addr×Obj)}{σ:St}{H:Hp}{s:Shared}{h':Heap}
noncomputable abbrev Apart(X:Cx)(af:List (Addr×Obj))(a:Addr):Prop:=X.eN.heap.get? a=none/\a≠X.env.locals/\(∀y c,X.env.cells.lookup y=some c->c≠a)/\∀p∈X.pn++af,p.1≠a
structure Rp(X:Cx)(af:List (Addr×Obj))(σ:St)(H:Hp)(e:Addr)(cls:Value)(eY:Option Addr)(s:Shared):Prop where
 py:Nd s.heap H (Apart X af) e eY
 inv:Inv X af σ H s
 fr:H e=none
 ap:X.eN.heap.get? e=none/\e≠X.env.locals/\(∀y c,X.env.cells.lookup y=some c->c≠e)/\∀p∈X.pn++af,p.1≠e
 ob:∃oe vs a0 T oT ts,s.heap.get? e=some oe/\oe.cls=cls/\vs[0]? = some a0/\oe.data=.fields vs/\vs[1]? = some (.ref T)/\T≠e/\H T=none/\(X.eN.heap.get? T=none/\T≠X.env.locals/\(∀y c,X.env.cells.lookup y=some c->c≠T)/\∀p∈X.pn++af,p.1≠T)/\s.heap.get? T=some oT/\oT.data=.fields ts/\(ts[3]? = some .none\/ts[3]? = some (rawInt X.env.locals))
end
def yY(X:Cx)(E:XS):Prop:=∀(af:List (Addr×Obj)) (σ:St) (H:Hp) (s:Shared) (e:Addr) (cls:Value) (eY:Option Addr),Rp X af σ H e cls eY s->E cls eY σ H->X.xe (.ref e) s
def Rc(X:Cx)(af:List (Addr×Obj))(σ:St)(E:XK)(e:Value)(s':Shared):Prop:=∃a cls eY H',e=.ref a/\Rp X af σ H' a cls eY s'/\E cls eY H'
abbrev TX:=St->Hp->VK->XK->Prop
def PX(X:Cx)(e:Expr)(t:TX):Prop:=
 ∀(af:List (Addr×Obj)) (s:Shared) (σ:St) (H:Hp) (Q:VK) (E:XK),Inv X af σ H s->t σ H Q E->wpAny (model X.prog X.w) X.A (eval e X.env) (EP X af σ Q) (Rc X af σ E) s
section
variable{X:Cx}{e:Expr}{t:TX}{ES:XS}{pos:Pos}
theorem Wo(th:yY X ES)(h:Rc X af σ (λcls eY H=>ES cls eY σ H) v s):X.xe v s:=by
 obtain⟨a,cls,eY,H',rfl,L,q⟩:=h;exact th af σ H' s a cls eY L q
def Ur(i:Nat)(ES:XS)(t:TX):TS:=λD σ H=>t σ H (λv H1=>D.nx (σ.set i (some v)) H1) λcls eY H'=>ES cls eY σ H'
theorem Pu(th:yY X ES)(hN:X.N.Nodup)(hi:X.N[i]? = some x)(hx:Loc X.env.scope x)(he:PX X e t)(hs:swapsWith e (some (.Name x pos')) pos.line X.env=pure false:=by rfl)(hf:X.fn x=true\/X.env.scope.names.lookup x=some .local:=by first|exact .inl rfl|exact .inr rfl|assumption):
  PS X (.Assign [.Name x pos'] e pos) (Ur i ES t):=by
 intro af s σ H D I h;refine wpAny_Assign_Name (aeR (he af s σ H _ _ I h) (λv s1 ⟨y,H1,I1,r1,q1⟩=>?_) λ_ _ z=>Wo th z) hs;exact F4 I1 hN hi hx r1 (λs2 I2=>⟨_,H1,I2,q1⟩) hf
end
section
variable{X:Cx}{af:List (Addr×Obj)}{σ:St}{H:Hp}{s:Shared}{e:Addr}{cls:Value}{eY:Option Addr}
theorem Inv.RT{u:HO}(I:Inv X af σ H s)(fr:H e=none)(ap:Apart X af e)(ok:dh X.prog X.w (upd H e u) s.heap e u):Inv X af σ (upd H e u) s:=by
 obtain⟨a1,a2,a3,a4⟩:=ap;have ne:∀{b:Addr}{o:HO},H b=some o->b≠e:=λ{b o} q z=>by rw[z,fr] at q;cases q
 refine⟨I.ok,I.os,I.bare,⟨I.base.keep,I.base.slot,λb o q n hx=>?_,I.base.there,λb xs q=>?_,λb o u q=>?_,λb ps q=>?_⟩,I.loc,I.cell,?_,λx c q=>?_,λp hp=>?_,λb o q=>?_,I.len,I.hq.mono (λb o u q=>by rw[aL (ne q)];exact q) λb t q=>by rw[aL (ne q)];exact q⟩
 .rw[aL λz=>by rw[z,a1] at q;cases q];exact I.base.free b o q n hx
 .have w:=I.base.ko b xs q;rw[aL (ne w)];exact w
 .have w:=I.base.jU b o u q;rw[aL (ne w)];exact w
 .obtain⟨more,w⟩:=I.base.lQ b ps q;exact⟨more,by rw[aL (ne w)];exact w⟩
 .rw[aL λz=>a2 z.symm];exact I.free
 .rw[aL (a3 x c q)];exact I.jh x c q
 .obtain⟨p1,p2,p3⟩:=I.pin p hp;exact⟨p1,by rw[aL (a4 p hp)];exact p2,p3⟩
 .by_cases z:b=e
  .subst z;rw[bQ] at q;cases q;exact ok
  .rw[aL z] at q;exact(I.aI b o q).mz (λ_ _ _ q=>q) (λc q=>by rw[aL (ne q)];exact q) λc xs q=>by rw[aL (ne q)];exact q
def P4(H H':Hp)(a:Addr)(cls:Value)(eY:Option Addr):Prop:=∃ob vs,ob.data=.fields vs/\vs[2]? = some .none/\match eY with
 |none=>H'=upd H a (DJ ob a cls none)
 |some n=>∃dx,dx≠a/\H dx=none/\H'=upd (upd H dx (K5 dx n)) a (DJ ob a cls (some dx))
theorem P4.same{H H':Hp}{a:Addr}{cls:Value}{eY:Option Addr}(k:P4 H H' a cls eY)(fr:H a=none){b:Addr}{o:HO}(q:H b=some o):H' b=some o:=by
 obtain⟨ob,vs,_,_,k⟩:=k;cases eY with
 |none=>subst k;rw[aL (cT q fr)];exact q
 |some n=>obtain⟨dx,ne,d,rfl⟩:=k;rw[aL (cT q fr),aL (cT q d)];exact q
end
section
variable{prog:Program}{w:World}{A:Around}{R:Result->Shared->Prop}{s:Shared}
theorem aez{elt tg iter:Expr}{ifs:List Expr}{scope:Scope}{pos:Pos}{it acc:Value}{env:Env}(Iv:Nat->Shared->Prop)
  (turn:∀n s,Iv n s->wpAny (model prog w) A (pyNext it) (λr s1=>match r with
   |none=>R (.ok .next) s1
   | some v=>wpAny (model prog w) A (letOwnedTupleGo tg it v) (λ_ qB=>wpAny (model prog w) A (assign tg env v) (λ_ s2=>
     wpAny (model prog w) A (forIn ifs true λc r=>if r=true then do let ok <- isTrue c env (eval c env);pure (ForInStep.yield ok) else pure (ForInStep.yield r)) (λok s3=>
      if ok=true then wpAny (model prog w) A (eval elt env) (λx s4=>
       wpAny (model prog w) A (call (.builtin "list.append") [acc,x]) (λ_ s5=>∃m,m<n/\Iv m s5) (λ_ _=>False) s4) (λ_ _=>False) s3
      else ∃m,m<n/\Iv m s3) (λ_ _=>False) s2) (λ_ _=>False) qB) (λ_ _=>False) s1) (λ_ _=>False) s)
  (n:Nat) (hn:Iv n s):codeAny (model prog w) A (.compLoop (.ListComp elt [⟨tg,iter,ifs,0⟩] scope pos) 0 it acc env) R s:=by
 have ff:∀{E:Value->Shared->Prop} (x:Value) (s:Shared),False->E x s:=λ_ _ f=>f.elim
 refine codeAny_loop rfl Iv (λk s0 hI=>?_) n hn;refine wpAny_noted ?_;rw[compTurn_list];refine aaQ (wpAny_standAt (aaQ (aeR (turn k s0 hI) (λr s1 h1=>?_) ff)));cases r with
 |none=>exact acr h1
 |some v=>
  refine aaQ (aeR h1 (λ_ qB ic=>aaQ (aeR ic (λ_ s2 h2=>aaQ (aeR h2 (λok s3 h3=>?_) ff)) ff)) ff);cases ok with
  |false=>exact acr ⟨rfl,h3⟩
  |true=>exact aaQ (aaQ (aeR h3 (λx s4 h4=>aaQ (aeR h4 (λ_ s5 h5=>acr (acr ⟨rfl,h5⟩)) ff)) ff))
end
noncomputable def frees(sc:Scope):List Str:=(sc.names.filter λx=>x.2 == .free).map (·.1)
noncomputable def lC(env:Env):List (Str×NameKind)->List (Str×Addr)->List (Str×Addr)
 |[],cs=>cs
 |(n,k)::r,cs=>lC env r (if k == .free then(n,(env.cells.lookup n).getD 0)::cs else cs)
theorem Ky{env:Env}(h:∀x∈frees sc,∃c,env.cells.lookup x=some c):closureFor sc env=pure (lC env sc.names []):=by
 have key:∀(l:List (Str×NameKind)) (cs:List (Str×Addr)),(∀x∈(l.filter λx=>x.2 == .free).map (·.1),∃c,env.cells.lookup x=some c)->
   (forIn l cs λx r=>(do
    let(name,kind):=x
    if kind == .free then do
     let a <- cellOf env name
     pure (ForInStep.yield ((name,a)::r))
    else pure (ForInStep.yield r):Sem (ForInStep (List (Str×Addr)))))=pure (lC env l cs):=by
  intro l
  induction l with
  |nil=>intro cs _;rfl
  |cons p r ih=>
   obtain⟨n,k⟩:=p;intro cs h;rw[List.forIn_cons]
   by_cases hk:(k==NameKind.free)=true
   .obtain⟨c,hc⟩:=h n (by simp[hk]);have EW:=ih ((n,c)::cs) λx hx=>h x (by simp only[afQ,hk,if_true,aax,aa3];exact Or.inr hx)
    have e:cellOf env n=pure c:=by unfold cellOf;rw[hc]
    simp only[hk,if_true,e,pure_bind,lC,hc,afA];exact EW
   .have EW:=ih cs λx hx=>h x (by simp only[afQ,hk];exact hx)
    simp only[hk,lC,afr,if_false,pure_bind];exact EW
 unfold closureFor;have k:=key sc.names [] h;simp only[bind_pure] at k ⊢
 first
  |exact k
  |(simp only[pure_bind];exact k)
theorem NG{env:Env}:∀{l:List (Str×NameKind)}{cs:List (Str×Addr)}{x:Str}{c:Addr},(lC env l cs).lookup x=some c->
  cs.lookup x=some c\/((x,NameKind.free)∈l/\c=(env.cells.lookup x).getD 0)
 |[],_,_,_,h=>.inl h
 |(n,k)::r,cs,x,c,h=>by
  rcases NG (l:=r) h with q|⟨q,e⟩
  .by_cases hk:(k==NameKind.free)=true
   .rw[if_pos hk,adG] at q
    by_cases hx:(x==n)=true
    .rw[hx] at q;have e:=eq_of_beq hx;subst e;have S4:k=.free:=by cases k<;>first|rfl|exact absurd hk (by decide)
     subst S4;exact .inr ⟨aar,(abS q).symm⟩
    .rw[Bool.not_eq_true] at hx;rw[hx] at q;exact .inl q
   .rw[if_neg hk] at q;exact .inl q
  .exact .inr ⟨aaa _ q,e⟩
theorem Fg{env:Env}:∀{l:List (Str×NameKind)}{cs:List (Str×Addr)}{x:Str},(∃c,cs.lookup x=some c)\/(x,NameKind.free)∈l->∃c,(lC env l cs).lookup x=some c
 |[],_,_,h=>h.elim id λz=>nomatch z
 |(n,k)::r,cs,x,h=>by
  refine Fg (l:=r) ?_;rcases h with⟨c,h⟩|h
  .left
   by_cases hk:(k==NameKind.free)=true
   .rw[if_pos hk,adG]
    by_cases hx:(x==n)=true
    .rw[hx];exact⟨_,rfl⟩
    .rw[Bool.not_eq_true] at hx;rw[hx];exact⟨c,h⟩
   .rw[if_neg hk];exact⟨c,h⟩
  .rcases aa3.mp h with e|h
   .left
    cases e;rw[if_pos (by decide),adG,afp];exact⟨_,rfl⟩
   .exact .inr h
def dO(X:Cx)(N:List Str)(sc:Scope)(s3:Shared)(H3:Hp)(fp:List Addr):Cx:=
 { X with N:=N,eN:=s3,pC:=H3,env:=compEnvC sc (lC X.env sc.names []) s3.heap.objs.size X.env,outer:=X.stack,stack:=X.stack,ex:=fp,fn:=λ_=>false,pn:=[],xe:=λ_ _=>False }
noncomputable def l7(js:List (Option Nat))(σ:St):St:=js.map λj=>match j with
 |none=>none
 |some j=>(σ[j]?).join
noncomputable def oZ(N:List Str)(sc:Scope):List Str->List (Option Nat)->Bool
 |[],[]=>true
 |x::r,none::js=>oZ N sc r js
 |x::r,some j::js=>decide (N[j]? = some x)&&decide (sc.names.lookup x=some .free)&&oZ N sc r js
 |_,_=>false
theorem z5{N:List Str}{sc:Scope}:∀{M:List Str}{js:List (Option Nat)},oZ N sc M js=true->js.length=M.length
 |[],[],_=>rfl
 |_::r,none::js,h=>by
  have:=z5 (js:=js) h;simp[this]
 |_::r,some j::js,h=>by
  unfold oZ at h;have:=z5 ((aaY _ _).mp h).2;simp[this]
 |[],_::_,h=>by cases h
 |_::_,[],h=>by cases h
theorem Fx{N:List Str}{sc:Scope}:∀{M:List Str}{js:List (Option Nat)}{i j:Nat}{x:Str},oZ N sc M js=true->M[i]? = some x->js[i]? = some (some j)->N[j]? = some x/\sc.names.lookup x=some .free
 |[],_,_,_,_,_,h,_=>by simp at h
 |_::_,[],_,_,_,h,_,_=>by cases h
 |y::r,none::js,0,j,x,h,h1,h2=>by simp at h2
 |y::r,some q::js,0,j,x,h,h1,h2=>by
  simp at h1 h2;subst h1 h2;unfold oZ at h;obtain⟨a,b⟩:=(aaY _ _).mp ((aaY _ _).mp h).1;exact⟨aaP a,aaP b⟩
 |y::r,none::js,i+1,j,x,h,h1,h2=>Fx (js:=js) h (by simpa using h1) (by simpa using h2)
 |y::r,some q::js,i+1,j,x,h,h1,h2=>by
  unfold oZ at h;exact Fx ((aaY _ _).mp h).2 (by simpa using h1) (by simpa using h2)
structure l9(X:Cx)(M:List Str)(js:List (Option Nat))(sc:Scope):Prop where
 kind:sc.kind=.function
 yt:∀y∈sc.names,y.2≠.cell
 loc:∀y∈sc.names,y.2=.local->sc.names.lookup y.1=some .local
 Cv:oZ X.N sc M js=true
 free:∀x∈frees sc,X.env.kindOf x=some .cell\/X.env.kindOf x=some .free
 nd:M.Nodup
def GA(wi:TI)(js:List (Option Nat))(g:TG)(tt:TT)(te:TE):TE:=λσ H Q=>wi σ H λJ H1=>∀D,H1 D=none->
 ∃W:Nat->Nat->St->Hp->Prop,(∃m,W 0 m (l7 js σ) (upd H1 D (.lst [])))/\∀i m aE H',W i m aE H'->
  (J.stop i H'/\Q (.ref D) H')\/(J.go i H'/\∀x H2,J.yd i H' x H2->g x aE H2 λcX H3=>tt cX H3 λb H4=>
   if b=true then te cX H4 λy H5=>∃xs,H5 D=some (.lst xs)/\xs.length<sizeLine/\∃m',m'<m/\W (i+1) m' cX (upd H5 D (.lst (xs++[y])))
   else ∃m',m'<m/\W (i+1) m' cX H4)
def rK(X:Cx)(ifs:List Expr)(t:TT):Prop:=
 ∀(af:List (Addr×Obj)) (s:Shared) (σ:St) (H:Hp) (Q:Bool->Hp->Prop),Inv X af σ H s->t σ H Q->
  wpAny (model X.prog X.w) X.A (forIn ifs true λc r=>if r=true then do let ok <- isTrue c X.env (eval c X.env);pure (ForInStep.yield ok) else pure (ForInStep.yield r)) (TP X af σ Q) X.xe s
theorem Lx{t:TT}(h:PT X c t):rK X [c] t:=λaf s σ H Q I q=>wpAny_tests_one (h af s σ H Q I q)
section
variable{X:Cx}
theorem Inv.comp{af:List (Addr×Obj)}{σ:St}{H3:Hp}{s3:Shared}{M:List Str}{js:List (Option Nat)}{sc:Scope}{fp:List Addr}{h':Heap}{tk:Nat}(S:l9 X M js sc)(I:Inv X af σ H3 s3)
  (hf:∀b∈fp,iH X af H3 b) (cj:∀b∈fp,b<s3.heap.objs.size) (hn:h'.Ns s3.heap.objs.size λ_=>none) (hk:∀b o,s3.heap.get? b=some o->h'.get? b=some o) :
  Inv (dO X M sc s3 H3 fp) [] (l7 js σ) H3 { s3 with heap:=h',toks:=tk }:=by
 have cl:∀{x:Str}{c:Addr},(lC X.env sc.names []).lookup x=some c->X.env.cells.lookup x=some c:=λ{x c} e=>by
  rcases NG e with q|⟨q,e'⟩
  .cases q
  .obtain⟨c',hc⟩:=I.ok.has x (S.free x (abG.mpr ⟨(x,.free),acy.mpr ⟨q,rfl⟩,rfl⟩));rw[hc] at e' ⊢;rw[e'];rfl
 have kD:X.base.objs.size<=s3.heap.objs.size:=adw I.ok.kD I.sz;have lk:∀{x:Str},sc.names.lookup x=some .free->(relabel sc X.env).names.lookup x=some .cell\/(relabel sc X.env).names.lookup x=some .free:=λ{x} e=>by
  have key:∀(l:List (Str×NameKind)),l.lookup x=some .free->(l.map λ(n,k)=>if(k==NameKind.free&&X.env.scope.kind == .function&&X.env.kindOf n==some .cell) then(n,NameKind.cell) else(n,k)).lookup x=some .cell\/
    (l.map λ(n,k)=>if(k==NameKind.free&&X.env.scope.kind == .function&&X.env.kindOf n==some .cell) then(n,NameKind.cell) else(n,k)).lookup x=some .free:=by
   intro l
   induction l with
   |nil=>intro e;cases e
   |cons p r ih=>
    obtain⟨n,k⟩:=p;intro e;rw[adG] at e;rw[aax]
    by_cases hx:(x==n)=true
    .rw[hx] at e;have e':k=.free:=abS e;subst e';dsimp only
     split
     .left;rw[adG,hx]
     .right;rw[adG,hx]
    .rw[Bool.not_eq_true] at hx;rw[hx] at e;dsimp only
     split<;>(rw[adG,hx];exact ih e)
  exact key sc.names e
 have kf:∀{x:Str},((relabel sc X.env).names.lookup x=some .cell\/(relabel sc X.env).names.lookup x=some .free)->(x,NameKind.free)∈sc.names:=λ{x} e=>by
  have key:∀(l:List (Str×NameKind)),(∀y∈l,y.2≠.cell)->((l.map λ(n,k)=>if(k == NameKind.free&&X.env.scope.kind == .function&&X.env.kindOf n == some .cell) then(n,NameKind.cell) else(n,k)).lookup x=some .cell\/
    (l.map λ(n,k)=>if(k==NameKind.free&&X.env.scope.kind == .function&&X.env.kindOf n==some .cell) then(n,NameKind.cell) else(n,k)).lookup x=some .free)->(x,NameKind.free)∈l:=by
   intro l
   induction l with
   |nil=>intro _ e;rcases e with e|e<;>cases e
   |cons p r ih=>
    obtain⟨n,k⟩:=p;intro nc e;rw[aax] at e
    by_cases hx:(x==n)=true
    .have e0:=eq_of_beq hx;subst e0;have Xx:k=.free:=by
      dsimp only at e
      split at e
      .rename_i hc;have:=((aaY _ _).mp ((aaY _ _).mp hc).1).1;cases k<;>first|rfl|exact absurd this (by decide)
      .rw[adG,afp] at e;rcases e with e|e
       .exact absurd (abS e) (nc _ aar)
       .exact abS e
     rw[Xx];exact aar
    .rw[Bool.not_eq_true] at hx;refine aaa _ (ih (λy hy=>nc y (aaa _ hy)) ?_);dsimp only at e
     split at e<;>(rw[adG,hx] at e;exact e)
  exact key sc.names S.yt e
 refine⟨⟨I.ok.mod,S.kind,I.ok.glob,I.ok.blt,abH _,λx y c h1 h2=>I.ok.inj x y c (cl h1) (cl h2),λx hx=>Fg (.inr (kf hx)),(λx c h _=>by cases h),I.ok.hd,I.ok.frames,.inl rfl,λb hb=>⟨acu (cj b hb),λx c e=>(hf b hb).2.2.2.2.1 x c (cl e)⟩,
   I.bs,kD,λb o e hb=>?_,λb hb v8=>?_,I.stack,I.EA⟩,
  rfl,I.bare,Un.kept hk,⟨_,hn,λi x v h1 h2 h3=>?_⟩,λx c e=>?_,I.aI.fresh (abH _),λx c e=>I.jh x c (cl e),λp hp=>absurd (show p∈([]:List (Addr×Obj)) from hp) (by simp),I.aI.kept hk,?_,I.hq⟩
 .rcases(hf b hb).2.2.2.1 with z|z
  .exact I.ok.vq b o e z
  .exact absurd (acH (abo e) (adw I.ok.kD z)) (aeq _)
 .rcases aa3.mp (I.HF b v8) with z|z
  .exact(hf b hb).2.1 z
  .exact(hf b hb).2.2.1 z
 .have hlen:=z5 S.Cv;have hi:i<js.length:=by rw[hlen];exact(abh.mp h1).1
  unfold l7 at h2;rw[ab3,aaR hi,Option.map_some] at h2;cases hj:js[i] with
  |none=>rw[hj] at h2;cases h2
  |some j=>
   rw[hj] at h2;have kq:(σ[j]?).join=some v:=abS h2;obtain⟨a,b⟩:=Fx S.Cv h1 (by rw[aaR hi,hj]);have hs:σ[j]? = some (some v):=by
    cases q:σ[j]? with
    |none=>rw[q] at kq;cases kq
    |some z=>rw[q] at kq;rw[show z=some v from kq]
   have Ob:=S.free x (abG.mpr ⟨(x,.free),acy.mpr ⟨PySem.mem_of_lookup b,rfl⟩,rfl⟩);obtain⟨m,hm,hl⟩:=I.loc;obtain⟨u,ru,l⟩:=hl j x v a hs (Ob.elim (λz=>.inr (.inl z)) λz=>.inr (.inr z));refine⟨u,ru,.inr ⟨lk b,?_⟩⟩;rcases l with⟨k,_⟩|⟨_,c,e,hc⟩
   .rcases Ob with z|z<;>(rw[z] at k;cases k)
   .obtain⟨c',rC⟩:=Fg (.inr (PySem.mem_of_lookup b));have e':=cl rC;rw[e] at e';have e2:c=c':=abS e';subst e2;obtain⟨o,ho,hd⟩:=hc;exact⟨c,rC,o,hk _ _ ho,hd⟩
 .obtain⟨v,o,ho,hd⟩:=I.cell x c (cl e);exact⟨v,o,hk _ _ ho,hd⟩
 .unfold l7;rw[List.length_map];exact z5 S.Cv
theorem Inv.KH{af EN:List (Addr×Obj)}{σ aE:St}{H3 H':Hp}{s3 s':Shared}{M:List Str}{sc:Scope}{fp:List Addr}{h':Heap}(I:Inv X af σ H3 s3)(hf:∀b∈fp,iH X af H3 b)
  (J:Inv (dO X M sc s3 H3 fp) EN aE H' s') (hs:Heap.SameBut s3.heap.objs.size s'.heap h'):Inv X af σ H' { s' with heap:=h' }:=by
 have B:Un (d_ X.stack) fp H3 H' s3.heap s'.heap:=J.base;have ne:∀{b:Addr}{o:Obj},s3.heap.get? b=some o->b≠s3.heap.objs.size:=λe=>acu (abo e)
 have B':Un (d_ X.stack) fp H3 H' s3.heap h':=⟨λb o e n hb hx=>(hs.2 b (ne e)).trans (B.keep b o e n hb hx),λb o e n hb hx=>let⟨sl,q⟩:=B.slot b o e n hb hx;⟨sl,(hs.2 b (ne e)).trans q⟩,B.free,
  λb o e hx=>let⟨o',q⟩:=B.there b o e hx;⟨o',(hs.2 b (ne e)).trans q⟩,B.ko,B.jU,B.lQ⟩
 have fr:H' s3.heap.objs.size=none:=J.free;refine I.YL J.os B' (λb u e=>?_) J.bare λb hb=>⟨(hf b hb).2.2.2.1,(hf b hb).2.1,(hf b hb).2.2.2.2.1,(hf b hb).2.2.2.2.2⟩
 refine(J.aI b u e).mz (λc v hc q=>(hs.2 c ?_).trans q) (λ_ q=>q) λ_ _ q=>q
 rintro rfl
 rcases hc with rfl|hc
 .rw[fr] at e;cases e
 .rw[fr] at hc;cases hc
theorem QS{tg iter elt:Expr}{ifs:List Expr}{sc:Scope}{pos:Pos}{M:List Str}{js:List (Option Nat)}{g:TG}{tt:TT}{te:TE}{af:List (Addr×Obj)}{σ:St}{H2:Hp}{s2:Shared}{it:Addr}{fp:List Addr}
  {tn:Nat->Heap->Prop}{J:It}{Q:VK}{RR:Value->Addr->Result->Shared->Prop} (S:l9 X M js sc) (hc:X.calm=true\/J.rg=true) (I2:Inv X af σ H2 s2) (T:Turn X.prog X.w X.K tg J fp it tn) (st:tn 0 s2.heap) (hf:∀b∈fp,iH X af H2 b)
  (hb:∀s3 H3 fp,PG (dO X M sc s3 H3 fp) tg g/\rK (dO X M sc s3 H3 fp) ifs tt/\PE (dO X M sc s3 H3 fp) elt te)
  (h:∀D,H2 D=none->∃W:Nat->Nat->St->Hp->Prop,(∃m,W 0 m (l7 js σ) (upd H2 D (.lst [])))/\∀i m aE H',W i m aE H'->
   (J.stop i H'/\Q (.ref D) H')\/(J.go i H'/\∀x H2,J.yd i H' x H2->g x aE H2 λcX H3=>tt cX H3 λb H4=>
    if b=true then te cX H4 λy H5=>∃xs,H5 D=some (.lst xs)/\xs.length<sizeLine/\∃m',m'<m/\W (i+1) m' cX (upd H5 D (.lst (xs++[y])))
    else ∃m',m'<m/\W (i+1) m' cX H4))
  (hR:∀D s3 H3 s' aE H',Inv X af σ H3 s3->(∀b∈fp,iH X af H3 b)->Inv (dO X M sc s3 H3 fp) [] aE H' s'->Q (.ref D) H'->RR (.ref D) s3.heap.objs.size (.ok .next) s') :
  wpAny (model X.prog X.w) X.A (newList []) (λacc BU=>wpAny (model X.prog X.w) X.A (newFunctionEnv sc X.env.globals (lC X.env sc.names []) [] X.env.qual none .none (some X.env)) (λKo X5=>
   codeAny (model X.prog X.w) X.A (.compStart (.ListComp elt [⟨tg,iter,ifs,0⟩] sc pos) 0 (.ref it) acc { Ko with scope:=relabel sc X.env }) (RR acc Ko.locals) X5) X.xe BU) X.xe s2:=by
 have TZ:H2 s2.heap.objs.size=none:=I2.aI.fresh (abH _);obtain⟨W,⟨m0,w0⟩,turn⟩:=h _ TZ;have I3:Inv X af σ (upd H2 s2.heap.objs.size (.lst [])) { s2 with heap:=s2.heap.push { cls:=.type "list",data:=.seq ([]:List Value).toArray } }:=
  I2.laid (λ_ _ q=>aaE _ q) (abH _) ⟨ad0 _,[],0,.nil,ab2 _ rfl⟩
 have Dl:∀b∈fp,b<s2.heap.objs.size:=λb hb=>let⟨_,e,_⟩:=T.obj _ _ st b hb;abo e
 have Dw:∀b∈fp,iH X af (upd H2 s2.heap.objs.size (.lst [])) b:=λb hb=>⟨by rw[aL (acu (Dl b hb))];exact(hf b hb).1,(hf b hb).2⟩
 have hsz:(s2.heap.push { cls:=.type "list",data:=.seq ([]:List Value).toArray }).objs.size=s2.heap.objs.size+1:=afD ..;refine afF (wpAny_newFunctionEnv S.yt (λy hy=>nomatch hy) (λh1 E_ hs1=>?_) S.kind);generalize BW:({ s2 with heap:=s2.heap.push { cls:=.type "list",dict:=none,data:=.seq ([]:List Value).toArray } }:Shared)=s3 at *;have My:∀b o,s3.heap.get? b=some o->h1.get? b=some o:=λb o e=>(hs1.2 b (acu (abo e))).trans (aaE _ e)
 have Lp:∀b∈fp,b<s3.heap.objs.size:=λb hb=>by rw[<- BW];show b<(s2.heap.push _).objs.size;rw[hsz];exact af2 (Dl b hb)
 have I4:Inv (dO X M sc s3 (upd H2 s2.heap.objs.size (.lst [])) fp) [] (l7 js σ) (upd H2 s2.heap.objs.size (.lst [])) { s3 with heap:=h1,toks:=s3.toks+([]:List (Str×Value)).length }:=I3.comp S Dw Lp E_ My;obtain⟨hg,ht,he⟩:=hb s3 (upd H2 s2.heap.objs.size (.lst [])) fp;have tP:∀{H':Hp},(∀b∈fp,H' b=none)->∀b∈fp,iH (dO X M sc s3 (upd H2 s2.heap.objs.size (.lst [])) fp) [] H' b:=λ{H'} hn b hb=>
  ⟨hn b hb,acu (Lp b hb),I4.ok.ud b hb,.inl hb,(I4.ok.Bm b hb).2,λp hp=>absurd (show p∈([]:List (Addr×Obj)) from hp) (by simp)⟩
 have Ln:tn 0 h1:=T.keep _ _ _ st λb hb o e=>My b o (by rw[<- BW];exact aaE _ e)
 have Tg:∀b∈fp,upd H2 s2.heap.objs.size (.lst []) b=none:=λb hb=>(Dw b hb).1
 have loop:codeAny (model X.prog X.w) X.A (.compLoop (.ListComp elt [⟨tg,iter,ifs,0⟩] sc pos) 0 (.ref it) (.ref s2.heap.objs.size) (compEnvC sc (lC X.env sc.names []) s3.heap.objs.size X.env)) (RR (.ref s2.heap.objs.size) s3.heap.objs.size)
   { s3 with heap:=h1,toks:=s3.toks+([]:List (Str×Value)).length }:=by
  refine aez (λn s'=>∃i aE H',Inv (dO X M sc s3 (upd H2 s2.heap.objs.size (.lst [])) fp) [] aE H' s'/\tn i s'.heap/\(∀b∈fp,H' b=none)/\W i n aE H') ?_ m0 ⟨0,_,_,I4,Ln,Tg,w0⟩
  rintro n s5 ⟨i,y9,H5,I5,tX,lN,w5⟩
  rcases turn i n y9 H5 w5 with⟨stop,q⟩|⟨go,step⟩
  .refine aM (T.done (dO X M sc s3 (upd H2 s2.heap.objs.size (.lst [])) fp) rfl rfl rfl hc i [] s5 y9 H5 _ I5 (tP lN) tX stop) λr s6 ⟨hr,I6⟩=>?_
   subst hr;exact hR _ _ _ _ _ _ I3 Dw I6 q
  .refine aM (T.item (dO X M sc s3 (upd H2 s2.heap.objs.size (.lst [])) fp) rfl rfl rfl hc i [] s5 y9 H5 _ I5 (tP lN) tX go) λr s6 ⟨u,hr,h6⟩=>?_
   subst hr;refine aM h6 λ_ s7 ⟨x,H7,I7,r7,y7,HA,fr7⟩=>?_
   have I7':=I7.pinned (tP fr7) (T.obj _ _ HA);have back:∀{pJ:St}{H8:Hp}{s8:Shared},Inv (dO X M sc s3 (upd H2 s2.heap.objs.size (.lst [])) fp) ([]++x8 fp s7.heap) pJ H8 s8->tn (i+1) s8.heap/\(∀b∈fp,H8 b=none):=λ{pJ H8 s8} I8=>
    ⟨T.keep _ _ _ HA λb hb o e=>(I8.pin (b,o) (aaM _ (aaM _ (zS hb e)))).1,λb hb=>by
     obtain⟨o,e,_⟩:=T.obj _ _ HA b hb;exact(I8.pin (b,o) (aaM _ (aaM _ (zS hb e)))).2.1⟩
   refine aM (hg _ s7 y9 H7 x u _ I7' r7 (step x H7 y7)) λ_ s8 ⟨pJ,H8,I8,q8⟩=>?_
   refine aM (ht _ s8 pJ H8 _ I8 q8) λok s9 ⟨H9,I9,q9⟩=>?_
   cases ok with
   |false=>
    rw[if_neg aa6] at q9 ⊢;obtain⟨m',hm,w9⟩:=q9;obtain⟨a9,b9⟩:=back I9;exact⟨m',hm,i+1,pJ,H9,I9.wj,a9,b9,w9⟩
   |true=>
    rw[if_pos rfl] at q9 ⊢;refine aM (he _ s9 pJ H9 _ I9 q9) λy ez hq=>?_
    obtain⟨yv,OO,RN,Ea,xs,hD,hz,m',hm,w10⟩:=hq;refine aM (Ck _ ez pJ OO (.ref s2.heap.objs.size) [yv] (.ref s2.heap.objs.size) [y] (λv Ji=>v=.aD/\Ji=upd OO s2.heap.objs.size (.lst (xs++[yv]))) RN rfl (.cons Ea .nil) ⟨_,xs,yv,rfl,rfl,hD,hz,rfl,rfl⟩) λ_ eF ⟨v11,Ji,Py,_,_,NQ⟩=>?_
    subst NQ;obtain⟨a9,b9⟩:=back Py;exact⟨m',hm,i+1,pJ,_,Py.wj,a9,b9,w10⟩
 exact codeAny_compStart_list loop (T.self _ 0 _ _ _ Ln loop)
theorem LR{tg iter elt:Expr}{ifs:List Expr}{sc:Scope}{pos:Pos}{M:List Str}{js:List (Option Nat)}{wi:TI}{g:TG}{tt:TT}{te:TE}(S:l9 X M js sc)(hc:X.calm=true)(hi:PI X tg iter wi)
  (hb:∀s3 H3 fp,PG (dO X M sc s3 H3 fp) tg g/\rK (dO X M sc s3 H3 fp) ifs tt/\PE (dO X M sc s3 H3 fp) elt te) (hs:∀x,foldedSetIterable iter X.env x=pure x:=by intro _;rfl) :
  PE X (.ListComp elt [⟨tg,iter,ifs,0⟩] sc pos) (GA wi js g tt te):=by
 intro af s σ H Q I h;rw[eval_ListComp];refine wpAny_comprehension_free rfl hs (Ky λx hx=>I.ok.has x (S.free x hx)) S.kind S.loc ?_;refine aM (hi af s σ H _ I h) λv s1 h1=>aM h1 λzX s2 hq=>?_
 obtain⟨it,fp,tn,J,H2,e,I2,T,sE,f2,h2⟩:=hq;subst e;refine QS S (.inl hc) I2 T sE f2 hb h2 λD s3 H3 s' aE H' I3 f3 J' q=>?_
 obtain⟨m,hm,_⟩:=J'.loc;exact⟨m,hm,λh' b8=>⟨.ref D,H',I3.KH f3 J' b8,rfl,q⟩⟩
theorem adT{i:Nat}{y:Str}{tg iter elt:Expr}{ifs:List Expr}{sc:Scope}{pos py wu:Pos}{M:List Str}{js:List (Option Nat)}{wi:TI}{g:TG}{tt:TT}{te:TE}(hN:X.N.Nodup)(hy:X.N[i]? = some y)(hl:X.env.scope.names.lookup y=some .local)
  (S:l9 X M js sc) (hc:X.calm=true) (hi:PI X tg iter wi) (hb:∀s3 H3 fp,PG (dO X M sc s3 H3 fp) tg g/\rK (dO X M sc s3 H3 fp) ifs tt/\PE (dO X M sc s3 H3 fp) elt te)
  (kF:swapsWith (.ListComp elt [⟨tg,iter,ifs,0⟩] sc pos) (some (.Name y py)) wu.line X.env=pure true:=by rfl) (hs:∀x,foldedSetIterable iter X.env x=pure x:=by intro _;rfl) :
  PS X (.Assign [.Name y py] (.ListComp elt [⟨tg,iter,ifs,0⟩] sc pos) wu) (Cb (GA wi js g tt te) (rV i)):=by
 intro af s σ H D I h;rw[exec_Assign_Name_used _ _ _ _ kF];refine aaQ (wpAny_standAt (aaQ ?_));refine aaQ (aeR (wpAny_comprehension_free rfl hs (Ky λx hx=>I.ok.has x (S.free x hx)) S.kind S.loc ?_) (λ_ s' q=>acr (acr q)) λ_ _ e=>e);refine aM (hi af s σ H _ I h) λv s1 h1=>aM h1 λzX s2 hq=>?_
 obtain⟨it,fp,tn,J,H2,e,I2,T,sE,f2,h2⟩:=hq;subst e;refine QS (Q:=λx H1=>rV i x σ H1 D.nx) S (.inl hc) I2 T sE f2 hb h2 λDa s3 H3 s' aE H' I3 f3 J' q=>?_
 have sb:Heap.SameBut s3.heap.objs.size s'.heap s'.heap:=⟨rfl,λ_ _=>rfl⟩
 have I5:Inv X af σ H' s':=I3.KH f3 J' sb;obtain⟨m,hm,_⟩:=J'.loc;have ne:X.env.locals≠s3.heap.objs.size:=acu I3.lt;refine wpAny_assign_Name (Q5 I5 hN hy (.inl hl) (show RelV (.ref Da) (.ref Da) from rfl) (λs6 I6 ⟨a,Du,ha⟩=>?_) (.inr hl));have mZ:∀x c,X.env.cells.lookup x=some c->c≠s3.heap.objs.size:=λx c e=>by
  obtain⟨v',jQ⟩:=I3.cell x c e;exact acu jQ.lt
 have na:a≠s3.heap.objs.size:=ha.elim (λe=>by rw[e];exact ne) λz=>mZ y a z
 refine⟨m,hm.sameBut Du (aeV na),λh' b8=>⟨_,H',I6.turned (λb o hb e=>(b8.2 b hb).trans e) J'.free (aeV ne) (.inr I3.sz) mZ (λp hp=>?_),q⟩⟩;exact acu (abo (I3.pin p hp).1)
end
theorem ZN:typeLookup (.type "dict") "__len__"=pure (some (.builtin "dict.__len__")):=by rw[typeLookup_type,builtinLookup_eq_fast];kernel_rfl
section
variable{prog:Program}{w:World}{A:Around}{E:Value->Shared->Prop}{s:Shared}
theorem aaX{κ:Type}[DecidableEq κ]{knd:KeyKind prog w κ}{d:Addr}{aj:List (κ×Value)}{Q:List Value->Shared->Prop}(hh:A.handled=none)(hd:(d==sysModules)=false)(hm:s.heap.DictOf knd d aj)(hz:aj.length<=sizeLine)
  (hQ:∀s' acc,s.heap.objs.size<=s'.heap.objs.size->(∀b o,s.heap.get? b=some o->s'.heap.get? b=some o)->s'.gens=s.gens->s'.drawn=s.drawn->s'.os=s.os->ItemsOf (λi v=>∃k x,aj[i]? = some (k,x)/\knd.is k v=true) acc aj.length->Q acc.toList s') :
  wpAny (model prog w) A (collect (.ref d)) Q E s:=by
 obtain⟨ep,hm⟩:=hm.dictAt;have cj:d<s.heap.objs.size:=hm.lt_size;unfold collect;refine aaQ (wpAny_runValue (afi F.entry_proto_collect ?_));rw[ae2 F.plain_proto_collect _];refine aaQ (afF ?_);refine acr ⟨afx F.plain_list_iadd _,afi F.entry_list_iadd ?_⟩;rw[ae2 F.plain_list_iadd _];have oH:=hm.push { cls:=.type "list",data:=.seq ([]:List Value).toArray };have UK:({ s with heap:=s.heap.push { cls:=.type "list",data:=.seq ([]:List Value).toArray } }:Shared).TypeIs (.ref d) "dict":=oH.dictOf.typeIs;show wpAny (model prog w) A.in1 (Builtin.List.listExtendWith (.ref s.heap.objs.size) (.ref d) (.ref s.heap.objs.size)) _ _ _;unfold Builtin.List.listExtendWith;refine aaQ (wpAny_typeOf UK ?_);have h1:Builtin.List.listSameRef (.ref s.heap.objs.size) (.ref d)=false:=by simp[Builtin.List.listSameRef,afg cj]
 have h2:(Value.type "dict" == Value.type "list")=false:=by decide
 have h3:(Value.type "dict" == Value.type "tuple")=false:=by decide
 simp only[h1,h2,h3,Bool.or_false,afr,if_false];refine aaQ (wpAny_pyIter_dict hd oH ?_);refine aaQ (aeU ?_);have vM:=oH.push { cls:=.type "dict_keyiterator",data:=.fields #[.ref d,.int 0 0,.int aj.length 0,.int ep 0] };have D7:({ s with heap:=(s.heap.push { cls:=.type "list",data:=.seq ([]:List Value).toArray }).push { cls:=.type "dict_keyiterator",data:=.fields #[.ref d,.int 0 0,.int aj.length 0,.int ep 0] } }:Shared).TypeIs (.ref d) "dict":=vM.dictOf.typeIs;unfold Builtin.List.listLengthHint;refine aaQ (wpAny_specialOf D7 ZN ?_);generalize CI:("dict.__len__":String)=JV
 (fail_if_success (clear CI JV))
 wp_delta
 rw[show splitId JV=some ("dict","__len__") from by subst CI;decide +kernel];subst CI;refine aaQ (wpAny_isInstance (b:=true) D7 (by rw[isSubtype_type];kernel_rfl) ?_);refine aaQ (wpAny_typeOf D7 ?_);refine acr ?_;refine aaQ (wpAny_rule ?_);have hsz:(s.heap.push { cls:=.type "list",data:=.seq ([]:List Value).toArray }).objs.size=s.heap.objs.size+1:=afD ..;generalize xr:s.heap.push { cls:=.type "list",data:=.seq ([]:List Value).toArray }=h1 at *;have XD:h1.get? s.heap.objs.size=some { cls:=.type "list",data:=.seq ([]:List Value).toArray }:=by rw[<- xr];exact ab2 _ rfl
 have aay:∀b o,s.heap.get? b=some o->h1.get? b=some o:=λb o e=>by rw[<- xr];exact aaE _ e
 dsimp only;have RZ:(h1.push { cls:=.type "dict_keyiterator",data:=.fields #[.ref d,.int 0 0,.int aj.length 0,.int ep 0] }).get? h1.objs.size=some { cls:=.type "dict_keyiterator",data:=.fields #[.ref d,.int 0 0,.int aj.length 0,.int ep 0] }:=ab2 _ rfl;have Nr:(h1.push { cls:=.type "dict_keyiterator",data:=.fields #[.ref d,.int 0 0,.int aj.length 0,.int ep 0] }).get? s.heap.objs.size=some { cls:=.type "list",data:=.seq ([]:List Value).toArray }:=aaE _ XD;have Xp:∀b o,s.heap.get? b=some o->(h1.push { cls:=.type "dict_keyiterator",data:=.fields #[.ref d,.int 0 0,.int aj.length 0,.int ep 0] }).get? b=some o:=λb o e=>aaE _ (aay b o e)
 generalize hh2:h1.push { cls:=.type "dict_keyiterator",data:=.fields #[.ref d,.int 0 0,.int aj.length 0,.int ep 0] }=h2 at *;have Qi:s.heap.objs.size≠h1.objs.size:=by rw[hsz];exact acu (afy _)
 have Kr:s.heap.objs.size≠d:=afg cj;have SR:d≠h1.objs.size:=by rw[hsz];exact acu (af2 cj)
 refine aaQ ?_;refine aaQ (afX Nr rfl ?_);have M3:=ae9 (Obj.mapSeq (·.push Value.none)) Nr rfl;refine afX M3 rfl ?_;have Yx:=ae9 (Obj.mapSeq (·.pop)) M3 rfl;have F0:∀b o,b≠s.heap.objs.size->h2.get? b=some o->((h2.update s.heap.objs.size (Obj.mapSeq (·.push Value.none))).update s.heap.objs.size (Obj.mapSeq (·.pop))).get? b=some o:=
  λb o hb e=>(adq _ _ (aeV hb)).trans ((adq _ _ (aeV hb)).trans e)
 have W:=(Walks.dictKeys (A:=A.in1) (knd:=knd) hh h1.objs.size d SR aj ep).toS;refine acr ⟨afx F.plain_extend_loop _,codeAny_extend_loopS W hz s.heap.objs.size (by simp;exact⟨Qi,Kr⟩) _ aj.length 0 _ _ _ rfl (ad0 _) ?_ Yx (ItemsOf.nil _) λs' UM c' Bb J5 Tz=>?_⟩
 .exact⟨⟨_,F0 _ _ (aeV Qi) RZ,rfl,rfl⟩,vM.at' λo e=>F0 _ _ (aeV Kr) e⟩
 .show wpAny (model prog w) A (load s.heap.objs.size >>= _) _ _ s';refine aaQ (wpAny_load J5 ?_);refine acr (hQ s' UM (aeW (abo J5)) (λb o e=>?_) Bb.gens Bb.drawn Bb.os Tz);have hb:b<s.heap.objs.size:=abo e;refine Bb.heap b o ?_ (F0 b o (acu hb) (Xp b o e));intro m;rcases aa3.mp m with z|z
  .exact absurd hb (by rw[z];exact aeq _)
  .have z:=aa1.mp z;rw[hsz] at z;exact absurd hb (by rw[z];exact Nat.not_lt.mpr (Nat.le_succ _))
theorem WI{x:Value}{Q:Value->Shared->Prop}(hc:∀(Q':List Value->Shared->Prop),(∀vs s',(∃ns,IntsAre vs ns/\∀(out:Array Value) (eO:List Int),IntsAre out.toList eO->eO.Perm ns->eO.Pairwise (·<=·)->
    Q (.ref s'.heap.objs.size) { s' with heap:=sortedHeap (s'.heap.push (seqObj "list" vs.toArray 0)) s'.heap.objs.size vs out })/\vs.length<64->Q' vs s')->wpAny (model prog w) A.in1 (collect x) Q' E s):wpAny (model prog w) A (call (.builtin "sorted") [x]) Q E s:=by
 refine call_function_tree kind_sorted plain_sorted entry_sorted (args_sorted1 _) ?_;unfold Builtin.«sorted»;refine aaQ (acr ?_);refine aaQ (hc _ λvs s' ⟨⟨ns,hI,h⟩,l5⟩=>?_);refine aaQ (wpAny_newList ?_);have zJ:(s'.heap.push (seqObj "list" vs.toArray 0)).get? s'.heap.objs.size=some (seqObj "list" vs.toArray 0):=ab2 _ rfl;refine aaQ (aeU (wpAny_call_entry slot_list_sort ⟨_,zJ,rfl⟩ entry_list_sort (list_sort_tree zJ hI l5 λout eO a1 a2 a3=>⟨_,rfl,?_⟩) (args_list_sort _)));exact acr (h out eO a1 a2 a3)
end
section
variable{X:Cx}
theorem OS:∀{ks:List Int}{aj:List (Key×Value)}{vs:List Value},aj.map (·.1)=ks.map Sum.inl->vs.length=aj.length->(∀(i:Nat) v,vs[i]? = some v->∃k x,aj[i]? = some (k,x)/\(fR P w).is k v=true)->IntsAre vs ks
 |[],[],vs,_,hl,_=>by cases vs with
  |nil=>exact .nil
  |cons _ _=>simp at hl
 |[],_::_,_,e,_,_=>by simp at e
 |_::_,[],_,e,_,_=>by simp at e
 |k::ks,(q,x)::aj,vs,e,hl,h=>by
  simp only[aax,ae1] at e;obtain⟨rfl,e⟩:=e;cases vs with
  |nil=>simp at hl
  |cons v vs=>
   obtain⟨k',x',e0,hk⟩:=h 0 v rfl;have U6:=abS e0;cases U6;rcases lO (show rJ (Sum.inl k) v=true from hk) with⟨i,t,e1,e2⟩|⟨y,t,e1,e2⟩
   .cases e1;subst e2;exact .cons k t (OS e (by simpa using hl) λi v hv=>h (i+1) v (by simpa using hv))
   .cases e1
def Kf(K:PySem.W.Frag):List V->Hp->VK->Prop:=λxs H Q=>∃(p:Addr) (ks:List Int),xs=[.ref p]/\ks.length<64/\((∃aj:List (Key×V),H p=some (.dK aj)/\aj.map (·.1)=ks.map Sum.inl)\/bY K H p (ks.map V.int))/\
 ∀(l:Addr) (nR:List Int),H l=none->nR.Perm ks->nR.Pairwise (·<=·)->Q (.ref l) (upd H l (.lst (nR.map V.int)))
theorem acE(hc:X.calm=true):gu X (.builtin "sorted") (Kf X.K):=by
 intro af s σ H xs us Q I r h;obtain⟨p,ks,rfl,l5,El,q⟩:=h;obtain⟨u,rfl,ru⟩:=vals1 r;cases ru;have fin:∀(vs:List Value) (s':Shared),s.heap.objs.size<=s'.heap.objs.size->(∀b o,s.heap.get? b=some o->s'.heap.get? b=some o)->s'.gens=s.gens->s'.drawn=s.drawn->s'.os=s.os->∀(out:Array Value) (eO:List Int),IntsAre out.toList eO->eO.Perm ks->eO.Pairwise (·<=·)->
   EP X af σ Q (.ref s'.heap.objs.size) { s' with heap:=sortedHeap (s'.heap.push (seqObj "list" vs.toArray 0)) s'.heap.objs.size vs out }:=by
  intro vs s' hle hk e1 e2 e3 out eO a1 a2 a3;obtain⟨h',g',d',t',o'⟩:=s';dsimp only at e1 e2 e3 hk hle;subst e1 e2 e3;obtain⟨e,he⟩:=sortedHeap_at (show(h'.push (seqObj "list" vs.toArray 0)).get? h'.objs.size=some (seqObj "list" vs.toArray 0) from ab2 _ rfl);have hlen:eO.length<64:=by rw[a2.length_eq];exact l5
  refine⟨.ref h'.objs.size,upd H h'.objs.size (.lst (eO.map V.int)),I.laid (λb o eb=>?_) hle ?_,rfl,q _ eO (I.aI.fresh hle) a2 a3⟩
  .have hb:b<h'.objs.size:=abo (hk b o eb);rw[sortedHeap_old (acu hb) (by rw[afD];exact af2 hb)];exact aaE _ (hk b o eb)
  .exact⟨by rw[List.length_map];exact aeW (BH (by omega)),out.toList,e,Gf a1,by rw[he]⟩
 have hh:X.A.handled=none:=I.ok.hd hc;refine WI λQ' JI=>?_
 rcases El with⟨aj,hp,hk⟩|hp
 .obtain⟨hz,hd,vs,rel,dd⟩:=L4 I.aI hp;refine aaX hh hd dd (by rw[<- rel.length];exact hz) λs' acc hle kp e1 e2 e3 it=>JI _ s' ⟨⟨ks,?_,λout eO a1 a2 a3=>fin _ s' hle kp e1 e2 e3 out eO a1 a2 a3⟩,?_⟩
  .refine OS (by rw[<- rel.keys];exact hk) (by rw[aeu];exact it.1) λi v hv=>it.2 i v (by rw[<- Array.getElem?_toList];exact hv)
  .rw[aeu,it.1,<- rel.length];have:=congrArg List.length hk;rw[List.length_map,List.length_map] at this;omega
 .obtain⟨au,rv,pl,hz⟩:=I.list hp;have hi:=intsAre_of rv;have k1:s.heap.objs.size<=((s.heap.push (seqObj "list" #[] 0)).update s.heap.objs.size (Obj.mapSeq (·++au.toArray))).objs.size:=by
   rw[Heap.size_update,afD];exact Nat.le_succ _
  have k2:∀b o,s.heap.get? b=some o->((s.heap.push (seqObj "list" #[] 0)).update s.heap.objs.size (Obj.mapSeq (·++au.toArray))).get? b=some o:=λb o e=>
   (adq _ _ (afg (abo e))).trans (aaE _ e)
  refine collect_list pl.isList (JI _ _ ⟨⟨ks,hi,λout eO a1 a2 a3=>fin au { s with heap:=(s.heap.push (seqObj "list" #[] 0)).update s.heap.objs.size (Obj.mapSeq (·++au.toArray)) } k1 k2 rfl rfl rfl out eO a1 a2 a3⟩,?_⟩) (by rw[<- rv.length];exact hz);rw[<- rv.length,List.length_map];exact l5
end
theorem aea(a d:Value):argsOk "min" ⟨[a],[("default",d)]⟩:=by unfold argsOk;kernel_rfl
section
variable{prog:Program}{w:World}{A:Around}{R:Result->Shared->Prop}{it:Addr}{eV iM:List Addr}{n:Nat}{P:Nat->Value->Prop}{T:Nat->Heap->Prop}
theorem By:(toString "min"++toString ".loop":String)="min.loop":=by decide
theorem RG(W:Walks prog w A.in1 it eV iM n P T)(bt:Nat->Nat->Bool)(Cu:CmpOf prog w A.in1 .Lt P bt)(kw:List (Str×Value))(B:Addr)(hB:B∉eV):
  ∀(k j:Nat) (s:Shared) (vb:Value) (c:Nat),n-(j+1)=k->j+1<=n->T (j+1) s.heap->P (argBest bt j) vb->s.heap.get? B=some { cls:=.type "list",dict:=none,data:=.seq #[vb,vb] c,slots:=#[] }->
   (∀v h' tk,P (argBest bt (n-1)) v->(∀b o,b∉iM->b≠B->s.heap.get? b=some o->h'.get? b=some o)->R (.ok (.ret v)) { s with heap:=h',toks:=tk })->
   codeAny (model prog w) A (.builtin "min.loop" ⟨[.ref it,.none,.ref B],kw⟩) R s:=by
 have nB:B∉iM:=λm=>hB (W.sub _ m)
 intro k
 induction k with
 |zero=>
  intro j s vb c e1 e2 st pb gB fin;have en:j+1=n:=by omega
  refine afi F.entry_min_loop ?_;rw[ae2 afq _];refine aaQ (wpAny_seqItems gB rfl ?_);refine aaQ (afN (W.done s _ _ (en ▸ st) λh1 t1 kp=>?_));have pV:=kp B _ nB gB;refine aaQ (afX pV rfl (aaQ (wpAny_letGo (acr ?_))));exact fin vb _ t1 (by rw[<- en];exact pb) λb o m1 m2 e=>(adq _ _ (aeV m2)).trans (kp b o m1 e)
 |succ k ih=>
  intro j s vb c e1 e2 st pb gB fin;have lt:j+1<n:=by omega
  refine afi F.entry_min_loop ?_;rw[ae2 afq _];refine aaQ (wpAny_seqItems gB rfl ?_);refine aaQ (afN (W.item (j+1) s _ _ lt st λv h1 t1 pv qu kp=>?_));have pV:=kp B _ nB gB;show wpAny (model prog w) A.in1 (tryCatch (holding [v,v] (richCompare .Lt v vb >>= _)) _ >>= _) _ _ _;refine aaQ (afN (aeU (aaQ (Cu (j+1) (argBest bt j) v vb _ _ _ pv pb ?_))));refine aaQ (aeU (aeG (aaQ (wpAny_letGo (acr ?_)))));cases hb:bt (j+1) (argBest bt j) with
  |true=>
   simp only[if_true];refine aaQ (afX pV rfl (aaQ (wpAny_letGo ?_)));rw[By];refine acr ⟨afx afq _,ih (j + 1) _ v _ (by omega) lt (W.frame _ _ _ qu λb m o e=>(adq _ _ (λz:B=b=>hB (by rw[z];exact m))).trans e)
    (by simp only[argBest,hb,if_true];exact pv) (ae9 _ pV rfl) λv2 h2 t2 p2 k2=>?_⟩
   exact fin v2 h2 t2 p2 λb o m1 m2 e=>k2 b o m1 m2 ((adq _ _ (aeV m2)).trans (kp b o m1 e))
  |false=>
   simp only[afr,if_false];refine aaQ (wpAny_letGo ?_);rw[By];refine acr ⟨afx afq _,ih (j+1) _ vb c (by omega) lt qu (by simp only[argBest,hb,afr,if_false];exact pb) pV λv2 h2 t2 p2 k2=>?_⟩;exact fin v2 h2 t2 p2 λb o m1 m2 e=>k2 b o m1 m2 (kp b o m1 e)
theorem acV(W:Walks prog w A.in1 it eV iM n P T)(bt:Nat->Nat->Bool)(Cu:CmpOf prog w A.in1 .Lt P bt)(key:Str)(dv:Value)(B:Addr)(hB:B∉eV){s:Shared}{c:Nat}(st:T 0 s.heap)
  (gB:s.heap.get? B=some { cls:=.type "list",dict:=none,data:=.seq #[] c,slots:=#[] })
  (fin:∀v h' tk,(n=0/\v=dv\/0<n/\P (argBest bt (n-1)) v)->(∀b o,b∉iM->b≠B->s.heap.get? b=some o->h'.get? b=some o)->R (.ok (.ret v)) { s with heap:=h',toks:=tk }) :
  codeAny (model prog w) A (.builtin "min.loop" ⟨[.ref it,.none,.ref B],[(key,dv)]⟩) R s:=by
 have nB:B∉iM:=λm=>hB (W.sub _ m)
 refine afi F.entry_min_loop ?_;rw[ae2 afq _];refine aaQ (wpAny_seqItems gB rfl ?_)
 by_cases hn:0<n
 .refine aaQ (afN (W.item 0 s _ _ hn st λv h1 t1 pv qu kp=>?_));have pV:=kp B _ nB gB;show wpAny (model prog w) A.in1 (updateSeq B (λ_=>#[v,v]) >>= _) _ _ _;refine aaQ (afX pV rfl ?_);rw[By];refine acr ⟨afx afq _,RG W bt Cu _ B hB _ 0 _ v _ rfl hn (W.frame _ _ _ qu λb m o e=>(adq _ _ (λz:B=b=>hB (by rw[z];exact m))).trans e) pv (ae9 _ pV rfl) λv2 h2 t2 p2 k2=>?_⟩;exact fin v2 h2 t2 (.inr ⟨hn,p2⟩) λb o m1 m2 e=>k2 b o m1 m2 ((adq _ _ (aeV m2)).trans (kp b o m1 e))
 .have en:n=0:=by lia
  refine aaQ (afN (W.done s _ _ (en ▸ st) λh1 t1 kp=>?_));exact aaQ (wpAny_rule (acr (fin dv h1 t1 (.inl ⟨en,rfl⟩) λb o m1 _ e=>kp b o m1 e)))
end
section
variable{prog:Program}{w:World}{A:Around}{E:Value->Shared->Prop}{s:Shared}
theorem SV{id:String}{b:Builtin}{kw:List (Str×Value)}(hk:builtinKind id=none)(hp:plainId id=true)(hb:entryFor table id=some b)(ha:argsOk id ⟨args,kw⟩)
  (hc:wpAny (model prog w) A.in1 (b ⟨args,kw⟩) (λfin s'=>match fin with
   |.done f=>(match(Except.ok f:Result) with|.ok (.ret v)=>Q v s'|.ok _=>False|.error e=>E e s')
   |.again c=>c.quiet=true/\codeAny (model prog w) A c (λr s'=>match r with|.ok (.ret v)=>Q v s'|.ok _=>False|.error e=>E e s') s') E s):wpAny (model prog w) A (call (.builtin id) args kw) Q E s:=by
 refine wpAny_call (codeAny_call_builtin hp hb ?_);simp only[checkBuiltinCall,hk];cases Sx:Manifest.signature? id with
 |none=>exact acr hc
 |some sig=>
  have h2:Bind.checkArgs id sig ⟨args,kw⟩=pure ():=by simpa only[argsOk,Sx] using ha
  simp only[h2];exact acr hc
theorem NH:∀{vs:List Value}{ns:List Int}{i:Nat}{v:Value},IntsAre vs ns->vs[i]? = some v->∃t,v=Value.int (ns.getD i 0) t
 |_,_,_,_,.nil,e=>by simp at e
 |_,_,0,_,.cons n t h,e=>by
  have e':=abS e;subst e';exact⟨t,rfl⟩
 |_,_,i+1,v,.cons n t h,e=>by
  obtain⟨u,eu⟩:=NH h (by simpa using e);exact⟨u,by simpa using eu⟩
theorem Vd{ns:List Int}(h:i<ns.length):ns.getD i 0∈ns:=by
 rw[ac7,aaR h];exact List.getElem_mem h
theorem VQ{l:Addr}{vs:List Value}{ns:List Int}{dv:Value}{Q:Value->Shared->Prop}(hh:A.handled=none)(hl:s.heap.IsList l vs.toArray)(hi:IntsAre vs ns)
  (fin:∀v h' tk,(ns=[]/\v=dv\/∃m t,v=.int m t/\m∈ns/\∀x∈ns,m<=x)->(∀b o,s.heap.get? b=some o->h'.get? b=some o)->Q v { s with heap:=h',toks:=tk }) :
  wpAny (model prog w) A (call (.builtin "min") [.ref l] [("default",dv)]) Q E s:=by
 refine SV F.kind_min F.plain_min F.entry_min (aea _ _) ?_;show wpAny (model prog w) A.in1 (Builtin.Builtins.bindParams "min" ["key","default"] 0 ⟨[],[("default",dv)]⟩ >>= _) _ _ s;refine aaQ (wpAny_of_eq (show Builtin.Builtins.bindParams "min" ["key","default"] 0 ⟨[],[("default",dv)]⟩=pure [none,some dv] from rfl) ?_);refine aaQ (acr (aaQ (wpAny_pyIter_list hl ?_)));refine aaQ (afF ?_);rw[By];have Jv:l<s.heap.objs.size:=let⟨_,ho,_⟩:=hl;abo ho
 have hsz:(s.heap.push { cls:=.type "list_iterator",data:=.fields #[.ref l,.int 0 0] }).objs.size=s.heap.objs.size+1:=afD ..;have hv:∀(i:Nat) (v:Value),vs.toArray[i]? = some v->∃t,v=Value.int (ns.getD i 0) t:=λi v e=>NH hi (by simpa using e)
 have hlen:vs.length=ns.length:=hi.length;generalize xr:s.heap.push { cls:=.type "list_iterator",data:=.fields #[.ref l,.int 0 0] }=h1 at *;have g1:h1.get? s.heap.objs.size=some { cls:=.type "list_iterator",data:=.fields #[.ref l,.int 0 0] }:=by rw[<- xr];exact ab2 _ rfl
 have old:∀b o,s.heap.get? b=some o->h1.get? b=some o:=λb o e=>by rw[<- xr];exact aaE _ e
 have nl:l≠s.heap.objs.size:=acu Jv;have W:=Walks.list (prog:=prog) (w:=w) (A:=A.in1.in1) hh s.heap.objs.size l nl vs.toArray;have hB:h1.objs.size∉[s.heap.objs.size,l]:=by
  intro m;rcases aa3.mp m with z|z
  .rw[hsz] at z;exact absurd z (afg (afy _))
  .have z:=aa1.mp z;rw[hsz] at z;exact absurd z (afg (af2 Jv))
 refine acr ⟨afx afq _,acV W.of_in1 (λi j=>decide (ns.getD i 0<ns.getD j 0)) (CmpOf.ints_lt (λi=>ns.getD i 0) hv) _ dv h1.objs.size hB ?_ (ab2 _ rfl) λv h' tk Bl kp=>?_⟩
 .exact⟨⟨_,aaE _ g1,rfl,rfl⟩,hl.at λo e=>aaE _ (old l o e)⟩
 .refine fin v h' tk ?_ λb o e=>kp b o ?_ ?_ (aaE _ (old b o e))
  .have d8:vs.toArray.size=ns.length:=by rw[abW,hlen]
   rw[d8] at Bl;rcases Bl with⟨h0,e⟩|⟨h0,pv⟩
   .exact .inl ⟨afB h0,e⟩
   .obtain⟨t,e⟩:=hv _ v pv;obtain⟨a1,a2⟩:=argBest_lt (λi=>ns.getD i 0) (ns.length-1);refine .inr ⟨_,t,e,Vd (by omega),λx hx=>?_⟩;obtain⟨j,hj,rfl⟩:=List.getElem_of_mem hx;have:=a2 j (by omega);rw[show ns[j]=ns.getD j 0 by rw[ac7,aaR hj];rfl];exact this
  .intro m;exact absurd (abo e) (by rw[aa1.mp m];exact aeq _)
  .intro z;exact absurd (abo e) (by rw[z,hsz];exact Nat.not_lt.mpr (Nat.le_succ _))
end
section
variable{X:Cx}{p pos:Pos}{a:Expr}{ta td:TE}
def Tt(K:PySem.W.Frag)(ta td:TE):TE:=λσ H Q=>ta σ H λx H1=>td σ H1 λy H2=>∃(l:Addr) (ns:List Int),x=.ref l/\bY K H2 l (ns.map V.int)/\((ns=[]/\Q y H2)\/ns≠[]/\∀m,m∈ns->(∀n∈ns,m<=n)->Q (.int m) H2)
theorem adP{b:Expr}{kp:Pos}(hc:X.calm=true)(hm:X.mg "min"=none)(ha:PE X a ta)(hb:PE X b td)(hg:Gl X "min":=by rfl)(hs:starEach [a] X.env=[(false,eval a X.env)]:=by rfl)
  (h1:backTo pos (starEach [a] X.env)=(false,eval a X.env)::backTo pos (starEach [] X.env):=by rfl) (h2:(backTo pos (starEach [a] X.env)).any (·.1)=false:=by rfl)
  (h3:(backToKw pos (keywordEach [⟨some "default",b,kp⟩] X.env)).all (·.1.isSome)=true:=by rfl) (h4:(backToKw pos (keywordEach [⟨some "default",b,kp⟩] X.env)).any (·.1.isNone)=false:=by rfl)
  (h5:(backToKw pos (keywordEach [⟨some "default",b,kp⟩] X.env)).filterMap (·.1)=[("default":Str)]:=by rfl) :
  PE X (.Call (.Name "min" p) [a] [⟨some "default",b,kp⟩] pos) (Tt X.K ta td):=by
 intro af s σ H Q I h;refine aeY (qC I hg hm (show bootBuiltins "min"=some (.builtin "min") by decide +kernel) ?_ (by decide) (by decide));refine callWith_kw ?_ h1 h2 h3 h4;rw[h5];refine aM (dW ha fH hs pos af s σ H (λvs H1=>match vs with|[x]=>td σ H1 λy H2=>∃(l:Addr) (ns:List Int),x=.ref l/\bY X.K H2 l (ns.map V.int)/\((ns=[]/\Q y H2)\/ns≠[]/\∀m,m∈ns->(∀n∈ns,m<=n)->Q (.int m) H2)|_=>False) I h) λus s1 ⟨vs,H1,I1,rv,q1⟩=>?_
 rcases vs with _|⟨x,_|⟨x2,r2⟩⟩
 .exact q1.elim
 .obtain⟨u,rfl,ru⟩:=vals1 rv;refine kws_cons (aM (hb af s1 σ H1 _ I1 q1) λdv s2 ⟨y,H2,I2,ry,l,ns,ex,hq,q2⟩=>kws_nil ?_);subst ex;cases ru;obtain⟨au,ri,pl,hz⟩:=I2.list hq;refine VQ (I2.ok.hd hc) pl.isList (intsAre_of ri) λv h' tk Bl kp=>?_
  rcases Bl with⟨en,ev⟩|⟨m,t,ev,oH,vM⟩
  .subst ev;rcases q2 with⟨_,q2⟩|⟨ne,_⟩
   .exact⟨y,H2,I2.kept kp,ry,q2⟩
   .exact absurd en ne
  .subst ev;rcases q2 with⟨en,_⟩|⟨_,q2⟩
   .rw[en] at oH;cases oH
   .exact⟨.int m,H2,I2.kept kp,⟨t,rfl⟩,q2 m oH vM⟩
 .exact q1.elim
end
end L2
namespace PySem
theorem Zl:typeLookup (.type "list") "keys"=pure none:=by rw[typeLookup_type,builtinLookup_eq_fast];kernel_rfl
theorem aeN:typeLookup (.type "tuple") "keys"=pure none:=by rw[typeLookup_type,builtinLookup_eq_fast];kernel_rfl
section
variable{prog:Program}{w:World}{A:Around}{E:Value->Shared->Prop}{s:Shared}{a:Addr}{xs:Array Value}{k:Nat}{sl:Array (Option Value)}{Q:Option Value->Shared->Prop}
theorem VI(hx:s.heap.get? a=some { cls:=.type "list",dict:=none,data:=.seq xs k,slots:=sl })(hA:A.handled=none)
  (h:∀h' tk,(∀b o,s.heap.get? b=some o->h'.get? b=some o)->Q none { s with heap:=h',toks:=tk }):wpAny (model prog w) A (getAttr? (.ref a) "keys") Q E s:=by
 obtain⟨hp,g,d,tk,os⟩:=s;have hT:∀qV,(⟨hp,g,d,qV,os⟩:Shared).TypeIs (.ref a) "list":=λ_=>⟨_,hx,rfl⟩
 have f1:=sub_AttributeError;have f3:=F.slot_list_getattribute.lookup;have f4:=F.slot_list_getattribute.bind (.ref a);have f5:=am_list_getattr_none;unfold getAttr? getAttrBy? getAttrBy
 repeat (any_goals (first|assumption|exact hT _|((with_reducible show wpAny _ _ (call (Value.builtin "list.__getattribute__") _ _) _ _ _);refine call_meets F.slot_list_getattribute (hT _) am_entry_list_getattribute (F.args_list_getattribute_2 _ _) (meets_getattribute_miss_list a xs k sl "keys" _ Zl (by decide +kernel)) ⟨hx,hA,λh' qV e i8=>?_⟩)|wp_step))
 obtain⟨t',u',he⟩:=i8.there;unfold getattributeRaised
 repeat (any_goals (first|assumption|wp_step))
 all_goals exact h _ _ i8.keeps
theorem ab5(hx:s.heap.get? a=some { cls:=.type "tuple",dict:=none,data:=.seq xs k,slots:=sl })(hA:A.handled=none)
  (h:∀h' tk,(∀b o,s.heap.get? b=some o->h'.get? b=some o)->Q none { s with heap:=h',toks:=tk }):wpAny (model prog w) A (getAttr? (.ref a) "keys") Q E s:=by
 obtain⟨hp,g,d,tk,os⟩:=s;have hT:∀qV,(⟨hp,g,d,qV,os⟩:Shared).TypeIs (.ref a) "tuple":=λ_=>⟨_,hx,rfl⟩
 have f1:=sub_AttributeError;have f3:=F.slot_tuple_getattribute.lookup;have f4:=F.slot_tuple_getattribute.bind (.ref a);have f5:=am_tuple_getattr_none;unfold getAttr? getAttrBy? getAttrBy
 repeat (any_goals (first|assumption|exact hT _|((with_reducible show wpAny _ _ (call (Value.builtin "tuple.__getattribute__") _ _) _ _ _);refine call_meets F.slot_tuple_getattribute (hT _) am_entry_tuple_getattribute (F.args_tuple_getattribute_2 _ _) (meets_getattribute_miss_tuple a xs k sl "keys" _ aeN (by decide +kernel)) ⟨hx,hA,λh' qV e i8=>?_⟩)|wp_step))
 obtain⟨t',u',he⟩:=i8.there;unfold getattributeRaised
 repeat (any_goals (first|assumption|wp_step))
 all_goals exact h _ _ i8.keeps
end
end PySem
namespace L2
open PySem PySem.Spec PyProof.Rows
theorem A0:plainId "dict.update.loop"=true:=by decide +kernel
theorem JH:entryFor table "dict.update.loop"=some Builtin.«dict.update.loop»:=entryFor_of_fast (by kernel_rfl)
def pairAt{prog:Program}{w:World}{κ:Type}[DecidableEq κ](knd:KeyKind prog w κ)(h:Heap)(no:List Addr)(v:Value)(p:κ×Value):Prop:=∃a key,v=.ref a/\a∉no/\IsTup h a #[key,p.2]/\knd.is p.1 key=true
section
variable{prog:Program}{w:World}{A:Around}{R:Result->Shared->Prop}{κ:Type}[DecidableEq κ]{knd:KeyKind prog w κ}{it d:Addr}{eV iM:List Addr}{n:Nat}{P:Nat->Value->Prop}{T:Nat->Heap->Prop}
theorem Y0(W:Walks prog w A.in1 it eV iM n P T)(hd:d∉eV)(h0:Heap)(ps:List (κ×Value))(hn:ps.length=n)(hP:∀i v,P i v->∃p,ps[i]? = some p/\pairAt knd h0 (d::iM) v p)(res:Value):
  ∀(k i:Nat) (s:Shared) (m:List (κ×Value)) (Hw:Tok),n-i=k->i<=n->T i s.heap->s.heap.DictOf knd d m->m.length+(n-i)<=sizeLine->(∀b o,b∉d::iM->h0.get? b=some o->s.heap.get? b=some o)->
   (∀h' tk,h'.DictOf knd d ((ps.drop i).foldl (λm p=>stored m p.1 p.2) m)->(∀b o,b∉d::iM->h0.get? b=some o->h'.get? b=some o)->R (.ok (.ret res)) { s with heap:=h',toks:=tk })->
   codeAny (model prog w) A (.builtin "dict.update.loop" ⟨[.ref d,.ref it,.int i Hw,res],[]⟩) R s:=by
 have nd:d∉iM:=λm=>hd (W.sub _ m)
 intro k
 induction k with
 |zero=>
  intro i s m Hw e1 e2 st dm hz kp fin;have en:i=n:=by lia
  subst en;refine afi JH ?_;rw[ae2 A0 _];refine aaQ (W.done s _ _ st λh1 t1 k1=>?_);refine aaQ (acr (acr (fin h1 t1 ?_ λb o mb e=>k1 b o (λz=>mb (aaa _ z)) (kp b o mb e))));rw[List.drop_eq_nil_of_le (by lia)];obtain⟨o,es,ep,ho,r⟩:=dm;exact⟨o,es,ep,k1 d o nd ho,r⟩
 |succ k ih=>
  intro i s m Hw e1 e2 st dm hz kp fin;have lt:i<n:=by lia
  refine afi JH ?_;rw[ae2 A0 _];refine aaQ (W.item i s _ _ lt st λv h1 t1 pv qu k1=>?_);obtain⟨p,ep,a,key,rfl,na,hpt,wV⟩:=hP i v pv;have TV:h1.DictOf knd d m:=by
   obtain⟨o,es,ep,ho,r⟩:=dm;exact⟨o,es,ep,k1 d o nd ho,r⟩
  obtain⟨oa,R3,UC,na',hda⟩:=hpt;have ga:=k1 a oa (λz=>na (aaa _ z)) (kp a oa na R3);refine aaQ (aeU ?_);refine aaQ (afN ?_);unfold Builtin.Dict.pairItems;refine aaQ (wpAny_typeOf ⟨oa,ga,UC⟩ ?_);rw[if_pos (by decide)];refine aaQ (wpAny_seqItems ga hda (acr ?_));refine aeU (wpAny_dictSet_pairs wV TV (λh2 dm2 sb=>?_) (by lia));have KU:∀b o,b≠d->h1.get? b=some o->h2.get? b=some o:=λb o hb e=>(sb.2 b hb).trans e
  have sE:=W.frame _ _ _ qu λb mb o e=>KU b o (λz=>hd (by rw[<- z];exact mb)) e
  have rX:(stored m p.1 p.2).length<=m.length+1:=by
   unfold stored
   split
   .rw[List.length_map];exact Nat.le_succ _
   .rw[abb];exact abH _
  refine acr ⟨afx A0 _,?_⟩;refine ih (i+1) _ (stored m p.1 p.2) 0 (by lia) lt sE dm2 (by lia) (λb o mb e=>KU b o (λz=>mb (by rw[z];exact aar)) (k1 b o (λz=>mb (aaa _ z)) (kp b o mb e))) λh3 t3 GH k3=>?_
  refine fin h3 t3 ?_ k3;have hi:i<ps.length:=by lia
  have yI:ps[i]=p:=by rw[aaR hi] at ep;exact abS ep
  rw[afO hi,aeh,yI];exact GH
theorem Pj{E:Value->Shared->Prop}{s:Shared}{x:Value}{Q:Value->Shared->Prop}(ps:List (κ×Value))(hz:ps.length<=sizeLine)(T0:String)(hT0:(Value.type T0 != Value.type "dict")=true)
  (xq:∀o,({ s with heap:=s.heap.push o }:Shared).TypeIs x T0)
  (hk:∀(o:Obj) (Q':Option Value->Shared->Prop) (E':Value->Shared->Prop),(∀h' tk,(∀b ob,(s.heap.push o).get? b=some ob->h'.get? b=some ob)->Q' none { s with heap:=h',toks:=tk })->wpAny (model prog w) A.in1.in1 (getAttr? x "keys") Q' E' { s with heap:=s.heap.push o })
  (hi:∀(s2:Shared) (Q':Value->Shared->Prop) (E':Value->Shared->Prop),(∀b ob,s.heap.get? b=some ob->s2.heap.get? b=some ob)->(∃o,s2.heap.get? s.heap.objs.size=some o)->
   (∀I eV iM n P T h3,Walks prog w A.in1.in1 I eV iM n P T->T 0 h3->ps.length=n->s.heap.objs.size∉eV->(∀b ob,s2.heap.get? b=some ob->h3.get? b=some ob)->(∀b∈iM,s.heap.get? b=none)->(∀i v,P i v->∃p,ps[i]? = some p/\pairAt knd s.heap (s.heap.objs.size::iM) v p)->Q' (.ref I) { s2 with heap:=h3 })->
   wpAny (model prog w) A.in1.in1 (pyIter x) Q' E' s2)
  (h:∀h' tk,h'.DictOf knd s.heap.objs.size (ps.foldl (λm p=>stored m p.1 p.2) [])->(∀b o,s.heap.get? b=some o->h'.get? b=some o)->Q (.ref s.heap.objs.size) { s with heap:=h',toks:=tk }) :
  wpAny (model prog w) A (call (.type "dict") [x]) Q E s:=by
 refine callType_codes (Q₁:=λobj bN=>obj=.ref s.heap.objs.size/\bN={ s with heap:=s.heap.push { cls:=.type "dict",data:=.dict #[] } }) F.kt_called_dict (F.kt_typeCall_dict_1 _) F.entry_dict_init (kt_code_dict_new _ ⟨rfl,rfl⟩) ?_
 rintro obj bN ⟨rfl,rfl⟩
 have Fd:(s.heap.push { cls:=.type "dict",data:=.dict #[] }).DictOf knd s.heap.objs.size []:=Heap.DictOf.new s.heap;refine⟨Fd.typeIs,F.args_dict_init_2 _ _,?_⟩;unfold Builtin.«dict.__init__»;refine aaQ ?_;unfold Builtin.Dict.selfAndRest;refine aaQ (wpAny_notOrdered_dict Fd.typeIs ?_);refine acr ?_;show wpAny (model prog w) _ (Builtin.Dict.updateFrom "dict.__init__" s.heap.objs.size x [] .none) _ _ _;unfold Builtin.Dict.updateFrom;refine aaQ (wpAny_typeOf (xq _) ?_);rw[if_pos hT0];refine aaQ (hk _ _ _ λh1 t1 k1=>?_);refine aaQ (wpAny_rule (aaQ ?_));have o1:∀b ob,s.heap.get? b=some ob->h1.get? b=some ob:=λb ob e=>k1 b ob (aaE _ e)
 refine hi { s with heap:=h1,toks:=t1 } _ _ o1 ⟨_,k1 _ _ (ab2 _ rfl)⟩ (λI eV iM n P T h3 W st hn hd k3 hw hP=>?_);have GH:h3.DictOf knd s.heap.objs.size []:=by
  obtain⟨o,es,ep,ho,r⟩:=Fd;exact⟨o,es,ep,k3 _ o (k1 _ o ho),r⟩
 refine acr ⟨afx A0 _,Y0 W hd s.heap ps hn hP .none n 0 _ [] 0 rfl (ad0 _) st GH (by rw[List.length_nil];lia) (λb o _ e=>k3 b o (o1 b o e)) λh4 t4 Uj k4=>?_⟩;refine⟨rfl,h h4 t4 (by simpa using Uj) λb o e=>k4 b o (λm=>?_) e⟩;rcases aa3.mp m with z|z
 .exact absurd (abo e) (by rw[z];exact aeq _)
 .rw[hw b z] at e;cases e
end
section
variable{X:Cx}
theorem Ks{κ:Type}[DecidableEq κ]:∀{ps:List (κ×V)}{qs:List (κ×Value)}{m:List (κ×V)}{r:List (κ×Value)},KV ps qs->KV m r->KV (ps.foldl (λm p=>putK m p.1 p.2) m) (qs.foldl (λm p=>stored m p.1 p.2) r)
 |_,_,_,_,.nil,h=>h
 |_,_,_,_,.cons (a:=p) e t,h=>by
  rw[aeh,aeh];refine Ks t ?_;rw[<- e.1];exact h.put p.1 e.2
def E5(K:PySem.W.Frag):List V->Hp->VK->Prop:=λxs H Q=>∃(p:Addr) (ys:List V) (ps:List (Key×V)),xs=[.ref p]/\(bY K H p ys\/cg K H p ys)/\Paired (λy (q:Key×V)=>∃a,y=.ref a/\cg K H a [kV q.1,q.2]) ys ps/\
 ∀l,H l=none->Q (.ref l) (upd H l (.dK (ps.foldl (λm q=>putK m q.1 q.2) [])))
theorem D4(I:Inv X af σ H s):∀{ys:List V}{ps:List (Key×V)}{au:List Value},Paired (λy (q:Key×V)=>∃a,y=.ref a/\cg X.K H a [kV q.1,q.2]) ys ps->aQ ys au->
  ∃qs:List (Key×Value),KV ps qs/\∀(i:Nat) (v:Value),au[i]? = some v->∃q,qs[i]? = some q/\∃a key,v=.ref a/\IsTup s.heap a #[key,q.2]/\(fR X.prog X.w).is q.1 key=true
 |_,_,_,.nil,.nil=>⟨[],.nil,λi v e=>by simp at e⟩
 |_,_,_,.cons (b:=q) ⟨a,ey,hr⟩ t,.cons (b:=u) r rs=>by
  obtain⟨qs,h1,h2⟩:=D4 I t rs;subst ey;cases r;obtain⟨us,ru,pt,_⟩:=I.tuple hr;obtain⟨key,x,rfl,rk,rx⟩:=vals2 ru;refine⟨(q.1,x)::qs,.cons ⟨rfl,rx⟩ h1,λi v e=>?_⟩;cases i with
  |zero=>
   have e':=abS e;subst e';exact⟨_,rfl,a,key,rfl,pt,qX rk⟩
  |succ i=>
   obtain⟨q',e1,e2⟩:=h2 i v (by simpa using e);exact⟨q',by simpa using e1,e2⟩
theorem VE(hc:X.calm=true):gu X (.type "dict") (E5 X.K):=by
 intro af s σ H xs us Q I r h;obtain⟨p,ys,ps,rfl,El,qY,q⟩:=h;obtain⟨u,rfl,ru⟩:=vals1 r;cases ru;have hh:=I.ok.hd hc;have big:=I.big;have fin:∀(au:List Value) (qs:List (Key×Value)),KV ps qs->ys.length<=sizeLine->∀h' tk,h'.DictOf (fR X.prog X.w) s.heap.objs.size (qs.foldl (λm p=>stored m p.1 p.2) [])->(∀b o,s.heap.get? b=some o->h'.get? b=some o)->
   EP X af σ Q (.ref s.heap.objs.size) { s with heap:=h',toks:=tk }:=by
  intro au qs oq hz h' tk dm kp;have rel:=Ks oq .nil;have rQ:∀(l:List (Key×V)) (m:List (Key×V)),(l.foldl (λm q=>putK m q.1 q.2) m).length<=m.length+l.length:=by
   intro l
   induction l with
   |nil=>intro m;exact abH _
   |cons a l ih=>
    intro m;rw[aeh];have h1:=ih (putK m a.1 a.2);have h2:=IB m a.1 a.2;rw[abP]
    lia
  have hl:=(Paired.length qY).symm;refine⟨.ref s.heap.objs.size,_,I.laid kp (abH _) (IG ?_ (adg.mpr (aeV (acu big))) rel dm),rfl,q _ (I.aI.fresh (abH _))⟩;have:=rQ ps [];rw[List.length_nil] at this
  lia
 have Br:∀{qs:List (Key×Value)},KV ps qs->qs.length=ys.length:=λh=>by rw[<- h.length];exact(Paired.length qY).symm
 have p_:∀{s2:Shared},(∃o,s2.heap.get? s.heap.objs.size=some o)->s.heap.objs.size<s2.heap.objs.size:=λ⟨_,e⟩=>abo e
 rcases El with hq|hq
 .obtain⟨au,rv,pl,hz⟩:=I.list hq;obtain⟨qs,oq,oj⟩:=D4 I qY rv;obtain⟨o,n,ho,k9,yw,nV⟩:=pl;have hp:=abo ho;refine Pj qs (by rw[Br oq];exact hz) "list" (by decide) (λob=>⟨o,aaE _ ho,k9⟩) (λob Q' E' k=>?_) (λs2 Q' E' o2 hS k=>?_) (λh' tk dm kp=>fin au qs oq hz h' tk dm kp)
  .obtain⟨c0,d0,XX,ZL⟩:=o;dsimp only at k9 yw nV;subst k9 yw nV;exact VI (aaE _ ho) hh λh1 t1 kp=>k h1 t1 kp
  .have rX:s2.heap.IsList p au.toArray:=⟨o,o2 p o ho,k9,n,nV⟩
   refine wpAny_pyIter_list rX (k s2.heap.objs.size [s2.heap.objs.size,p] [s2.heap.objs.size] _ _ _ _ (Walks.list (A:=X.A.in1.in1) hh s2.heap.objs.size p (acu (Nat.lt_trans hp (p_ hS))) au.toArray) ⟨⟨_,ab2 _ rfl,rfl,rfl⟩,rX.push _⟩ (by rw[Br oq,abW,<- rv.length]) ?_ (λb ob e=>aaE _ e) ?_ λi v e=>?_)
   .intro m;rcases aa3.mp m with z|z
    .exact absurd z (acu (p_ hS))
    .exact absurd (aa1.mp z) (afg hp)
   .intro b m;rw[aa1.mp m];exact afK (aeW (p_ hS))
   .obtain⟨q',e1,a,key,e2,e3,e4⟩:=oj i v (by simpa using e);refine⟨q',e1,a,key,e2,λm=>?_,e3,e4⟩;obtain⟨oa,ha,_⟩:=e3;rcases aa3.mp m with z|z
    .exact absurd (abo ha) (by rw[z];exact aeq _)
    .exact absurd (abo ha) (by rw[aa1.mp z];exact Nat.not_lt.mpr (aeW (p_ hS)))
 .obtain⟨au,rv,⟨o,ho,k9,yw,n,nV⟩,hz⟩:=I.Nf hq;obtain⟨qs,oq,oj⟩:=D4 I qY rv;have hp:=abo ho;refine Pj qs (by rw[Br oq];exact hz) "tuple" (by decide) (λob=>⟨o,aaE _ ho,k9⟩) (λob Q' E' k=>?_) (λs2 Q' E' o2 hS k=>?_) (λh' tk dm kp=>fin au qs oq hz h' tk dm kp)
  .obtain⟨c0,d0,XX,ZL⟩:=o;dsimp only at k9 yw nV;subst k9 yw nV;exact ab5 (aaE _ ho) hh λh1 t1 kp=>k h1 t1 kp
  .have rX:s2.heap.IsTuple p au.toArray:=⟨o,o2 p o ho,k9,n,nV⟩
   refine wpAny_pyIter_tuple rX (k s2.heap.objs.size [s2.heap.objs.size,p] [s2.heap.objs.size] _ _ _ _ (Walks.tuple (A:=X.A.in1.in1) hh s2.heap.objs.size p (acu (Nat.lt_trans hp (p_ hS))) au.toArray) ⟨⟨_,ab2 _ rfl,rfl,rfl⟩,rX.push _⟩ (by rw[Br oq,abW,<- rv.length]) ?_ (λb ob e=>aaE _ e) ?_ λi v e=>?_)
   .intro m;rcases aa3.mp m with z|z
    .exact absurd z (acu (p_ hS))
    .exact absurd (aa1.mp z) (afg hp)
   .intro b m;rw[aa1.mp m];exact afK (aeW (p_ hS))
   .obtain⟨q',e1,a,key,e2,e3,e4⟩:=oj i v (by simpa using e);refine⟨q',e1,a,key,e2,λm=>?_,e3,e4⟩;obtain⟨oa,ha,_⟩:=e3;rcases aa3.mp m with z|z
    .exact absurd (abo ha) (by rw[z];exact aeq _)
    .exact absurd (abo ha) (by rw[aa1.mp z];exact Nat.not_lt.mpr (aeW (p_ hS)))
end
end L2
namespace L2.Ev
open PySem PySem.Spec PyProof.Rows
structure VA(X:Cx)(i:Nat)(x:Str):Prop where
 N:X.N[i]? = some x
 v:AD X.env.scope x
 d:(x==("__debug__":Str))=false
 c:(x==("__classdict__":Str))=false
theorem VA.pe{X:Cx}{i:Nat}{x:Str}{p:Pos}(h:VA X i x):PE X (.Name x p) (n5 i):=Jb h.N h.v h.d h.c
def ya(X:Cx)(o:Expr)(m:Str)(apos:Pos)(as:List Expr)(pos:Pos)(pl:Sem Bool):Prop:=eval (.Call (.Attribute o m apos) as [] pos) X.env=(do
   let ov <- eval o X.env
   standAt apos.atName
   let(f,first) <- holding [ov] (getMethod ov m pl)
   callWith pos f first (backTo pos (starEach as X.env)) (backToKw pos (keywordEach [] X.env)))
def SE(X:Cx)(e:Expr)(es:List Expr)(pos:Pos):Prop:=starEach (e::es) X.env=(false,eval e X.env)::starEach es X.env/\(backTo pos (starEach es X.env)).any (·.1)=false
def GD(X:Cx)(x:Str):Prop:=Gl X x/\(x==("__debug__":Str))=false
noncomputable abbrev XN:=Str×Option Nat
inductive D where
 |aD|bl (b:Bool)|int (i:Int)|str (x:Str)|tup (ds:List D)|lst (ds:List D)|gO (ds:List D)|bK (aj:List (Key×D))|cM (aj:List (List Key×D))|ins (cn:Str) (fs:List (Str×D))|exc (cn:XN)
def qf(K:PySem.W.Frag)(H:Hp)(a:Addr)(xs:List V):Prop:=(∃o,H a=some (.ck o (.lst xs)))\/
 ∃(o:Obj) (au:Array Value) (n:Nat),K.lookup a=some o/\o.cls=.type "list"/\o.dict=none/\o.data=.seq au n/\au.size<=sizeLine/\aQ xs au.toList
theorem qf.sq{K:PySem.W.Frag}{H:Hp}{a:Addr}{xs:List V}(h:qf K H a xs):bY K H a xs:=h.elim (λz=>.inl (.inr z)) .inr
mutual
inductive Rep(K:PySem.W.Frag)(H:Hp):D->V->List Addr->Prop
 |aD:Rep K H .aD .aD []
 |bl (b:Bool):Rep K H (.bl b) (.bl b) []
 |int (i:Int):Rep K H (.int i) (.int i) []
 |str (x:Str):Rep K H (.str x) (.str x) []
 |tup {a:Addr}{xs:List V}{ds:List D}{fp:List Addr}:cg K H a xs->aB K H ds xs fp->Rep K H (.tup ds) (.ref a) fp
 |lst {a:Addr}{xs:List V}{ds:List D}{fp:List Addr}:H a=some (.lst xs)->aB K H ds xs fp->Rep K H (.lst ds) (.ref a) (a::fp)
 |zw {a:Addr}{xs:List V}{ds:List D}{fp:List Addr}:qf K H a xs->aB K H ds xs fp->Rep K H (.gO ds) (.ref a) fp
 |bK {a:Addr}{aj:List (Key×V)}{es:List (Key×D)}{fp:List Addr}:H a=some (.dK aj)->es.map (·.1)=aj.map (·.1)->aB K H (es.map (·.2)) (aj.map (·.2)) fp->Rep K H (.bK es) (.ref a) (a::fp)
 |cM {a:Addr}{aj:List (List Key×V)}{es:List (List Key×D)}{fp:List Addr}:H a=some (.dT aj)->es.map (·.1)=aj.map (·.1)->aB K H (es.map (·.2)) (aj.map (·.2)) fp->Rep K H (.cM es) (.ref a) (a::fp)
 |ins {cn:Str}{a C dx:Addr}{fs:List (Str×V)}{es:List (Str×D)}{fp:List Addr}:PySem.W.nsIn K mainGlobals cn=some (some (.ref C))->H a=some (.ins C dx fs)->H dx=some (.own a)->es.map (·.1)=fs.map (·.1)->aB K H (es.map (·.2)) (fs.map (·.2)) fp->Rep K H (.ins cn es) (.ref a) (a::dx::fp)
 |exc {cn:XN}{a C:Addr}{de:Option Addr}{ob:Obj}:PySem.W.nsIn K mainGlobals cn.1=some (some (.ref C))->H a=some (DJ ob a (.ref C) de)->(∀n,cn.2=some n->∃dx,de=some dx/\H dx=some (K5 dx n))->Rep K H (.exc cn) (.ref a) []
inductive aB(K:PySem.W.Frag)(H:Hp):List D->List V->List Addr->Prop
 |nil:aB K H [] [] []
 |cons {d:D}{v:V}{ds:List D}{vs:List V}{f1 f2:List Addr}:Rep K H d v f1->aB K H ds vs f2->aB K H (d::ds) (v::vs) (f1++f2)
end
def aT(H H':Hp):Prop:=(∀a xs,H a=some (.tup xs)->H' a=some (.tup xs))/\(∀a o u,H a=some (.ck o u)->H' a=some (.ck o u))/\∀a φ,H a=some (.ext φ)->H' a=some (.ext φ)
theorem aT.sqt{K:PySem.W.Frag}(i:aT H H')(h:cg K H a xs):cg K H' a xs:=by
 rcases h with(h|⟨o,h⟩)|h
 .exact .inl (.inl (i.1 _ _ h))
 .exact .inl (.inr ⟨o,i.2.1 _ _ _ h⟩)
 .exact .inr h
theorem aT.ck{K:PySem.W.Frag}(i:aT H H')(h:qf K H a xs):qf K H' a xs:=by
 rcases h with⟨o,h⟩|h
 .exact .inl ⟨o,i.2.1 _ _ _ h⟩
 .exact .inr h
theorem aT.of{H H':Hp}(h:aH H H'):aT H H':=⟨λ_ _ e=>h _ _ e,λ_ _ _ e=>h _ _ e,λ_ _ e=>h _ _ e⟩
theorem aT.trans{H H1 H2:Hp}(a:aT H H1)(b:aT H1 H2):aT H H2:=⟨λ_ _ e=>b.1 _ _ (a.1 _ _ e),λ_ _ _ e=>b.2.1 _ _ _ (a.2.1 _ _ _ e),λ_ _ e=>b.2.2 _ _ (a.2.2 _ _ e)⟩
noncomputable def iS:HO->Bool
 |.lst _|.dK _|.dT _|.ins _ _ _|.own _=>true
 |_=>false
theorem aT.upd{o o':HO}(h:H p=some o)(m:iS o=true):aT H (upd H p o'):=by
 refine⟨λa xs e=>?_,λa q u e=>?_,λa q e=>?_⟩
 .rw[aL]
  .exact e
  .rintro rfl;rw[h] at e;cases e;cases m
 .rw[aL]
  .exact e
  .rintro rfl;rw[h] at e;cases e;cases m
 .rw[aL]
  .exact e
  .rintro rfl;rw[h] at e;cases e;cases m
section
variable{K:PySem.W.Frag}{H H':Hp}
theorem Rep.frame{d:D}{v:V}{fp:List Addr}(r:Rep K H d v fp)(k:∀a∈fp,H' a=H a)(i:aT H H'):Rep K H' d v fp:=
 Rep.rec (motive_2:=λd v fp _=>(∀a∈fp,H' a=H a)->aB K H' d v fp) (λ_=>.aD) (λb _=>.bl b) (λn _=>.int n) (λx _=>.str x) (λh _ r k=>.tup (i.sqt h) (r k))
  (λh _ r k=>.lst ((k _ (.head _)).trans h) (r λa m=>k a (.tail _ m))) (λh _ r k=>.zw (i.ck h) (r k)) (λh e _ r k=>.bK ((k _ (.head _)).trans h) e (r λa m=>k a (.tail _ m))) (λh e _ r k=>.cM ((k _ (.head _)).trans h) e (r λa m=>k a (.tail _ m)))
  (λg h h2 e _ r k=>.ins g ((k _ (.head _)).trans h) ((k _ (.tail _ (.head _))).trans h2) e (r λa m=>k a (.tail _ (.tail _ m)))) (λg h p _=>.exc g (i.2.1 _ _ _ h) λn e=>(p n e).imp λ_ q=>⟨q.1,i.2.2 _ _ q.2⟩)
  (λ_=>.nil) (λ_ _ h t k=>.cons (h λa m=>k a (abn _ m)) (t λa m=>k a (aaM _ m))) r k
theorem aB.frame:∀{ds:List D}{vs:List V}{fp:List Addr},aB K H ds vs fp->(∀a∈fp,H' a=H a)->aT H H'->aB K H' ds vs fp
 |_,_,_,.nil,_,_=>.nil
 |_,_,_,.cons h t,k,i=>.cons (h.frame (λa m=>k a (abn _ m)) i) (aB.frame t (λa m=>k a (aaM _ m)) i)
theorem Rep.cG{d:D}{v:V}{fp:List Addr}(r:Rep K H d v fp):∀a∈fp,∃o,H a=some o/\iS o=true:=by
 have c:∀{b:Addr}{o:HO}{f:List Addr},H b=some o->iS o=true->(∀a∈f,∃o,H a=some o/\iS o=true)->∀a∈b::f,∃o,H a=some o/\iS o=true:=λh m r a=>λ| .head _=>⟨_,h,m⟩|.tail _ z=>r a z
 have n:∀a∈([]:List Addr),∃o,H a=some o/\iS o=true:=λ_ m=>nomatch m
 exact Rep.rec n (λ_=>n) (λ_=>n) (λ_=>n) (λ_ _ r=>r) (λh _ r=>c h rfl r) (λ_ _ r=>r) (λh _ _ r=>c h rfl r) (λh _ _ r=>c h rfl r)
  (λ_ h h2 _ _ r=>c h rfl (c h2 rfl r)) (λ_ _ _=>n) n (λ_ _ h t a m=>(abD.mp m).elim (h a) (t a)) r
theorem aB.cG:∀{ds:List D}{vs:List V}{fp:List Addr},aB K H ds vs fp->∀a∈fp,∃o,H a=some o/\iS o=true
 |_,_,_,.nil,_,m=>nomatch m
 |_,_,_,.cons h t,a,m=>(abD.mp m).elim (h.cG a) (aB.cG t a)
theorem Rep.same{d:D}{v:V}{fp:List Addr}(h:Rep K H d v fp)(s:aH H H'):Rep K H' d v fp:=
 h.frame (λa m=>let⟨o,e,_⟩:=h.cG a m;(s a o e).trans e.symm) (.of s)
theorem aB.same{ds:List D}{vs:List V}{fp:List Addr}(h:aB K H ds vs fp)(s:aH H H'):aB K H' ds vs fp:=
 h.frame (λa m=>let⟨o,e,_⟩:=h.cG a m;(s a o e).trans e.symm) (.of s)
theorem aB.length:∀{ds:List D}{vs:List V}{fp:List Addr},aB K H ds vs fp->ds.length=vs.length
 |_,_,_,.nil=>rfl
 |_,_,_,.cons _ t=>by rw[abP,abP,aB.length t]
theorem aB.get:∀{ds:List D}{vs:List V}{fp:List Addr}{i:Nat}{d:D},aB K H ds vs fp->ds[i]? = some d->∃v f,vs[i]? = some v/\Rep K H d v f/\∀a∈f,a∈fp
 |_,_,_,_,_,.nil,e=>by simp at e
 |_,_,_,0,_,.cons h t,e=>by
  have e':=abS e;subst e';exact⟨_,_,rfl,h,λa m=>abn _ m⟩
 |_,_,_,i+1,d,.cons h t,e=>by
  obtain⟨v,f,e1,r,s⟩:=aB.get t (by simpa using e);exact⟨v,f,by simpa using e1,r,λa m=>aaM _ (s a m)⟩
theorem aB.append:∀{ds es:List D}{vs ws:List V}{f g:List Addr},aB K H ds vs f->aB K H es ws g->aB K H (ds++es) (vs++ws) (f++g)
 |_,_,_,_,_,_,.nil,s=>s
 |_,_,_,_,_,g,.cons h t,s=>by
  rw[aej];exact .cons h (aB.append t s)
end
theorem Rep.i_{K:PySem.W.Frag}(r:Rep K H (.int i) v fp):v=.int i/\fp=[]:=by cases r;exact⟨rfl,rfl⟩
theorem Rep.Bx{K:PySem.W.Frag}(r:Rep K H (.bl i) v fp):v=.bl i/\fp=[]:=by cases r;exact⟨rfl,rfl⟩
theorem Rep.uR{K:PySem.W.Frag}(r:Rep K H (.str i) v fp):v=.str i/\fp=[]:=by cases r;exact⟨rfl,rfl⟩
theorem Rep.Ab{K:PySem.W.Frag}(r:Rep K H .aD v fp):v=.aD/\fp=[]:=by cases r;exact⟨rfl,rfl⟩
mutual
noncomputable def aC:D->Bool
 |.lst _|.bK _|.cM _|.ins _ _=>false
 |.tup ds=>aN ds
 |.gO ds=>aN ds
 |_=>true
noncomputable def aN:List D->Bool
 |[]=>true
 |d::ds=>aC d&&aN ds
end
section
variable{K:PySem.W.Frag}{H H':Hp}
theorem Rep.aC{d:D}{v:V}{fp:List Addr}(r:Rep K H d v fp)(e:aC d=true):fp=[]:=
 Rep.rec (motive_2:=λds _ fp _=>aN ds=true->fp=[]) (λ_=>rfl) (λ_ _=>rfl) (λ_ _=>rfl) (λ_ _=>rfl) (λ_ _ r e=>r (by rw[L2.Ev.aC] at e;exact e)) (λ_ _ _ e=>by delta L2.Ev.aC at e;cases e) (λ_ _ r e=>r (by rw[L2.Ev.aC] at e;exact e))
  (λ_ _ _ _ e=>by delta L2.Ev.aC at e;cases e) (λ_ _ _ _ e=>by delta L2.Ev.aC at e;cases e) (λ_ _ _ _ _ _ e=>by delta L2.Ev.aC at e;cases e) (λ_ _ _ _=>rfl) (λ_=>rfl) (λ_ _ h t e=>by
   rw[aN,aaY] at e;rw[h e.1,t e.2];rfl) r e
theorem aB.aC:∀{ds:List D}{vs:List V}{fp:List Addr},aB K H ds vs fp->aN ds=true->fp=[]
 |_,_,_,.nil,_=>rfl
 |_,_,_,.cons h t,e=>by
  rw[aN,aaY] at e;rw[h.aC e.1,aB.aC t e.2];rfl
end
inductive Tag where
 |own|lk|sh (o:List Nat)
noncomputable abbrev Slot:=Option (D×Tag)
abbrev aA:=List Slot
def uz(z:Addr->Option Nat)(i:Nat):Tag->List Addr->Prop
 |.sh o,fp=>∀a∈fp,∀j,z a=some j->j∈o
 |_,fp=>fp.Nodup/\∀a∈fp,z a=some i
def ua(ρ:aA)(j:Nat):Prop:=∀d,ρ[j]?≠some (some (d,.own))
structure b7 where
 d:D
 v:V
 fp:List Addr
 z0:Addr->Option Nat
structure Ok(K:PySem.W.Frag)(H0:Hp)(S:List Addr)(z:Addr->Option Nat)(aq:List b7)(ρ:aA)(σ:St)(H:Hp):Prop where
 sl:∀i d t,ρ[i]? = some (some (d,t))->∃v fp,σ[i]? = some (some v)/\Rep K H d v fp/\uz z i t fp
 hl:∀p∈aq,Rep K H p.d p.v p.fp/\∀a∈p.fp,∀j,z a=some j->p.z0 a=some j/\ua ρ j
 zd:∀a j,z a=some j->(∃o,H a=some o)/\(H0 a=none\/a∈S)
 en:∀a o,H0 a=some o->a∉S->H a=some o
 ln:ρ.length=σ.length
theorem Ok.same{K:PySem.W.Frag}{H0:Hp}{S:List Addr}{z:Addr->Option Nat}(h:Ok K H0 S z aq ρ σ H)(s:aH H H'):Ok K H0 S z aq ρ σ H':=
 ⟨λi d t e=>let⟨v,fp,a,b,c⟩:=h.sl i d t e;⟨v,fp,a,b.same s,c⟩,λp m=>let⟨a,b⟩:=h.hl p m;⟨a.same s,b⟩,
  λa j e=>let⟨⟨o,x⟩,y⟩:=h.zd a j e;⟨⟨o,s _ _ x⟩,y⟩,λa o e n=>s _ _ (h.en a o e n),h.ln⟩
def cN(z:Addr->Option Nat)(H:Hp):Tag->List Addr->Prop
 |.sh o,fp=>∀a∈fp,∀j,z a=some j->j∈o
 |_,fp=>fp.Nodup/\∀a∈fp,H a=none
theorem cN.nil{z:Addr->Option Nat}{H:Hp}{t:Tag}:cN z H t []:=by
 cases t with
 |sh o=>intro a m;cases m
 |own=>exact⟨ace,λa m=>nomatch m⟩
 |lk=>exact⟨ace,λa m=>nomatch m⟩
abbrev EF:=aA->Option (D×Tag)
def FP(X:Cx)(e:Expr)(f:EF):Prop:=∃t,PE X e t/\∀{H0:Hp}{S:List Addr}{z:Addr->Option Nat}{aq:List b7}{ρ:aA}{σ:St}{H:Hp}{Q:VK}{d:D}{tg:Tag},
 Ok X.K H0 S z aq ρ σ H->f ρ=some (d,tg)->(∀H' v fp,aH H H'->Rep X.K H' d v fp->cN z H tg fp->Q v H')->t σ H Q
abbrev AF:=aA->Option (List (D×Tag))
abbrev TF:=aA->Option Bool
def FT(X:Cx)(e:Expr)(f:TF):Prop:=∃t,PT X e t/\∀{H0:Hp}{S:List Addr}{z:Addr->Option Nat}{aq:List b7}{ρ:aA}{σ:St}{H:Hp}{Q:Bool->Hp->Prop}{b:Bool},
 Ok X.K H0 S z aq ρ σ H->f ρ=some b->(∀H',aH H H'->Q b H')->t σ H Q
noncomputable def F3(i:Nat):Tag->Tag
 |.sh o=>.sh o
 |_=>.sh [i]
def ak(i:Nat):EF:=λρ=>match ρ[i]? with
 |some (some (d,t))=>some (d,F3 i t)
 |_=>none
section
variable{X:Cx}
theorem ah(i:Nat){x:Str}{pos:Pos}(va:VA X i x:=by walk_at "va"):FP X (.Name x pos) (ak i):=by
 exists 20,va.pe;unfold ak at e;exists h,ρ[i]?,s,e,0;cases s with
 |none=>rw[h] at e;cases e
 |some p=>
  obtain⟨d',t⟩:=p;rw[h] at e;have e':=abS e;have e1:=congrArg Prod.fst e';have e2:=congrArg Prod.snd e';subst e1 e2;obtain⟨v,fp,hs,r,zz⟩:=ok.sl i d' t h;refine⟨v,hs,q H v fp (aH.refl H) r ?_⟩;cases t with
  |sh o=>exact zz
  |own=>intro a m j ej;rw[zz.2 a m] at ej;cases ej;exact aar
  |lk=>intro a m j ej;rw[zz.2 a m] at ej;cases ej;exact aar
noncomputable def eC(d:D):EF:=λ_=>some (d,.own)
theorem az{i j pos}:FP X (.Constant (.int i) j pos) (eC (.int i)):=⟨_,HL,@λ_ _ _ _ _ _ H _ _ _ _ e q=>by cases e;exact q H _ _ (aH.refl H) (.int i) .nil⟩
theorem iQ{b j pos}:FP X (.Constant (.bool b) j pos) (eC (.bl b)):=⟨_,aah,@λ_ _ _ _ _ _ H _ _ _ _ e q=>by cases e;exact q H _ _ (aH.refl H) (.bl b) .nil⟩
theorem oR{j pos}:FP X (.Constant .none j pos) (eC .aD):=⟨_,aei,@λ_ _ _ _ _ _ H _ _ _ _ e q=>by cases e;exact q H _ _ (aH.refl H) .aD .nil⟩
theorem cQ{x j pos}:FP X (.Constant (.str x) j pos) (eC (.str x)):=⟨_,MR,@λ_ _ _ _ _ _ H _ _ _ _ e q=>by cases e;exact q H _ _ (aH.refl H) (.str x) .nil⟩
noncomputable def e2(op:D->D->Option D)(fa fb:EF):EF:=λρ=>match fa ρ,fb ρ with
 |some (d1,_),some (d2,_)=>(op d1 d2).map λd=>(d,.own)
 |_,_=>none
theorem qE{op:D->D->Option D}{fa fb:EF}{ρ:aA}{d:D}{tg:Tag}(e:e2 op fa fb ρ=some (d,tg)):∃d1 t1 d2 t2,fa ρ=some (d1,t1)/\fb ρ=some (d2,t2)/\op d1 d2=some d/\tg=.own:=by
 unfold e2 at e;exists h1,fa ρ,p,e,0;obtain⟨d1,t1⟩:=p;cases h2:fb ρ with
 |none=>rw[h1,h2] at e;cases e
 |some p=>
  obtain⟨d2,t2⟩:=p;rw[h1,h2] at e;dsimp only at e;exists h3,op d1 d2,d3,e;cases e;exact⟨d1,t1,d2,t2,rfl,rfl,h3,rfl⟩
def gC(K:PySem.W.Frag)(r:R2)(op:D->D->Option D):Prop:=∀(H:Hp) (x y:V) (d1 d2:D) (f1 f2:List Addr) (d:D) (Q:VK),Rep K H d1 x f1->Rep K H d2 y f2->op d1 d2=some d->
 (∀H' v,aH H H'->Rep K H' d v []->Q v H')->r x y H Q
theorem fp_2{a b e:Expr}{r:R2}{op:D->D->Option D}(dd:gC X.K r op)(ha:FP X a fa)(hb:FP X b fb)(he:∀ta tb,PE X a ta->PE X b tb->PE X e (pY r ta tb)):FP X e (e2 op fa fb):=by
 obtain⟨ta,pa,sa⟩:=ha;obtain⟨tb,pb,sb⟩:=hb;exists 20,he ta tb pa pb;obtain⟨d1,t1,d2,t2,e1,jn,e3,rfl⟩:=qE e;refine sa ok e1 λH1 x f1 s1 r1 _=>?_
 refine sb (ok.same s1) jn λH2 y f2 s2 r2 _=>?_
 exact dd H2 x y d1 d2 f1 f2 d Q (r1.same s2) r2 e3 λH3 v s3 r3=>q H3 v [] ((s1.trans s2).trans s3) r3 .nil
end
end L2.Ev
namespace L2.Ev
open PySem PySem.Spec PyProof.Rows
noncomputable def MS:Tag->Tag->Tag
 |.sh o,.sh p=>.sh (o++p)
 |.sh o,_=>.sh o
 |_,t=>t
def jT:List (D×Tag)->Tag
 |[]=>.own
 |p::r=>MS p.2 (jT r)
def FA(X:Cx)(es:List Expr)(f:AF):Prop:=∃t,PA X es t/\(∀ρ ps,f ρ=some ps->ps.length=es.length)/\∀{H0:Hp}{S:List Addr}{z:Addr->Option Nat}{aq:List b7}{ρ:aA}{σ:St}{H:Hp}{Q:List V->Hp->Prop}{ps:List (D×Tag)},
 Ok X.K H0 S z aq ρ σ H->f ρ=some ps->(∀H' vs fp,aH H H'->aB X.K H' (ps.map (·.1)) vs fp->cN z H (jT ps) fp->Q vs H')->t σ H Q
noncomputable def aJ:AF:=λ_=>some []
noncomputable def ay(f:EF)(g:AF):AF:=λρ=>match f ρ,g ρ with
 |some p,some ps=>some (p::ps)
 |_,_=>none
theorem ID{ps:List (D×Tag)}(e:ay f g ρ=some ps):∃d t r,f ρ=some (d,t)/\g ρ=some r/\ps=(d,t)::r:=by
 unfold ay at e;exists h1,f ρ,p,e,0;cases h2:g ρ with
 |none=>rw[h1,h2] at e;cases e
 |some r=>
  rw[h1,h2] at e;cases e;exact⟨p.1,p.2,r,rfl,rfl,rfl⟩
theorem cN.join{K:PySem.W.Frag}(ok:Ok K H0 S z aq ρ σ H)(s:aH H H1)
  (h1:cN z H t1 f1) (d1:∀a∈f1,∃o,H1 a=some o/\iS o=true) (h2:cN z H1 t2 f2):cN z H (MS t1 t2) (f1++f2):=by
 have nz:∀{a:Addr}{j:Nat},H a=none->z a=some j->False:=λ{a j} e q=>by
  obtain⟨⟨o,w⟩,_⟩:=ok.zd a j q;rw[e] at w;cases w
 have both:∀{t1 t2:Tag},(f1.Nodup/\∀a∈f1,H a=none)->(f2.Nodup/\∀a∈f2,H1 a=none)->(f1++f2).Nodup/\∀a∈f1++f2,H a=none:=λp q=>by
  refine⟨acB.mpr ⟨p.1,q.1,λa m b m' e=>?_⟩,λa m=>?_⟩
  .subst e;obtain⟨o,w,_⟩:=d1 a m;rw[q.2 a m'] at w;cases w
  .rcases abD.mp m with m|m
   .exact p.2 a m
   .exact s.free (q.2 a m)
 cases t1 with
 |sh o=>
  have ic:=h1;cases t2 with
  |sh p=>
   intro a m j q;rcases abD.mp m with m|m
   .exact abn _ (ic a m j q)
   .exact aaM _ (h2 a m j q)
  |own=>
   intro a m j q;rcases abD.mp m with m|m
   .exact ic a m j q
   .exact(nz (s.free (h2.2 a m)) q).elim
  |lk=>
   intro a m j q;rcases abD.mp m with m|m
   .exact ic a m j q
   .exact(nz (s.free (h2.2 a m)) q).elim
 |own=>
  cases t2 with
  |sh p=>
   intro a m j q;rcases abD.mp m with m|m
   .exact(nz (h1.2 a m) q).elim
   .exact h2 a m j q
  |own=>exact both (t1:=.own) (t2:=.own) h1 h2
  |lk=>exact both (t1:=.own) (t2:=.own) h1 h2
 |lk=>
  cases t2 with
  |sh p=>
   intro a m j q;rcases abD.mp m with m|m
   .exact(nz (h1.2 a m) q).elim
   .exact h2 a m j q
  |own=>exact both (t1:=.own) (t2:=.own) h1 h2
  |lk=>exact both (t1:=.own) (t2:=.own) h1 h2
section
variable{X:Cx}{pos:Pos}
theorem aG:FA X [] aJ:=⟨_,fH,λ_ _ e=>by cases e;rfl,@λ_ _ _ _ _ _ H _ _ _ e q=>by cases e;exact q H _ _ (aH.refl H) .nil .nil⟩
theorem ao{e:Expr}{es:List Expr}{f:EF}{g:AF}(ha:FP X e f)(hr:FA X es g)(hs:starEach (e::es) X.env=(false,eval e X.env)::starEach es X.env:=by rfl):FA X (e::es) (ay f g):=by
 obtain⟨t,p,q⟩:=ha;obtain⟨t',p',l',q'⟩:=hr;refine⟨_,dW p p' hs,λρ ps e=>by obtain⟨d,tg,r,e1,e2,rfl⟩:=ID e;rw[abP,abP,l' ρ r e2],@λH0 S z aq ρ σ H Q ps ok e k=>?_⟩;obtain⟨d,tg,r,e1,e2,rfl⟩:=ID e;refine q ok e1 λH1 v f1 s1 r1 g1=>?_
 refine q' (ok.same s1) e2 λH2 vs f2 s2 r2 g2=>?_
 exact k H2 (v::vs) (f1++f2) (s1.trans s2) (.cons (r1.same s2) r2) (cN.join ok s1 g1 r1.cG g2)
def kR(g:AF):EF:=λρ=>(g ρ).map λps=>(.tup (ps.map (·.1)),jT ps)
theorem jA{es:List Expr}{g:AF}{x1}(h:FA X es g)(hl:es.length<=1000:=by decide):FP X (.Tuple es x1 pos) (kR g):=by
 obtain⟨t,p,hg,q⟩:=h;exists 21,KS p;unfold kR at e;exists h1,g ρ,ps,e;cases e;refine q ok h1 λH1 vs fp s1 r1 g1=>⟨?_,λa ha=>?_⟩
 .rw[<- r1.length,List.length_map,hg ρ ps h1];exact aeW (BH hl)
 .have s2:aH H1 (upd H1 a (.tup vs)):=λb o e=>by rw[aL (cT e ha)];exact e
  exact k _ _ fp (s1.trans s2) (.tup (cg.of bQ) (r1.same s2)) g1
def jq(g:AF):EF:=λρ=>(g ρ).map λps=>(.lst (ps.map (·.1)),jT ps)
theorem cN.cons{K:PySem.W.Frag}{H0:Hp}{S:List Addr}{z:Addr->Option Nat}{aq:List b7}{ρ:aA}{σ:St}{H H1:Hp}{t:Tag}{fp:List Addr}{a:Addr}(ok:Ok K H0 S z aq ρ σ H)(s:aH H H1)(h:cN z H t fp)
  (d:∀b∈fp,∃o,H1 b=some o/\iS o=true) (ha:H1 a=none):cN z H t (a::fp):=by
 have na:=s.free ha;have both:(fp.Nodup/\∀b∈fp,H b=none)->(a::fp).Nodup/\∀b∈a::fp,H b=none:=λp=>by
  refine⟨abv.mpr ⟨λm=>?_,p.1⟩,λb m=>?_⟩
  .obtain⟨o,w,_⟩:=d a m;rw[ha] at w;cases w
  .rcases aa3.mp m with e|m
   .rw[e];exact na
   .exact p.2 b m
 cases t with
 |sh o=>
  intro b m j q;rcases aa3.mp m with e|m
  .obtain⟨⟨o,w⟩,_⟩:=ok.zd b j q;rw[e,na] at w;cases w
  .exact h b m j q
 |own=>exact both h
 |lk=>exact both h
theorem ig{es:List Expr}{g:AF}(h:FA X es g)(hl:es.length<=1000:=by decide):FP X (.List es pos) (jq g):=by
 obtain⟨t,p,hg,q⟩:=h;exists 21,ab8 p;unfold jq at e;exists h1,g ρ,ps,e;cases e;refine q ok h1 λH1 vs fp s1 r1 g1=>⟨?_,λa ha=>?_⟩
 .rw[<- r1.length,List.length_map,hg ρ ps h1];exact aeW (BH hl)
 .have s2:aH H1 (upd H1 a (.lst vs)):=λb o e=>by rw[aL (cT e ha)];exact e
  exact k _ _ (a::fp) (s1.trans s2) (.lst bQ (r1.same s2)) (g1.cons ok s1 r1.cG ha)
end
def bf(K:PySem.W.Frag)(F:List D->Option D):Sp:=λvs H Q _=>∃ds fp d,aB K H ds vs fp/\F ds=some d/\∀H' v jZ,aH H H'->Rep K H' d v jZ->jZ.Nodup->(∀a∈jZ,H a=none)->Q v H'
noncomputable def cP(F:List D->Option D)(g:AF):EF:=λρ=>(g ρ).bind λps=>(F (ps.map (·.1))).map λd=>(d,.own)
theorem RI{F:List D->Option D}(e:cP F g ρ=some (d,tg)):∃ps,g ρ=some ps/\F (ps.map (·.1))=some d/\tg=.own:=by
 unfold cP at e;exists h1,g ρ,ps,e,0;rw[h1,acR] at e;exists h2,F (ps.map (·.1)),d',e;cases e;exact⟨ps,rfl,h2,rfl⟩
section
variable{X:Cx}{x:Str}{p pos:Pos}{e:Expr}{es:List Expr}{k:Nat}{f:Addr}{fd:FuncData}{ps:List Str}{F:List D->Option D}{g:AF}
theorem bu{cm:Bool}(G:cI X.prog X.w X.K X.mg X.base c_ k f fd ps (bf X.K F) cm)(hr:bh k X.A cm)(hm:X.mg x=some (.ref f))(hk:PySem.W.keepIn X.K (.ref f)=true)(hb:Binds X.K fd ps [])(ha:FA X (e::es) g)
  (hg:GD X x:=by exact⟨rfl,by decide⟩)
  (he:SE X e es pos:=by exact⟨rfl,rfl⟩):FP X (.Call (.Name x p) (e::es) [] pos) (cP F g):=by
 obtain⟨t,pa,_,sa⟩:=ha;refine⟨_,Mg G hr hg.1 hm hk hb .nil mU pa hg.2 he.1 he.2,@λH0 S z aq ρ σ H Q d tg ok e0 q=>?_⟩;obtain⟨qs,e1,e2,rfl⟩:=RI e0;refine sa ok e1 λH1 vs fp s1 r1 _=>?_
 rw[acm];exact⟨_,fp,d,r1,e2,λH2 v jZ s2 r2 nd fr=>q H2 v jZ (s1.trans s2) r2 ⟨nd,λa m=>s1.free (fr a m)⟩⟩
end
section
variable{X:Cx}{pos:Pos}
noncomputable def tV(f:EF):TF:=λρ=>match f ρ with
 |some (.bl b,_)=>some b
 |_=>none
theorem DO(e:tV f ρ=some b):∃t,f ρ=some (.bl b,t):=by
 unfold tV at e;exists h,f ρ,p,e,0;obtain⟨d,t⟩:=p;rw[h] at e;cases d<;>first|(cases e;exact⟨t,rfl⟩)|cases e
theorem gK{e:Expr}{f:EF}(h:FP X e f)(he:∀whole,isTrue e X.env whole=(do let v <- whole;standAt e.pos;holding [v] (truthy v)):=by intro _;rfl):FT X e (tV f):=by
 obtain⟨t,p,q⟩:=h;refine⟨_,P7 p he,@λH0 S z aq ρ σ H Q b ok e k=>?_⟩;obtain⟨tg,e1⟩:=DO e;refine q ok e1 λH1 v fp s1 r1 _=>?_
 cases r1;exact⟨b,rfl,k H1 s1⟩
theorem jX{op:CmpOp}{r:R2}{o:D->D->Option D}{a b:Expr}(ho:dF X (compareOp op) r)(dd:gC X.K r o)(ha:FP X a fa)(hb:FP X b fb)(hm:behindInMarks op b=false):FT X (.Compare a [op] [b] pos) (tV (e2 o fa fb)):=by
 obtain⟨ta,pa,sa⟩:=ha;obtain⟨tb,pb,sb⟩:=hb;exists 22,Po ho pa pb hm;obtain⟨tg,e0⟩:=DO e;obtain⟨d1,t1,d2,t2,e1,jn,e3,rfl⟩:=qE e0;refine sa ok e1 λH1 x f1 s1 r1 _=>?_
 refine sb (ok.same s1) jn λH2 y f2 s2 r2 _=>?_
 refine dd H2 x y d1 d2 f1 f2 _ _ (r1.same s2) r2 e3 λH3 v s3 r3=>?_
 cases r3;exact⟨c,rfl,k H3 ((s1.trans s2).trans s3)⟩
theorem qm{op:CmpOp}{r:R2}{o:D->D->Option D}(ho:dF X (compareOp op) r)(dd:gC X.K r o)(ha:FP X a fa)(hb:FP X b fb)(hm:behindInMarks op b=false):FP X (.Compare a [op] [b] pos) (e2 o fa fb):=
 fp_2 dd ha hb λ_ _ pa pb=>Y7 ho pa pb hm
theorem wA{op:Operator}{r:R2}{o:D->D->Option D}(ho:dF X (binaryOp op) r)(dd:gC X.K r o)(ha:FP X a fa)(hb:FP X b fb):FP X (.BinOp a op b pos) (e2 o fa fb):=
 fp_2 dd ha hb λ_ _ pa pb=>Dt ho pa pb
noncomputable def jC(f g:TF):TF:=λρ=>match f ρ with
 |some true=>g ρ
 |some false=>some false
 |none=>none
noncomputable def mQ(f g:TF):TF:=λρ=>match f ρ with
 |some true=>some true
 |some false=>g ρ
 |none=>none
noncomputable def mR(f:TF):TF:=λρ=>(f ρ).map λb=>!b
def FW(X:Cx)(e:Expr)(f:TF):Prop:=∃t,PW X e t/\∀{H0:Hp}{S:List Addr}{z:Addr->Option Nat}{aq:List b7}{ρ:aA}{σ:St}{H:Hp}{Q:Bool->Hp->Prop}{b:Bool},
 Ok X.K H0 S z aq ρ σ H->f ρ=some b->(∀H',aH H H'->Q b H')->t σ H Q
theorem FW.ft{e:Expr}{f:TF}(h:FW X e f):FT X e f:=let⟨t,p,q⟩:=h;⟨t,p.pt,q⟩
theorem sO{a:Expr}{f:TF}(h:FT X a f):FW X (.BoolOp .And [a] pos) f:=let⟨t,p,q⟩:=h;⟨t,Jo p,q⟩
theorem rG{a:Expr}{f:TF}(h:FT X a f):FW X (.BoolOp .Or [a] pos) f:=let⟨t,p,q⟩:=h;⟨t,acj p,q⟩
theorem qD{a b:Expr}{rest:List Expr}{f g:TF}(ha:FT X a f)(hb:FW X (.BoolOp .And (b::rest) pos) g):FW X (.BoolOp .And (a::b::rest) pos) (jC f g):=by
 obtain⟨t,p,q⟩:=ha;obtain⟨t',p',q'⟩:=hb;exists 22,NJ p p';unfold jC at e;exists h,f ρ,y,e;cases y with
 |false=>
  cases e;refine q ok h λH1 s1=>?_
  rw[if_neg aa6];exact k H1 s1
 |true=>
  refine q ok h λH1 s1=>?_
  rw[if_pos rfl];exact q' (ok.same s1) e λH2 s2=>k H2 (s1.trans s2)
theorem pX{a b:Expr}{rest:List Expr}{f g:TF}(ha:FT X a f)(hb:FW X (.BoolOp .Or (b::rest) pos) g):FW X (.BoolOp .Or (a::b::rest) pos) (mQ f g):=by
 obtain⟨t,p,q⟩:=ha;obtain⟨t',p',q'⟩:=hb;exists 22,Y9 p p';unfold mQ at e;exists h,f ρ,y,e;cases y with
 |true=>
  cases e;refine q ok h λH1 s1=>?_
  rw[if_pos rfl];exact k H1 s1
 |false=>
  refine q ok h λH1 s1=>?_
  rw[if_neg aa6];exact q' (ok.same s1) e λH2 s2=>k H2 (s1.trans s2)
theorem kQ{a:Expr}{f:TF}(ha:FT X a f):FT X (.UnaryOp .Not a pos) (mR f):=by
 obtain⟨t,p,q⟩:=ha;exists 22,SQ p;unfold mR at e;exists h,f ρ,y,e;cases e;exact q ok h λH1 s1=>k H1 s1
end
inductive Out where
 |nx (ρ:aA)|rt (d:D)|bk (ρ:aA)|ct (ρ:aA)
 |er (raw:Bool) (cn:XN) (ρ:aA)
abbrev SF:=aA->Option Out
noncomputable def kZ(X:Cx)(x:Str):Bool:=x==("self":Str)||(X.fn ("self":Str)&&!X.fn x)
def Kp(X:Cx)(σ aE:St):Prop:=∀(i:Nat) (x:Str),X.N[i]? = some x->kZ X x=true->aE[i]? = σ[i]?
theorem Kp.refl(X:Cx)(σ:St):Kp X σ σ:=λ_ _ _ _=>rfl
theorem Kp.trans{X:Cx}{σ mO g8:St}(a:Kp X σ mO)(b:Kp X mO g8):Kp X σ g8:=λi x h k=>(b i x h k).trans (a i x h k)
theorem Kp.set{v:Option V}(hi:X.N[i]? = some x)(hs:kZ X x=false):Kp X σ (σ.set i v):=λj y h k=>by
 refine acM λe=>?_
 subst e;rw[hi] at h;have h:=abS h;subst h;rw[hs] at k;cases k
def uw(X:Cx)(H0:Hp)(S:List Addr)(aq:List b7)(oU:St)(raw:Bool)(cn:XN)(ρ:aA):Prop:=∃ES:XS,(if raw=true then U_ X ES else yY X ES)/\
 ∀z σ H C,Ok X.K H0 S z aq ρ σ H->Kp X oU σ->PySem.W.nsIn X.K mainGlobals cn.1=some (some (.ref C))->ES (.ref C) cn.2 σ H
theorem uw.of{X:Cx}{H0:Hp}{S:List Addr}{aq:List b7}{σ aE:St}{raw:Bool}{cn:XN}{ρ:aA}(k:uw X H0 S aq σ raw cn ρ)(a:Kp X σ aE):uw X H0 S aq aE raw cn ρ:=
 let⟨ES,th,q⟩:=k;⟨ES,th,λz s H C ok b hC=>q z s H C ok (a.trans b) hC⟩
def nX(X:Cx)(H0:Hp)(S:List Addr)(aq:List b7)(oU:St)(E:Ends):Out->Prop
 |.nx ρ=>∀z σ H,Ok X.K H0 S z aq ρ σ H->Kp X oU σ->E.nx σ H
 |.bk ρ=>∀z σ H,Ok X.K H0 S z aq ρ σ H->Kp X oU σ->E.bk σ H
 |.ct ρ=>∀z σ H,Ok X.K H0 S z aq ρ σ H->Kp X oU σ->E.ct σ H
 |.er raw cn ρ=>uw X H0 S aq oU raw cn ρ
 |.rt d=>∀H v fp,(∀a o,H0 a=some o->a∉S->H a=some o)->Rep X.K H d v fp->fp.Nodup->(∀a∈fp,H0 a=none\/a∈S)->E.rt v H
def FS(X:Cx)(st:List Stmt)(f:SF):Prop:=∃t,ir X st t/\∀{H0:Hp}{S:List Addr}{z:Addr->Option Nat}{aq:List b7}{ρ:aA}{σ:St}{H:Hp}{E:Ends}{o:Out},
 Ok X.K H0 S z aq ρ σ H->f ρ=some o->nX X H0 S aq σ E o->t E σ H
def fM(X:Cx)(st:Stmt)(f:SF):Prop:=∃t,PS X st t/\∀{H0:Hp}{S:List Addr}{z:Addr->Option Nat}{aq:List b7}{ρ:aA}{σ:St}{H:Hp}{E:Ends}{o:Out},
 Ok X.K H0 S z aq ρ σ H->f ρ=some o->nX X H0 S aq σ E o->t E σ H
theorem nX.of{X:Cx}{H0:Hp}{S:List Addr}{aq:List b7}{σ aE:St}{E:Ends}{o:Out}(k:nX X H0 S aq σ E o)(a:Kp X σ aE):nX X H0 S aq aE E o:=by
 cases o with
 |nx ρ=>exact λz s H ok b=>k z s H ok (a.trans b)
 |bk ρ=>exact λz s H ok b=>k z s H ok (a.trans b)
 |ct ρ=>exact λz s H ok b=>k z s H ok (a.trans b)
 |rt d=>exact k
 |er raw cn ρ=>exact uw.of k a
noncomputable def g9:SF:=λρ=>some (.nx ρ)
noncomputable def cC(f g:SF):SF:=λρ=>match f ρ with
 |some (.nx ρ')=>g ρ'
 |o=>o
section
variable{X:Cx}{pos:Pos}
theorem dz:FS X [] g9:=⟨_,Qa,@λ_ _ z _ _ σ H _ _ ok e k=>by cases e;exact k z σ H ok (.refl _ _)⟩
theorem aK{st:Stmt}{f:SF}(h:fM X st f):FS X [st] f:=let⟨t,p,q⟩:=h;⟨t,MX p,q⟩
theorem aP{st:Stmt}{rest:List Stmt}{f g:SF}(h1:fM X st f)(h2:FS X rest g):FS X (st::rest) (cC f g):=by
 obtain⟨t,p,q⟩:=h1;obtain⟨t',p',q'⟩:=h2;exists 23,yD p p';unfold cC at e;exists h,f ρ,w,e,0;refine q ok h ?_;rw[h] at e;cases w with
 |nx ρ'=>exact λz' aE H' aX a=>q' aX e (k.of a)
 |rt d=>cases e;exact k
 |bk ρ'=>cases e;exact k
 |ct ρ'=>cases e;exact k
 |er _ _ _=>cases e;exact k
noncomputable def Q7:SF:=λ_=>none
theorem NV{st:Stmt}:fM X st Q7:=⟨_,Kz,@λ_ _ _ _ _ _ _ _ _ _ e _=>by cases e⟩
noncomputable def fP(c:TF)(f g:SF):SF:=λρ=>match c ρ with
 |some true=>f ρ
 |some false=>g ρ
 |none=>none
theorem c8{c:Expr}{a b:List Stmt}{tc:TF}{f g:SF}(hc:FT X c tc)(ha:FS X a f)(hb:FS X b g):fM X (.If c a b pos) (fP tc f g):=by
 obtain⟨t,p,q⟩:=hc;obtain⟨t1,p1,q1⟩:=ha;obtain⟨t2,p2,q2⟩:=hb;exists 23,NB p p1 p2;unfold fP at e;exists h,tc ρ,y,e;refine q ok h λH1 s1=>?_
 cases y with
 |true=>rw[if_pos rfl];exact q1 (ok.same s1) e k
 |false=>rw[if_neg aa6];exact q2 (ok.same s1) e k
noncomputable def jR:Tag->Bool
 |.sh _=>false
 |_=>true
def lU(f:EF):SF:=λρ=>match f ρ with
 |some (d,t)=>if jR t=true then some (.rt d) else if aC d=true then some (.rt d) else none
 |none=>none
theorem aZ{e:Expr}{f:EF}(he:FP X e f):fM X (.Return (some e) pos) (lU f):=by
 obtain⟨t,p,q⟩:=he;exists 23,wY p;unfold lU at e;exists h,f ρ,w,e,0;obtain⟨d,tg⟩:=w;rw[h] at e;dsimp only at e;refine q ok h λH1 v fp s1 r1 g1=>?_
 have en:∀a o,H0 a=some o->a∉S->H1 a=some o:=λa o e n=>s1 _ _ (ok.en a o e n)
 by_cases ho:jR tg=true
 .rw[if_pos ho] at e;cases e;have g:fp.Nodup/\∀a∈fp,H a=none:=by cases tg<;>first|exact g1|cases ho
  refine k H1 v fp en r1 g.1 λa m=>?_
  cases h0:H0 a with
  |none=>exact .inl rfl
  |some o=>
   by_cases hs:a∈S
   .exact .inr hs
   .have w:=ok.en a o h0 hs;rw[g.2 a m] at w;cases w
 .rw[if_neg ho] at e;obtain⟨hi,e⟩:=ci e;cases e;have hn:=r1.aC hi;subst hn;exact k H1 v [] en r1 ace λa m=>nomatch m
def pF(i:Nat):SF:=λρ=>match ρ[i]? with
 |some (some (d,t))=>if jR t=true then some (.rt d) else if aC d=true then some (.rt d) else none
 |_=>none
theorem sW(i:Nat){x:Str}{pos':Pos}(va:VA X i x:=by walk_at "va"):fM X (.Return (some (.Name x pos')) pos) (pF i):=by
 exists 23,wY va.pe;unfold pF at e;exists h,ρ[i]?,w,e,0;cases w with
 |none=>rw[h] at e;cases e
 |some w=>
  obtain⟨d,tg⟩:=w;rw[h] at e;dsimp only at e;obtain⟨v,fp,hs,r,zz⟩:=ok.sl i d tg h;refine⟨v,hs,?_⟩
  by_cases ho:jR tg=true
  .rw[if_pos ho] at e;cases e;have g:fp.Nodup/\∀a∈fp,z a=some i:=by cases tg<;>first|exact zz|cases ho
   exact k H v fp ok.en r g.1 λa m=>(ok.zd a i (g.2 a m)).2
  .rw[if_neg ho] at e;obtain⟨hi,e⟩:=ci e;cases e;have hn:=r.aC hi;subst hn;exact k H v [] ok.en r ace λa m=>nomatch m
noncomputable def iw(ρ:aA)(i:Nat)(d:D):Tag->aA
 |.sh o=>ρ.set i (some (d,.sh o))
 |_=>ρ.set i (some (d,.own))
def dQ(i:Nat)(f:EF):SF:=λρ=>match f ρ with
 |some (d,t)=>some (.nx (iw ρ i d t))
 |none=>none
theorem Ok.chg{K:PySem.W.Frag}{v:V}{fp bq fo:List Addr}(ok:Ok K H0 S z aq ρ σ H)(hi:ρ'[i]? = some (some (d,tg)))(hs:aE[i]? = some (some v))(h0:∀a∈bq,z a=some i)(im:aT H H')
  (keep:∀b o,b∉bq->H b=some o->H' b=some o) (r:Rep K H' d v fp) (hz:uz z' i tg fp) (zn:∀a,a∉fo->z a=some i/\z' a=none\/z' a=z a/\a∉bq/\(z a=some i->¬ua ρ i)) (Gp:∀a∈fo,(a∈bq\/H a=none)/\∃o,H' a=some o)
  (ot:∀{j d t},j≠i->ρ'[j]? = some (some (d,t))->ρ[j]? = some (some (d,t))/\(bq=[]\/∀o,t=.sh o->i∉o)) (os:∀j,j≠i->aE[j]? = σ[j]?) (hh:bq=[]\/¬ua ρ i) (ln:ρ'.length=aE.length):Ok K H0 S z' aq ρ' aE H':=by
 have old:∀{a:Addr}{o:HO},a∉bq->H a=some o->a∉fo:=λn e m=>(Gp _ m).1.elim n λq=>by rw[e] at q;cases q
 have at_:∀{a:Addr}{k:Nat},a∉fo->z' a=some k->z a=some k/\a∉bq/\(k=i->¬ua ρ i):=λ{a k} n e=>by
  rcases zn a n with⟨_,w⟩|⟨w,q,u⟩
  .rw[e] at w;cases w
  .rw[e] at w;exact⟨w.symm,q,λx=>u (x ▸ w.symm)⟩
 have S0:∀a∈bq,H0 a=none\/a∈S:=λa m=>(ok.zd a i (h0 a m)).2
 refine⟨λj d' t e=>?_,λp hp=>?_,λa j e=>?_,λa o e n=>keep a o (λm=>?_) (ok.en a o e n),ln⟩
 .by_cases hj:j=i
  .subst hj;rw[hi] at e;cases e;exact⟨v,fp,hs,r,hz⟩
  .obtain⟨e0,nd⟩:=ot hj e;obtain⟨v',jZ,b8,r',zz⟩:=ok.sl j d' t e0;have n0:∀a∈jZ,a∉bq:=λa m q=>by
    have zi:=h0 a q;rcases nd with rfl|nd
    .cases q
    cases t with
    |sh o=>exact nd o rfl (zz a m i zi)
    |own=>rw[zz.2 a m] at zi;exact hj (abS zi)
    |lk=>rw[zz.2 a m] at zi;exact hj (abS zi)
   have n1:∀a∈jZ,a∉fo:=λa m=>let⟨o,w,_⟩:=r'.cG a m;old (n0 a m) w
   have o1:∀a∈jZ,z a=some j->z' a=some j:=λa m e=>by
    rcases zn a (n1 a m) with⟨w,_⟩|⟨w,_⟩
    .rw[e] at w;exact(hj (abS w)).elim
    .rw[w,e]
   refine⟨v',jZ,(os j hj).trans b8,r'.frame (λa m=>?_) im,?_⟩
   .obtain⟨o,w,_⟩:=r'.cG a m;rw[keep a o (n0 a m) w,w]
   .cases t with
    |sh o=>exact λa m k q=>zz a m k (at_ (n1 a m) q).1
    |own=>exact⟨zz.1,λa m=>o1 a m (zz.2 a m)⟩
    |lk=>exact⟨zz.1,λa m=>o1 a m (zz.2 a m)⟩
 .obtain⟨r',sS⟩:=ok.hl p hp;have n0:∀a∈p.fp,a∉bq:=λa m q=>by
   rcases hh with rfl|hh
   .cases q
   .exact hh (sS a m i (h0 a q)).2
  refine⟨r'.frame (λa m=>?_) im,λa m j q=>?_⟩
  .obtain⟨o,w,_⟩:=r'.cG a m;rw[keep a o (n0 a m) w,w]
  .obtain⟨o,w,_⟩:=r'.cG a m;obtain⟨q,_,hj⟩:=at_ (old (n0 a m) w) q;obtain⟨x,y⟩:=sS a m j q;exact⟨x,λd e=>y d (ot (λx=>hj x (x ▸ y)) e).1⟩
 .by_cases w:a∈fo
  .refine⟨(Gp a w).2,(Gp a w).1.elim (S0 a) λq=>?_⟩;cases h0:H0 a with
   |none=>exact .inl rfl
   |some o=>
    by_cases hs:a∈S
    .exact .inr hs
    .rw[ok.en a o h0 hs] at q;cases q
  .obtain⟨e,n,_⟩:=at_ w e;obtain⟨⟨o,x⟩,y⟩:=ok.zd a j e;exact⟨⟨o,keep a o n x⟩,y⟩
 .rcases S0 a m with q|q
  .rw[e] at q;cases q
  .exact n q
open Classical in
noncomputable def zN(fo:List Addr)(i:Nat)(z:Addr->Option Nat):Addr->Option Nat:=λa=>if a∈fo then some i else if z a=some i then none else z a
theorem DL{fo bq:List Addr}(h:∀a∈bq,z a=some i)(a:Addr)(n:a∉fo):z a=some i/\zN fo i z a=none\/zN fo i z a=z a/\a∉bq/\(z a=some i->P):=by
 unfold zN
 by_cases w:z a=some i
 .exact .inl ⟨w,by rw[if_neg n,if_pos w]⟩
 .exact .inr ⟨by rw[if_neg n,if_neg w],λm=>w (h a m),λq=>(w q).elim⟩
theorem Ok.set{K:PySem.W.Frag}{H0:Hp}{S:List Addr}{z:Addr->Option Nat}{aq:List b7}{ρ:aA}{σ:St}{H H1:Hp}{i:Nat}{d:D}{t:Tag}{v:V}{fp:List Addr}(ok:Ok K H0 S z aq ρ σ H)(hi:i<σ.length)(s:aH H H1)
  (r:Rep K H1 d v fp) (g:cN z H t fp):∃z',Ok K H0 S z' aq (iw ρ i d t) (σ.set i (some v)) H1:=by
 have n0:∀a∈([]:List Addr),z a=some i:=λa m=>nomatch m
 have main:∀(fo:List Addr) (tg:Tag),(∀a∈fo,H a=none/\a∈fp)->uz (zN fo i z) i tg fp->∃z',Ok K H0 S z' aq (ρ.set i (some (d,tg))) (σ.set i (some v)) H1:=λfo tg h hz=>
  ⟨_,ok.chg (aeo (by rw[ok.ln];exact hi)) (aeo hi) n0 (.of s) (λb o _ e=>s b o e) r hz (DL n0) (λa m=>⟨.inr (h a m).1,let⟨o,w,_⟩:=r.cG a (h a m).2;⟨o,w⟩⟩)
   (λhj e=>⟨(acM (aeV hj)).symm.trans e,.inl rfl⟩) (λj hj=>acM (aeV hj)) (.inl rfl) (by rw[afu,afu];exact ok.ln)⟩
 cases t with
 |own=>exact main fp .own (λa m=>⟨g.2 a m,m⟩) ⟨g.1,λa m=>if_pos m⟩
 |lk=>exact main fp .own (λa m=>⟨g.2 a m,m⟩) ⟨g.1,λa m=>if_pos m⟩
 |sh o=>
  refine main [] (.sh o) (λa m=>nomatch m) λa m j q=>?_
  rcases DL (fo:=[]) (P:=True) n0 a (λw=>nomatch w) with⟨_,w⟩|⟨w,_⟩
  .rw[q] at w;cases w
  .exact g a m j (w ▸ q)
theorem Ok.stored{K:PySem.W.Frag}{H0:Hp}{S:List Addr}{z:Addr->Option Nat}{aq:List b7}{ρ:aA}{σ:St}{H H1:Hp}{i:Nat}{d:D}{t:Tag}{v:V}{fp:List Addr}{G:Prop}(ok:Ok K H0 S z aq ρ σ H)(s:aH H H1)
  (r:Rep K H1 d v fp) (g:cN z H t fp) (k:∀z',Ok K H0 S z' aq (iw ρ i d t) (σ.set i (some v)) H1->G):G:=by
 by_cases hi:i<σ.length
 .obtain⟨z',aX⟩:=ok.set hi s r g;exact k z' aX
 .have e1:σ.set i (some v)=σ:=List.set_eq_of_length_le (Nat.le_of_not_lt hi);have e2:∀w,ρ.set i w=ρ:=λw=>List.set_eq_of_length_le (by rw[ok.ln];exact Nat.le_of_not_lt hi)
  have e3:iw ρ i d t=ρ:=by cases t<;>exact e2 _
  refine k z ?_;rw[e1,e3];exact ok.same s
theorem bA(i:Nat){x:Str}{e:Expr}{f:EF}{pos':Pos}(he:FP X e f)(hN:X.N.Nodup)(hi:X.N[i]? = some x:=by rfl)(hx:Loc X.env.scope x:=by first|exact Or.inl rfl|exact Or.inr rfl)
  (hs:swapsWith e (some (.Name x pos')) pos.line X.env=pure false:=by rfl) (hf:X.fn x=true\/X.env.scope.names.lookup x=some .local:=by first|exact .inl rfl|exact .inr rfl) (oS:kZ X x=false:=by rfl):fM X (.Assign [.Name x pos'] e pos) (dQ i f):=by
 obtain⟨t,p,q⟩:=he;exists 23,zB hN hi hx p hs hf;unfold dQ at e;cases h:f ρ with
 |none=>rw[h] at e;cases e
 |some w=>
  obtain⟨d,tg⟩:=w;rw[h] at e;cases e;refine q ok h λH1 v fp s1 r1 g1=>?_
  exact ok.stored s1 r1 g1 λz' aX=>k z' _ H1 aX (.set hi oS)
end
abbrev GF:=D->Tag->aA->Option aA
def FG(X:Cx)(tg:Expr)(g:GF)(is:List Nat):Prop:=(∀i∈is,∀x,X.N[i]? = some x->kZ X x=false)/\∃t,PG X tg t/\∀{H0:Hp}{S:List Addr}{z:Addr->Option Nat}{aq:List b7}{ρ:aA}{σ:St}{H H1:Hp}{v:V}{d:D}{tag:Tag}{fp:List Addr}{Q:St->Hp->Prop}{ρ':aA},
 Ok X.K H0 S z aq ρ σ H->aH H H1->Rep X.K H1 d v fp->cN z H tag fp->g d tag ρ=some ρ'->(∀z' aE,Ok X.K H0 S z' aq ρ' aE H1->(aE.length=σ.length/\∀j,j∉is->aE[j]? = σ[j]?)->Q aE H1)->t v σ H1 Q
def gN(i:Nat):GF:=λd t ρ=>some (iw ρ i d t)
abbrev pZ:=List D->aA->Option aA
theorem Kp.off{is:List Nat}(hk:∀i∈is,∀x,X.N[i]? = some x->kZ X x=false)(h:∀j,j∉is->aE[j]? = σ[j]?):Kp X σ aE:=λi x e k=>h i λm=>by rw[hk i m x e] at k;cases k
def Bq(X:Cx)(ts:List Expr)(g:pZ)(is:List Nat):Prop:=(∀i∈is,∀x,X.N[i]? = some x->kZ X x=false)/\∃t,xY X ts t/\(∀ds ρ ρ',g ds ρ=some ρ'->ds.length=ts.length)/\∀{H0:Hp}{S:List Addr}{z:Addr->Option Nat}{aq:List b7}{ρ:aA}{σ:St}{H:Hp}{vs:List V}{ds:List D}{fp:List Addr}{Q:St->Hp->Prop}{ρ':aA},
 Ok X.K H0 S z aq ρ σ H->aB X.K H ds vs fp->g ds ρ=some ρ'->(∀z' aE,Ok X.K H0 S z' aq ρ' aE H->(aE.length=σ.length/\∀j,j∉is->aE[j]? = σ[j]?)->Q aE H)->t vs σ H Q
noncomputable def m_:pZ:=λds ρ=>match ds with
 |[]=>some ρ
 |_=>none
def eW(g:GF)(gs:pZ):pZ:=λds ρ=>match ds with
 |d::r=>if aC d=true then(g d .own ρ).bind λρ'=>gs r ρ' else none
 |_=>none
theorem Mx{gs:pZ}(e:eW g gs ds ρ=some ρ'):∃d r aS,ds=d::r/\aC d=true/\g d .own ρ=some aS/\gs r aS=some ρ':=by
 cases ds with
 |nil=>cases e
 |cons d r=>
  unfold eW at e;dsimp only at e;obtain⟨hi,e⟩:=ci e;exists h,g d .own ρ,aS,e,0;rw[h,acR] at e;exact⟨d,r,aS,rfl,hi,h,e⟩
noncomputable def gT(gs:pZ):GF:=λd _ ρ=>match d with
 |.tup ds=>gs ds ρ
 |_=>none
section
variable{X:Cx}{pos:Pos}
theorem bX(i:Nat){x:Str}(hN:X.N.Nodup)(hi:X.N[i]? = some x:=by rfl)(hx:Loc X.env.scope x:=by first|exact Or.inl rfl|exact Or.inr rfl)(hf:X.fn x=true\/X.env.scope.names.lookup x=some .local:=by first|exact .inl rfl|exact .inr rfl)(oS:kZ X x=false:=by rfl):FG X (.Name x pos) (gN i) [i]:=by
 refine⟨λj m y e=>by rw[aa1.mp m,hi] at e;have e:=abS e;subst e;exact oS,_,L3 hN hi hx hf,@λH0 S z aq ρ σ H H1 v d tag fp Q ρ' ok s r g e k=>?_⟩;cases e;exact ok.stored s r g λz' aX=>k z' _ aX ⟨afu ..,λj hj=>acM λe=>hj (by rw[e];exact aar)⟩
theorem rH:Bq X [] m_ []:=by
 refine⟨λj m=>(nomatch m),_,Xg,λds ρ ρ' e=>?_,@λH0 S z aq ρ σ H vs ds fp Q ρ' ok r e k=>?_⟩
 .cases ds with
  |nil=>rfl
  |cons _ _=>cases e
 .cases ds with
  |nil=>cases r;cases e;exact⟨rfl,k z σ ok ⟨rfl,λ_ _=>rfl⟩⟩
  |cons _ _=>cases e
theorem ia{e:Expr}{es:List Expr}{g:GF}{gs:pZ}{is ks:List Nat}(h1:FG X e g is)(h2:Bq X es gs ks)(hs:(assignEach (e::es) X.env).map (·.2)=assign e X.env::(assignEach es X.env).map (·.2):=by rfl):Bq X (e::es) (eW g gs) (is++ks):=by
 obtain⟨n1,t,p,q⟩:=h1;obtain⟨n2,t',p',l',q'⟩:=h2;refine⟨λj m=>(abD.mp m).elim (n1 j) (n2 j),_,Ti p p' hs,λds ρ ρ' e=>?_,@λH0 S z aq ρ σ H vs ds fp Q ρ' ok r e k=>?_⟩
 .obtain⟨d,r,aS,rfl,_,_,h⟩:=Mx e;rw[abP,abP,l' r aS ρ' h]
 .obtain⟨d,dr,aS,rfl,hi,h1,h2⟩:=Mx e;cases r with
  | @cons _ v _ vr f1 f2 r1 r2=>
   have hn:=r1.aC hi;subst hn;exact⟨v,vr,rfl,q ok (aH.refl H) r1 .nil h1 λz1 mO cE a1=>q' cE r2 h2 λz2 g8 jB a2=>k z2 g8 jB ⟨a2.1.trans a1.1,λj hj=>(a2.2 j λm=>hj (aaM _ m)).trans (a1.2 j λm=>hj (abn _ m))⟩⟩
theorem rP{es:List Expr}{gs:pZ}{is:List Nat}(hc:X.calm=true)(h:Bq X es gs is)(hn:(assignEach es X.env).length=es.length:=by rfl)(iE:(assignEach es X.env).findIdx? (·.1)=none:=by rfl):FG X (.Tuple es k pos) (gT gs) is:=by
 obtain⟨n1,t,p,l,q⟩:=h;refine⟨n1,_,X0 hc p hn iE,@λH0 S z aq ρ σ H H1 v d tag fp Q ρ' ok s r g e k=>?_⟩;cases r with
 | @tup a xs ds fp hq rs=>
  have e:=e;exact⟨a,xs,rfl,hq,by rw[<- rs.length];exact l ds ρ ρ' e,q (ok.same s) rs e k⟩
 |_=>cases e
end
structure Hv where
 d:D
 v:V
 fp:List Addr
def sP(K:PySem.W.Frag)(J:It)(ds:List D)(hv:List Hv):Prop:=∀(H:Hp) (i:Nat),(∀h∈hv,Rep K H h.d h.v h.fp)->
 (∀d,ds[i]? = some d->J.go i H/\∀x H1,J.yd i H x H1->aH H H1/\∃fp,Rep K H1 d x fp/\∀a∈fp,∃h∈hv,a∈h.fp)/\(ds.length<=i->J.stop i H)
abbrev IF:=aA->Option (List D×Tag)
def FI(X:Cx)(tg iter:Expr)(f:IF):Prop:=∃wi,PI X tg iter wi/\∀{H0:Hp}{S:List Addr}{z:Addr->Option Nat}{aq:List b7}{ρ:aA}{σ:St}{H:Hp}{R:It->Hp->Prop}{ds:List D}{t:Tag},
 Ok X.K H0 S z aq ρ σ H->f ρ=some (ds,t)->(∀H1 J hv,aH H H1->(∀h∈hv,Rep X.K H1 h.d h.v h.fp/\∀a∈h.fp,∀j,z a=some j->∃o,t=.sh o/\j∈o)->sP X.K J ds hv->R J H1)->wi σ H R
noncomputable def gZ(f:EF):IF:=λρ=>match f ρ with
 |some (.lst ds,t)=>some (ds,t)
 |some (.gO ds,t)=>some (ds,t)
 |some (.tup ds,t)=>some (ds,t)
 |_=>none
def RE(K:PySem.W.Frag)(tl:TE):TI:=λσ H R=>tl σ H λx H1=>∃a,x=.ref a/\(((∃xs,bY K H1 a xs)/\R (BC K a) H1)\/((∃xs,cg K H1 a xs)/\R (Cq K a) H1))
section
variable{X:Cx}{tg:Expr}
theorem Z8{l:Expr}{tl:TE}(hl:PE X l tl):PI X tg l (RE X.K tl):=by
 intro af s σ H R I h;refine aM (hl af s σ H _ I h) λv s1 ⟨x,H1,I1,r1,q1⟩=>?_
 obtain⟨a,e,q⟩:=q1;subst e;cases r1;rcases q with⟨⟨xs,hq⟩,q⟩|⟨⟨xs,hq⟩,q⟩
 .obtain⟨au,rv,p,hz⟩:=I1.list hq;refine wpAny_pyIter_list p.isList ?_;refine⟨s1.heap.objs.size,[s1.heap.objs.size],_,_,H1,rfl,I1.kept (λb o e=>aaE _ e),ZZ a _,⟨_,ab2 _ rfl,rfl,rfl⟩,λb hb=>?_,q⟩;obtain rfl:b=s1.heap.objs.size:=by simpa using hb
  exact I1.pO (abH _) (I1.aI.fresh (abH _))
 .obtain⟨au,rv,p,hz⟩:=I1.tuple hq;refine wpAny_pyIter_tuple (show s1.heap.IsTuple a au.toArray from p) ?_;refine⟨s1.heap.objs.size,[s1.heap.objs.size],_,_,H1,rfl,I1.kept (λb o e=>aaE _ e),adZ a _,⟨_,ab2 _ rfl,rfl,rfl⟩,λb hb=>?_,q⟩;obtain rfl:b=s1.heap.objs.size:=by simpa using hb
  exact I1.pO (abH _) (I1.aI.fresh (abH _))
theorem Rep.d9{K:PySem.W.Frag}{H:Hp}(r:Rep K H (.lst ds) v fp):∃a xs f,v=.ref a/\bY K H a xs/\aB K H ds xs f/\∀b∈f,b∈fp:=by
 cases r with
 |lst h rs=>exact⟨_,_,_,rfl,bY.of h,rs,λb m=>aaa _ m⟩
theorem Rep.tW{K:PySem.W.Frag}(r:Rep K H (.gO ds) v fp):∃a xs,v=.ref a/\bY K H a xs/\aB K H ds xs fp:=by
 cases r with
 |zw h rs=>exact⟨_,_,rfl,h.sq,rs⟩
theorem Rep.iX{K:PySem.W.Frag}(r:Rep K H (.tup ds) v fp):∃a xs,v=.ref a/\cg K H a xs/\aB K H ds xs fp:=by
 cases r with
 |tup h rs=>exact⟨_,_,rfl,h,rs⟩
theorem Vh{K:PySem.W.Frag}:sP K (BC K a) ds [⟨.lst ds,.ref a,fp⟩]:=by
 intro H i hh;have r:=hh ⟨.lst ds,.ref a,fp⟩ aar;obtain⟨a',xs,f,e,hq,rs,sub⟩:=r.d9;cases e;refine⟨λd hd=>?_,λhl=>⟨xs,hq,by rw[<- rs.length];exact hl⟩⟩;obtain⟨v,f',hv,rv,s'⟩:=rs.get hd;refine⟨⟨xs,v,hq,hv⟩,λx H1 y=>?_⟩;obtain⟨e1,y⟩:=y;subst e1;have e2:=y xs hq;rw[hv] at e2;cases e2;exact⟨aH.refl _,f',rv,λb m=>⟨_,aar,sub b (s' b m)⟩⟩
theorem Xz{K:PySem.W.Frag}:sP K (BC K a) ds [⟨.gO ds,.ref a,fp⟩]:=by
 intro H i hh;have r:=hh ⟨.gO ds,.ref a,fp⟩ aar;obtain⟨a',xs,e,hq,rs⟩:=r.tW;cases e;refine⟨λd hd=>?_,λhl=>⟨xs,hq,by rw[<- rs.length];exact hl⟩⟩;obtain⟨v,f',hv,rv,s'⟩:=rs.get hd;refine⟨⟨xs,v,hq,hv⟩,λx H1 y=>?_⟩;obtain⟨e1,y⟩:=y;subst e1;have e2:=y xs hq;rw[hv] at e2;cases e2;exact⟨aH.refl _,f',rv,λb m=>⟨_,aar,s' b m⟩⟩
theorem V4{K:PySem.W.Frag}:sP K (Cq K a) ds [⟨.tup ds,.ref a,fp⟩]:=by
 intro H i hh;have r:=hh ⟨.tup ds,.ref a,fp⟩ aar;obtain⟨a',xs,e,hq,rs⟩:=r.iX;cases e;refine⟨λd hd=>?_,λhl=>⟨xs,hq,by rw[<- rs.length];exact hl⟩⟩;obtain⟨v,f',hv,rv,s'⟩:=rs.get hd;refine⟨⟨xs,v,hq,hv⟩,λx H1 y=>?_⟩;obtain⟨e1,y⟩:=y;subst e1;have e2:=y xs hq;rw[hv] at e2;cases e2;exact⟨aH.refl _,f',rv,λb m=>⟨_,aar,s' b m⟩⟩
theorem P_{K:PySem.W.Frag}{lo:Int}:sP K (wz lo n) ((List.range n).map λi:Nat=>D.int (lo+(i:Int))) []:=by
 intro H i _;refine⟨λd hd=>?_,λhl=>?_⟩
 .rw[ab3] at hd
  by_cases hi:i<n
  .rw[List.getElem?_range hi] at hd;cases hd;refine⟨hi,λx H1 y=>?_⟩;obtain⟨e1,e2⟩:=y;subst e1 e2;exact⟨aH.refl _,[],.int _,λb m=>nomatch m⟩
  .rw[List.getElem?_eq_none (by simpa using hi)] at hd;cases hd
 .rw[List.length_map,af3] at hl;exact hl
theorem cN.over{K:PySem.W.Frag}(ok:Ok K H0 S z aq ρ σ H)(g:cN z H t fp):∀a∈fp,∀j,z a=some j->∃o,t=.sh o/\j∈o:=by
 intro a m j q;cases t with
 |sh o=>exact⟨o,rfl,g a m j q⟩
 |own=>obtain⟨⟨o,w⟩,_⟩:=ok.zd a j q;rw[g.2 a m] at w;cases w
 |lk=>obtain⟨⟨o,w⟩,_⟩:=ok.zd a j q;rw[g.2 a m] at w;cases w
theorem fq{l:Expr}{f:EF}(hl:FP X l f):FI X tg l (gZ f):=by
 obtain⟨t,p,q⟩:=hl;exists 24,Z8 p;unfold gZ at e;exists h,f ρ,w,e,0;obtain⟨d,Pr⟩:=w;rw[h] at e;cases d with
 |lst es=>
  cases e;refine q ok h λH1 v fp s1 r1 g1=>?_
  obtain⟨a,xs,f,rfl,hq,rs,sub⟩:=r1.d9;exact⟨a,rfl,.inl ⟨⟨xs,hq⟩,k H1 _ [⟨.lst ds,.ref a,fp⟩] s1 (λh m=>by cases aa1.mp m;exact⟨r1,g1.over ok⟩) Vh⟩⟩
 |gO es=>
  cases e;refine q ok h λH1 v fp s1 r1 g1=>?_
  obtain⟨a,xs,rfl,hq,rs⟩:=r1.tW;exact⟨a,rfl,.inl ⟨⟨xs,hq⟩,k H1 _ [⟨.gO ds,.ref a,fp⟩] s1 (λh m=>by cases aa1.mp m;exact⟨r1,g1.over ok⟩) Xz⟩⟩
 |tup es=>
  cases e;refine q ok h λH1 v fp s1 r1 g1=>?_
  obtain⟨a,xs,rfl,hq,rs⟩:=r1.iX;exact⟨a,rfl,.inr ⟨⟨xs,hq⟩,k H1 _ [⟨.tup ds,.ref a,fp⟩] s1 (λh m=>by cases aa1.mp m;exact⟨r1,g1.over ok⟩) V4⟩⟩
 |_=>cases e
noncomputable def small(i:Int):Bool:=decide (-(2 ^ 62)<=i)&&decide (i<2 ^ 62)
def vV(g:EF):IF:=λρ=>match g ρ with
 |some (.int j,_)=>if small j=true then some ((List.range j.toNat).map λi:Nat=>D.int (0+(i:Int)),.own) else none
 |_=>none
def qg(f g:EF):IF:=λρ=>match f ρ,g ρ with
 |some (.int i,_),some (.int j,_)=>if(small i&&small j)=true then some ((List.range (j-i).toNat).map λk:Nat=>D.int (i+(k:Int)),.own) else none
 |_,_=>none
theorem vp(h:small i=true):-(2 ^ 62)<=i/\i<2 ^ 62:=by
 obtain⟨a,b⟩:=(aaY _ _).mp h;exact⟨aaP a,aaP b⟩
theorem Lb{a:Expr}{g:EF}{p pos:Pos}(hm:X.mg "range"=none)(ha:FP X a g)(hg:Gl X "range":=by rfl)(hs:starEach [a] X.env=[(false,eval a X.env)]:=by rfl):FI X tg (.Call (.Name "range" p) [a] [] pos) (vV g):=by
 obtain⟨t,pa,q⟩:=ha;exists 24,adk hg hm (dW pa fH hs) hs;unfold vV at e;exists h,g ρ,w,e,0;obtain⟨d,Pr⟩:=w;rw[h] at e;cases d with
 |int j=>
  dsimp only at e;obtain⟨hj,e⟩:=ci e;cases e;refine q ok h λH1 v fp s1 r1 g1=>?_
  cases r1;exact⟨j,rfl,(vp hj).1,(vp hj).2,k H1 _ [] s1 (λh m=>nomatch m) P_⟩
 |_=>cases e
theorem Ak{a b:Expr}(hm:X.mg "range"=none)(ha:FP X a f)(hb:FP X b g)(hg:Gl X "range":=by rfl)(hs:starEach [a,b] X.env=[(false,eval a X.env),(false,eval b X.env)]:=by rfl)(d8:starEach [b] X.env=[(false,eval b X.env)]:=by rfl):
  FI X tg (.Call (.Name "range" p) [a,b] [] pos) (qg f g):=by
 obtain⟨t,pa,q⟩:=ha;obtain⟨t',pb,q'⟩:=hb;exists 24,adC hg hm (dW pa (dW pb fH d8) (by rw[hs,d8])) hs d8;unfold qg at e;exists h,f ρ,w,e,0;obtain⟨d,Pr⟩:=w;cases h2:g ρ with
 |none=>rw[h,h2] at e;cases d<;>cases e
 |some w=>
  obtain⟨d2,tg2⟩:=w;rw[h,h2] at e;cases d with
  |int i=>
   cases d2 with
   |int j=>
    dsimp only at e;obtain⟨hj,e⟩:=ci e;cases e;obtain⟨si,sj⟩:=(aaY _ _).mp hj;refine q ok h λH1 v fp s1 r1 g1=>?_
    cases r1;refine q' (ok.same s1) h2 λH2 v fp s2 r2 g2=>?_
    cases r2;exact⟨i,j,rfl,⟨(vp si).1,(vp si).2,(vp sj).1,(vp sj).2⟩,k H2 _ [] (s1.trans s2) (λh m=>nomatch m) P_⟩
   |_=>cases e
  |_=>cases e
end
noncomputable def lD:Tag->List Nat
 |.sh o=>o
 |_=>[]
def k_(t:Tag):Tag:=.sh (lD t)
noncomputable def ownAt(ρ:aA)(j:Nat):Bool:=match ρ[j]? with
 |some (some (_,.own))=>true
 |_=>false
def mW(o:List Nat)(ρ:aA):List Nat:=o.filter (ownAt ρ)
noncomputable def Qt:Tag->Tag
 |.own=>.lk
 |t=>t
noncomputable def N_:Tag->Tag
 |.lk=>.own
 |t=>t
noncomputable def A3(f:Tag->Tag):Slot->Slot
 |some (d,t)=>some (d,f t)
 |none=>none
def nO:List Nat->aA->aA
 |[],ρ=>ρ
 |j::r,ρ=>nO r (ρ.modify j (A3 Qt))
def tS:List Nat->aA->aA
 |[],ρ=>ρ
 |j::r,ρ=>tS r (ρ.modify j (A3 N_))
noncomputable def dw(g:GF)(t:Tag)(f:SF):List D->SF
 |[],ρ=>some (.nx ρ)
 |d::ds,ρ=>match g d t ρ with
  |none=>none
  |some aS=>match f aS with
   |some (.nx bx)=>dw g t f ds bx
   |some (.ct bx)=>dw g t f ds bx
   |some (.bk bx)=>some (.nx bx)
   |some (.rt r)=>some (.rt r)
   |some (.er raw cn bx)=>some (.er raw cn bx)
   |none=>none
def jw(it:IF)(g:GF)(f:SF):SF:=λρ=>match it ρ with
 |none=>none
 |some (ds,t)=>match dw g (k_ t) f ds (nO (mW (lD t) ρ) ρ) with
  |some (.nx ρ')=>some (.nx (tS (mW (lD t) ρ) ρ'))
  |some (.rt d)=>some (.rt d)
  |some (.er raw cn ρ')=>some (.er raw cn (tS (mW (lD t) ρ) ρ'))
  |_=>none
theorem An:∀{ks:List Nat}{ρ:aA}{i:Nat}{d:D}{t:Tag},(nO ks ρ)[i]? = some (some (d,t))->∃t',ρ[i]? = some (some (d,t'))/\(t=t'\/(t'=.own/\t=.lk))/\(i∈ks->t≠.own)
 |[],ρ,i,d,t,h=>⟨t,h,.inl rfl,λm=>nomatch m⟩
 |j::r,ρ,i,d,t,h=>by
  obtain⟨t1,h1,h2,h3⟩:=An (ks:=r) h;rw[List.getElem?_modify] at h1;exists e,ρ[i]?,s,h1;have ic:(if j=i then A3 Qt s else s)=some (d,t1):=abS h1
  by_cases hj:j=i
  .rw[if_pos hj] at ic;cases s with
   |none=>cases ic
   |some p=>
    obtain⟨d0,t0⟩:=p;cases ic;refine⟨t0,rfl,?_,λ_=>?_⟩
    .rcases h2 with h2|⟨h2,kq⟩
     .cases t0<;>first|exact .inl h2|exact .inr ⟨rfl,h2⟩
     .cases t0<;>cases h2
    .rcases h2 with h2|⟨h2,kq⟩
     .rw[h2];cases t0<;>(intro z;cases z)
     .rw[kq];intro z;cases z
  .rw[if_neg hj] at ic;subst ic;refine⟨t1,rfl,h2,λm=>?_⟩;rcases aa3.mp m with z|z
   .exact absurd z.symm hj
   .exact h3 z
theorem Me:∀{ks:List Nat}{ρ:aA},(nO ks ρ).length=ρ.length
 |[],_=>rfl
 |_::r,ρ=>(Me (ks:=r)).trans (List.length_modify ..)
theorem Lc:∀{ks:List Nat}{ρ:aA},(tS ks ρ).length=ρ.length
 |[],_=>rfl
 |_::r,ρ=>(Lc (ks:=r)).trans (List.length_modify ..)
theorem Fo:∀{ks:List Nat}{ρ:aA}{i:Nat}{d:D}{t:Tag},(tS ks ρ)[i]? = some (some (d,t))->∃t',ρ[i]? = some (some (d,t'))/\(t=t'\/(t'=.lk/\t=.own/\i∈ks))
 |[],ρ,i,d,t,h=>⟨t,h,.inl rfl⟩
 |j::r,ρ,i,d,t,h=>by
  obtain⟨t1,h1,h2⟩:=Fo (ks:=r) h;rw[List.getElem?_modify] at h1;exists e,ρ[i]?,s,h1;have ic:(if j=i then A3 N_ s else s)=some (d,t1):=abS h1
  by_cases hj:j=i
  .rw[if_pos hj] at ic;cases s with
   |none=>cases ic
   |some p=>
    obtain⟨d0,t0⟩:=p;cases ic;refine⟨t0,rfl,?_⟩;rcases h2 with h2|⟨h2,kq,h3⟩
    .cases t0<;>first|exact .inl h2|exact .inr ⟨rfl,h2,by rw[hj];exact aar⟩
    .cases t0<;>cases h2
  .rw[if_neg hj] at ic;subst ic;refine⟨t1,rfl,?_⟩;rcases h2 with h2|⟨h2,kq,h3⟩
   .exact .inl h2
   .exact .inr ⟨h2,kq,aaa _ h3⟩
noncomputable def u0(z:Addr->Option Nat)(hv:List Hv):List b7:=hv.map λh=>⟨h.d,h.v,h.fp,z⟩
noncomputable def xK(z:Addr->Option Nat)(aq:List b7):List b7:=aq.map λh=>{ h with z0:=z }
section
variable{K:PySem.W.Frag}{H0:Hp}{S:List Addr}{z:Addr->Option Nat}{aq:List b7}{ρ:aA}{σ:St}{H:Hp}
theorem Ok.begin{hv:List Hv}(ok:Ok K H0 S z aq ρ σ H)(hh:∀h∈hv,Rep K H h.d h.v h.fp/\∀a∈h.fp,∀j,z a=some j->∃o,t=.sh o/\j∈o):
  Ok K H0 S z (u0 z hv++xK z aq) (nO (mW (lD t) ρ) ρ) σ H:=by
 refine⟨λi d tg e=>?_,λp m=>?_,ok.zd,ok.en,by rw[Me];exact ok.ln⟩
 .obtain⟨t',e',h,_⟩:=An e;obtain⟨v,fp,a,b,c⟩:=ok.sl i d t' e';refine⟨v,fp,a,b,?_⟩;rcases h with h|⟨h,h'⟩
  .subst h;exact c
  .subst h h';exact c
 .have acn:∀j,ua ρ j->ua (nO (mW (lD t) ρ) ρ) j:=λj n d e=>by
   obtain⟨t',e',h,_⟩:=An e;rcases h with h|⟨h,h'⟩
   .subst h;exact n d e'
   .cases h'
  rcases abD.mp m with m|m
  .obtain⟨h,hm,rfl⟩:=abG.mp m;refine⟨(hh h hm).1,λa ha j q=>⟨q,λd e=>?_⟩⟩;obtain⟨o,rfl,hj⟩:=(hh h hm).2 a ha j q;obtain⟨t',e',h',n⟩:=An e;rcases h' with h'|⟨h',xT⟩
   .subst h';exact n (acy.mpr ⟨hj,by unfold ownAt;rw[e']⟩) rfl
   .cases xT
  .obtain⟨h,hm,rfl⟩:=abG.mp m;obtain⟨r,hz⟩:=ok.hl h hm;exact⟨r,λa ha j q=>⟨q,acn j (hz a ha j q).2⟩⟩
theorem Ok.fin{hv:List Hv}{t:Tag}{z':Addr->Option Nat}{ρ':aA}{aE:St}{H':Hp}(ok:Ok K H0 S z aq ρ σ H)(aX:Ok K H0 S z' (u0 z hv++xK z aq) ρ' aE H'):Ok K H0 S z' aq (tS (mW (lD t) ρ) ρ') aE H':=by
 refine⟨λi d tg e=>?_,λp m=>?_,aX.zd,aX.en,by rw[Lc];exact aX.ln⟩
 .obtain⟨t',e',h⟩:=Fo e;obtain⟨v,fp,a,b,c⟩:=aX.sl i d t' e';refine⟨v,fp,a,b,?_⟩;rcases h with h|⟨h,h',_⟩
  .subst h;exact c
  .subst h h';exact c
 .obtain⟨r,hz⟩:=aX.hl { p with z0:=z } (aaM _ (abG.mpr ⟨p,m,rfl⟩));refine⟨r,λa ha j q=>?_⟩;obtain⟨h1,h2⟩:=hz a ha j q;have h1:=h1;obtain⟨h3,h4⟩:=(ok.hl p m).2 a ha j h1;refine⟨h3,λd e=>?_⟩;obtain⟨t',e',h⟩:=Fo e;rcases h with h|⟨h,_,hk⟩
  .subst h;exact h2 d e'
  .have ho:=(acy.mp hk).2;unfold ownAt at ho;exists e0,ρ[j]?,s,ho;cases s with
   |none=>cases ho
   |some p=>
    obtain⟨d0,t0⟩:=p;cases t0<;>first|exact h4 d0 e0|cases ho
end
section
variable{X:Cx}{pos:Pos}
theorem jg{tg iter:Expr}{body:List Stmt}{it:IF}{g:GF}{f:SF}{is:List Nat}(hc:X.calm=true)(hi:FI X tg iter it)(hg:FG X tg g is)(hb:FS X body f)(hp:PassesOwn (model X.prog X.w) X.A X.env X.xe:=by exact PassesOwn.never)
  (hs:∀x,foldedSetIterable iter X.env x=pure x:=by intro _;rfl):fM X (.For tg iter body [] pos) (jw it g f):=by
 obtain⟨wi,pi,si⟩:=hi;obtain⟨n1,tgt,pg,sg⟩:=hg;obtain⟨tb,pb,sb⟩:=hb;exists 23,abX hp hc pi pg pb hs;unfold jw at e;cases h:it ρ with
 |none=>rw[h] at e;cases e
 |some w=>
  obtain⟨ds,t⟩:=w;rw[h] at e;dsimp only at e;refine si ok h λH1 J hv s1 hh GP=>?_
  cases ho:dw g (k_ t) f ds (nO (mW (lD t) ρ) ρ) with
  |none=>rw[ho] at e;cases e
  |some out=>
   rw[ho] at e;have cE:=ok.same s1;have jB:=cE.begin hh;have fin:∀{z':Addr->Option Nat}{ρ':aA}{aE:St}{H':Hp},Ok X.K H0 S z' (u0 z hv++xK z aq) ρ' aE H'->out=.nx ρ'->Kp X σ aE->E.nx aE H':=λ{z' ρ' aE H'} aX eo kp=>by
    subst eo;cases e;exact k z' aE H' (cE.fin aX) kp
   refine⟨λi m aE H'=>m=ds.length-i/\∃z' ρ',Ok X.K H0 S z' (u0 z hv++xK z aq) ρ' aE H'/\dw g (k_ t) f (ds.drop i) ρ'=some out/\Kp X σ aE,⟨ds.length,rfl,z,_,jB,ho,.refl _ _⟩,?_⟩
   rintro i m aE H' ⟨rfl,z',ρ',aX,e',kp⟩
   have hH:∀h∈hv,Rep X.K H' h.d h.v h.fp:=λh m=>(aX.hl _ (abn _ (abG.mpr ⟨h,m,rfl⟩))).1
   obtain⟨go,stop⟩:=GP H' i hH
   by_cases hl:ds.length<=i
   .refine .inl ⟨stop hl,?_⟩;rw[List.drop_eq_nil_of_le hl] at e';cases e';exact fin aX rfl kp
   .have cj:i<ds.length:=Nat.lt_of_not_le hl;rw[afO cj] at e';obtain⟨g1,g2⟩:=go ds[i] (aaR cj);refine .inr ⟨g1,λg8 H2=>∃z' ρ',Ok X.K H0 S z' (u0 z hv++xK z aq) ρ' g8 H2/\dw g (k_ t) f (ds.drop (i+1)) ρ'=some out/\Kp X σ g8,λg8 H2 hn=>⟨ds.length-(i+1),by omega,rfl,hn⟩,λx H2 y=>?_⟩;obtain⟨s2,fp,r2,sub⟩:=g2 x H2 y;unfold dw at e';cases tU:g ds[i] (k_ t) ρ' with
    |none=>rw[tU] at e';cases e'
    |some aS=>
     rw[tU] at e';dsimp only at e';refine sg (tag:=k_ t) aX s2 r2 (λa ha j q=>?_) tU λz2 g8 i9 a3=>?_
     .obtain⟨h,hm,JB⟩:=sub a ha;obtain⟨_,hz⟩:=aX.hl _ (abn _ (abG.mpr ⟨h,hm,rfl⟩));obtain⟨q0,_⟩:=hz a JB j q;obtain⟨o',rfl,hj⟩:=(hh h hm).2 a JB j q0;exact hj
     .cases hf:f aS with
      |none=>rw[hf] at e';cases e'
      |some o1=>
       rw[hf] at e';refine sb i9 hf ?_;cases o1 with
       |nx bx=>exact λz3 cX H3 iI b=>⟨z3,bx,iI,e',(kp.trans (.off n1 a3.2)).trans b⟩
       |ct bx=>exact λz3 cX H3 iI b=>⟨z3,bx,iI,e',(kp.trans (.off n1 a3.2)).trans b⟩
       |bk bx=>
        cases e';exact λz3 cX H3 iI b=>fin iI rfl ((kp.trans (.off n1 a3.2)).trans b)
       |rt d=>
        cases e';cases e;exact k
       |er raw cn bx=>
        cases e';cases e;obtain⟨ES,th,q⟩:=k;exact⟨ES,th,λz3 cX H3 C iI b hC=>q z3 cX H3 C (cE.fin iI) ((kp.trans (.off n1 a3.2)).trans b) hC⟩
noncomputable def iu(c:TF)(f:SF):Nat->SF
 |0,_=>none
 |n+1,ρ=>match c ρ with
  |some false=>some (.nx ρ)
  |some true=>match f ρ with
   |some (.nx ρ')=>iu c f n ρ'
   |some (.ct ρ')=>iu c f n ρ'
   |some (.bk ρ')=>some (.nx ρ')
   |some (.rt d)=>some (.rt d)
   |some (.er raw cn ρ')=>some (.er raw cn ρ')
   |none=>none
  |none=>none
theorem IW(n:Nat){c:Expr}{body:List Stmt}{tc:TF}{f:SF}(hc:FT X c tc)(hb:FS X body f)(hp:PassesOwn (model X.prog X.w) X.A X.env X.xe:=by exact PassesOwn.never):fM X (.While c body [] pos) (iu tc f n):=by
 obtain⟨t,p,q⟩:=hc;obtain⟨tb,pb,qb⟩:=hb;exists 23,Ol hp p pb;refine⟨λm aE H'=>∃z' ρ',Ok X.K H0 S z' aq ρ' aE H'/\iu tc f m ρ'=some o/\Kp X σ aE,⟨n,z,ρ,ok,e,.refl _ _⟩,?_⟩
 rintro m aE H' ⟨z',ρ',aX,e',kp⟩
 cases m with
 |zero=>cases e'
 |succ m=>
  unfold iu at e';exists hc,tc ρ',b,e';refine q aX hc λH1 s1=>?_
  cases b with
  |false=>
   cases e';rw[if_neg aa6];exact k z' aE H1 (aX.same s1) kp
  |true=>
   rw[if_pos rfl];dsimp only at e';exists hf,f ρ',o1,e';refine⟨λg8 H2=>∃z2 bx,Ok X.K H0 S z2 aq bx g8 H2/\iu tc f m bx=some o/\Kp X σ g8,λg8 H2 hn=>⟨m,afy m,hn⟩,?_⟩;refine qb (aX.same s1) hf ?_;cases o1 with
   |nx bx=>exact λz3 cX H3 iI b=>⟨z3,bx,iI,e',kp.trans b⟩
   |ct bx=>exact λz3 cX H3 iI b=>⟨z3,bx,iI,e',kp.trans b⟩
   |bk bx=>
    cases e';exact λz3 cX H3 iI b=>k z3 cX H3 iI (kp.trans b)
   |rt d=>
    cases e';exact k
   |er raw cn bx=>
    cases e';obtain⟨ES,th,q⟩:=k;exact⟨ES,th,λz3 cX H3 C iI b hC=>q z3 cX H3 C iI (kp.trans b) hC⟩
end
def CH(K:PySem.W.Frag)(f:EF):TE:=λσ H Q=>∃H0 S z aq ρ d tg,Ok K H0 S z aq ρ σ H/\f ρ=some (d,tg)/\∀H' v fp,aH H H'->Rep K H' d v fp->cN z H tg fp->Q v H'
def xx(K:PySem.W.Frag)(f:TF):TT:=λσ H Q=>∃H0 S z aq ρ b,Ok K H0 S z aq ρ σ H/\f ρ=some b/\∀H',aH H H'->Q b H'
def F2(K:PySem.W.Frag)(g:GF)(is:List Nat):TG:=λv σ H1 Q=>∃H0 S z aq ρ H d tag fp ρ',Ok K H0 S z aq ρ σ H/\aH H H1/\Rep K H1 d v fp/\cN z H tag fp/\g d tag ρ=some ρ'/\
 ∀z' aE,Ok K H0 S z' aq ρ' aE H1->(aE.length=σ.length/\∀j,j∉is->aE[j]? = σ[j]?)->Q aE H1
section
variable{X:Cx}
theorem FP.pe{e:Expr}{f:EF}(h:FP X e f):PE X e (CH X.K f):=by
 obtain⟨t,p,q⟩:=h
 rintro af s σ H Q I ⟨H0,S,z,aq,ρ,d,tg,ok,e,k⟩
 exact p af s σ H Q I (q ok e k)
theorem FT.pt(h:FT X e f):PT X e (xx X.K f):=by
 obtain⟨t,p,q⟩:=h
 rintro af s σ H Q I ⟨H0,S,z,aq,ρ,b,ok,e,k⟩
 exact p af s σ H Q I (q ok e k)
theorem FG.pg{is:List Nat}(h:FG X e g is):PG X e (F2 X.K g is):=by
 obtain⟨_,t,p,q⟩:=h
 rintro af s σ H1 v u Q I r ⟨H0,S,z,aq,ρ,H,d,tag,fp,ρ',ok,sm,rp,tk,e,k⟩
 exact p af s σ H1 v u Q I r (q ok sm rp tk e k)
end
def Bw(X:Cx)(ifs:List Expr)(f:TF):Prop:=rK X ifs (xx X.K f)
noncomputable def rO:TF:=λ_=>some true
theorem mY{X:Cx}:Bw X [] rO:=by
 rintro af s σ H Q I ⟨H0,S,z,aq,ρ,b,ok,e,k⟩
 cases e;exact wpAny_tests_nil ⟨H,I,k H (aH.refl H)⟩
theorem n8{X:Cx}{c:Expr}{f:TF}(h:FT X c f):Bw X [c] f:=Lx h.pt
noncomputable def jD(js:List (Option Nat))(ρ:aA):aA:=js.map λj=>match j with
 |none=>none
 |some j=>match ρ[j]? with
  |some (some (d,_))=>some (d,.sh [])
  |_=>none
def jl(g:GF)(tt:TF)(te:EF)(ρ:aA)(d:D):Option (Option D):=match g d (.sh []) ρ with
 |none=>none
 |some aS=>match tt aS with
  |none=>none
  |some false=>some none
  |some true=>match te aS with
   |none=>none
   |some (e,t)=>if jR t=true then some (some e) else if aC e=true then some (some e) else none
noncomputable def o_(h:D->Option (Option D)):List D->Option (List D)
 |[]=>some []
 |d::ds=>match h d with
  |none=>none
  |some none=>o_ h ds
  |some (some e)=>match o_ h ds with
   |none=>none
   |some es=>some (e::es)
def iK(js:List (Option Nat))(it:IF)(g:GF)(tt:TF)(te:EF):EF:=λρ=>match it ρ with
 |none=>none
 |some (ds,_)=>if ds.length<sizeLine then(o_ (jl g tt te (jD js ρ)) ds).map λes=>(.lst es,.own) else none
theorem O4{h:D->Option (Option D)}{k:D->Option D}:∀{ds:List D},(∀d∈ds,h d=some (k d))->o_ h ds=some (ds.filterMap k)
 |[],_=>rfl
 |d::ds,e=>by
  unfold o_;rw[e d aar,O4 λx m=>e x (aaa _ m),aef];cases k d<;>rfl
section
variable{X:Cx}{pos:Pos}
theorem Q3{wi:TI}{it:IF}{js:List (Option Nat)}{g:GF}{tt:TF}{te:EF}{is:List Nat}(xG:∀i∈is,js[i]? = some none)
  (si:∀{H0:Hp}{S:List Addr}{z:Addr->Option Nat}{aq:List b7}{ρ:aA}{σ:St}{H:Hp}{R:It->Hp->Prop}{ds:List D}{t:Tag},
   Ok X.K H0 S z aq ρ σ H->it ρ=some (ds,t)->(∀H1 J hv,aH H H1->(∀h∈hv,Rep X.K H1 h.d h.v h.fp/\∀a∈h.fp,∀j,z a=some j->∃o,t=.sh o/\j∈o)->sP X.K J ds hv->R J H1)->wi σ H R)
  {H0:Hp}{S:List Addr}{z:Addr->Option Nat}{aq:List b7}{ρ:aA}{σ:St}{H:Hp}{Q:VK}{d:D}{tg:Tag} (ok:Ok X.K H0 S z aq ρ σ H) (e:iK js it g tt te ρ=some (d,tg))
  (k:∀H' v fp,aH H H'->Rep X.K H' d v fp->cN z H tg fp->Q v H'):GA wi js (F2 X.K g is) (xx X.K tt) (CH X.K te) σ H Q:=by
 unfold iK at e;cases h:it ρ with
 |none=>rw[h] at e;cases e
 |some w=>
  obtain⟨ds,t⟩:=w;rw[h] at e;dsimp only at e
  by_cases hz:ds.length<sizeLine
  .rw[if_pos hz] at e;cases GR:o_ (jl g tt te (jD js ρ)) ds with
   |none=>rw[GR] at e;cases e
   |some es=>
    rw[GR] at e;cases e;refine si ok h λH1 J hv s1 hh GP Dd uH=>?_
    have cE:=ok.same s1;have inner:∀(aE:St) (H2:Hp),aH H1 H2->(∃o,H2 Dd=some o)->aE.length=js.length->(∀j,j∉is->aE[j]? = (l7 js σ)[j]?)->Ok X.K H1 [] (λa=>if a=Dd then some js.length else none) (u0 (λ_=>none) hv) (jD js ρ) aE H2:=by
     intro aE H2 s2 EO hlen A1;have nD:∀{a:Addr}{o:HO},H1 a=some o->a≠Dd:=λe=>cT e uH
     refine⟨λi d t e=>?_,λp m=>?_,λa j e=>?_,λa o e _=>s2 _ _ e,by unfold jD;rw[List.length_map,hlen]⟩
     .unfold jD at e;rw[ab3] at e;cases hj:js[i]? with
      |none=>rw[hj] at e;cases e
      |some o=>
       rw[hj] at e;cases o with
       |none=>cases e
       |some j=>
        have e:(match ρ[j]? with|some (some (d,_))=>some (d,Tag.sh [])|_=>none)=some (d,t):=abS e;cases hr:ρ[j]? with
        |none=>rw[hr] at e;cases e
        |some s=>
         rw[hr] at e;cases s with
         |none=>cases e
         |some p=>
          obtain⟨d0,t0⟩:=p;have e1:d0=d/\Tag.sh []=t:=Prod.mk.inj (abS e);obtain⟨rfl,rfl⟩:=e1;obtain⟨v,fp,hs,r,_⟩:=cE.sl j d0 t0 hr;have hi:i∉is:=λm=>by rw[xG i m] at hj;cases hj
          refine⟨v,fp,?_,r.same s2,λa m q e=>?_⟩
          .rw[A1 i hi];unfold l7;rw[ab3,hj];show some ((σ[j]?).join)=some (some v);rw[hs];rfl
          .obtain⟨o,w,_⟩:=r.cG a m;dsimp only at e;rw[if_neg (nD w)] at e;cases e
     .obtain⟨h,hm,rfl⟩:=abG.mp m;refine⟨(hh h hm).1.same s2,λa ha q e=>?_⟩;obtain⟨o,w,_⟩:=(hh h hm).1.cG a ha;rw[if_neg (nD w)] at e;cases e
     .by_cases w:a=Dd
      .rw[w];exact⟨EO,.inl uH⟩
      .rw[if_neg w] at e;cases e
    refine⟨λi m aE H'=>m=ds.length - i/\aH H1 H'/\aE.length=js.length/\(∀j,j∉is->aE[j]? = (l7 js σ)[j]?)/\∃done rest vs fp,H' Dd=some (.lst vs)/\aB X.K H' done vs fp/\fp.Nodup/\(∀a∈fp,H1 a=none/\a≠Dd)/\
     o_ (jl g tt te (jD js ρ)) (ds.drop i)=some rest/\done++rest=es/\done.length<=i,?_,?_⟩
    .refine⟨ds.length,rfl,λb o e=>by rw[aL (cT e uH)];exact e,by unfold l7;rw[List.length_map],λ_ _=>rfl,[],es,[],[],bQ,.nil,ace,(λa m=>nomatch m),GR,rfl,abH _⟩
    .rintro i m aE H' ⟨rfl,sH,hlen,A1,done,rest,vs,fp,hD,rs,nd,fr,hr,rfl,hle⟩
     obtain⟨go,stop⟩:=GP H' i λh m=>(hh h m).1.same sH
     by_cases hl:ds.length<=i
     .refine .inl ⟨stop hl,?_⟩;rw[List.drop_eq_nil_of_le hl] at hr;cases hr;rw[acm] at k;refine k H' (.ref Dd) (Dd::fp) (s1.trans sH) (.lst hD rs) ⟨abv.mpr ⟨λm=>(fr Dd m).2 rfl,nd⟩,λa m=>?_⟩;rcases aa3.mp m with e|m
      .rw[e];exact s1.free uH
      .exact s1.free (fr a m).1
     .have cj:i<ds.length:=Nat.lt_of_not_le hl;rw[afO cj] at hr;obtain⟨g1,g2⟩:=go ds[i] (aaR cj);refine .inr ⟨g1,λx H2 y=>?_⟩;obtain⟨s2,nA,r2,sub⟩:=g2 x H2 y;have jB:=inner aE H' sH ⟨_,hD⟩ hlen A1;unfold o_ at hr;cases hE:jl g tt te (jD js ρ) ds[i] with
      |none=>rw[hE] at hr;cases hr
      |some oe=>
       rw[hE] at hr;unfold jl at hE;cases tU:g ds[i] (.sh []) (jD js ρ) with
       |none=>rw[tU] at hE;cases hE
       |some aS=>
        rw[tU] at hE;dsimp only at hE;have TQ:cN (λa=>if a=Dd then some js.length else none) H' (.sh []) nA:=λa m j e=>by
         obtain⟨h,hm,ha⟩:=sub a m;obtain⟨o,w,_⟩:=(hh h hm).1.cG a ha;dsimp only at e;rw[if_neg (cT w uH)] at e;cases e
        refine⟨H1,[],_,_,jD js ρ,H',ds[i],.sh [],nA,aS,jB,s2,r2,TQ,tU,λz3 cX i9 KC=>?_⟩;have Qu:cX.length=js.length:=KC.1.trans hlen;have Ow:∀j,j∉is->cX[j]? = (l7 js σ)[j]? :=λj hj=>(KC.2 j hj).trans (A1 j hj)
        cases ht:tt aS with
        |none=>rw[ht] at hE;cases hE
        |some b=>
         rw[ht] at hE;refine⟨H1,[],z3,_,aS,b,i9,ht,λH4 s4=>?_⟩;have ET:aH H1 H4:=(sH.trans s2).trans s4;have xE:aH H' H4:=s2.trans s4;cases b with
         |false=>
          cases hE;refine UT ?_;exact⟨ds.length-(i+1),by lia,rfl,ET,Qu,Ow,done,rest,vs,fp,xE _ _ hD,rs.same xE,nd,fr,hr,rfl,Nat.le_succ_of_le hle⟩
         |true=>
          refine XW ?_;dsimp only at hE;cases Ce:te aS with
          |none=>rw[Ce] at hE;cases hE
          |some w=>
           obtain⟨y,ty⟩:=w;rw[Ce] at hE;dsimp only at hE;refine⟨H1,[],z3,_,aS,y,ty,i9.same s4,Ce,λH5 yv fy s5 ry gy=>?_⟩;have XY:oe=some y/\fy.Nodup/\∀a∈fy,H4 a=none:=by
            by_cases ho:jR ty=true
            .rw[if_pos ho] at hE;cases hE;exact⟨rfl,by cases ty<;>first|exact gy|cases ho⟩
            .rw[if_neg ho] at hE
             by_cases hi:aC y=true
             .rw[if_pos hi] at hE;cases hE;have hn:=ry.aC hi;subst hn;exact⟨rfl,ace,λa m=>nomatch m⟩
             .rw[if_neg hi] at hE;cases hE
           obtain⟨rfl,SO,DT⟩:=XY;dsimp only at hr;cases v_:o_ (jl g tt te (jD js ρ)) (ds.drop (i+1)) with
           |none=>rw[v_] at hr;cases hr
           |some r'=>
            rw[v_] at hr;cases hr;have Kd:aH H' H5:=xE.trans s5;have MO:H5 Dd=some (.lst vs):=Kd _ _ hD;have lv:vs.length<sizeLine:=by rw[<- rs.length];lia
            have im:aT H5 (upd H5 Dd (.lst (vs++[yv]))):=aT.upd MO rfl;have n1:∀a∈fp++fy,a≠Dd:=λa m=>by
             rcases abD.mp m with m|m
             .exact(fr a m).2
             .intro e;have:=DT a m;rw[e,xE _ _ hD] at this;cases this
            have VL:aB X.K H5 (done++[y]) (vs++[yv]) (fp++fy):=by
             have q:=aB.append (rs.same Kd) (aB.cons ry .nil);rw[acm] at q;exact q
            refine⟨vs,MO,lv,ds.length-(i+1),by lia,rfl,λb o e=>?_,Qu,Ow,done++[y],r',vs++[yv],fp++fy,bQ,VL.frame (λa m=>aL (n1 a m)) im,?_,λa m=>?_,v_,?_,?_⟩
            .rw[aL (cT e uH)];exact s5 _ _ (ET _ _ e)
            .refine acB.mpr ⟨nd,SO,λa m b m' e=>?_⟩;subst e;obtain⟨o,w,_⟩:=(rs.same xE).cG a m;rw[DT a m'] at w;cases w
            .refine⟨?_,n1 a m⟩;rcases abD.mp m with m|m
             .exact(fr a m).1
             .exact ET.free (DT a m)
            .rw[aej];rfl
            .rw[abb,adH];lia
  .rw[if_neg hz] at e;cases e
theorem jy{tg iter elt:Expr}{ifs:List Expr}{sc:Scope}{M:List Str}{js:List (Option Nat)}{it:IF}{g:GF}{tt:TF}{te:EF}{is:List Nat}(S:l9 X M js sc)(hc:X.calm=true)(hi:FI X tg iter it)(xG:∀i∈is,js[i]? = some none)
  (hb:∀s3 H3 fp,FG (dO X M sc s3 H3 fp) tg g is/\Bw (dO X M sc s3 H3 fp) ifs tt/\FP (dO X M sc s3 H3 fp) elt te) (hs:∀x,foldedSetIterable iter X.env x=pure x:=by intro _;rfl) :
  FP X (.ListComp elt [⟨tg,iter,ifs,0⟩] sc pos) (iK js it g tt te):=by
 obtain⟨wi,pi,si⟩:=hi;exact⟨_,LR (tt:=xx X.K tt) S hc pi (λs3 H3 fp=>⟨(hb s3 H3 fp).1.pg,(hb s3 H3 fp).2.1,(hb s3 H3 fp).2.2.pe⟩) hs,@λH0 S z aq ρ σ H Q d tg ok e k=>Q3 xG si ok e k⟩
theorem AZ(i:Nat){y:Str}{tg iter elt:Expr}{ifs:List Expr}{sc:Scope}{py wu:Pos}{M:List Str}{js:List (Option Nat)}{it:IF}{g:GF}{tt:TF}{te:EF}{is:List Nat}(hN:X.N.Nodup)(S:l9 X M js sc)(hc:X.calm=true)(hi:FI X tg iter it)
  (xG:∀i∈is,js[i]? = some none) (hb:∀s3 H3 fp,FG (dO X M sc s3 H3 fp) tg g is/\Bw (dO X M sc s3 H3 fp) ifs tt/\FP (dO X M sc s3 H3 fp) elt te) (hy:X.N[i]? = some y:=by rfl) (hl:X.env.scope.names.lookup y=some .local:=by rfl)
  (kF:swapsWith (.ListComp elt [⟨tg,iter,ifs,0⟩] sc pos) (some (.Name y py)) wu.line X.env=pure true:=by rfl) (hs:∀x,foldedSetIterable iter X.env x=pure x:=by intro _;rfl) (oS:kZ X y=false:=by rfl) :
  fM X (.Assign [.Name y py] (.ListComp elt [⟨tg,iter,ifs,0⟩] sc pos) wu) (dQ i (iK js it g tt te)):=by
 obtain⟨wi,pi,si⟩:=hi;exists 23,adT (g:=F2 X.K g is) (tt:=xx X.K tt) (te:=CH X.K te) hN hy hl S hc pi (λs3 H3 fp=>⟨(hb s3 H3 fp).1.pg,(hb s3 H3 fp).2.1,(hb s3 H3 fp).2.2.pe⟩) kF hs;unfold dQ at e;cases h:iK js it g tt te ρ with
 |none=>rw[h] at e;cases e
 |some w=>
  obtain⟨d,tg⟩:=w;rw[h] at e;cases e;refine Q3 xG si ok h λH1 v fp s1 r1 g1=>?_
  exact ok.stored s1 r1 g1 λz' aX=>k z' _ H1 aX (.set hy oS)
end
noncomputable def Ge(n:Nat)(ds:List D):aA:=ds.map (λd=>some (d,.sh []))++List.replicate (n-ds.length) none
def bB(n N:Nat)(b:SF):List D->Option D:=λds=>if ds.length=n then(match b (Ge N ds) with
 |some (.rt d)=>some d
 |some (.nx _)=>some .aD
 |_=>none) else none
noncomputable abbrev CF:=List D->List D->Option D
noncomputable def B8(N:Nat)(es ds:List D):aA:=es.map (λd=>some (d,.own))++(ds.map (λd=>some (d,.sh []))++List.replicate (N-(ds.length+es.length)) none)
def runC(n N:Nat)(b:SF):CF:=λes ds=>if ds.length + es.length=n then(match b (B8 N es ds) with
 |some (.rt d)=>some d
 |some (.nx _)=>some .aD
 |_=>none) else none
def WJ(K:PySem.W.Frag)(G:CF):Sp:=λvs H Q _=>∃us ws es ds bq eV d,vs=us++ws/\aB K H es us bq/\bq.Nodup/\aB K H ds ws eV/\(∀b∈eV,b∉bq)/\G es ds=some d/\
 ∀H' v fp,(∀a o,H a=some o->a∉bq->H' a=some o)->Rep K H' d v fp->fp.Nodup->(∀a∈fp,H a=none\/a∈bq)->Q v H'
theorem aB.own{K:PySem.W.Frag}{H:Hp}:∀{es:List D}{us:List V}{fp:List Addr} (k:Nat),aB K H es us fp->fp.Nodup->∃z:Addr->Option Nat,(∀i d,es[i]? = some d->∃v f,us[i]? = some v/\Rep K H d v f/\f.Nodup/\∀a∈f,z a=some (k+i))/\∀a j,z a=some j->a∈fp
 |_,_,_,_,.nil,_=>⟨λ_=>none,λi d e=>by simp at e,λ_ _ e=>nomatch e⟩
 |_,_,_,k,.cons (f1:=f1) (f2:=f2) r t,n=>by
  classical
  obtain⟨n1,n2,n3⟩:=acB.mp n;obtain⟨z,h1,h2⟩:=t.own (k+1) n2;refine⟨λa=>if a∈f1 then some k else z a,λi d e=>?_,λa j e=>?_⟩
  .cases i with
   |zero=>cases e;exact⟨_,f1,rfl,r,n1,λa m=>if_pos m⟩
   |succ i=>
    obtain⟨v,f,a1,a2,a3,a4⟩:=h1 i d e;exact⟨v,f,a1,a2,a3,λa m=>(if_neg λq=>n3 a q a (h2 a _ (a4 a m)) rfl).trans ((a4 a m).trans (by rw[Nat.add_assoc,Nat.add_comm 1]))⟩
  .dsimp only at e
   split at e
   .exact abn _ (by assumption)
   .exact aaM _ (h2 a j e)
section
variable{P:Program}{w:World}{K:PySem.W.Frag}{mg:Str->Option Value}{base:Heap}
theorem Ok.jW{H:Hp}{N:List Str}{us ws:List V}{es ds:List D}{bq eV:List Addr}(r0:aB K H es us bq)(nd:bq.Nodup)(rs:aB K H ds ws eV)(dj:∀b∈eV,b∉bq):∃z,Ok K H bq z [] (B8 N.length es ds) (start N (us++ws)) H:=by
 obtain⟨z,h1,h2⟩:=r0.own 0 nd;have l0:=r0.length;have l1:=rs.length;unfold B8 start;rw[acZ,aej];refine⟨z,λi d' t' e'=>?_,(λp m=>by cases m),(λa j e=>⟨let⟨o,w,_⟩:=r0.cG a (h2 a j e);⟨o,w⟩,.inr (h2 a j e)⟩),(λa o e _=>e),?_⟩
 .by_cases hi:i<es.length
  .rw[adz (by rw[List.length_map];exact hi),ab3,aaR hi] at e';cases e';obtain⟨v,g,hv,rv,n',hz⟩:=h1 i _ (aaR hi);rw[afR] at hz;exact⟨v,g,(adz (by rw[List.length_map];lia)).trans (by rw[ab3,hv];rfl),rv,n',hz⟩
  .rw[aed (by rw[List.length_map];lia),List.length_map] at e';rw[aed (by rw[List.length_map];lia),List.length_map,<- l0];generalize i-es.length=i at e' ⊢
   by_cases hi:i<ds.length
   .rw[adz (by rw[List.length_map];exact hi),ab3,aaR hi] at e';cases e';obtain⟨v,g,hv,rv,sub⟩:=rs.get (aaR hi);exact⟨v,g,(adz (by rw[List.length_map];lia)).trans (by rw[ab3,hv];rfl),rv,λa m j e=>(dj a (sub a m) (h2 a j e)).elim⟩
   .rw[aed (by rw[List.length_map];lia),afw] at e'
    split at e'<;>cases e'
 .simp only[abb,List.length_map,List.length_replicate]
  lia
theorem aaB{cm:Bool}{x qual:Str}{st:Stmt}{f:Addr}{fd:FuncData}{N ps:List Str}{k:Nat}{b:SF}(F:jI K x qual st f fd)(S:pI N ps (cR st))
  (hb:∀(aR:{c:Value // c=fd.code}) (A:Around) (outer:List Env) (s:Shared) (H:Hp) (E:XK),bh k (A.deeper (envOfC qual (cR st) s.heap.objs.size f aR)) cm->FS (iW c_ P w K mg base N qual (cR st) f aR A outer s H E cm).gP (g_ st) b) :
  cI P w K mg base c_ (k+1) f fd ps (WJ K (runC ps.length N.length b)) cm:=by
 refine F.ok S (λvs H Q E h=>?_) (λaR A outer s H vs Q E hr h=>?_)<;>obtain⟨us,ws,es,ds,bq,eV,d,e0,r0,nd,rs,dj,e,q⟩:=h
 .unfold runC at e
  split at e
  .rename_i h;rw[e0,abb,<- r0.length,<- rs.length,Nat.add_comm,h]
  .cases e
 .obtain⟨t,p,sd⟩:=hb aR A outer s H E hr;refine⟨t,p,?_⟩;obtain⟨z,ok⟩:=Ok.jW r0 nd rs dj;rw[e0];unfold runC at e
  split at e
  .cases ho:b (B8 N.length es ds) with
   |none=>rw[ho] at e;cases e
   |some o=>
    rw[ho] at e;refine sd ok ho ?_;cases o with
    |rt d'=>cases e;exact q
    |nx ρ'=>cases e;exact λz' aE H' aX _=>q H' .aD [] aX.en .aD ace λa m=>nomatch m
    |bk _=>cases e
    |ct _=>cases e
    |er _ _ _=>cases e
  .cases e
theorem Mc{st:Stmt}(F:jI K x qual st f fd)(S:pI N ps (cR st))
  (hb:∀(aR:{c:Value // c=fd.code}) (A:Around) (outer:List Env) (s:Shared) (H:Hp) (E:XK),bh k (A.deeper (envOfC qual (cR st) s.heap.objs.size f aR)) cm->FS (iW c_ P w K mg base N qual (cR st) f aR A outer s H E cm).gP (g_ st) b) :
  cI P w K mg base c_ (k+1) f fd ps (bf K (bB ps.length N.length b)) cm:=
 (aaB F S hb).imp λvs H Q E ⟨ds,fp,d,rs,e,q⟩=>⟨[],vs,[],ds,[],fp,d,rfl,.nil,.nil,rs,(λ_ _ m=>nomatch m),e,λH' v fp en r n fr=>q H' v fp (λa o e=>en a o e λm=>nomatch m) r n λa m=>(fr a m).resolve_right λm=>nomatch m⟩
end
noncomputable def vH(f:Int->Int->Int):D->D->Option D
 |.int i,.int j=>some (.int (f i j))
 |_,_=>none
noncomputable def wg(C:Int->Int->Bool)(f:Int->Int->Int):D->D->Option D
 |.int i,.int j=>if C i j=true then some (.int (f i j)) else none
 |_,_=>none
noncomputable def uQ(f:Int->Int->Bool):D->D->Option D
 |.int i,.int j=>some (.bl (f i j))
 |_,_=>none
noncomputable def tu(i j:Int):Bool:=(decide (-(2 ^ 64)<i)&&decide (i<2 ^ 64))||(decide (-(2 ^ 64)<j)&&decide (j<2 ^ 64))
noncomputable def Ij(_ j:Int):Bool:=decide (0<j)
def iU:=vH λi j=>i+j
def kG:=vH λi j=>i-j
def xC:=wg tu λi j=>i*j
def oMod:=wg Ij λi j=>i % j
def oLt:=uQ λi j=>decide (i<j)
def oLe:=uQ λi j=>decide (i<=j)
def vn:=uQ λi j=>decide (j<i)
def BV:=uQ λi j=>decide (j<=i)
noncomputable def oEq:D->D->Option D
 |.int i,.int j=>some (.bl (i==j))
 |.bl i,.bl j=>some (.bl (i==j))
 |.str i,.str j=>some (.bl (i==j))
 |.aD,.aD=>some (.bl true)
 |_,_=>none
noncomputable def kT:D->D->Option D
 |.int i,.int j=>some (.bl (!(i==j)))
 |.bl i,.bl j=>some (.bl (!(i==j)))
 |.str i,.str j=>some (.bl (!(i==j)))
 |.aD,.aD=>some (.bl false)
 |_,_=>none
noncomputable def n_:D->Bool
 |.aD=>true
 |_=>false
def ja:D->D->Option D
 |d,.aD=>some (.bl (n_ d))
 |_,_=>none
def zI:D->D->Option D
 |d,.aD=>some (.bl (!n_ d))
 |_,_=>none
section
variable{K:PySem.W.Frag}
theorem Qz{g:Int->Int->Int}:gC K (m8 λi j=>.int (g i j)) (vH g):=by
 intro H x y d1 d2 f1 f2 d Q r1 r2 e k;unfold vH at e
 split at e
 .cases e;exact⟨_,_,r1.i_.1,r2.i_.1,k H _ (aH.refl H) (.int _)⟩
 .cases e
theorem se{g:Int->Int->Bool}:gC K (m8 λi j=>.bl (g i j)) (uQ g):=by
 intro H x y d1 d2 f1 f2 d Q r1 r2 e k;unfold uQ at e
 split at e
 .cases e;exact⟨_,_,r1.i_.1,r2.i_.1,k H _ (aH.refl H) (.bl _)⟩
 .cases e
theorem Dm{C:Int->Int->Prop}{c:Int->Int->Bool}{g:Int->Int->Int}(h:∀i j,c i j=true->C i j):gC K (rI C λi j=>.int (g i j)) (wg c g):=by
 intro H x y d1 d2 f1 f2 d Q r1 r2 e k;unfold wg at e
 split at e
 .rename_i i j;obtain⟨hc,e⟩:=ci e;cases e;exact⟨i,j,r1.i_.1,r2.i_.1,h i j hc,k H _ (aH.refl H) (.int _)⟩
 .cases e
theorem adA(i j:Int)(h:tu i j=true):xm i j:=by
 unfold tu at h;unfold xm;rcases(Bool.or_eq_true _ _).mp h with h|h
 .obtain⟨a,b⟩:=(aaY _ _).mp h;exact .inl ⟨aaP a,aaP b⟩
 .obtain⟨a,b⟩:=(aaY _ _).mp h;exact .inr ⟨aaP a,aaP b⟩
theorem M4:gC K E4 oEq:=by
 intro H x y d1 d2 f1 f2 d Q r1 r2 e k;unfold oEq at e
 split at e
 .cases e;rw[r1.i_.1,r2.i_.1];refine⟨rfl,?_⟩;rw[AV];exact k H _ (aH.refl H) (.bl _)
 .cases e;rw[r1.Bx.1,r2.Bx.1];refine⟨rfl,?_⟩;rw[zu];exact k H _ (aH.refl H) (.bl _)
 .cases e;rw[r1.uR.1,r2.uR.1];refine⟨rfl,?_⟩;rw[Ac];exact k H _ (aH.refl H) (.bl _)
 .cases e;rw[r1.Ab.1,r2.Ab.1];exact⟨rfl,by have:=k H (.bl true) (aH.refl H) (.bl _);simpa using this⟩
 .cases e
theorem Je:gC K Kg kT:=by
 intro H x y d1 d2 f1 f2 d Q r1 r2 e k;unfold kT at e
 split at e
 .cases e;rw[r1.i_.1,r2.i_.1];refine⟨rfl,?_⟩;rw[AV];exact k H _ (aH.refl H) (.bl _)
 .cases e;rw[r1.Bx.1,r2.Bx.1];refine⟨rfl,?_⟩;rw[zu];exact k H _ (aH.refl H) (.bl _)
 .cases e;rw[r1.uR.1,r2.uR.1];refine⟨rfl,?_⟩;rw[Ac];exact k H _ (aH.refl H) (.bl _)
 .cases e;rw[r1.Ab.1,r2.Ab.1];exact⟨rfl,by have:=k H (.bl false) (aH.refl H) (.bl _);simpa using this⟩
 .cases e
theorem Rep.n_(r:Rep K H d v fp):decide (v=.aD)=n_ d:=by
 cases r<;>first|rfl|exact abN (λe=>nomatch e)
theorem ND:gC K (λx y H Q=>y=.aD/\Q (.bl (decide (x=.aD))) H) ja:=by
 intro H x y d1 d2 f1 f2 d Q r1 r2 e k;unfold ja at e
 split at e
 .cases e;cases r2;refine⟨rfl,?_⟩;rw[r1.n_];exact k H _ (aH.refl H) (.bl _)
 .cases e
theorem UO:gC K (λx y H Q=>y=.aD/\Q (.bl (!decide (x=.aD))) H) zI:=by
 intro H x y d1 d2 f1 f2 d Q r1 r2 e k;unfold zI at e
 split at e
 .cases e;cases r2;refine⟨rfl,?_⟩;rw[r1.n_];exact k H _ (aH.refl H) (.bl _)
 .cases e
end
section
variable{X:Cx}{a b:Expr}{fa fb:EF}{pos:Pos}
theorem eX(ha:FP X a fa)(hb:FP X b fb):FP X (.BinOp a .Add b pos) (e2 iU fa fb):=wA OZ Qz ha hb
theorem t_(ha:FP X a fa)(hb:FP X b fb):FP X (.BinOp a .Sub b pos) (e2 kG fa fb):=wA VJ Qz ha hb
theorem pQ(ha:FP X a fa)(hb:FP X b fb):FP X (.BinOp a .Mult b pos) (e2 xC fa fb):=wA aeO (Dm adA) ha hb
theorem yF(ha:FP X a fa)(hb:FP X b fb):FP X (.BinOp a .Mod b pos) (e2 oMod fa fb):=wA Y_ (Dm λ_ _ h=>aaP h) ha hb
theorem qO(ha:FP X a fa)(hb:FP X b fb):FT X (.Compare a [.Lt] [b] pos) (tV (e2 oLt fa fb)):=jX MJ se ha hb (jo _)
theorem vz(ha:FP X a fa)(hb:FP X b fb):FT X (.Compare a [.Gt] [b] pos) (tV (e2 vn fa fb)):=jX Wd se ha hb (jo _)
theorem BG(ha:FP X a fa)(hb:FP X b fb):FT X (.Compare a [.GtE] [b] pos) (tV (e2 BV fa fb)):=jX acL se ha hb (jo _)
theorem f7(ha:FP X a fa)(hb:FP X b fb):FT X (.Compare a [.Eq] [b] pos) (tV (e2 oEq fa fb)):=jX DK M4 ha hb (jo _)
theorem qx(ha:FP X a fa)(hb:FP X b fb):FT X (.Compare a [.NotEq] [b] pos) (tV (e2 kT fa fb)):=jX Lv Je ha hb (jo _)
theorem A_(ha:FP X a fa)(hb:FP X b fb):FT X (.Compare a [.Is] [b] pos) (tV (e2 ja fa fb)):=jX O2 ND ha hb (jo _)
theorem R0(ha:FP X a fa)(hb:FP X b fb):FT X (.Compare a [.IsNot] [b] pos) (tV (e2 zI fa fb)):=jX VO UO ha hb (jo _)
theorem AO(ha:FP X a fa)(hb:FP X b fb):FP X (.Compare a [.Eq] [b] pos) (e2 oEq fa fb):=qm DK M4 ha hb (jo _)
theorem JS(ha:FP X a fa)(hb:FP X b fb):FP X (.Compare a [.NotEq] [b] pos) (e2 kT fa fb):=qm Lv Je ha hb (jo _)
noncomputable def e1(op:D->Option D)(fa:EF):EF:=λρ=>match fa ρ with
 |some (d1,_)=>(op d1).map λd=>(d,.own)
 |none=>none
theorem uv{op:D->Option D}(e:e1 op fa ρ=some (d,tg)):∃d1 t1,fa ρ=some (d1,t1)/\op d1=some d/\tg=.own:=by
 unfold e1 at e;exists h1,fa ρ,p,e,0;obtain⟨d1,t1⟩:=p;rw[h1] at e;dsimp only at e;exists h3,op d1,d3,e;cases e;exact⟨d1,t1,rfl,h3,rfl⟩
def lF(K:PySem.W.Frag)(r:List V->Hp->VK->Prop)(op:D->Option D):Prop:=∀(H:Hp) (x:V) (d1:D) (f1:List Addr) (d:D) (Q:VK),Rep K H d1 x f1->op d1=some d->
 (∀H' v fp,aH H H'->Rep K H' d v fp->fp.Nodup->(∀a∈fp,H a=none)->Q v H')->r [x] H Q
theorem fp_1{e:Expr}{r:List V->Hp->VK->Prop}{op:D->Option D}(dd:lF X.K r op)(ha:FP X a fa)(he:∀ta,PE X a ta->PE X e (ED r (LA ta Az))):FP X e (e1 op fa):=by
 obtain⟨t,p,q⟩:=ha;exists 21,he t p;obtain⟨d1,t1,h1,h2,rfl⟩:=uv e;refine q ok h1 λH1 x f1 s1 r1 _=>?_
 exact dd H1 x d1 f1 d Q r1 h2 λH2 v fp s2 r2 nd fr=>k H2 v fp (s1.trans s2) r2 ⟨nd,λa m=>s1.free (fr a m)⟩
noncomputable def fN:D->Option D
 |.lst ds=>some (.int ds.length)
 |.gO ds=>some (.int ds.length)
 |.tup ds=>some (.int ds.length)
 |.bK es=>some (.int es.length)
 |_=>none
theorem gu.or'{r r':List V->Hp->VK->Prop}(h:gu X f r)(h':gu X f r'):gu X f (λxs H Q=>r xs H Q\/r' xs H Q):=by
 intro af s σ H xs us Q I rv q;rcases q with q|q
 .exact h af s σ H xs us Q I rv q
 .exact h' af s σ H xs us Q I rv q
theorem WX:lF X.K (λxs H Q=>(∃p ys,xs=[V.ref p]/\(bY X.K H p ys\/cg X.K H p ys)/\Q (.int ys.length) H)\/(∃a aj,xs=[V.ref a]/\H a=some (.dK aj)/\Q (.int aj.length) H)) fN:=by
 intro H x d1 f1 d Q r e k;have fin:∀n:Nat,d=.int n->Q (.int n) H:=λn e=>by subst e;exact k H _ [] (aH.refl H) (.int _) ace λa m=>nomatch m
 cases d1 with
 |lst ds=>
  obtain⟨a,xs,f,rfl,hq,rs,_⟩:=r.d9;cases e;exact .inl ⟨a,xs,rfl,.inl hq,by rw[<- rs.length];exact fin _ rfl⟩
 |gO ds=>
  obtain⟨a,xs,rfl,hq,rs⟩:=r.tW;cases e;exact .inl ⟨a,xs,rfl,.inl hq,by rw[<- rs.length];exact fin _ rfl⟩
 |tup ds=>
  obtain⟨a,xs,rfl,hq,rs⟩:=r.iX;cases e;exact .inl ⟨a,xs,rfl,.inr hq,by rw[<- rs.length];exact fin _ rfl⟩
 |bK es=>
  cases r with
  |bK h hk rs=>
   cases e;refine .inr ⟨_,_,rfl,h,?_⟩;have hl:=congrArg List.length hk;rw[List.length_map,List.length_map] at hl;rw[<- hl];exact fin _ rfl
 |_=>cases e
theorem fY{p:Pos}(hm:X.mg "len"=none)(ha:FP X a fa)(hg:Gl X "len":=by rfl)(hs:starEach [a] X.env=[(false,eval a X.env)]:=by rfl):FP X (.Call (.Name "len" p) [a] [] pos) (e1 fN fa):=
 fp_1 WX ha λta pa=>pK (gu.or' T3 U8) hg hm PySem.boot_len (dW pa fH hs) (he:=hs)
def tY:D->Option D
 |.lst ds=>if aN ds=true then some (.lst ds) else none
 |.tup ds=>if aN ds=true then some (.lst ds) else none
 |_=>none
theorem aai:lF X.K (λxs H Q=>∃p ys,xs=[V.ref p]/\(bY X.K H p ys\/cg X.K H p ys)/\∀l,H l=none->Q (.ref l) (upd H l (.lst ys))) tY:=by
 intro H x d1 f1 d Q r e k;have fin:∀{ds:List D}{xs:List V}{f:List Addr},aB X.K H ds xs f->(if aN ds=true then some (D.lst ds) else none)=some d->∀l,H l=none->Q (.ref l) (upd H l (.lst xs)):=λ{ds xs f} rs e l hl=>by
  obtain⟨hi,e⟩:=ci e;cases e;have hn:=rs.aC hi;subst hn;have s2:aH H (upd H l (.lst xs)):=λb o e=>by rw[aL (cT e hl)];exact e
  exact k _ _ [l] s2 (.lst bQ (rs.same s2)) (abv.mpr ⟨(λm=>by cases m),ace⟩) λa m=>by cases aa1.mp m;exact hl
 cases d1 with
 |lst ds=>
  obtain⟨a,xs,f,rfl,hq,rs,_⟩:=r.d9;exact⟨a,xs,rfl,.inl hq,fin rs e⟩
 |tup ds=>
  obtain⟨a,xs,rfl,hq,rs⟩:=r.iX;exact⟨a,xs,rfl,.inr hq,fin rs e⟩
 |_=>cases e
theorem kU{p:Pos}(hm:X.mg "list"=none)(ha:FP X a fa)(hg:Gl X "list":=by rfl)(hs:starEach [a] X.env=[(false,eval a X.env)]:=by rfl):FP X (.Call (.Name "list" p) [a] [] pos) (e1 tY fa):=
 fp_1 aai ha λta pa=>z7 aaS hg hm (by rfl) (dW pa fH hs) (he:=hs)
end
def eK:D->D->Option D
 |.gO ds,.int i=>(dM ds i).bind λd=>if aC d=true then some d else none
 |.lst ds,.int i=>(dM ds i).bind λd=>if aC d=true then some d else none
 |.tup ds,.int i=>(dM ds i).bind λd=>if aC d=true then some d else none
 |_,_=>none
theorem abM{K:PySem.W.Frag}:gC K (λx y H Q=>Ep K x y H Q\/zL K x y H Q\/C_ x y H Q) eK:=by
 intro H x y d1 d2 f1 f2 d Q r1 r2 e k;have key:∀{ds:List D}{xs:List V}{f:List Addr}{i:Int},aB K H ds xs f->((dM ds i).bind λd=>if aC d=true then some d else none)=some d->∃v,dM xs i=some v/\Rep K H d v []:=λ{ds xs f i} rs e=>by
  unfold dM at e ⊢;rw[<- rs.length];exists h,gJ ds.length i,j,e,0;rw[h,acR] at e;rw[acR];exists h2,ds[j]?,d',e,0;rw[h2,acR] at e
  by_cases hi:aC d'=true
  .rw[if_pos hi] at e;cases e;obtain⟨v,f',hv,rv,_⟩:=rs.get h2;have hn:=rv.aC hi;subst hn;exact⟨v,hv,rv⟩
  .rw[if_neg hi] at e;cases e
 unfold eK at e
 split at e
 .obtain⟨a,xs,rfl,hq,rs⟩:=r1.tW;obtain⟨v,hv,rv⟩:=key rs e;exact .inl ⟨a,xs,_,v,rfl,r2.i_.1,hq,hv,k H v (aH.refl H) rv⟩
 .obtain⟨a,xs,f,rfl,hq,rs,_⟩:=r1.d9;obtain⟨v,hv,rv⟩:=key rs e;exact .inl ⟨a,xs,_,v,rfl,r2.i_.1,hq,hv,k H v (aH.refl H) rv⟩
 .obtain⟨a,xs,rfl,hq,rs⟩:=r1.iX;obtain⟨v,hv,rv⟩:=key rs e;exact .inr (.inl ⟨a,xs,_,v,rfl,r2.i_.1,hq,hv,k H v (aH.refl H) rv⟩)
 .cases e
theorem cO{X:Cx}{a b:Expr}{fa fb:EF}{pos:Pos}(ha:FP X a fa)(hb:FP X b fb)(hs:Gm b:=by exact λ_ _=>rfl):FP X (.Subscript a b pos) (e2 eK fa fb):=fp_2 abM ha hb λ_ _ pa pb=>Iq Kq pa pb hs
section
variable{ρ ρ':aA}{i j:Nat}{d d1 d2:D}{t t1 t2:Tag}{BR:D->D->Option D}{BY:D->Option D}{f g fa fb:EF}{tf tg:TF}{sf sg:SF}{o:Out}
theorem C4:eC d ρ=some (d,.own):=rfl
noncomputable def k1(op:D->Option D):Option (D×Tag)->Option (D×Tag)
 |some (d,_)=>(op d).map λd=>(d,.own)
 |none=>none
theorem yp:e1 BY fa ρ=k1 BY (fa ρ):=by unfold e1 k1;cases fa ρ<;>rfl
theorem K3:k1 BY (some (d,t))=(BY d).map λd=>(d,.own):=rfl
noncomputable def k2(op:D->D->Option D):Option (D×Tag)->Option (D×Tag)->Option (D×Tag)
 |some (d1,_),some (d2,_)=>(op d1 d2).map λd=>(d,.own)
 |_,_=>none
theorem j_:e2 BR fa fb ρ=k2 BR (fa ρ) (fb ρ):=by unfold e2 k2;cases fa ρ<;>cases fb ρ<;>rfl
theorem xw:k2 BR (some (d1,t1)) (some (d2,t2))=(BR d1 d2).map λd=>(d,.own):=rfl
theorem MZ{α β:Type}{f:α->β}{a:α}:(some a).map f=some (f a):=rfl
noncomputable def kV:Option (D×Tag)->Option Bool
 |some (.bl b,_)=>some b
 |_=>none
theorem yh:tV fa ρ=Ev.kV (fa ρ):=by
 unfold tV Ev.kV;cases fa ρ with
 |none=>rfl
 |some p=>obtain⟨d,t⟩:=p;cases d<;>rfl
theorem Lz(h:tf ρ=some true):jC tf tg ρ=tg ρ:=by unfold jC;rw[h]
theorem BN(h:tf ρ=some false):mQ tf tg ρ=tg ρ:=by unfold mQ;rw[h]
theorem uo(h:tf ρ=some a)(h2:tg ρ=some b):jC tf tg ρ=some (a&&b):=by unfold jC;rw[h];cases a<;>first|exact h2|rfl
theorem zK(h:tf ρ=some a)(h2:tg ρ=some b):mQ tf tg ρ=some (a||b):=by unfold mQ;rw[h];cases a<;>first|exact h2|rfl
theorem Ib:mR tf ρ=(tf ρ).map λb=>!b:=rfl
theorem aap:g9 ρ=some (.nx ρ):=rfl
noncomputable def zy(g:SF):Option Out->Option Out
 |some (.nx ρ)=>g ρ
 |o=>o
theorem jG:cC sf sg ρ=zy sg (sf ρ):=by
 unfold cC zy;cases sf ρ with
 |none=>rfl
 |some o=>cases o<;>rfl
theorem nU:zy sg (some (.nx ρ))=sg ρ:=rfl
noncomputable def zf(sf sg:SF)(ρ:aA):Option Bool->Option Out
 |some true=>sf ρ
 |some false=>sg ρ
 |none=>none
theorem je:fP tf sf sg ρ=zf sf sg ρ (tf ρ):=by unfold fP zf;cases tf ρ<;>rfl
theorem LC:zf sf sg ρ (some true)=sf ρ:=rfl
theorem Jc:zf sf sg ρ (some false)=sg ρ:=rfl
def P5:Option (D×Tag)->Option Out
 |some (d,t)=>if jR t=true then some (.rt d) else if aC d=true then some (.rt d) else none
 |none=>none
theorem r6:lU fa ρ=P5 (fa ρ):=by unfold lU P5;cases fa ρ<;>rfl
def zY(i:Nat)(ρ:aA):Option (D×Tag)->Option Out
 |some (d,t)=>some (.nx (iw ρ i d t))
 |none=>none
theorem kY:dQ i fa ρ=zY i ρ (fa ρ):=by unfold dQ zY;cases fa ρ<;>rfl
theorem wZ:aJ ρ=some []:=rfl
noncomputable def lH:Option (D×Tag)->Option (List (D×Tag))->Option (List (D×Tag))
 |some p,some ps=>some (p::ps)
 |_,_=>none
theorem aW:ay fa a ρ=lH (fa ρ) (a ρ):=by unfold ay lH;cases fa ρ<;>cases a ρ<;>rfl
theorem BQ{p:D×Tag}{ps:List (D×Tag)}:lH (some p) (some ps)=some (p::ps):=rfl
theorem s_call{F:List D->Option D}:cP F a ρ=(a ρ).bind λps=>(F (ps.map (·.1))).map λd=>(d,.own):=rfl
theorem O9{α β:Type}{f:α->Option β}{a:α}:(some a).bind f=f a:=rfl
theorem ou:kR a ρ=(a ρ).map λps=>(.tup (ps.map (·.1)),jT ps):=rfl
variable{m n:Int}
theorem kH:iU (.int m) (.int n)=some (.int (m+n)):=rfl
theorem pH(h:tu m n=true):xC (.int m) (.int n)=some (.int (m*n)):=by show(if tu m n=true then some (D.int (m*n)) else none)=_;rw[if_pos h]
theorem xX(h:0<n):oMod (.int m) (.int n)=some (.int (m % n)):=by show(if Ij m n=true then some (D.int (m % n)) else none)=_;rw[if_pos (show Ij m n=true from aaN h)]
theorem uS:oLt (.int m) (.int n)=some (.bl (decide (m<n))):=rfl
theorem Ye:oLe (.int m) (.int n)=some (.bl (decide (m<=n))):=rfl
theorem Hi:vn (.int m) (.int n)=some (.bl (decide (n<m))):=rfl
theorem Wz:BV (.int m) (.int n)=some (.bl (decide (n<=m))):=rfl
theorem sY:fN (.lst ds)=some (.int ds.length):=rfl
theorem uI(h:dM ds m=some d)(hi:aC d=true):eK (.lst ds) (.int m)=some d:=by show((dM ds m).bind λd=>if aC d=true then some d else none)=_;rw[h,acR,if_pos hi]
theorem Rr{ds:List D}(h:dM ds m=some d)(hi:aC d=true):eK (.gO ds) (.int m)=some d:=by show((dM ds m).bind λd=>if aC d=true then some d else none)=_;rw[h,acR,if_pos hi]
theorem LU{ds:List D}(h:dM ds m=some d)(hi:aC d=true):eK (.tup ds) (.int m)=some d:=by show((dM ds m).bind λd=>if aC d=true then some d else none)=_;rw[h,acR,if_pos hi]
theorem cz{n N:Nat}{b:SF}{ds:List D}(hl:ds.length=n)(h:b (Ge N ds)=some (.rt d)):bB n N b ds=some d:=by unfold bB;rw[if_pos hl,h]
end
noncomputable def dI(ns:List Int):D:=.gO (ns.map D.int)
theorem NK{ns:List Int}{i:Int}(h0:0<=i)(h1:i<ns.length):dM (ns.map D.int) i=some (.int (ns.getD i.toNat 0)):=by
 unfold dM gJ;have h2:i.toNat<ns.length:=by omega
 rw[List.length_map,if_pos h0,if_pos h1,acR,ab3,aaR h2,ac7,aaR h2];rfl
section
variable{κ:Type}[DecidableEq κ]
noncomputable def aV(es:List (κ×D))(k:κ):Option D:=(es.find? λkv=>decide (kv.1=k)).map (·.2)
noncomputable def putD(es:List (κ×D))(k:κ)(d:D):List (κ×D):=
 if(es.any λkv=>decide (kv.1=k))=true then es.map (λkv=>if kv.1=k then(kv.1,d) else kv) else es++[(k,d)]
theorem qN{K:PySem.W.Frag}{H:Hp}{k:κ}:∀{es:List (κ×D)}{aj:List (κ×V)}{fp:List Addr},es.map (·.1)=aj.map (·.1)->aB K H (es.map (·.2)) (aj.map (·.2)) fp->
  (∀d,aV es k=some d->∃v f,dY aj k=some v/\Rep K H d v f/\∀a∈f,a∈fp)/\(aV es k=none->dY aj k=none)
 |[],[],_,_,_=>⟨λd e=>(nomatch e),λ_=>rfl⟩
 |[],_::_,_,e,_=>by simp at e
 |_::_,[],_,e,_=>by simp at e
 |(q,d0)::es,(q',v0)::aj,fp,e,r=>by
  simp only[aax,ae1] at e;obtain⟨rfl,e⟩:=e;simp only[aax] at r;cases r with
  | @cons _ _ _ _ f1 f2 r1 r2=>
   obtain⟨i1,i2⟩:=qN e r2
   by_cases h:q=k
   .have e1:aV ((q,d0)::es) k=some d0:=by unfold aV;rw[ac9,aaN h];rfl
    refine⟨λd ed=>?_,λen=>?_⟩
    .rw[e1] at ed;cases ed;exact⟨v0,f1,wC h,r1,λa m=>abn _ m⟩
    .rw[e1] at en;cases en
   .have e1:aV ((q,d0)::es) k=aV es k:=by unfold aV;rw[ac9,abN h]
    rw[e1,xy h];exact⟨λd ed=>let⟨v,f,a,b,c⟩:=i1 d ed;⟨v,f,a,b,λx m=>aaM _ (c x m)⟩,i2⟩
theorem wX{es:List (κ×D)}{aj:List (κ×V)}{k:κ}(e:es.map (·.1)=aj.map (·.1)):(putD es k d).map (·.1)=(putK aj k v).map (·.1):=by
 have any:(es.any λkv=>decide (kv.1=k))=aj.any λkv=>decide (kv.1=k):=by
  have h1:(es.any λkv=>decide (kv.1=k))=(es.map (·.1)).any λx=>decide (x=k):=by rw[afv];rfl
  have h2:(aj.any λkv=>decide (kv.1=k))=(aj.map (·.1)).any λx=>decide (x=k):=by rw[afv];rfl
  rw[h1,h2,e]
 have m1:∀l:List (κ×D),(l.map λkv=>if kv.1=k then(kv.1,d) else kv).map (·.1)=l.map (·.1):=λl=>by
  rw[acT];congr 1;funext kv;show(if kv.1=k then(kv.1,d) else kv).1=kv.1;split<;>rfl
 have m2:∀l:List (κ×V),(l.map λkv=>if kv.1=k then(kv.1,v) else kv).map (·.1)=l.map (·.1):=λl=>by
  rw[acT];congr 1;funext kv;show(if kv.1=k then(kv.1,v) else kv).1=kv.1;split<;>rfl
 unfold putD putK;rw[any]
 by_cases h:(aj.any λkv=>decide (kv.1=k))=true
 .rw[if_pos h,if_pos h,m1,m2,e]
 .rw[if_neg h,if_neg h,acZ,acZ,e];rfl
theorem GB{K:PySem.W.Frag}{H:Hp}{k:κ}{d:D}{v:V}{es:List (κ×D)}{aj:List (κ×V)}(e:es.map (·.1)=aj.map (·.1))(r:aB K H (es.map (·.2)) (aj.map (·.2)) [])(rv:Rep K H d v []):
  aB K H ((putD es k d).map (·.2)) ((putK aj k v).map (·.2)) []:=by
 have any:(es.any λkv=>decide (kv.1=k))=aj.any λkv=>decide (kv.1=k):=by
  have h1:(es.any λkv=>decide (kv.1=k))=(es.map (·.1)).any λx=>decide (x=k):=by rw[afv];rfl
  have h2:(aj.any λkv=>decide (kv.1=k))=(aj.map (·.1)).any λx=>decide (x=k):=by rw[afv];rfl
  rw[h1,h2,e]
 have go:∀(es:List (κ×D)) (aj:List (κ×V)),es.map (·.1)=aj.map (·.1)->aB K H (es.map (·.2)) (aj.map (·.2)) []->aB K H ((es.map λkv=>if kv.1=k then(kv.1,d) else kv).map (·.2)) ((aj.map λkv=>if kv.1=k then(kv.1,v) else kv).map (·.2)) []:=by
  intro es
  induction es with
  |nil=>
   intro aj e r;cases aj with
   |nil=>exact .nil
   |cons _ _=>simp at e
  |cons p es ih=>
   intro aj e r;cases aj with
   |nil=>simp at e
   |cons p' aj=>
    obtain⟨q,d0⟩:=p;obtain⟨q',v0⟩:=p';simp only[aax,ae1] at e;obtain⟨rfl,e⟩:=e;simp only[aax] at r ⊢;generalize hf:([]:List Addr)=fp at r;cases r with
    | @cons _ _ _ _ f1 f2 r1 r2=>
     obtain⟨h1,h2⟩:=afm.mp hf.symm;subst h1 h2;have t:=ih aj e r2
     by_cases h:q=k
     .rw[if_pos h,if_pos h];exact aB.cons rv t
     .rw[if_neg h,if_neg h];exact aB.cons r1 t
 unfold putD putK;rw[any]
 by_cases h:(aj.any λkv=>decide (kv.1=k))=true
 .rw[if_pos h,if_pos h];exact go es aj e r
 .rw[if_neg h,if_neg h,acZ,acZ];exact aB.append r (aB.cons rv .nil)
end
noncomputable def iB:D->Option Key
 |.int i=>some (.inl i)
 |.str x=>some (.inr x)
 |_=>none
theorem Rep.key{K:PySem.W.Frag}{H:Hp}{d:D}(r:Rep K H d y fp)(e:iB d=some k):y=L2.kV k:=by
 cases r<;>cases e<;>rfl
def lX:D->D->Option D
 |.bK es,kd=>match iB kd with
  |some k=>(aV es k).bind λd=>if aC d=true then some d else none
  |none=>none
 |_,_=>none
def tDg:R2:=λx y H Q=>∃a v,x=.ref a/\h_ H a y (some v)/\Q v H
theorem aaq{K:PySem.W.Frag}:gC K tDg lX:=by
 intro H x y d1 d2 f1 f2 d Q r1 r2 e k;cases r1 with
 | @bK a aj es fp h hk rs=>
  have e:(match iB d2 with|some k=>(aV es k).bind λd=>if aC d=true then some d else none|none=>none)=some d:=e;cases mD:iB d2 with
  |none=>rw[mD] at e;cases e
  |some key=>
   rw[mD] at e;dsimp only at e;cases hv:aV es key with
   |none=>rw[hv] at e;cases e
   |some d'=>
    rw[hv,acR] at e
    by_cases hi:aC d'=true
    .rw[if_pos hi] at e;cases e;obtain⟨v,f,h1,r,_⟩:=(qN hk rs).1 d hv;have hn:=r.aC hi;subst hn;have ek:=r2.key mD;subst ek;have g:=h_.k (k:=key) h;rw[h1] at g;exact⟨a,v,rfl,g,k H v (aH.refl H) r⟩
    .rw[if_neg hi] at e;cases e
 |_=>cases e
section
variable{X:Cx}{a b c:Expr}{fa fb fc:EF}{pos:Pos}
theorem Ao(hu:X.A.units+1<cLine)(ha:FP X a fa)(hb:FP X b fb)(hs:xW b:=by exact λ_ _=>rfl):FP X (.Subscript a b pos) (e2 lX fa fb):=
 fp_2 aaq ha hb λ_ _ pa pb=>KG hu pa pb hs
def sI(d1 d2 d3:D):Option D:=match d1,iB d2 with
 |.bK es,some k=>match aV es k with
  |some d=>if aC d=true then some d else none
  |none=>if aC d3=true then some d3 else none
 |_,_=>none
noncomputable def e3(op:D->D->D->Option D)(fa fb fc:EF):EF:=λρ=>match fa ρ,fb ρ,fc ρ with
 |some (d1,_),some (d2,_),some (d3,_)=>(op d1 d2 d3).map λd=>(d,.own)
 |_,_,_=>none
theorem Sg{op:D->D->D->Option D}(e:e3 op fa fb fc ρ=some (d,tg)):∃d1 t1 d2 t2 d3 t3,fa ρ=some (d1,t1)/\fb ρ=some (d2,t2)/\fc ρ=some (d3,t3)/\op d1 d2 d3=some d/\tg=.own:=by
 unfold e3 at e;exists h1,fa ρ,p,e,0;cases h2:fb ρ with
 |none=>rw[h1,h2] at e;cases e
 |some q=>
  cases h3:fc ρ with
  |none=>rw[h1,h2,h3] at e;cases e
  |some r=>
   obtain⟨d1,t1⟩:=p;obtain⟨d2,t2⟩:=q;obtain⟨d3,t3⟩:=r;rw[h1,h2,h3] at e;dsimp only at e;exists h4,op d1 d2 d3,d4,e;cases e;exact⟨d1,t1,d2,t2,d3,t3,rfl,rfl,rfl,h4,rfl⟩
theorem LH{apos fZ:Pos}(hu:X.A.units+1<cLine)(ha:FP X a fa)(hb:FP X b fb)(hc:FP X c fc)(m:M2 X a "get" apos b c fZ:=by exact⟨rfl,rfl,rfl,rfl⟩):FP X (.Call (.Attribute a "get" apos) [b,c] [] fZ) (e3 sI fa fb fc):=by
 obtain⟨ta,pa,sa⟩:=ha;obtain⟨tb,pb,sb⟩:=hb;obtain⟨tc,pc,sc⟩:=hc;exists 21,FL hu pa pb pc m;obtain⟨d1,t1,d2,t2,d3,t3,h1,h2,h3,h4,rfl⟩:=Sg e;refine sa ok h1 λH1 x f1 s1 r1 _=>?_
 cases d1 with
 |bK es=>
  cases r1 with
  | @bK p aj _ fp h hk rs=>
   refine⟨p,rfl,.inl ⟨aj,.inl h⟩,?_⟩;refine sb (ok.same s1) h2 λH2 y f2 s2 r2 _=>?_
   refine sc ((ok.same s1).same s2) h3 λH3 w f3 s3 r3 _=>?_
   unfold sI at h4;cases mD:iB d2 with
   |none=>rw[mD] at h4;cases h4
   |some key=>
    rw[mD] at h4;dsimp only at h4;have ek:=r2.key mD;subst ek;have Bf:H3 p=some (.dK aj):=s3 _ _ (s2 _ _ h);have g:=h_.k (k:=key) Bf;refine⟨_,g,?_⟩;have yy:=(s1.trans s2).trans s3;obtain⟨i1,i2⟩:=qN hk ((rs.same s2).same s3);cases hv:aV es key with
    |some d'=>
     rw[hv] at h4;dsimp only at h4
     by_cases hi:aC d'=true
     .rw[if_pos hi] at h4;cases h4;obtain⟨v,f,e1,r,_⟩:=i1 d hv;have hn:=r.aC hi;subst hn;rw[e1];exact k H3 v [] yy r .nil
     .rw[if_neg hi] at h4;cases h4
    |none=>
     rw[hv] at h4;dsimp only at h4
     by_cases hi:aC d3=true
     .rw[if_pos hi] at h4;cases h4;rw[i2 hv];have hn:=r3.aC hi;subst hn;exact k H3 w [] yy r3 .nil
     .rw[if_neg hi] at h4;cases h4
 |_=>cases h4
theorem C9:FP X (.Dict [] [] pos) (eC (.bK [])):=by
 refine⟨_,adW,@λH0 S z aq ρ σ H Q d tg ok e k p hp=>?_⟩;cases e;have s2:aH H (upd H p (.dK [])):=λb o e=>by rw[aL (cT e hp)];exact e
 exact k _ _ [p] s2 (.bK bQ rfl .nil) ⟨abv.mpr ⟨(λm=>by cases m),ace⟩,λa m=>by cases aa1.mp m;exact hp⟩
end
noncomputable def bG(i:Nat):Slot->Slot
 |some (d,.sh o)=>if o.contains i=true then none else some (d,.sh o)
 |s=>s
def bP(ρ:aA)(i:Nat)(d:D):aA:=(ρ.map (bG i)).set i (some (d,.own))
theorem DE(e:bG i s=some (d,t)):s=some (d,t)/\∀o,t=.sh o->i∉o:=by
 cases s with
 |none=>cases e
 |some w=>
  obtain⟨d',t'⟩:=w;cases t' with
  |sh o=>
   have e:(if o.contains i=true then none else some (d',Tag.sh o))=some (d,t):=e
   split at e
   .cases e
   .rename_i hc;cases e;exact⟨rfl,λo' eo m=>by cases eo;exact hc (ad3.mpr m)⟩
  |own=>cases e;exact⟨rfl,λo eo=>by cases eo⟩
  |lk=>cases e;exact⟨rfl,λo eo=>by cases eo⟩
theorem Dy(hj:j≠i)(e:(bP ρ i d1)[j]? = some (some (d,t))):ρ[j]? = some (some (d,t))/\(P\/∀o,t=.sh o->i∉o):=by
 unfold bP at e;rw[acM (aeV hj),ab3] at e;obtain⟨s,e0,e⟩:=ab9.mp e;obtain⟨rfl,n⟩:=DE e;exact⟨e0,.inr n⟩
theorem Cp(h:ρ[i]? = some d0):(bP ρ i d1)[i]? = some (some (d1,.own)):=aeo (by rw[List.length_map];exact(abh.mp h).1)
theorem BO:(bP ρ i d1).length=ρ.length:=by unfold bP;rw[afu,List.length_map]
theorem Ok.put{K:PySem.W.Frag}{H0:Hp}{S:List Addr}{z:Addr->Option Nat}{aq:List b7}{ρ:aA}(ok:Ok K H0 S z aq ρ σ H)(h:ρ[i]? = some (some (d0,.own)))
  (hs:σ[i]? = some (some v)) (zz:uz z i .own bq) (im:aT H H') (keep:∀b o,b∉bq->H b=some o->H' b=some o) (r1:Rep K H' d1 v bU) (nd:bU.Nodup) (fr:∀b∈bU,b∈bq\/H b=none):∃z',Ok K H0 S z' aq (bP ρ i d1) σ H':=
 ⟨_,ok.chg (Cp h) hs zz.2 im keep r1 ⟨nd,λa m=>if_pos m⟩ (DL zz.2) (λa m=>⟨fr a m,let⟨o,w,_⟩:=r1.cG a m;⟨o,w⟩⟩) Dy (λ_ _=>rfl) (.inr λn=>n _ h) (BO.trans ok.ln)⟩
theorem Ok.x_{K:PySem.W.Frag}{o o':HO}(ok:Ok K H0 S z aq ρ σ H)(h:ρ[i]? = some (some (d0,.own)))
  (hs:σ[i]? = some (some v)) (zz:uz z i .own fp) (hp:p∈fp) (ho:H p=some o) (mo:iS o=true) (r1:Rep K (upd H p o') d1 v fp):Ok K H0 S z aq (bP ρ i d1) σ (upd H p o'):=
 ok.chg (Cp h) hs zz.2 (aT.upd ho mo) (λb o n e=>by rw[aL λq:b=p=>n (q ▸ hp)];exact e) r1 zz (λa n=>.inr ⟨rfl,n,λ_ n=>n _ h⟩) (λa m=>⟨.inl m,let⟨o,w,_⟩:=r1.cG a m;⟨o,w⟩⟩) Dy (λ_ _=>rfl) (.inr λn=>n _ h) (BO.trans ok.ln)
section
variable{X:Cx}{pos:Pos}
def qz(i:Nat)(fk fv:EF):SF:=λρ=>match fv ρ,ρ[i]?,fk ρ with
 |some (d,_),some (some (.bK es,.own)),some (kd,_)=>match iB kd with
  |some k=>if(aC d&&aN (es.map (·.2))&&decide (es.length<sizeLine))=true then some (.nx (bP ρ i (.bK (putD es k d)))) else none
  |none=>none
 |_,_,_=>none
theorem zo(i:Nat){x:Str}{k v:Expr}{fk fv:EF}{p1 pos':Pos}(hu:X.A.units+1<cLine)(hk:FP X k fk)(hv:FP X v fv)(va:VA X i x:=by walk_at "va")(hs:swapsWith v (some (.Subscript (.Name x p1) k pos')) pos.line X.env=pure false:=by rfl):
  fM X (.Assign [.Subscript (.Name x p1) k pos'] v pos) (qz i fk fv):=by
 obtain⟨tk,pk,sk⟩:=hk;obtain⟨tv,jm,sv⟩:=hv;exists 25,A8 hu va.pe pk jm hs;unfold qz at e
 split at e
 .rename_i d td es kd Lm h1 h2 h3;cases h4:iB kd with
  |none=>rw[h4] at e;cases e
  |some key=>
   rw[h4] at e;dsimp only at e
   by_cases hc:(aC d&&aN (es.map (·.2))&&decide (es.length<sizeLine))=true
   .rw[if_pos hc] at e;cases e;obtain⟨Cm,RX⟩:=(aaY _ _).mp hc;obtain⟨Cm,Ir⟩:=(aaY _ _).mp Cm;have hz:=aaP RX;refine sv ok h1 λH1 v sL s1 rv _=>?_
    obtain⟨xv,fp,b8,r,zz⟩:=(ok.same s1).sl i _ _ h2;refine⟨xv,b8,?_⟩;refine sk (ok.same s1) h3 λH2 y Bp s2 rk _=>?_
    have ek:=rk.key h4;subst ek;have r':=r.same s2;cases r' with
    | @bK a aj _ f h fG rs=>
     have hn:=rs.aC Ir;subst hn;have vQ:=rv.aC Cm;subst vQ;have hl:aj.length=es.length:=by have:=congrArg List.length fG;simpa using this.symm
     refine⟨a,_,rfl,oK.k h (by rw[hl];exact hz),?_⟩;have im:aT H2 (upd H2 a (.dK (putK aj key v))):=aT.upd h rfl;refine q z σ _ (Ok.x_ ((ok.same s1).same s2) h2 b8 zz aar h rfl (.bK bQ (wX fG) ?_)) (.refl _ _);exact GB fG (rs.frame (λa m=>nomatch m) im) ((rv.same s2).frame (λa m=>nomatch m) im)
   .rw[if_neg hc] at e;cases e
 .cases e
end
noncomputable def uK(x:Int):List Int->List Int
 |[]=>[x]
 |y::r=>if x<=y then x::y::r else y::uK x r
def cB:List Int->List Int
 |[]=>[]
 |x::r=>uK x (cB r)
theorem Hs(x:Int):∀l:List Int,(uK x l).Perm (x::l)
 |[]=>.refl _
 |y::r=>by
  unfold uK
  split
  .exact .refl _
  .exact((Hs x r).cons y).trans (.swap x y r)
theorem qK:∀l:List Int,(cB l).Perm l
 |[]=>.refl _
 |x::r=>(Hs x (cB r)).trans ((qK r).cons x)
theorem L0(x:Int):∀{l:List Int},l.Pairwise (·<=·)->(uK x l).Pairwise (·<=·)
 |[],_=>List.pairwise_singleton _ _
 |y::r,h=>by
  obtain⟨h1,h2⟩:=adp.mp h;unfold uK
  split
  .rename_i hx;exact adp.mpr ⟨λz m=>(aa3.mp m).elim (λe=>e ▸ hx) λm=>afS hx (h1 z m),h⟩
  .rename_i hx;refine adp.mpr ⟨λz m=>?_,L0 x h2⟩;rcases aa3.mp ((Hs x r).mem_iff.mp m) with e|m
   .rw[e];lia
   .exact h1 z m
theorem z9:∀l:List Int,(cB l).Pairwise (·<=·)
 |[]=>.nil
 |x::r=>L0 x (z9 r)
theorem HG(p:a.Perm b)(s:a.Pairwise (·<=·)):a=cB b:=by
 have q:=p.trans (qK b).symm;exact q.eq_of_pairwise (λx y _ _ h1 h2=>Int.le_antisymm h1 h2) s (z9 b)
theorem uJ(l:List Int):(cB l).length=l.length:=(qK l).length_eq
noncomputable def eE:List D->Option (List Int)
 |[]=>some []
 |.int i::r=>(eE r).map (i::·)
 |_=>none
noncomputable def iZ{α:Type}:List (Key×α)->Option (List Int)
 |[]=>some []
 |(.inl i,_)::r=>(iZ r).map (i::·)
 |_=>none
theorem tM{K:PySem.W.Frag}:∀{ds:List D}{xs:List V}{fp:List Addr}{ns:List Int},aB K H ds xs fp->eE ds=some ns->xs=ns.map V.int
 |_,_,_,ns,.nil,e=>by cases e;rfl
 |_,_,_,ns,.cons (d:=d) h t,e=>by
  cases d with
  |int i=>
   unfold eE at e;exists q,eE _,r,e;cases e;cases h;rw[tM t q];rfl
  |_=>cases e
theorem ux(ns:List Int):eE (ns.map D.int)=some ns:=by
 induction ns with
 |nil=>rfl
 |cons n r ih=>rw[aax];unfold eE;rw[ih];rfl
theorem Mb{α:Type}:∀{es:List (Key×α)}{ks:List Int},iZ es=some ks->es.map (·.1)=ks.map Sum.inl
 |[],ks,e=>by cases e;rfl
 |(.inl i,_)::r,ks,e=>by
  unfold iZ at e;exists q,iZ r,l,e;cases e;rw[aax,Mb q];rfl
 |(.inr _,_)::_,_,e=>by cases e
def lV:D->Option D
 |.lst ds=>match eE ds with
  |some ns=>if ns.length<64 then some (.lst ((cB ns).map D.int)) else none
  |none=>none
 |.bK es=>match iZ es with
  |some ns=>if ns.length<64 then some (.lst ((cB ns).map D.int)) else none
  |none=>none
 |_=>none
theorem yq{K:PySem.W.Frag}{H:Hp}:∀ns:List Int,aB K H (ns.map D.int) (ns.map V.int) []
 |[]=>.nil
 |n::r=>aB.cons (.int n) (yq r)
theorem ZR{K:PySem.W.Frag}:lF K (Kf K) lV:=by
 intro H x d1 f1 d Q r e k;have fin:∀(ns:List Int),(if ns.length<64 then some (D.lst ((cB ns).map D.int)) else none)=some d->ns.length<64/\∀l (nR:List Int),H l=none->nR.Perm ns->nR.Pairwise (·<=·)->Q (.ref l) (upd H l (.lst (nR.map V.int))):=λns e=>by
  by_cases h:ns.length<64
  .rw[if_pos h] at e;cases e;refine⟨h,λl nR hl p s=>?_⟩;have eq:=HG p s;subst eq;have s2:aH H (upd H l (.lst ((cB ns).map V.int))):=λb o e=>by rw[aL (cT e hl)];exact e
   exact k _ _ [l] s2 (.lst bQ (yq _)) (abv.mpr ⟨(λm=>by cases m),ace⟩) λa m=>by cases aa1.mp m;exact hl
  .rw[if_neg h] at e;cases e
 cases d1 with
 |lst ds=>
  obtain⟨a,xs,f,rfl,hq,rs,_⟩:=r.d9;have e:(match eE ds with|some ns=>if ns.length<64 then some (D.lst ((cB ns).map D.int)) else none|none=>none)=some d:=e;cases h:eE ds with
  |none=>rw[h] at e;cases e
  |some ns=>
   rw[h] at e;obtain⟨h1,h2⟩:=fin ns e;have ex:=tM rs h;subst ex;exact⟨a,ns,rfl,h1,.inr hq,h2⟩
 |bK es=>
  cases r with
  | @bK a aj _ fp h hk rs=>
   have e:(match iZ es with|some ns=>if ns.length<64 then some (D.lst ((cB ns).map D.int)) else none|none=>none)=some d:=e;cases h':iZ es with
   |none=>rw[h'] at e;cases e
   |some ns=>
    rw[h'] at e;obtain⟨h1,h2⟩:=fin ns e;exact⟨a,ns,rfl,h1,.inl ⟨aj,h,by rw[<- hk];exact Mb h'⟩,h2⟩
 |_=>cases e
def jK:List D->Option (List (Key×D))
 |[]=>some []
 |.tup [kd,d]::r=>match iB kd,jK r with
  |some k,some ps=>if aC d=true then some ((k,d)::ps) else none
  |_,_=>none
 |_=>none
def BS:D->Option D
 |.lst ds=>(jK ds).map λps=>.bK (ps.foldl (λm p=>putD m p.1 p.2) [])
 |.tup ds=>(jK ds).map λps=>.bK (ps.foldl (λm p=>putD m p.1 p.2) [])
 |.bK es=>if aN (es.map (·.2))=true then some (.bK es) else none
 |_=>none
theorem abt:bootBuiltins "min"=some (.builtin "min"):=by decide +kernel
theorem Yi:bootBuiltins "sorted"=some (.builtin "sorted"):=by decide +kernel
section
variable{X:Cx}{a b:Expr}{fa fb:EF}{pos:Pos}
theorem A5{p:Pos}(hc:X.calm=true)(hm:X.mg "sorted"=none)(ha:FP X a fa)(hg:Gl X "sorted":=by rfl)(hs:starEach [a] X.env=[(false,eval a X.env)]:=by rfl):FP X (.Call (.Name "sorted" p) [a] [] pos) (e1 lV fa):=
 fp_1 ZR ha λta pa=>pK (acE hc) hg hm Yi (dW pa fH hs) (he:=hs)
def yJ:D->D->Option D:=vH λi j=>if j<i then j else i
noncomputable def kc:List Int->Int
 |[]=>0
 |[x]=>x
 |x::r=>if x<=kc r then x else kc r
theorem IC:∀{l:List Int},l≠[]->kc l∈l/\∀x∈l,kc l<=x
 |[x],_=>⟨aar,λy m=>by rw[aa1.mp m];exact Int.le_refl _⟩
 |x::y::r,_=>by
  obtain⟨h1,h2⟩:=IC (l:=y::r) (by simp);show(if x<=kc (y::r) then x else kc (y::r))∈_/\∀z∈_,(if x<=kc (y::r) then x else kc (y::r))<=z
  by_cases h:x<=kc (y::r)
  .rw[if_pos h];exact⟨aar,λz m=>(aa3.mp m).elim (λe=>by rw[e];exact Int.le_refl _) λm=>afS h (h2 z m)⟩
  .rw[if_neg h];exact⟨aaa _ h1,λz m=>(aa3.mp m).elim (λe=>by rw[e];lia) λm=>h2 z m⟩
def acA:D->D->Option D
 |.lst ds,z=>match eE ds with
  |some []=>if aC z=true then some z else none
  |some (n::r)=>some (.int (kc (n::r)))
  |none=>none
 |_,_=>none
theorem LM{p:Pos}(hc:X.calm=true)(hm:X.mg "min"=none)(ha:FP X a fa)(hb:FP X b fb)(hg:Gl X "min":=by rfl)(hs:starEach [a,b] X.env=[(false,eval a X.env),(false,eval b X.env)]:=by rfl)(d8:starEach [b] X.env=[(false,eval b X.env)]:=by rfl)(hpl:(backTo pos (starEach [b] X.env)).any (·.1)=false:=by rfl):
  FP X (.Call (.Name "min" p) [a,b] [] pos) (e2 yJ fa fb):=by
 obtain⟨ta,pa,sa⟩:=ha;obtain⟨tb,pb,sb⟩:=hb;exists 21,pK (Zq hc) hg hm abt (dW pa (dW pb fH d8) (by rw[hs,d8])) (he:=by rw[hs,d8]) (hpl:=hpl);obtain⟨d1,t1,d2,t2,h1,h2,h3,rfl⟩:=qE e;refine sa ok h1 λH1 x f1 s1 r1 _=>?_
 refine sb (ok.same s1) h2 λH2 y f2 s2 r2 _=>?_
 unfold yJ vH at h3
 split at h3
 .cases h3;exact⟨_,_,by rw[r1.i_.1,r2.i_.1],k H2 _ [] (s1.trans s2) (.int _) .nil⟩
 .cases h3
theorem Rt(hc:X.calm=true)(hm:X.mg "min"=none)(ha:FP X a fa)(hb:FP X b fb)(hg:Gl X "min":=by rfl)(hs:starEach [a] X.env=[(false,eval a X.env)]:=by rfl)
  (h1:backTo pos (starEach [a] X.env)=(false,eval a X.env)::backTo pos (starEach [] X.env):=by rfl) (h2:(backTo pos (starEach [a] X.env)).any (·.1)=false:=by rfl)
  (h3:(backToKw pos (keywordEach [⟨some "default",b,kp⟩] X.env)).all (·.1.isSome)=true:=by rfl) (h4:(backToKw pos (keywordEach [⟨some "default",b,kp⟩] X.env)).any (·.1.isNone)=false:=by rfl)
  (h5:(backToKw pos (keywordEach [⟨some "default",b,kp⟩] X.env)).filterMap (·.1)=[("default":Str)]:=by rfl) :
  FP X (.Call (.Name "min" p) [a] [⟨some "default",b,kp⟩] pos) (e2 acA fa fb):=by
 obtain⟨ta,pa,sa⟩:=ha;obtain⟨tb,pb,sb⟩:=hb;exists 21,adP hc hm pa pb hg hs h1 h2 h3 h4 h5;obtain⟨d1,t1,d2,t2,g1,g2,g3,rfl⟩:=qE e;refine sa ok g1 λH1 x f1 s1 r1 _=>?_
 refine sb (ok.same s1) g2 λH2 y f2 s2 r2 _=>?_
 cases d1 with
 |lst ds=>
  obtain⟨l,xs,f,rfl,hq,rs,_⟩:=(r1.same s2).d9;have g3:(match eE ds with|some []=>if aC d2=true then some d2 else none|some (n::r)=>some (.int (kc (n::r)))|none=>none)=some d:=g3;cases h:eE ds with
  |none=>rw[h] at g3;cases g3
  |some ns=>
   rw[h] at g3;have ex:=tM rs h;subst ex;refine⟨l,ns,rfl,hq,?_⟩;cases ns with
   |nil=>
    have g3:=g3
    by_cases hi:aC d2=true
    .rw[if_pos hi] at g3;cases g3;have hn:=r2.aC hi;subst hn;exact .inl ⟨rfl,k H2 y [] (s1.trans s2) r2 .nil⟩
    .rw[if_neg hi] at g3;cases g3
   |cons n r=>
    cases g3;refine .inr ⟨by simp,λm oH vM=>?_⟩;obtain⟨q1,q2⟩:=IC (l:=n::r) (by simp);have em:=Int.le_antisymm (vM _ q1) (q2 m oH);rw[em];exact k H2 _ [] (s1.trans s2) (.int _) .nil
 |_=>cases g3
end
theorem LK{K:PySem.W.Frag}{H:Hp}:∀{ds:List D}{xs:List V}{fp:List Addr}{ps:List (Key×D)},aB K H ds xs fp->jK ds=some ps->
  ∃qs:List (Key×V),Paired (λy (q:Key×V)=>∃a,y=.ref a/\cg K H a [L2.kV q.1,q.2]) xs qs/\ps.map (·.1)=qs.map (·.1)/\aB K H (ps.map (·.2)) (qs.map (·.2)) []
 |_,_,_,ps,.nil,e=>by cases e;exact⟨[],.nil,rfl,.nil⟩
 |_,_,_,ps,.cons (d:=d) (ds:=dr) h t,e=>by
  unfold jK at e
  split at e
  .rename_i heq;cases heq
  .rename_i kd d' r heq;cases heq;cases h1:iB kd with
   |none=>rw[h1] at e;cases e
   |some k=>
    cases h2:jK dr with
    |none=>rw[h1,h2] at e;cases e
    |some pr=>
     rw[h1,h2] at e;dsimp only at e
     by_cases hi:aC d'=true
     .rw[if_pos hi] at e;cases e;obtain⟨qs,a1,a2,a3⟩:=LK t h2;obtain⟨a,ys,rfl,hq,rs⟩:=h.iX;cases rs with
      |cons rk rs=>
       cases rs with
       |cons rv rs=>
        cases rs with
        |nil=>
         have ek:=rk.key h1;subst ek;have hn:=rv.aC hi;subst hn;exact⟨(k,_)::qs,.cons ⟨a,rfl,hq⟩ a1,by rw[aax,aax,a2],aB.cons rv a3⟩
     .rw[if_neg hi] at e;cases e
  .cases e
theorem Od{K:PySem.W.Frag}:∀{ps:List (Key×D)}{qs:List (Key×V)}{es:List (Key×D)}{aj:List (Key×V)},ps.map (·.1)=qs.map (·.1)->aB K H (ps.map (·.2)) (qs.map (·.2)) []->es.map (·.1)=aj.map (·.1)->aB K H (es.map (·.2)) (aj.map (·.2)) []->
  (ps.foldl (λm p=>putD m p.1 p.2) es).map (·.1)=(qs.foldl (λm q=>putK m q.1 q.2) aj).map (·.1)/\aB K H ((ps.foldl (λm p=>putD m p.1 p.2) es).map (·.2)) ((qs.foldl (λm q=>putK m q.1 q.2) aj).map (·.2)) []
 |[],[],_,_,_,_,h1,h2=>⟨h1,h2⟩
 |[],_::_,_,_,e,_,_,_=>by simp at e
 |_::_,[],_,_,e,_,_,_=>by simp at e
 |(k,d)::ps,(k',v)::qs,es,aj,e,r,h1,h2=>by
  simp only[aax,ae1] at e;obtain⟨rfl,e⟩:=e;simp only[aax] at r;generalize hf:([]:List Addr)=fp at r;cases r with
  | @cons _ _ _ _ f1 f2 r1 r2=>
   obtain⟨z1,z2⟩:=afm.mp hf.symm;subst z1 z2;rw[aeh,aeh];exact Od e r2 (wX h1) (GB h1 h2 r1)
theorem Zr{K:PySem.W.Frag}:lF K (λxs H Q=>E5 K xs H Q\/∃a aj,xs=[V.ref a]/\H a=some (.dK aj)/\∀l,H l=none->Q (.ref l) (upd H l (.dK aj))) BS:=by
 intro H x d1 f1 d Q r e k;have fresh:∀{o:HO}{l:Addr},H l=none->aH H (upd H l o):=λhl b o e=>by rw[aL (cT e hl)];exact e
 have M_:∀l:Addr,([l]:List Addr).Nodup:=λl=>abv.mpr ⟨(λm=>by cases m),ace⟩
 have seq:∀{ds:List D}{xs:List V}{f:List Addr}{p:Addr},aB K H ds xs f->(bY K H p xs\/cg K H p xs)->((jK ds).map λps=>D.bK (ps.foldl (λm p=>putD m p.1 p.2) []))=some d->E5 K [.ref p] H Q:=λ{ds xs f p} rs hq e=>by
  exists h,jK ds,ps,e;cases e;obtain⟨qs,a1,a2,a3⟩:=LK rs h;refine⟨p,xs,qs,rfl,hq,a1,λl hl=>?_⟩;obtain⟨b1,b2⟩:=Od (es:=[]) (aj:=[]) a2 a3 rfl .nil;exact k _ _ [l] (fresh hl) (.bK bQ b1 (b2.same (fresh hl))) (M_ l) λa m=>by cases aa1.mp m;exact hl
 cases d1 with
 |lst ds=>
  obtain⟨a,xs,f,rfl,hq,rs,_⟩:=r.d9;exact .inl (seq rs (.inl hq) e)
 |tup ds=>
  obtain⟨a,xs,rfl,hq,rs⟩:=r.iX;exact .inl (seq rs (.inr hq) e)
 |bK es=>
  cases r with
  | @bK a aj _ fp h hk rs=>
   have e:(if aN (es.map (·.2))=true then some (D.bK es) else none)=some d:=e;obtain⟨hi,e⟩:=ci e;cases e;have hn:=rs.aC hi;subst hn;exact .inr ⟨a,aj,rfl,h,λl hl=>k _ _ [l] (fresh hl) (.bK bQ hk (rs.same (fresh hl))) (M_ l) λa m=>by cases aa1.mp m;exact hl⟩
 |_=>cases e
section
variable{X:Cx}{a b:Expr}{fa fb:EF}{pos:Pos}
theorem acF:gu X (.type "dict") (λxs H Q=>∃a aj,xs=[V.ref a]/\H a=some (.dK aj)/\∀l,H l=none->Q (.ref l) (upd H l (.dK aj))):=by
 intro af s σ H xs us Q I r h;obtain⟨a,aj,rfl,ha,q⟩:=h;obtain⟨u,rfl,ru⟩:=vals1 r;cases ru;exact UE I (.inl ha) λp s' hp I'=>⟨.ref p,_,I',rfl,q p hp⟩
theorem zR{p:Pos}(hc:X.calm=true)(hm:X.mg "dict"=none)(ha:FP X a fa)(hg:Gl X "dict":=by rfl)(hs:starEach [a] X.env=[(false,eval a X.env)]:=by rfl):FP X (.Call (.Name "dict" p) [a] [] pos) (e1 BS fa):=
 fp_1 Zr ha λta pa=>z7 (gu.or' (VE hc) acF) hg hm (show bootBuiltins "dict"=some (.type "dict") by decide +kernel) (dW pa fH hs) (he:=hs)
def uu:D->Option D
 |.lst ds=>if aN ds=true then some (.tup ds) else none
 |.tup ds=>if aN ds=true then some (.tup ds) else none
 |_=>none
theorem ZK:lF X.K (λxs H Q=>∃p ys,xs=[V.ref p]/\((bY X.K H p ys/\∀l,H l=none->Q (.ref l) (upd H l (.tup ys)))\/(cg X.K H p ys/\Q (.ref p) H))) uu:=by
 intro H x d1 f1 d Q r e k;cases d1 with
 |lst ds=>
  obtain⟨a,xs,f,rfl,hq,rs,_⟩:=r.d9;have e:(if aN ds=true then some (D.tup ds) else none)=some d:=e;obtain⟨hi,e⟩:=ci e;cases e;have hn:=rs.aC hi;subst hn;refine⟨a,xs,rfl,.inl ⟨hq,λl hl=>?_⟩⟩;have s2:aH H (upd H l (.tup xs)):=λb o e=>by rw[aL (cT e hl)];exact e
  exact k _ _ [] s2 (.tup (cg.of bQ) (rs.same s2)) ace λa m=>nomatch m
 |tup ds=>
  obtain⟨a,xs,rfl,hq,rs⟩:=r.iX;have e:(if aN ds=true then some (D.tup ds) else none)=some d:=e;obtain⟨hi,e⟩:=ci e;cases e;have hn:=rs.aC hi;subst hn;exact⟨a,xs,rfl,.inr ⟨hq,k H _ [] (aH.refl H) (.tup hq rs) ace λa m=>nomatch m⟩⟩
 |_=>cases e
theorem uc{p:Pos}(hm:X.mg "tuple"=none)(ha:FP X a fa)(hg:Gl X "tuple":=by rfl)(hs:starEach [a] X.env=[(false,eval a X.env)]:=by rfl):FP X (.Call (.Name "tuple" p) [a] [] pos) (e1 uu fa):=
 fp_1 ZK ha λta pa=>z7 V0 hg hm (show bootBuiltins "tuple"=some (.type "tuple") by decide +kernel) (dW pa fH hs) (he:=hs)
end
mutual
noncomputable def dep:D->Nat
 |.tup a=>Il a+1
 |.lst a=>Il a+1
 |_=>0
noncomputable def Il:List D->Nat
 |[]=>0
 |x::xs=>max (dep x) (Il xs)
end
section
variable{X:Cx}{af:List (Addr×Obj)}{σ:St}{H:Hp}{s:Shared}
def wH(N:List Str)(uh sc:Scope)(M:List Str)(js:List (Option Nat)):Bool:=
 (sc.kind == .function)&&sc.names.all (λy=>y.2 != .cell)&&sc.names.all (λy=>if y.2 == .local then sc.names.lookup y.1==some .local else true)&&oZ N sc M js&&(frees sc).all (λx=>uh.names.lookup x==some .cell||uh.names.lookup x==some .free)&&decide M.Nodup
theorem RU(h1:X.N=N)(h2:X.env.scope=uh)(h3:X.env.kindOf=λx=>uh.names.lookup x)(h:wH N uh sc M js=true):l9 X M js sc:=by
 unfold wH at h;obtain⟨h,a6⟩:=(aaY _ _).mp h;obtain⟨h,a5⟩:=(aaY _ _).mp h;obtain⟨h,a4⟩:=(aaY _ _).mp h;obtain⟨h,a3⟩:=(aaY _ _).mp h;obtain⟨a1,a2⟩:=(aaY _ _).mp h;refine⟨?_,λy hy=>?_,λy hy hl=>?_,?_,λx hx=>?_,aaP a6⟩
 .cases hk:sc.kind<;>rw[hk] at a1<;>first|rfl|exact absurd a1 (by decide)
 .have:=ac4.mp a2 y hy;intro z;rw[z] at this;exact absurd this (by decide)
 .have:=ac4.mp a3 y hy;rw[hl] at this;have this:=this;cases q:sc.names.lookup y.1 with
  |none=>rw[q] at this;exact absurd this (by decide)
  |some k=>rw[q] at this;cases k<;>first|rfl|exact absurd this (by decide)
 .rw[h1];exact a4
 .have:=ac4.mp a5 x hx;rw[h3];dsimp only;cases q:uh.names.lookup x with
  |none=>rw[q] at this;exact absurd this (by decide)
  |some k=>rw[q] at this;cases k<;>first|exact .inl rfl|exact .inr rfl|exact absurd this (by decide)
end
section
variable{X:Cx}{pos:Pos}
def zA(i:Nat)(fk fv:EF):SF:=λρ=>match fv ρ,ρ[i]?,fk ρ with
 |some (d,_),some (some (.lst ds,.own)),some (.int k,_)=>match gJ ds.length k with
  |some j=>if(aC d&&aN ds)=true then some (.nx (bP ρ i (.lst (ds.set j d)))) else none
  |none=>none
 |_,_,_=>none
theorem aB.Eu{K:PySem.W.Frag}{H:Hp}{d:D}{v:V}(rv:Rep K H d v []):∀{ds:List D}{xs:List V}{j:Nat},aB K H ds xs []->aB K H (ds.set j d) (xs.set j v) []
 |[],_,_,r=>by cases r;exact .nil
 |x::ds,xs,j,r=>by
  generalize hf:([]:List Addr)=fp at r;cases r with
  | @cons _ _ _ _ f1 f2 r1 r2=>
   obtain⟨z1,z2⟩:=afm.mp hf.symm;subst z1 z2;cases j with
   |zero=>exact aB.cons rv r2
   |succ j=>exact aB.cons r1 (aB.Eu rv r2)
theorem zg(i:Nat){x:Str}{k v:Expr}{fk fv:EF}{p1 pos':Pos}(hk:FP X k fk)(hv:FP X v fv)(va:VA X i x:=by walk_at "va")
  (ha:∀w,assign (.Subscript (.Name x p1) k pos') X.env w=(do
   let ov <- holding [w] (eval (.Name x p1) X.env)
   let iv <- holding [w,ov] (eval k X.env)
   standAt pos'
   holding [w,ov,iv] (setItem ov iv w)
   release [w,ov,iv] []):=by intro _;rfl)
  (hs:swapsWithSole [.Subscript (.Name x p1) k pos'] v pos.line X.env=pure false:=by rfl) (hw:swappedStores [.Subscript (.Name x p1) k pos'] v X.env=pure none:=by rfl) (h1:(assignEach [.Subscript (.Name x p1) k pos'] X.env).map (·.2)=[assign (.Subscript (.Name x p1) k pos') X.env]:=by rfl) :
  fM X (.Assign [.Subscript (.Name x p1) k pos'] v pos) (zA i fk fv):=by
 obtain⟨tk,pk,sk⟩:=hk;obtain⟨tv,jm,sv⟩:=hv;exists 25,Jd jm (Jk va.pe pk set_list ha) hs hw h1;unfold zA at e
 split at e
 .rename_i d td ds kk WE g1 g2 g3;cases hj:gJ ds.length kk with
  |none=>rw[hj] at e;cases e
  |some j=>
   rw[hj] at e;dsimp only at e
   by_cases hc:(aC d&&aN ds)=true
   .rw[if_pos hc] at e;cases e;obtain⟨c1,c2⟩:=(aaY _ _).mp hc;refine sv ok g1 λH1 v sL s1 rv _=>?_
    obtain⟨xv,fp,b8,r,zz⟩:=(ok.same s1).sl i _ _ g2;refine⟨xv,b8,?_⟩;refine sk (ok.same s1) g3 λH2 y Bp s2 rk _=>?_
    cases rk;have r':=r.same s2;have jB:=(ok.same s1).same s2;cases r' with
    | @lst a xs _ f h rs=>
     have hn:=rs.aC c2;subst hn;have vQ:=rv.aC c1;subst vQ;refine⟨a,xs,kk,j,rfl,rfl,h,by rw[<- rs.length];exact hj,?_⟩;have im:aT H2 (upd H2 a (.lst (xs.set j v))):=aT.upd h rfl;refine q z σ _ (Ok.x_ jB g2 b8 zz aar h rfl (.lst bQ ?_)) (.refl _ _);exact aB.Eu ((rv.same s2).frame (λa m=>nomatch m) im) (rs.frame (λa m=>nomatch m) im)
   .rw[if_neg hc] at e;cases e
 .cases e
end
end L2.Ev
namespace L2.Ev
open PySem PySem.Spec PyProof.Rows
theorem cN.back(g:cN z H1 t fp)(s:aH H H1):cN z H t fp:=by
 cases t with
 |sh o=>exact g
 |own=>exact⟨g.1,λa m=>s.free (g.2 a m)⟩
 |lk=>exact⟨g.1,λa m=>s.free (g.2 a m)⟩
section
variable{X:Cx}{a b:Expr}{fa fb:EF}{pos:Pos}
noncomputable def xV(fa fb:EF):EF:=λρ=>match fa ρ with
 |some (.bl true,_)=>fb ρ
 |some (.bl false,_)=>some (.bl false,.own)
 |_=>none
noncomputable def OI(fa fb:EF):EF:=λρ=>match fa ρ with
 |some (.bl true,_)=>some (.bl true,.own)
 |some (.bl false,_)=>fb ρ
 |_=>none
noncomputable def T4:D->Option D
 |.bl b=>some (.bl (!b))
 |_=>none
theorem sV{op}(h:FP X a fa):FP X (.BoolOp op [a] pos) fa:=let⟨t,p,q⟩:=h;⟨t,OB p,q⟩
theorem qM{rest:List Expr}(ha:FP X a fa)(hb:FP X (.BoolOp .And (b::rest) pos) fb):FP X (.BoolOp .And (a::b::rest) pos) (xV fa fb):=by
 obtain⟨t,p,q⟩:=ha;obtain⟨t',p',q'⟩:=hb;exists 21,Tw p p';unfold xV at e
 split at e
 .rename_i tt h;refine q ok h λH1 v fp s1 r1 _=>?_
  cases r1;refine⟨true,rfl,?_⟩;rw[if_pos rfl];exact q' (ok.same s1) e λH2 v fp s2 r2 g2=>k H2 v fp (s1.trans s2) r2 (g2.back s1)
 .rename_i tt h;cases e;refine q ok h λH1 v fp s1 r1 _=>?_
  cases r1;refine⟨false,rfl,?_⟩;rw[if_neg aa6];exact k H1 _ [] s1 (.bl _) .nil
 .cases e
theorem Vy{rest:List Expr}(ha:FP X a fa)(hb:FP X (.BoolOp .Or (b::rest) pos) fb):FP X (.BoolOp .Or (a::b::rest) pos) (OI fa fb):=by
 obtain⟨t,p,q⟩:=ha;obtain⟨t',p',q'⟩:=hb;exists 21,JM p p';unfold OI at e
 split at e
 .rename_i tt h;cases e;refine q ok h λH1 v fp s1 r1 _=>?_
  cases r1;refine⟨true,rfl,?_⟩;rw[if_pos rfl];exact k H1 _ [] s1 (.bl _) .nil
 .rename_i tt h;refine q ok h λH1 v fp s1 r1 _=>?_
  cases r1;refine⟨false,rfl,?_⟩;rw[if_neg aa6];exact q' (ok.same s1) e λH2 v fp s2 r2 g2=>k H2 v fp (s1.trans s2) r2 (g2.back s1)
 .cases e
theorem abw(ha:FP X a fa):FP X (.UnaryOp .Not a pos) (e1 T4 fa):=by
 obtain⟨t,p,q⟩:=ha;exists 21,Zy p;obtain⟨d1,t1,h1,h2,rfl⟩:=uv e;refine q ok h1 λH1 v fp s1 r1 _=>?_
 cases r1<;>cases h2
 exact⟨_,rfl,k H1 _ [] s1 (.bl _) .nil⟩
def fX:D->D->Option D
 |.lst ds,.lst es=>if(aN ds&&aN es&&decide (ds.length+es.length<=sizeLine))=true then some (.lst (ds++es)) else none
 |_,_=>none
theorem qp(ha:FP X a fa)(hb:FP X b fb):FP X (.BinOp a .Add b pos) (e2 fX fa fb):=by
 obtain⟨ta,pa,sa⟩:=ha;obtain⟨tb,pb,sb⟩:=hb;exists 20,Dt Uy pa pb;obtain⟨d1,t1,d2,t2,e1,jn,e3,rfl⟩:=qE e;refine sa ok e1 λH1 x f1 s1 r1 _=>?_
 refine sb (ok.same s1) jn λH2 y f2 s2 r2 _=>?_
 unfold fX at e3
 split at e3
 .rename_i ds es
  by_cases hc:(aN ds&&aN es&&decide (ds.length+es.length<=sizeLine))=true
  .rw[if_pos hc] at e3;cases e3;obtain⟨c1,c3⟩:=(aaY _ _).mp hc;obtain⟨c1,c2⟩:=(aaY _ _).mp c1;have r1:=r1.same s2;cases r1 with
   | @lst p xs _ f h rs=>
    cases r2 with
    | @lst p' ys _ f' h' Dp=>
     have n1:=rs.aC c1;have n2:=Dp.aC c2;subst n1 n2;refine⟨p,p',xs,ys,rfl,rfl,h,h',by rw[<- rs.length,<- Dp.length];exact aaP c3,λl hl=>?_⟩;have s3:aH H2 (upd H2 l (.lst (xs++ys))):=λb o e=>by rw[aL (cT e hl)];exact e
     have rr:aB X.K H2 (ds++es) (xs++ys) []:=aB.append rs Dp;refine q _ _ [l] ((s1.trans s2).trans s3) (.lst bQ (rr.same s3)) ⟨abv.mpr ⟨(λm=>by cases m),ace⟩,λa m=>?_⟩;cases aa1.mp m;exact(s1.trans s2).free hl
  .rw[if_neg hc] at e3;cases e3
 .cases e3
noncomputable def DU:D->Option String
 |.int _=>some "int"
 |.bl _=>some "bool"
 |.str _=>some "str"
 |.aD=>some "NoneType"
 |.lst _=>some "list"
 |.bK _=>some "dict"
 |_=>none
def Ll(T:String)(d:D):Option D:=match DU d with
 |some t=>some (.bl (t==T||(t == "bool"&&T == "int")))
 |none=>none
def Fk(T:String):Prop:=∀(K:PySem.W.Frag) (t:String),t∈["int","bool","str","NoneType","list","dict"]->PySem.W.kitOne K (.type t) (.type T)=some (t==T||(t == "bool"&&T == "int"))
theorem abY:Fk "int":=by
 intro K t m;simp only[aa3,adX,afY] at m;rcases m with rfl|rfl|rfl|rfl|rfl|rfl<;>rfl
theorem Uw:Fk "bool":=by
 intro K t m;simp only[aa3,adX,afY] at m;rcases m with rfl|rfl|rfl|rfl|rfl|rfl<;>rfl
theorem YQ(T:String):gu X (.builtin "isinstance") (λxs H Q=>∃x t b,xs=[x,V.ty T]/\jV X.K H x t/\PySem.W.kitOne X.K t (.type T)=some b/\Q (.bl b) H):=by
 intro af s σ H xs us Q I r h;obtain⟨x,t,bb,rfl,ty,e,q⟩:=h;obtain⟨u,w',rfl,ru,fS⟩:=vals2 r;cases fS;exact ab7 I ru ty e λtk=>⟨.bl bb,H,I.tok tk,rfl,q⟩
theorem Rep.ty{K:PySem.W.Frag}{H:Hp}{d:D}{v:V}{fp:List Addr}{t:String}(r:Rep K H d v fp)(e:DU d=some t):jV K H v (.type t)/\t∈["int","bool","str","NoneType","list","dict"]:=by
 cases r with
 |aD=>cases e;exact⟨.aD,by decide⟩
 |bl b=>cases e;exact⟨.bl b,by decide⟩
 |int i=>cases e;exact⟨.int i,by decide⟩
 |str x=>cases e;exact⟨.str x,by decide⟩
 |lst h _=>cases e;exact⟨.lst h,by decide⟩
 |bK h _ _=>cases e;exact⟨.dK h,by decide⟩
 |tup _ _=>cases e
 |zw _ _=>cases e
 |cM _ _ _=>cases e
 |ins _ _ _ _=>cases e
 |exc _ _ _=>cases e
theorem NC{T:String}{x:Str}{p p2:Pos}(hT:Fk T)(hm:X.mg "isinstance"=none)(Uo:X.mg x=none)(ha:FP X a fa)(Zc:bootBuiltins x=some (.type T):=by decide +kernel)(hg:Gl X "isinstance":=by rfl)(hgT:Gl X x:=by rfl)(hn:x≠"__name__":=by decide)(lR:(x==("__debug__":Str))=false:=by decide)
  (hs:starEach [a,.Name x p2] X.env=[(false,eval a X.env),(false,eval (.Name x p2) X.env)]:=by rfl) (hpl:(backTo pos (starEach [.Name x p2] X.env)).any (·.1)=false:=by rfl):FP X (.Call (.Name "isinstance" p) [a,.Name x p2] [] pos) (e1 (Ll T) fa):=by
 obtain⟨ta,pa,sa⟩:=ha;have d8:starEach [.Name x p2] X.env=[(false,eval (.Name x p2) X.env)]:=rfl;exists 21,pK (YQ T) hg hm (show bootBuiltins "isinstance"=some (.builtin "isinstance") by decide +kernel) (dW pa (dW (aaL (v:=.ty T) hgT Uo Zc rfl hn lR) fH) (by rw[hs,d8])) (he:=by rw[hs,d8]);obtain⟨d1,t1,h1,h2,rfl⟩:=uv e;refine sa ok h1 λH1 v fp s1 r1 _=>?_
 unfold Ll at h2;cases ht:DU d1 with
 |none=>rw[ht] at h2;cases h2
 |some t=>
  rw[ht] at h2;cases h2;obtain⟨ty,mem⟩:=r1.ty ht;exact⟨v,_,_,rfl,ty,hT X.K t mem,k H1 _ [] s1 (.bl _) .nil⟩
end
end L2.Ev
namespace L2.Ev
open PySem
section
variable{ρ:aA}{fa fb fc:EF}{d d1 d2 d3:D}{t t1 t2 t3:Tag}{Qp:D->D->D->Option D}{tf tg:TF}
noncomputable def k3(op:D->D->D->Option D):Option (D×Tag)->Option (D×Tag)->Option (D×Tag)->Option (D×Tag)
 |some (d1,_),some (d2,_),some (d3,_)=>(op d1 d2 d3).map λd=>(d,.own)
 |_,_,_=>none
theorem OG:e3 Qp fa fb fc ρ=k3 Qp (fa ρ) (fb ρ) (fc ρ):=by unfold e3 k3;cases fa ρ<;>cases fb ρ<;>cases fc ρ<;>rfl
noncomputable def Qn(fb:EF)(ρ:aA):Option (D×Tag)->Option (D×Tag)
 |some (.bl true,_)=>fb ρ
 |some (.bl false,_)=>some (.bl false,.own)
 |_=>none
theorem WR:xV fa fb ρ=Qn fb ρ (fa ρ):=by
 unfold xV Qn;cases fa ρ with
 |none=>rfl
 |some w=>obtain⟨d,t⟩:=w;cases d<;>first|rfl|(rename_i b;cases b<;>rfl)
theorem aaf:ja d .aD=some (.bl (n_ d)):=rfl
end
section
variable{g:GF}{t:Tag}{f:SF}
theorem Jh(P:Nat->aA->Prop):∀{ds:List D}{ρ:aA}{n:Nat},P n ρ->(∀j ρ d,ds[j]? = some d->P (n+j) ρ->∃aS bx,g d t ρ=some aS/\(f aS=some (.nx bx)\/f aS=some (.ct bx))/\P (n+j+1) bx)->
  ∃ρ',dw g t f ds ρ=some (.nx ρ')/\P (n+ds.length) ρ'
 |[],ρ,n,h,_=>⟨ρ,rfl,h⟩
 |d::ds,ρ,n,h,hs=>by
  obtain⟨aS,bx,h1,h2,h3⟩:=hs 0 ρ d rfl h;obtain⟨ρ',h4,h5⟩:=Jh P h3 λj ρ d hd hp=>by
   have:=hs (j+1) ρ d hd (by rw[show n+(j+1)=n+1+j by lia];exact hp);rw[show n+(j+1)+1=n+1+j+1 by lia] at this;exact this
  refine⟨ρ',?_,by rw[abP,show n+(ds.length+1)=n+1+ds.length by lia];exact h5⟩;unfold dw;rw[h1];rcases h2 with h2|h2<;>(dsimp only;rw[h2];exact h4)
theorem xZ(hi:it ρ=some (ds,t))(h:dw g (k_ t) f ds (nO (mW (lD t) ρ) ρ)=some (.nx ρ')):jw it g f ρ=some (.nx (tS (mW (lD t) ρ) ρ')):=by unfold jw;rw[hi];dsimp only;rw[h]
theorem Kl(hi:it ρ=some (ds,t))(h:dw g (k_ t) f ds (nO (mW (lD t) ρ) ρ)=some (.rt r)):jw it g f ρ=some (.rt r):=by unfold jw;rw[hi];dsimp only;rw[h]
theorem sF(hi:it ρ=some (ds,.own))(h:dw g (.sh []) f ds ρ=some (.nx ρ')):jw it g f ρ=some (.nx ρ'):=xZ hi h
theorem zh(hi:it ρ=some (ds,.own))(h:dw g (.sh []) f ds ρ=some (.rt r)):jw it g f ρ=some (.rt r):=Kl hi h
theorem YD(h:e ρ=some (.int n,t))(hs:small n=true):vV e ρ=some ((List.range n.toNat).map λi:Nat=>D.int (0+(i:Int)),.own):=by unfold vV;rw[h];dsimp only;rw[if_pos hs]
theorem gQ(h:e ρ=some (.lst ds,t)):gZ e ρ=some (ds,t):=by unfold gZ;rw[h]
theorem acS{e:EF}{ρ:aA}{ds:List D}(h:e ρ=some (.tup ds,t)):gZ e ρ=some (ds,t):=by unfold gZ;rw[h]
theorem jH{k:D->Option D}(hi:it ρ=some (ds,t))(hl:ds.length<sizeLine)(h:∀d∈ds,jl g tt te (jD js ρ) d=some (k d)):
  iK js it g tt te ρ=some (.lst (ds.filterMap k),.own):=by unfold iK;rw[hi];dsimp only;rw[if_pos hl,O4 h];rfl
theorem vZ(h1:g d (.sh []) ρ=some aS)(h2:tt aS=some false):jl g tt te ρ d=some none:=by unfold jl;rw[h1];dsimp only;rw[h2]
theorem qe(h1:g d (.sh []) ρ=some aS)(h2:tt aS=some true)(h3:te aS=some (e,.own)):jl g tt te ρ d=some (some e):=by unfold jl;rw[h1];dsimp only;rw[h2];dsimp only;rw[h3];rfl
theorem rB(h1:g d (.sh []) ρ=some aS)(h2:tt aS=some true)(h3:te aS=some (e,tg))(hi:aC e=true):jl g tt te ρ d=some (some e):=by
 unfold jl;rw[h1];dsimp only;rw[h2];dsimp only;rw[h3];dsimp only
 by_cases ho:jR tg=true
 .rw[if_pos ho]
 .rw[if_neg ho,if_pos hi]
end
noncomputable def kI(p:Int×Int):Key×D:=(Sum.inl p.1,.int p.2)
def bH(es:List (Int×Int)):D:=.bK (es.map kI)
noncomputable def bR(es:List (Int×Int))(k:Int):Option Int:=(es.find? λp=>decide (p.1=k)).map (·.2)
noncomputable def gG(es:List (Int×Int))(k v:Int):List (Int×Int):=if(es.any λp=>decide (p.1=k))=true then es.map (λp=>if p.1=k then(p.1,v) else p) else es++[(k,v)]
theorem vK:((Sum.inl a:Key)=Sum.inl k)↔a=k:=⟨λh=>af1 h,λh=>by rw[h]⟩
theorem L7(es:List (Int×Int))(k:Int):aV (es.map kI) (Sum.inl k:Key)=(bR es k).map D.int:=by
 unfold aV bR
 induction es with
 |nil=>rfl
 |cons p r ih=>
  rw[aax,ac9,ac9]
  by_cases h:p.1=k
  .rw[aaN (show(kI p).1=Sum.inl k from vK.mpr h),aaN h];rfl
  .rw[abN (show ¬(kI p).1=Sum.inl k from λe=>h (vK.mp e)),abN h];exact ih
theorem JJ(es:List (Int×Int))(k v:Int):putD (es.map kI) (Sum.inl k:Key) (.int v)=(gG es k v).map kI:=by
 unfold putD gG;have e:((es.map kI).any λkv=>decide (kv.1=(Sum.inl k:Key)))=es.any λp=>decide (p.1=k):=by
  rw[afv]
  congr 1
  funext p
  exact afC.mpr vK
 rw[e]
 by_cases h:(es.any λp=>decide (p.1=k))=true
 .rw[if_pos h,if_pos h,acT,acT]
  congr 1
  funext p
  show(if(kI p).1=Sum.inl k then((kI p).1,D.int v) else kI p)=kI (if p.1=k then(p.1,v) else p)
  by_cases hp:p.1=k
  .rw[if_pos hp,if_pos (show(kI p).1=Sum.inl k from vK.mpr hp)];rfl
  .rw[if_neg hp,if_neg (show ¬(kI p).1=Sum.inl k from λe=>hp (vK.mp e))]
 .rw[if_neg h,if_neg h,acZ];rfl
theorem PY:sI (bH es) (.int k) (.int z)=some (.int ((bR es k).getD z)):=by
 show(match aV (es.map kI) (Sum.inl k:Key) with|some d=>if aC d=true then some d else none|none=>if aC (.int z)=true then some (.int z) else none)=_;rw[L7];cases bR es k<;>rfl
theorem acN(h:bR es k=some v):lX (bH es) (.int k)=some (.int v):=by
 show((aV (es.map kI) (Sum.inl k:Key)).bind λd=>if aC d=true then some d else none)=_;rw[L7,h];rfl
theorem Ox:∀es:List (Int×Int),iZ (es.map kI)=some (es.map (·.1))
 |[]=>rfl
 |p::r=>by rw[aax];show(iZ (r.map kI)).map (p.1::·)=_;rw[Ox r];rfl
theorem V1{es:List (Int×Int)}(h:es.length<64):lV (bH es)=some (.lst ((cB (es.map (·.1))).map D.int)):=by
 show(match iZ (es.map kI) with|some ns=>if ns.length<64 then some (D.lst ((cB ns).map D.int)) else none|none=>none)=_;rw[Ox];dsimp only;rw[if_pos (by rw[List.length_map];exact h)]
theorem J9:∀es:List (Int×Int),aN ((es.map kI).map (·.2))=true
 |[]=>rfl
 |p::r=>by rw[aax,aax];unfold aN;rw[J9 r];rfl
theorem DX(h1:fv ρ=some (.int v,t1))(h2:ρ[i]? = some (some (bH es,.own)))(h3:fk ρ=some (.int k,t2))(hl:es.length<sizeLine):
  qz i fk fv ρ=some (.nx (bP ρ i (bH (gG es k v)))):=by
 unfold qz;rw[h1,h2,h3];unfold bH;dsimp only[iB];rw[if_pos (by rw[J9,List.length_map,aaN hl];rfl),JJ]
theorem BB(es:List (Int×Int))(k v j:Int):bR (gG es k v) j=if j=k then some v else bR es j:=by
 unfold gG
 by_cases h:(es.any λp=>decide (p.1=k))=true
 .rw[if_pos h];unfold bR
  induction es with
  |nil=>cases h
  |cons p r ih=>
   rw[aax,ac9,ac9]
   by_cases hp:p.1=k
   .rw[if_pos hp];dsimp only
    by_cases hj:j=k
    .rw[aaN (hp.trans hj.symm),if_pos hj];rfl
    .have j9:¬p.1=j:=λe=>hj (e.symm.trans hp)
     rw[abN j9,if_neg hj];dsimp only
     by_cases hr:(r.any λp=>decide (p.1=k))=true
     .rw[ih hr,if_neg hj]
     .congr 1
      have:r.map (λp=>if p.1=k then(p.1,v) else p)=r:=by
       conv=>rhs;rw[<- List.map_id r]
       refine ae5 λq m=>?_
       rw[if_neg λe=>hr (adn.mpr ⟨q,m,aaN e⟩)];rfl
      rw[this]
   .rw[if_neg hp];have hr:(r.any λp=>decide (p.1=k))=true:=by
     rw[aeZ,abN hp] at h;exact h
    by_cases hj:p.1=j
    .rw[aaN hj,if_neg λe=>hp (hj.trans e)]
    .rw[abN hj];exact ih hr
 .rw[if_neg h];unfold bR;rw[List.find?_append]
  by_cases hj:j=k
  .have:(es.find? λp=>decide (p.1=j))=none:=aeP.mpr λq m hq=>h (adn.mpr ⟨q,m,by rw[<- hj];exact hq⟩)
   rw[this,if_pos hj,hj];simp
  .rw[if_neg hj];have:([(k,v)].find? λp=>decide (p.1=j))=none:=aeP.mpr λq m hq=>hj (by cases aa1.mp m;exact(aaP hq).symm)
   rw[this,Option.or_none]
theorem Lr(es:List (Int×Int))(k v:Int):(gG es k v).map (·.1)=if k∈es.map (·.1) then es.map (·.1) else es.map (·.1)++[k]:=by
 unfold gG
 by_cases h:(es.any λp=>decide (p.1=k))=true
 .have hm:k∈es.map (·.1):=by
   obtain⟨p,m,hp⟩:=adn.mp h;exact abG.mpr ⟨p,m,aaP hp⟩
  rw[if_pos h,if_pos hm,acT];refine ae5 λp m=>?_
  show(if p.1=k then(p.1,v) else p).1=p.1
  split<;>rfl
 .have hm:k∉es.map (·.1):=λm=>by
   obtain⟨p,m,hp⟩:=abG.mp m;exact h (adn.mpr ⟨p,m,aaN hp⟩)
  rw[if_neg h,if_neg hm,acZ];rfl
theorem Qd(h:(es.map (·.1)).Nodup):((gG es k v).map (·.1)).Nodup:=by
 rw[Lr]
 by_cases hm:k∈es.map (·.1)
 .rw[if_pos hm];exact h
 .rw[if_neg hm];exact acB.mpr ⟨h,abv.mpr ⟨(λm=>by cases m),ace⟩,λa ha b hb e=>hm (by cases aa1.mp hb;exact e ▸ ha)⟩
theorem Su{es:List (Int×Int)}{k v:Int}:(gG es k v).length<=es.length+1:=by
 have:=congrArg List.length (Lr es k v);rw[List.length_map] at this;rw[this]
 split
 .rw[List.length_map];lia
 .rw[abb,List.length_map];exact abH _
theorem tG:(∃v,bR es k=some v)↔k∈es.map (·.1):=by
 unfold bR;constructor
 .rintro⟨v,h⟩
  cases e:es.find? λp=>decide (p.1=k) with
  |none=>rw[e] at h;cases h
  |some p=>exact abG.mpr ⟨p,aeT e,aaP (afZ e :)⟩
 .intro h;obtain⟨p,m,hp⟩:=abG.mp h;cases e:es.find? λp=>decide (p.1=k) with
  |none=>exact absurd (aaN hp) (aeP.mp e p m)
  |some q=>exact⟨q.2,rfl⟩
def jN(ps:List (Int×Int)):List (Int×Int):=ps.foldl (λm p=>gG m p.1 p.2) []
theorem foldI:∀(ps m:List (Int×Int)),(ps.map kI).foldl (λm p=>putD m p.1 p.2) (m.map kI)=(ps.foldl (λm p=>gG m p.1 p.2) m).map kI
 |[],_=>rfl
 |p::r,m=>by rw[aax,aeh,aeh];show(r.map kI).foldl _ (putD (m.map kI) (Sum.inl p.1) (.int p.2))=_;rw[JJ];exact foldI r _
noncomputable def dP(p:Int×Int):D:=.tup [.int p.1,.int p.2]
theorem Q2:∀ps:List (Int×Int),jK (ps.map dP)=some (ps.map kI)
 |[]=>rfl
 |p::r=>by
  rw[aax];show(match iB (.int p.1),jK (r.map dP) with|some k,some ps=>if aC (.int p.2)=true then some ((k,D.int p.2)::ps) else none|_,_=>none)=_;rw[Q2 r];rfl
theorem Nc:BS (.lst (ps.map dP))=some (bH (jN ps)):=by
 show(jK (ps.map dP)).map _=_;rw[Q2];show some (D.bK ((ps.map kI).foldl (λm p=>putD m p.1 p.2) []))=_;rw[show([]:List (Key×D))=([]:List (Int×Int)).map kI from rfl,foldI];rfl
theorem O0(hn:(ps.map (·.1)).Nodup)(k:Int):bR (jN ps) k=bR ps k:=by
 have go:∀(ps m:List (Int×Int)),(ps.map (·.1)).Nodup->bR (ps.foldl (λm p=>gG m p.1 p.2) m) k=(bR ps k).or (bR m k):=by
  intro ps
  induction ps with
  |nil=>intro m _;rfl
  |cons p r ih=>
   intro m h;rw[aax] at h;obtain⟨h1,h2⟩:=abv.mp h;rw[aeh,ih _ h2,BB]
   by_cases hk:k=p.1
   .have hr:bR r k=none:=by
     cases e:bR r k with
     |none=>rfl
     |some v=>exact absurd (tG.mp ⟨v,e⟩) (hk ▸ h1)
    rw[hr,if_pos hk];unfold bR;rw[ac9,aaN hk.symm];rfl
   .rw[if_neg hk];have:bR (p::r) k=bR r k:=by unfold bR;rw[ac9,abN λe=>hk e.symm]
    rw[this]
 unfold jN;rw[go ps [] hn];cases bR ps k<;>rfl
open PySem PySem.Spec PyProof.Rows
mutual
noncomputable def py:D->PyData
 |.bl b=>.bool b
 |.int i=>.int i
 |.str x=>.str x
 |.tup ds=>.tuple (fB ds)
 |.lst ds=>.list (fB ds)
 |.gO ds=>.list (fB ds)
 |_=>.none
noncomputable def fB:List D->List PyData
 |[]=>[]
 |d::ds=>py d::fB ds
end
mutual
noncomputable def f6:D->Bool
 |.aD|.bl _|.int _|.str _=>true
 |.tup ds|.lst ds|.gO ds=>o6 ds
 |_=>false
noncomputable def o6:List D->Bool
 |[]=>true
 |d::ds=>f6 d&&o6 ds
end
section
variable{X:Cx}{af:List (Addr×Obj)}{σ:St}{H:Hp}{s:Shared}
mutual
theorem pN(I:Inv X af σ H s):∀{d:D}{v:V}{f:List Addr}{u:Value},Rep X.K H d v f->RelV v u->f6 d=true->∃as,Reads s.heap u (py d) as
 |.aD,_,_,_,r,q,_=>by cases r;cases q;exact⟨_,by unfold py;exact .none⟩
 |.bl b,_,_,_,r,q,_=>by cases r;cases q;exact⟨_,by unfold py;exact .bool b⟩
 |.int i,_,_,_,r,q,_=>by cases r;obtain⟨t,rfl⟩:=q;exact⟨_,by unfold py;exact .int i t⟩
 |.str x,_,_,_,r,q,_=>by cases r;obtain⟨t,rfl⟩:=q;exact⟨_,by unfold py;exact .str x t⟩
 |.tup ds,_,_,_,r,q,e=>by
  obtain⟨a,xs,rfl,hq,rs⟩:=r.iX;cases q;obtain⟨us,v1,⟨o,h1,h2,n,h3⟩,_⟩:=I.tuple hq;obtain⟨as,ra⟩:=yS I rs v1 (by unfold f6 at e;exact e);exact⟨_,by unfold py;exact .tuple h1 h2 h3 (by simpa using ra)⟩
 |.lst ds,_,_,_,r,q,e=>by
  obtain⟨a,xs,f,rfl,hq,rs,_⟩:=r.d9;cases q;obtain⟨us,v1,⟨o,n,h1,h2,_,h3⟩,_⟩:=I.list hq;obtain⟨as,ra⟩:=yS I rs v1 (by unfold f6 at e;exact e);exact⟨_,by unfold py;exact .list h1 h2 h3 (by simpa using ra)⟩
 |.gO ds,_,_,_,r,q,e=>by
  obtain⟨a,xs,rfl,hq,rs⟩:=r.tW;cases q;obtain⟨us,v1,⟨o,n,h1,h2,_,h3⟩,_⟩:=I.list hq;obtain⟨as,ra⟩:=yS I rs v1 (by unfold f6 at e;exact e);exact⟨_,by unfold py;exact .list h1 h2 h3 (by simpa using ra)⟩
 |.bK _,_,_,_,_,_,e=>by unfold f6 at e;cases e
 |.cM _,_,_,_,_,_,e=>by unfold f6 at e;cases e
 |.ins _ _,_,_,_,_,_,e=>by unfold f6 at e;cases e
 |.exc _,_,_,_,_,_,e=>by unfold f6 at e;cases e
theorem yS(I:Inv X af σ H s):∀{ds:List D}{xs:List V}{f:List Addr}{us:List Value},aB X.K H ds xs f->aQ xs us->o6 ds=true->∃as,ReadsAll s.heap us (fB ds) as
 |[],_,_,_,r,q,_=>by cases r;cases q;exact⟨_,by unfold fB;exact .nil⟩
 |d::ds,_,_,_,r,q,e=>by
  cases r with
  |cons r1 r2=>
   cases q with
   |cons q1 q2=>
    unfold o6 at e;obtain⟨e1,e2⟩:=(aaY _ _).mp e;obtain⟨as,h1⟩:=pN I r1 q1 e1;obtain⟨bs,h2⟩:=yS I r2 q2 e2;exact⟨_,by unfold fB;exact .cons h1 h2⟩
end
end
mutual
theorem noDict:∀d:D,(py d).hasDict=false
 |.aD=>by unfold py;simp only[PyData.hasDict]
 |.bl _=>by unfold py;simp only[PyData.hasDict]
 |.int _=>by unfold py;simp only[PyData.hasDict]
 |.str _=>by unfold py;simp only[PyData.hasDict]
 |.tup ds=>by unfold py;simp only[PyData.hasDict];exact noDicts ds
 |.lst ds=>by unfold py;simp only[PyData.hasDict];exact noDicts ds
 |.gO ds=>by unfold py;simp only[PyData.hasDict];exact noDicts ds
 |.bK _=>by unfold py;simp only[PyData.hasDict]
 |.cM _=>by unfold py;simp only[PyData.hasDict]
 |.ins _ _=>by unfold py;simp only[PyData.hasDict]
 |.exc _=>by unfold py;simp only[PyData.hasDict]
theorem noDicts:∀ds:List D,PyData.hasDictAll (fB ds)=false
 |[]=>by unfold fB;simp only[PyData.hasDictAll]
 |d::ds=>by unfold fB;simp only[PyData.hasDictAll,noDict d,noDicts ds,Bool.or_self]
end
def tR(d:D):Bool:=f6 d&&(py d).showable&&decide ((py d).depth<=40)&&decide ((py d).shown.length<=sizeLine)
def r_(d:D):Option D:=if tR d=true then(if decide (dep d≠0)=true then some (.str (py d).shown) else none) else none
def Jw(K:PySem.W.Frag):List V->Hp->VK->Prop:=λxs H Q=>∃a d f,xs=[V.ref a]/\Rep K H d (.ref a) f/\tR d=true/\Q (.str (py d).shown) H
section
variable{X:Cx}
theorem RK{k:Nat}(hr:bh k X.A):gu X (.builtin "repr") (Jw X.K):=by
 intro af s σ H xs us Q I r h;obtain⟨a,d,f,rfl,rd,hs,q⟩:=h;obtain⟨u,rfl,ru⟩:=vals1 r;unfold tR at hs;obtain⟨hs,h4⟩:=(aaY _ _).mp hs;obtain⟨hs,h3⟩:=(aaY _ _).mp hs;obtain⟨h1,h2⟩:=(aaY _ _).mp hs;obtain⟨as,rr⟩:=pN I rd ru h1;cases ru;have hu:=hr.un;have h3:=aaP h3;exact repr_of_reads' rr h2 (PyData.noDict_hsm (noDict d)) hr.gd (by omega) (λb o e=>e) (λh' t tk hk=>⟨.str (py d).shown,H,I.kept hk,⟨t,rfl⟩,q⟩) (aaP h4)
theorem Y6{K:PySem.W.Frag}:lF K (Jw K) r_:=by
 intro H x d1 f1 d Q r e k;unfold r_ at e
 by_cases h1:tR d1=true
 .rw[if_pos h1] at e
  by_cases h2:decide (dep d1≠0)=true
  .rw[if_pos h2] at e;cases e;have hr:∃p,x=.ref p:=by
    cases r<;>first|exact⟨_,rfl⟩|(exact absurd rfl (aaP h2))
   obtain⟨p,rfl⟩:=hr;exact⟨p,d1,f1,rfl,r,h1,k H _ [] (aH.refl H) (.str _) ace λa m=>nomatch m⟩
  .rw[if_neg h2] at e;cases e
 .rw[if_neg h1] at e;cases e
theorem vf{k:Nat}{a:Expr}{fa:EF}{p pos:Pos}(hr:bh k X.A)(hm:X.mg "repr"=none)(ha:FP X a fa)(hg:Gl X "repr":=by rfl)(hs:starEach [a] X.env=[(false,eval a X.env)]:=by rfl):FP X (.Call (.Name "repr" p) [a] [] pos) (e1 r_ fa):=
 fp_1 Y6 ha λta pa=>pK (RK hr) hg hm boot_repr (dW pa fH hs) (he:=hs)
end
theorem XQ{d:D}(h:tR d=true)(hd:dep d≠0):r_ d=some (.str (py d).shown):=by unfold r_;rw[if_pos h,if_pos (aaN hd)]
def w6(i:Int):Prop:=i.natAbs<10 ^ 12
noncomputable def mh(r:List Int):D:=.tup (r.map D.int)
def dD(rs:List (List Int)):List D:=rs.map mh
theorem yc:∀r:List Int,fB (r.map D.int)=r.map PyData.int
 |[]=>rfl
 |i::r=>by rw[aax,aax];unfold fB;rw[yc r];unfold py;rfl
theorem vP:∀r:List Int,o6 (r.map D.int)=true
 |[]=>rfl
 |i::r=>by rw[aax];unfold o6;rw[vP r];rfl
theorem log2_small{n:Nat}(h:n<10 ^ 12):n.log2<1920:=by
 by_cases hz:n=0
 .subst hz;decide
 .rw[Nat.log2_lt hz];exact acH h (adw (show 10 ^ 12<=2 ^ 40 by decide) (Nat.pow_le_pow_right (by decide) (by decide)))
theorem N5:∀r:List Int,(∀i∈r,w6 i)->PyData.showableAll (r.map PyData.int)=true
 |[],_=>rfl
 |i::r,h=>by
  rw[aax];simp only[PyData.showableAll,PyData.showable,aaY,afH];exact⟨log2_small (h i aar),N5 r λj m=>h j (aaa _ m)⟩
theorem KR:∀r:List Int,(∀i∈r,w6 i)->PyData.weightAll (r.map PyData.int)<=50*r.length
 |[],_=>by simp[PyData.weightAll]
 |i::r,h=>by
  rw[aax,abP];have h1:i.natAbs<10 ^ 12:=h i aar;have h2:=KR r λj m=>h j (aaa _ m)
  have h3:(PyData.int i).weight<=41:=by
   simp only[PyData.weight]
   split
   .omega
   .rename_i hz;have sS:i.natAbs≠0:=by
     intro q
     apply hz
     rw[Int.natAbs_eq_zero.mp q];rfl
    have:i.natAbs.log2<40:=by
     rw[Nat.log2_lt sS];exact acH h1 (by decide)
    omega
  simp only[PyData.weightAll];omega
theorem KY:∀r:List Int,(∀i∈r,w6 i)->PyData.leavesShortAll 13 (r.map PyData.int)=true
 |[],_=>rfl
 |i::r,h=>by
  rw[aax];simp only[PyData.leavesShortAll,PyData.leavesShort,aaY,afH];exact⟨PyData.shown_int_le (h i aar),KY r λj m=>h j (aaa _ m)⟩
theorem depthAll_ints:∀r:List Int,PyData.depthAll (r.map PyData.int)=0
 |[]=>rfl
 |i::r=>by rw[aax];simp only[PyData.depthAll,PyData.depth,depthAll_ints r];rfl
noncomputable def gx(r:List Int):PyData:=.tuple (r.map PyData.int)
theorem MK(r:List Int):py (mh r)=gx r:=by unfold mh gx;unfold py;rw[yc]
theorem GZ:∀rs:List (List Int),fB (dD rs)=rs.map gx
 |[]=>rfl
 |r::rs=>by
  show fB (mh r::dD rs)=gx r::rs.map gx;unfold fB;rw[MK,GZ rs]
theorem Pw:∀rs:List (List Int),o6 (dD rs)=true
 |[]=>rfl
 |r::rs=>by
  show o6 (mh r::dD rs)=true;unfold o6;rw[Pw rs,Bool.and_true];unfold mh f6;exact vP r
def dX(d:D):Bool:=f6 d&&(py d).canLay0&&decide ((py d).depth<=40)
def nZ(d1 d2:D):Option D:=if(dX d1&&dX d2)=true then some (.bl (!PyData.eqv (py d1) (py d2))) else none
def Mv(K:PySem.W.Frag)(neg:Bool):R2:=λx y H Q=>∃d1 d2 f1 f2,Rep K H d1 x f1/\Rep K H d2 y f2/\dX d1=true/\dX d2=true/\Q (.bl (if neg=true then !PyData.eqv (py d1) (py d2) else PyData.eqv (py d1) (py d2))) H
section
variable{X:Cx}{a b:Expr}{fa fb:EF}{pos:Pos}
theorem lay_of(h:dX d=true):f6 d=true/\(py d).canLay0=true/\(py d).depth<=40:=by
 unfold dX at h;obtain⟨h,h3⟩:=(aaY _ _).mp h;obtain⟨h1,h2⟩:=(aaY _ _).mp h;exact⟨h1,h2,aaP h3⟩
theorem Pa(hu:X.A.units+64<cLine):dF X (compareOp .NotEq) (Mv X.K true):=by
 intro af s σ H x y v u Q I rx ry h;obtain⟨d1,d2,f1,f2,r1,r2,l1,l2,q⟩:=h;obtain⟨a1,a2,a3⟩:=lay_of l1;obtain⟨b1,b2,b3⟩:=lay_of l2;obtain⟨as,ra⟩:=pN I r1 rx a1;obtain⟨bs,rb⟩:=pN I r2 ry b1;exact SeqAt.compareNe_reads ra rb a2 b2 (by omega) ⟨.bl _,H,I,rfl,q⟩
theorem Qg{K:PySem.W.Frag}:gC K (Mv K true) nZ:=by
 intro H x y d1 d2 f1 f2 d Q r1 r2 e k;unfold nZ at e
 by_cases hc:(dX d1&&dX d2)=true
 .rw[if_pos hc] at e;cases e;obtain⟨c1,c2⟩:=(aaY _ _).mp hc;exact⟨d1,d2,f1,f2,r1,r2,c1,c2,k H _ (aH.refl H) (.bl _)⟩
 .rw[if_neg hc] at e;cases e
theorem aeL(hu:X.A.units+64<cLine)(ha:FP X a fa)(hb:FP X b fb):FT X (.Compare a [.NotEq] [b] pos) (tV (e2 nZ fa fb)):=jX (Pa hu) Qg ha hb (jo _)
theorem adf(hu:X.A.units+64<cLine)(ha:FP X a fa)(hb:FP X b fb):FP X (.Compare a [.NotEq] [b] pos) (e2 nZ fa fb):=qm (Pa hu) Qg ha hb (jo _)
end
theorem Ai:∀r:List Int,PyData.canLayAll0 (r.map PyData.int)=true
 |[]=>rfl
 |i::r=>by rw[aax];simp only[PyData.canLayAll0,PyData.canLay0,Ai r,afs]
theorem Qs:∀rs:List (List Int),PyData.canLayAll0 (rs.map gx)=true/\PyData.depthAll (rs.map gx)<=1
 |[]=>⟨rfl,by simp[PyData.depthAll]⟩
 |r::rs=>by
  obtain⟨h1,h2⟩:=Qs rs;rw[aax];refine⟨by simp only[PyData.canLayAll0,gx,PyData.canLay0,h1,Bool.and_true];exact Ai r,?_⟩;simp only[PyData.depthAll,gx,PyData.depth,depthAll_ints r];omega
theorem U1(rs:List (List Int)):dX (.lst (dD rs))=true:=by
 obtain⟨h1,h2⟩:=Qs rs;have e:py (.lst (dD rs))=.list (rs.map gx):=by unfold py;rw[GZ]
 unfold dX;rw[e];have a1:f6 (.lst (dD rs))=true:=by unfold f6;exact Pw rs
 have a2:(PyData.list (rs.map gx)).canLay0=true:=by simp only[PyData.canLay0];exact h1
 have a3:(PyData.list (rs.map gx)).depth<=40:=by simp only[PyData.depth];omega
 rw[a1,a2,aaN a3];rfl
end L2.Ev
namespace L2.Ev
open PySem PySem.Spec PyProof.Rows
section
variable{X:Cx}{a b c:Expr}{fa fb:EF}{tc:TF}{pos:Pos}
noncomputable def m6(t:TF)(fa fb:EF):EF:=λρ=>match t ρ with
 |some true=>fa ρ
 |some false=>fb ρ
 |none=>none
theorem Dk(hc:FT X c tc)(ha:FP X a fa)(hb:FP X b fb):FP X (.IfExp c a b pos) (m6 tc fa fb):=by
 obtain⟨t,p,q⟩:=hc;obtain⟨t1,p1,q1⟩:=ha;obtain⟨t2,p2,q2⟩:=hb;exists 21,Yh p p1 p2;unfold m6 at e;cases h:tc ρ with
 |none=>rw[h] at e;cases e
 |some y=>
  rw[h] at e;refine q ok h λH1 s1=>?_
  cases y with
  |true=>rw[if_pos rfl];exact q1 (ok.same s1) e λH2 v fp s2 r2 g2=>k H2 v fp (s1.trans s2) r2 (g2.back s1)
  |false=>rw[if_neg aa6];exact q2 (ok.same s1) e λH2 v fp s2 r2 g2=>k H2 v fp (s1.trans s2) r2 (g2.back s1)
theorem Fz{ρ:aA}(h:tc ρ=some true):m6 tc fa fb ρ=fa ρ:=by unfold m6;rw[h]
theorem G8{ρ:aA}(h:tc ρ=some false):m6 tc fa fb ρ=fb ρ:=by unfold m6;rw[h]
noncomputable def Ii(_ j:Int):Bool:=decide (0<j)&&decide (j<1073741824)
def oDiv:=wg Ii λi j=>i / j
theorem KL(ha:FP X a fa)(hb:FP X b fb):FP X (.BinOp a .FloorDiv b pos) (e2 oDiv fa fb):=wA ZO (Dm λi j h=>by
 obtain⟨h1,h2⟩:=(aaY _ _).mp h;exact⟨aaP h1,aaP h2⟩) ha hb
theorem XO{m n:Int}(h:0<n)(h2:n<1073741824):oDiv (.int m) (.int n)=some (.int (m / n)):=by
 show(if Ii m n=true then some (D.int (m / n)) else none)=_;rw[if_pos (by unfold Ii;rw[aaN h,aaN h2];rfl)]
def jM(neg:Bool):D->D->Option D
 |.int i,.lst ds=>(eE ds).map λns=>.bl (if neg=true then !(ns.any (· == i)) else ns.any (· == i))
 |_,_=>none
theorem Zv(i:Int)(ns:List Int):vN (.int i) (ns.map V.int)=ns.any (· == i):=by
 unfold vN;rw[afv];rfl
theorem ZC(ns:List Int):(ns.map V.int).all mL=true:=by
 rw[afT];exact ac4.mpr λ_ _=>rfl
theorem HE{K:PySem.W.Frag}:gC K (zP K neg) (jM neg):=by
 intro H x y d1 d2 f1 f2 d Q r1 r2 e k;cases d1 with
 |int i=>
  cases d2 with
  |lst ds=>
   have e:((eE ds).map λns=>D.bl (if neg=true then !(ns.any (· == i)) else ns.any (· == i)))=some d:=e;exists h,eE ds,ns,e;cases e;obtain⟨p,xs,f,rfl,hq,rs,_⟩:=r2.d9;cases r1;have ex:=tM rs h;subst ex;refine⟨p,_,rfl,.inl hq,rfl,ZC ns,?_⟩;rw[Zv];exact k H _ (aH.refl H) (.bl _)
  |_=>cases e
 |_=>cases e
theorem Oq(ha:FP X a fa)(hb:FP X b fb)(hm:behindInMarks .In b=false:=by rfl):FT X (.Compare a [.In] [b] pos) (tV (e2 (jM false) fa fb)):=jX Of HE ha hb hm
theorem Vn(ha:FP X a fa)(hb:FP X b fb)(hm:behindInMarks .NotIn b=false:=by rfl):FT X (.Compare a [.NotIn] [b] pos) (tV (e2 (jM true) fa fb)):=jX HN HE ha hb hm
theorem Js(ha:FP X a fa)(hb:FP X b fb)(hm:behindInMarks .NotIn b=false:=by rfl):FP X (.Compare a [.NotIn] [b] pos) (e2 (jM true) fa fb):=qm HN HE ha hb hm
theorem Bt{neg:Bool}{i:Int}{ns:List Int}:jM neg (.int i) (.lst (ns.map D.int))=some (.bl (if neg=true then !(ns.any (· == i)) else ns.any (· == i))):=by
 show((eE (ns.map D.int)).map _)=_;rw[ux];rfl
def mE(i:Nat)(fv:EF):SF:=λρ=>match fv ρ,ρ[i]? with
 |some (d,_),some (some (.lst ds,.own))=>if(aC d&&aN ds&&decide (ds.length<sizeLine))=true then some (.nx (bP ρ i (.lst (ds++[d])))) else none
 |_,_=>none
theorem H_(i:Nat){x:Str}{fv:EF}{p1 p2 p3:Pos}(hv:FP X a fv)(va:VA X i x:=by walk_at "va")(hs:starEach [a] X.env=[(false,eval a X.env)]:=by rfl)
  (jf:attributeBase (.Name x p1) "append" X.env (eval (.Name x p1) X.env)=eval (.Name x p1) X.env:=by rfl)
  (lS:((backTo p3 (starEach [a] X.env)).all (λx=>!x.1)&&(backToKw p3 (keywordEach [] X.env)).all (λx=>x.1.isSome)&&decide ([a].length+([]:List Keyword).length+(if([]:List Keyword).isEmpty then 0 else 1)<30))=true:=by rfl)
  (jt:(p2.endLine==p3.line)=true:=by rfl) (kF:swapsWith (.Call (.Attribute (.Name x p1) "append" p2) [a] [] p3) none pos.line X.env=pure false:=by rfl) :
  fM X (.Expr (.Call (.Attribute (.Name x p1) "append" p2) [a] [] p3) pos) (mE i fv):=by
 obtain⟨tv,jm,sv⟩:=hv;exists 25,AK (yf PySem.F.plainAttrs_list PySem.F.slot_list_append PySem.F.type_list_append Ck va.pe (dW jm fH hs) jf lS jt hs rfl) kF;unfold mE at e
 split at e
 .rename_i d td ds g1 g2
  by_cases hc:(aC d&&aN ds&&decide (ds.length<sizeLine))=true
  .rw[if_pos hc] at e;cases e;obtain⟨c1,c3⟩:=(aaY _ _).mp hc;obtain⟨c1,c2⟩:=(aaY _ _).mp c1;obtain⟨xv,fp,b8,r,zz⟩:=ok.sl i _ _ g2;refine⟨xv,b8,?_⟩;obtain⟨l,xs,f,rfl,hq,_,_⟩:=r.d9;refine⟨.inl ⟨rfl,_,hq⟩,?_⟩;refine sv ok g1 λH1 v sL s1 rv _=>?_
   have r':=r.same s1;have cE:=ok.same s1;generalize hw:(V.ref l)=w at r' b8;cases r' with
   | @lst a' ys _ f' h rs=>
    cases hw;have hn:=rs.aC c2;subst hn;have vQ:=rv.aC c1;subst vQ;refine⟨_,ys,v,rfl,rfl,h,by rw[<- rs.length];exact aaP c3,?_⟩;have im:aT H1 (upd H1 l (.lst (ys++[v]))):=aT.upd h rfl;refine q z σ _ (Ok.x_ cE g2 b8 zz aar h rfl (.lst bQ ?_)) (.refl _ _);exact aB.append (rs.frame (λa m=>nomatch m) im) (aB.cons (rv.frame (λa m=>nomatch m) im) .nil)
  .rw[if_neg hc] at e;cases e
 .cases e
theorem C3(h1:fv ρ=some (.int n,t1))(h2:ρ[i]? = some (some (.lst (ns.map D.int),.own)))(hl:ns.length<sizeLine):
  mE i fv ρ=some (.nx (bP ρ i (.lst ((ns++[n]).map D.int)))):=by
 unfold mE;rw[h1,h2];dsimp only;have Z3:∀ns:List Int,aN (ns.map D.int)=true:=λns=>by
  induction ns with
  |nil=>rfl
  |cons n r ih=>rw[aax];unfold aN;rw[ih];rfl
 rw[if_pos (by rw[Z3,List.length_map,aaN hl];rfl),acZ];rfl
def cutD(ds:List D)(lo hi:Option Int):List D:=(ds.drop (HT.gI ds.length 0 lo)).take (HT.gI ds.length ds.length hi-HT.gI ds.length 0 lo)
def n6(lo hi:Option Int):D->Option D
 |.lst ds=>if aN ds=true then some (.lst (cutD ds lo hi)) else none
 |.gO ds=>if aN ds=true then some (.lst (cutD ds lo hi)) else none
 |_=>none
theorem aB.zF{K:PySem.W.Frag}:∀{ds:List D}{xs:List V} (n:Nat),aB K H ds xs []->aB K H (ds.drop n) (xs.drop n) []
 |ds,xs,0,r=>r
 |[],_,n+1,r=>by cases r;exact .nil
 |d::ds,xs,n+1,r=>by
  generalize hf:([]:List Addr)=fp at r;cases r with
  | @cons _ _ _ _ f1 f2 r1 r2=>
   obtain⟨z1,z2⟩:=afm.mp hf.symm;subst z1 z2;exact aB.zF n r2
theorem aB.Bh{K:PySem.W.Frag}{H:Hp}:∀{ds:List D}{xs:List V} (n:Nat),aB K H ds xs []->aB K H (ds.take n) (xs.take n) []
 |ds,xs,0,r=>.nil
 |[],_,n+1,r=>by cases r;exact .nil
 |d::ds,xs,n+1,r=>by
  generalize hf:([]:List Addr)=fp at r;cases r with
  | @cons _ _ _ _ f1 f2 r1 r2=>
   obtain⟨z1,z2⟩:=afm.mp hf.symm;subst z1 z2;exact aB.cons r1 (aB.Bh n r2)
def yX(X:Cx)(e:Option Expr)(v:Option Int):Prop:=∃t,PO X e t/\∀σ H Q,Q v H->t σ H Q
theorem MC:yX X none none:=⟨_,F6,λ_ _ _ q=>q⟩
theorem QJ{i:Int}{j p}:yX X (some (.Constant (.int i) j p)) (some i):=⟨_,EE HL,λ_ _ _ q=>⟨i,rfl,q⟩⟩
theorem PZ{lo hi:Option Expr}{l h:Option Int}{p2:Pos}(hl:yX X lo l)(hh:yX X hi h)(ha:FP X a fa):FP X (.Subscript a (.Slice lo hi none p2) pos) (e1 (n6 l h) fa):=by
 obtain⟨t,p,q⟩:=ha;obtain⟨tl,pl,ql⟩:=hl;obtain⟨th,ph,qh⟩:=hh;exists 21,FH CO p pl ph;obtain⟨d1,t1,g1,g2,rfl⟩:=uv e;refine q ok g1 λH1 x f1 s1 r1 _=>?_
 refine ql σ H1 _ (qh σ H1 _ ?_);have fin:∀{ds:List D}{xs:List V}{f:List Addr}{w:Addr},aB X.K H1 ds xs f->bY X.K H1 w xs->(if aN ds=true then some (D.lst (cutD ds l h)) else none)=some d->NZ X.K (.ref w) l h H1 Q:=λ{ds xs f w} rs hq e=>by
  obtain⟨hi,e⟩:=ci e;cases e;have hn:=rs.aC hi;subst hn;refine⟨w,xs,rfl,hq,λp hp=>?_⟩;have s2:aH H1 (upd H1 p (.lst (k8 xs l h))):=λb o e=>by rw[aL (cT e hp)];exact e
  have rr:aB X.K H1 (cutD ds l h) (k8 xs l h) []:=by
   unfold cutD k8;rw[rs.length];exact aB.Bh _ (aB.zF _ rs)
  refine k _ _ [p] (s1.trans s2) (.lst bQ (rr.same s2)) ⟨abv.mpr ⟨(λm=>by cases m),ace⟩,λa m=>?_⟩;cases aa1.mp m;exact s1.free hp
 cases d1 with
 |lst ds=>
  obtain⟨w,xs,f,rfl,hq,rs,_⟩:=r1.d9;exact fin rs hq g2
 |gO ds=>
  obtain⟨w,xs,rfl,hq,rs⟩:=r1.tW;exact fin rs hq g2
 |_=>cases g2
end
end L2.Ev
namespace L2
open PySem PySem.Spec PyProof.Rows
section
variable{X:Cx}{a:Expr}{ta:TE}{p1 p2 p3 pos:Pos}
theorem Inv.Yk{af:List (Addr×Obj)}{σ:St}{H:Hp}{s:Shared}{h':Heap}{ch:List Addr}{T:Addr}{o:HO}{t':Nat}(I:Inv X af σ H s)(hf:∀b∈ch,iH X af H b)(k:∀b o,b∉ch->s.heap.get? b=some o->h'.get? b=some o)
  (hT:s.heap.objs.size<=T) (new:dh X.prog X.w (upd H T o) h' T o):Inv X af σ (upd H T o) { s with heap:=h',toks:=t' }:=by
 have nT:H T=none:=I.aI.fresh hT;have lI:∀b u,H b=some u->b∉ch:=λb u e m=>by rw[(hf b m).1] at e;cases e
 refine I.step (λb m=>⟨(hf b m).2.2.2.1,(hf b m).2.1,(hf b m).2.2.2.2.1,(hf b m).2.2.2.2.2⟩) (λb o _ _ m e _=>k b o m e) (λb o _ _ m e _=>⟨o.slots,k b o m e⟩)
  (λb o _ e n=>by rw[aL (acu (acH (abo e) hT))];exact n) (λb o m e=>⟨o,k b o m e⟩) (λb xs e=>by rw[aL (cT e nT)];exact e) (λb o u e=>by rw[aL (cT e nT)];exact e)
  (λb ps e=>⟨#[],by rw[aL (cT e nT),e];simp⟩) (λm hm=>?_) (λb u e=>?_) I.bare
 .obtain⟨o,es,ep,ho,r⟩:=hm;exact⟨o,es,ep,k _ o (λm=>(hf _ m).2.1 rfl) ho,r⟩
 .by_cases hb:b=T
  .subst hb;rw[bQ] at e;cases e;exact new
  .rw[aL hb] at e;refine(I.aI b u e).mz (λc v hc q=>k c v ?_ q) (λc q=>by rw[aL (cT q nT)];exact q) λc xs q=>by rw[aL (cT q nT)];exact q
   rcases hc with z|z
   .rw[z];exact lI b u e
   .exact lI c _ z
theorem Inv.KZ{af:List (Addr×Obj)}{σ:St}{H:Hp}{s:Shared}{h':Heap}{ch:List Addr}{t':Nat}(I:Inv X af σ H s)(hf:∀b∈ch,iH X af H b)(k:∀b o,b∉ch->s.heap.get? b=some o->h'.get? b=some o):Inv X af σ H { s with heap:=h',toks:=t' }:=by
 have lI:∀b u,H b=some u->b∉ch:=λb u e m=>by rw[(hf b m).1] at e;cases e
 refine I.step (λb m=>⟨(hf b m).2.2.2.1,(hf b m).2.1,(hf b m).2.2.2.2.1,(hf b m).2.2.2.2.2⟩) (λb o _ _ m e _=>k b o m e) (λb o _ _ m e _=>⟨o.slots,k b o m e⟩)
  (λb o _ e n=>n) (λb o m e=>⟨o,k b o m e⟩) (λb xs e=>e) (λb o u e=>e) (λb ps e=>⟨#[],by rw[e];simp⟩) (λm hm=>?_) (λb u e=>?_) I.bare
 .obtain⟨o,es,ep,ho,r⟩:=hm;exact⟨o,es,ep,k _ o (λm=>(hf _ m).2.1 rfl) ho,r⟩
 .refine(I.aI b u e).mz (λc v hc q=>k c v ?_ q) (λc q=>q) λc xs q=>q
  rcases hc with z|z
  .rw[z];exact lI b u e
  .exact lI c _ z
end
def G6(K:PySem.W.Frag)(l1 l2:Addr):It:=
  ⟨λi H=>∃xs ys x y,bY K H l1 xs/\bY K H l2 ys/\xs[i]? = some x/\ys[i]? = some y,
   λi H v H'=>∃T a b,H T=none/\v=.ref T/\H'=upd H T (.tup [a,b])/\(∀xs,bY K H l1 xs->xs[i]? = some a)/\∀ys,bY K H l2 ys->ys[i]? = some b,
   λi H=>∃xs ys,bY K H l1 xs/\bY K H l2 ys/\(xs.length<=i\/ys.length<=i),false⟩
def aem(z TI TO i1 i2 l1 l2:Addr)(i:Nat)(h:Heap):Prop:=IsZip h z TI TO .none/\IsPair h TI (.ref i1) (.ref i2)/\(∃a b,IsPair h TO a b)/\h.IsListIter i1 l1 i/\h.IsListIter i2 l2 i
theorem acd{P:Program}{w:World}{K:PySem.W.Frag}{elts:List Expr}{x1}{pos:Pos}{z TI TO i1 i2 l1 l2:Addr}(D:ZipApart z TI TO i1 i2 l1 l2):
  Turn P w K (.Tuple elts x1 pos) (G6 K l1 l2) [z,TI,TO,i1,i2] z (aem z TI TO i1 i2 l1 l2) where
 mem:=by simp
 obj:=λi h st b hb=>by
  obtain⟨s1,s2,⟨a,b',s3⟩,⟨o4,e4,c4,d4⟩,⟨o5,e5,c5,d5⟩⟩:=st;simp only[aa3,adX,afY] at hb;rcases hb with rfl|rfl|rfl|rfl|rfl
  .exact⟨_,s1,λv q=>by cases q⟩
  .exact⟨_,s2,λv q=>by cases q⟩
  .exact⟨_,s3,λv q=>by cases q⟩
  .exact⟨o4,e4,λv q=>by rw[d4] at q;cases q⟩
  .exact⟨o5,e5,λv q=>by rw[d5] at q;cases q⟩
 keep:=λi h h' st k=>by
  obtain⟨s1,s2,⟨a,b',s3⟩,s4,s5⟩:=st;exact⟨k _ (by simp) _ s1,k _ (by simp) _ s2,⟨a,b',k _ (by simp) _ s3⟩,s4.at λo e=>k _ (by simp) o e,s5.at λo e=>k _ (by simp) o e⟩
 item:=by
  intro X hP hw hK hc i af s σ H E I hf st hg;subst hP hw hK;obtain⟨s1,s2,⟨a,b',s3⟩,s4,s5⟩:=st;obtain⟨xs,ys,x,y,q1,q2,e1,e2⟩:=hg;obtain⟨us,v1,p1,z1⟩:=I.list q1;obtain⟨ws,v2,p2,z2⟩:=I.list q2;obtain⟨u,hu,ru⟩:=v1.get e1;obtain⟨t,ht,rt⟩:=v2.get e2;refine wpAny_pyNext_zip_item D s1 s2 s3 s4 s5 p1.isList p2.isList (by simpa using hu) (by simpa using ht) λh' a1 a2 a3 a4 a5 a6 a7=>⟨_,rfl,?_⟩
  refine wpAny_letOwnedTupleGo_zip a1 λxT b1 b2=>?_
  have lz:=abo s1;have nz:=afg lz;have T2:=b2.extBut _ _ nz a5;have nT:=I.aI.fresh (abH _);have I1:Inv X af σ (upd H s.heap.objs.size (.tup [x,y])) { s with heap:=xT }:=I.Yk (ch:=[z,TO,i1,i2]) (λb m=>hf b (by
    simp only[aa3,adX,afY] at m ⊢;rcases m with rfl|rfl|rfl|rfl<;>simp)) (λb o m e=>by
    simp only[aa3,adX,afY,not_or] at m;exact b2.extBut _ _ m.1 (a7 b o m.1 m.2.1 m.2.2.1 m.2.2.2 e)) (abH _) (show dh X.prog X.w _ xT _ (.tup [x,y]) from⟨show 2<=sizeLine by unfold sizeLine;lia,[u,t],.cons ru (.cons rt .nil),⟨_,T2,rfl,rfl,_,rfl⟩⟩)
  refine⟨.ref s.heap.objs.size,_,I1,rfl,⟨_,x,y,nT,rfl,rfl,λxs' h=>by rw[I.C6 h q1];exact e1,λys' h=>by rw[I.C6 h q2];exact e2⟩,?_,λb m=>?_⟩
  .have up:∀c o,c≠z->h'.get? c=some o->xT.get? c=some o:=λc o n e=>b2.extBut _ _ n e
   exact⟨b1,up _ _ D.TIz (a7 TI _ D.TIz D.TITO D.TIi1 D.TIi2 s2),⟨u,t,up _ _ D.TOz a2⟩,a3.at λo e=>up _ o D.i1z e,a4.at λo e=>up _ o D.i2z e⟩
  .rw[aL]
   .exact(hf b m).1
   .rintro rfl
    obtain⟨o4,e4,_⟩:=id s4;obtain⟨o5,e5,_⟩:=id s5;simp only[aa3,adX,afY] at m;rcases m with m|m|m|m|m
    .exact nz m
    .exact absurd (abo s2) (by rw[<- m];exact aeq _)
    .exact absurd (abo s3) (by rw[<- m];exact aeq _)
    .exact absurd (abo e4) (by rw[<- m];exact aeq _)
    .exact absurd (abo e5) (by rw[<- m];exact aeq _)
 done:=by
  intro X hP hw hK hc i af s σ H E I hf st hg;subst hP hw hK;obtain⟨s1,s2,⟨a,b',s3⟩,s4,s5⟩:=st;obtain⟨xs,ys,q1,q2,e⟩:=hg;obtain⟨us,v1,p1,z1⟩:=I.list q1;obtain⟨ws,v2,p2,z2⟩:=I.list q2;have l1:=v1.length;have l2:=v2.length;refine wpAny_pyNext_zip_end (I.ok.hd (hc.resolve_right λz=>aa6 z)) D s1 s2 s3 s4 s5 p1.isList p2.isList (e.imp (λe=>by simp;lia) λe=>by simp;lia) λh' k=>⟨rfl,I.KZ (ch:=[z,TO,i1,i2]) (λb m=>hf b (by
    simp only[aa3,adX,afY] at m ⊢;rcases m with rfl|rfl|rfl|rfl<;>simp)) λb o m e=>?_⟩
  simp only[aa3,adX,afY,not_or] at m;exact k b o m.1 m.2.1 m.2.2.1 m.2.2.2 e
 self:=λ_ _ _ _ _ st h=>wpAny_pyIter_zip st.1 h
section
variable{X:Cx}{elts:List Expr}{tp:Pos}{a b:Expr}{ta:TA}{p pos:Pos}
def Yw(K:PySem.W.Frag)(ta:TA):TI:=λσ H R=>ta σ H λvs H1=>∃l1 l2 xs ys,vs=[.ref l1,.ref l2]/\bY K H1 l1 xs/\bY K H1 l2 ys/\R (G6 K l1 l2) H1
theorem X6{x1}(hg:Gl X "zip")(hm:X.mg "zip"=none)(ha:PA X [a,b] ta)(hs:starEach [a,b] X.env=[(false,eval a X.env),(false,eval b X.env)]:=by rfl)(d8:starEach [b] X.env=[(false,eval b X.env)]:=by rfl):
  PI X (.Tuple elts x1 tp) (.Call (.Name "zip" p) [a,b] [] pos) (Yw X.K ta):=by
 intro af s σ H R I h;refine aeY (qC I hg hm boot_zip (afj (aM (ha pos af s σ H _ I h) λus s1 ⟨vs,H1,I1,r1,q1⟩=>?_) (by rw[hs,d8]) (by rw[d8];rfl)));obtain⟨l1,l2,xs,ys,rfl,h1,h2,q⟩:=q1;obtain⟨u,v,rfl,ru,rv⟩:=vals2 r1;cases ru;cases rv;obtain⟨us,v1,p1,z1⟩:=I1.list h1;obtain⟨ws,v2,p2,z2⟩:=I1.list h2;have b1:l1<s1.heap.objs.size:=let⟨o,n,e,_⟩:=p1;abo e
 have b2:l2<s1.heap.objs.size:=let⟨o,n,e,_⟩:=p2;abo e
 refine call_zip_2 p1.isList p2.isList λh' g1 g2 g3 g4 g5 g6 k=>?_
 refine wpAny_pyIter_zip g1 ?_;refine⟨_,_,_,_,H1,rfl,I1.kept k,acd (zipApart_new b1 b2),⟨g1,g2,⟨_,_,g3⟩,g4,g5⟩,λc hc=>?_,q⟩;have up:∀j,iH X af H1 (s1.heap.objs.size+j):=λj=>I1.pO (Nat.le_add_right _ _) (I1.aI.fresh (Nat.le_add_right _ _))
 simp only[aa3,adX,afY] at hc;rcases hc with rfl|rfl|rfl|rfl|rfl
 .exact up 4
 .exact up 2
 .exact up 3
 .exact up 0
 .exact up 1
end
end L2
namespace L2.Ev
open PySem PySem.Spec PyProof.Rows
section
variable{X:Cx}{elts:List Expr}{tp:Pos}{a b:Expr}{fa fb:EF}{p pos:Pos}
def qw(fa fb:EF):IF:=λρ=>match fa ρ,fb ρ with
 |some (.lst ds,t1),some (.lst es,t2)=>if(aN ds&&aN es)=true then some ((ds.zip es).map λp=>.tup [p.1,p.2],jT [(.lst ds,t1),(.lst es,t2)]) else none
 |_,_=>none
theorem aB.JK{K:PySem.W.Frag}{vs:List V}{i:Nat}(r:aB K H ds vs [])(e:ds[i]? = some d):∃v,vs[i]? = some v/\Rep K H d v []:=by
 obtain⟨v,f,e1,r1,s⟩:=r.get e;have:f=[]:=List.eq_nil_iff_forall_not_mem.mpr λa m=>by have:=s a m;cases this
 subst this;exact⟨v,e1,r1⟩
theorem aer{K:PySem.W.Frag}{l1 l2:Addr}{ds es:List D}{f1 f2:List Addr}(c1:aN ds=true)(c2:aN es=true):
  sP K (G6 K l1 l2) ((ds.zip es).map λp=>.tup [p.1,p.2]) [⟨.lst ds,.ref l1,f1⟩,⟨.lst es,.ref l2,f2⟩]:=by
 intro H i hh;obtain⟨p1,xs,g1,e1,q1,r1,_⟩:=(hh _ aar).d9;obtain⟨p2,ys,g2,e2,q2,r2,_⟩:=(hh _ (aaa _ aar)).d9;cases e1;cases e2;have n1:=r1.aC c1;have n2:=r2.aC c2;subst n1 n2;refine⟨λd hd=>?_,λhl=>?_⟩
 .rw[ab3] at hd;cases hz:(ds.zip es)[i]? with
  |none=>rw[hz] at hd;cases hd
  |some pr=>
   rw[hz] at hd;cases hd;obtain⟨k1,k2⟩:=List.getElem?_zip_eq_some.mp hz;obtain⟨x,hx,rx⟩:=r1.JK k1;obtain⟨y,hy,ry⟩:=r2.JK k2;refine⟨⟨xs,ys,x,y,q1,q2,hx,hy⟩,λv H1 hv=>?_⟩;obtain⟨T,a,b,hT,rfl,rfl,ha,hb⟩:=hv;have ea:=ha xs q1;have eb:=hb ys q2;rw[hx] at ea;rw[hy] at eb;cases ea;cases eb;have s2:aH H (upd H T (.tup [x,y])):=λb o e=>by rw[aL (cT e hT)];exact e
   exact⟨s2,[],.tup (cg.of bQ) (aB.cons (rx.same s2) (aB.cons (ry.same s2) .nil)),λa m=>nomatch m⟩
 .rw[List.length_map,List.length_zip,r1.length,r2.length] at hl;exact⟨xs,ys,q1,q2,by lia⟩
theorem Nq{x1}(hm:X.mg "zip"=none)(ha:FP X a fa)(hb:FP X b fb)(hg:Gl X "zip":=by rfl)(hs:starEach [a,b] X.env=[(false,eval a X.env),(false,eval b X.env)]:=by rfl)(d8:starEach [b] X.env=[(false,eval b X.env)]:=by rfl):
  FI X (.Tuple elts x1 tp) (.Call (.Name "zip" p) [a,b] [] pos) (qw fa fb):=by
 obtain⟨t,pa,hlen,q⟩:=ao ha (ao hb aG d8) (by rw[hs,d8]);exists 24,X6 hg hm pa hs d8;unfold qw at e
 split at e
 .rename_i d1 t1 d2 t2 h1 h2;obtain⟨hc,e⟩:=ci e;cases e;obtain⟨c1,c2⟩:=(aaY _ _).mp hc;refine q ok (by unfold ay aJ;rw[h1,h2]) λH1 vs fp s1 r g=>?_
  cases r with
  | @cons _ v1 _ _ f1 _ r1 r=>
   cases r with
   | @cons _ v2 _ _ f2 _ r2 r=>
    cases r;obtain⟨l1,xs,g1,rfl,q1,_,_⟩:=r1.d9;obtain⟨l2,ys,g2,rfl,q2,_,_⟩:=r2.d9;refine⟨l1,l2,xs,ys,rfl,q1,q2,k H1 _ [⟨.lst d1,.ref l1,f1⟩,⟨.lst d2,.ref l2,f2⟩] s1 (λh m=>?_) (aer c1 c2)⟩;have go:=g.over ok;rcases aa3.mp m with rfl|m
    .exact⟨r1,λa ma=>go a (abn _ ma)⟩
    .cases aa1.mp m;exact⟨r2,λa ma=>go a (aaM _ (abn _ ma))⟩
 .cases e
end
end L2.Ev
namespace L2
open PySem PySem.Spec PyProof.Rows
section
variable{X:Cx}
theorem Mm:∀{bs:List Bool}{us:List Value},aQ (bs.map V.bl) us->us=bs.map Value.bool
 |[],_,r=>by rw[af5] at r;cases r;rfl
 |b::bs,_,r=>by
  rw[aax] at r;cases r with
  |cons r1 r2=>cases r1;rw[Mm r2];rfl
theorem range_all(bs:List Bool):(List.range bs.length).all (λj=>bs.getD j true)=bs.all id:=by
 induction bs with
 |nil=>rfl
 |cons b r ih=>
  rw[abP,List.range_succ_eq_map,afW,afT,afW,<- ih];rfl
theorem To(hc:X.calm=true):gu X (.builtin "all") (λxs H Q=>∃(p:Addr) (bs:List Bool),xs=[V.ref p]/\bY X.K H p (bs.map V.bl)/\Q (.bl (bs.all id)) H):=by
 intro af s σ H xs us Q I r h;obtain⟨p,bs,rfl,hq,q⟩:=h;obtain⟨u,rfl,ru⟩:=vals1 r;cases ru;obtain⟨au,v1,pl,hz⟩:=I.list hq;have ei:=Mm v1;subst ei;have lp:p<s.heap.objs.size:=let⟨o,n,e,_⟩:=pl;abo e
 have hh:X.A.in1.handled=none:=I.ok.hd hc;refine call_all_walk (wpAny_pyIter_list pl.isList ?_);refine⟨s.heap.objs.size,_,_,_,_,_,λj=>bs.getD j true,rfl,Walks.list hh s.heap.objs.size p (acu lp) (bs.map Value.bool).toArray,⟨⟨_,ab2 _ rfl,rfl,rfl⟩,pl.isList.at λo e=>aaE _ e⟩,?_,λh' tk hk=>?_⟩
 .intro i v s' Q' E' hv hQ;rw[List.getElem?_toArray,ab3] at hv;cases e:bs[i]? with
  |none=>rw[e] at hv;cases hv
  |some b=>
   rw[e] at hv;cases hv;dsimp only at hQ;rw[ac7,e] at hQ;exact aeG hQ
 .have f:=I.pO (abH s.heap.objs.size) (I.aI.fresh (abH _));have I1:Inv X af σ H { s with heap:=s.heap.push { cls:=.type "list_iterator",data:=.fields #[.ref p,.int 0 0] } }:=I.kept λb o e=>aaE _ e
  rw[abW,List.length_map,range_all];exact⟨.bl _,H,I1.KZ (λb m=>by rw[aa1.mp m];exact f) λb o m e=>hk b o m e,rfl,q⟩
theorem Yc:vX X "int.bit_length" (λx xs H Q=>∃i,x=.int i/\xs=[]/\Q (.int (Builtin.Int.intBits i)) H):=by
 intro af s σ H x xs v us Q I rx rv h;obtain⟨i,rfl,rfl,q⟩:=h;obtain⟨t,rfl⟩:=rx;cases rv;exact PyProof.Rows.call_int_bit_length ⟨.int _,H,I.tok _,⟨_,rfl⟩,q⟩
end
end L2
namespace L2.Ev
open PySem PySem.Spec PyProof.Rows
section
variable{X:Cx}{a b c:Expr}{fa fb:EF}{p pos:Pos}
noncomputable def mG:List D->Option (List Bool)
 |[]=>some []
 |.bl b::r=>(mG r).map (b::·)
 |_=>none
theorem JG{K:PySem.W.Frag}:∀{ds:List D}{xs:List V}{fp:List Addr}{bs:List Bool},aB K H ds xs fp->mG ds=some bs->xs=bs.map V.bl
 |[],_,_,bs,r,e=>by cases r;cases e;rfl
 |d::ds,_,_,bs,r,e=>by
  cases r with
  |cons h t=>
   cases d<;>try (cases e;done)
   cases h;unfold mG at e;exists q,mG ds,r,e;cases e;rw[JG t q];rfl
def wL:D->Option D
 |.lst ds=>(mG ds).map λbs=>.bl (bs.all id)
 |_=>none
theorem Xq{K:PySem.W.Frag}:lF K (λxs H Q=>∃(p:Addr) (bs:List Bool),xs=[V.ref p]/\bY K H p (bs.map V.bl)/\Q (.bl (bs.all id)) H) wL:=by
 intro H x d1 f1 d Q r e k;cases d1 with
 |lst ds=>
  obtain⟨p,xs,f,rfl,hq,rs,_⟩:=r.d9;have e:(mG ds).map (λbs=>D.bl (bs.all id))=some d:=e;exists h,mG ds,bs,e;cases e;have ex:=JG rs h;subst ex;exact⟨p,bs,rfl,hq,k H _ [] (aH.refl H) (.bl _) ace λa m=>nomatch m⟩
 |_=>cases e
theorem Cw(hc:X.calm=true)(hm:X.mg "all"=none)(ha:FP X a fa)(hg:Gl X "all":=by rfl)(hs:starEach [a] X.env=[(false,eval a X.env)]:=by rfl):FP X (.Call (.Name "all" p) [a] [] pos) (e1 wL fa):=
 fp_1 Xq ha λta pa=>pK (To hc) hg hm boot_all (dW pa fH hs) (he:=hs)
noncomputable def oBits:D->Option D
 |.int i=>some (.int (Builtin.Int.intBits i))
 |_=>none
theorem acY{p2 p3:Pos}(ha:FP X a fa)(jf:attributeBase a "bit_length" X.env (eval a X.env)=eval a X.env:=by rfl)(jt:(p2.endLine==p3.line)=true:=by rfl):FP X (.Call (.Attribute a "bit_length" p2) [] [] p3) (e1 oBits fa):=by
 obtain⟨t,pa,q⟩:=ha;exists 21,SX PySem.F.plainAttrs_int PySem.F.slot_int_bit_length PySem.F.type_int_bit_length Yc pa jf jt;obtain⟨d1,t1,g1,g2,rfl⟩:=uv e;refine q ok g1 λH1 x f1 s1 r1 _=>?_
 cases r1<;>cases g2
 exact⟨rfl,_,rfl,rfl,k H1 _ [] s1 (.int _) .nil⟩
end
abbrev XF:=aA->Option (D×aA)
section
variable{X:Cx}{a b:Expr}{fa fb:EF}{pos:Pos}
theorem TM(ha:FP X a fa)(hb:FP X b fb):FP X (.Compare a [.Lt] [b] pos) (e2 oLt fa fb):=qm MJ se ha hb (jo _)
theorem NS(ha:FP X a fa)(hb:FP X b fb):FP X (.Compare a [.LtE] [b] pos) (e2 oLe fa fb):=qm CK se ha hb (jo _)
theorem SA(ha:FP X a fa)(hb:FP X b fb):FP X (.Compare a [.Is] [b] pos) (e2 ja fa fb):=qm O2 ND ha hb (jo _)
end
end L2.Ev
namespace L2.Ev
open PySem
theorem fT:∀ns:List Int,aN (ns.map D.int)=true
 |[]=>rfl
 |n::r=>by rw[aax];unfold aN;rw[fT r];rfl
theorem uO{as bs:List Int}(h:as.length+bs.length<=PySem.sizeLine):fX (.lst (as.map D.int)) (.lst (bs.map D.int))=some (.lst ((as++bs).map D.int)):=by
 show(if(aN (as.map D.int)&&aN (bs.map D.int)&&decide ((as.map D.int).length+(bs.map D.int).length<=PySem.sizeLine))=true then some (D.lst (as.map D.int++bs.map D.int)) else none)=_;rw[fT,fT,List.length_map,List.length_map,aaN h,acZ];rfl
theorem abz{ns:List Int}(h:ns.length<64):lV (.lst (ns.map D.int))=some (.lst ((cB ns).map D.int)):=by
 show(match eE (ns.map D.int) with|some ns=>if ns.length<64 then some (D.lst ((cB ns).map D.int)) else none|none=>none)=_;rw[ux];dsimp only;rw[if_pos h]
theorem uy{ns:List Int}:tY (.lst (ns.map D.int))=some (.lst (ns.map D.int)):=by show(if aN (ns.map D.int)=true then some (D.lst (ns.map D.int)) else none)=_;rw[if_pos (fT ns)]
theorem Qq{ns:List Int}:tY (.tup (ns.map D.int))=some (.lst (ns.map D.int)):=by show(if aN (ns.map D.int)=true then some (D.lst (ns.map D.int)) else none)=_;rw[if_pos (fT ns)]
theorem De{ns:List Int}:uu (.lst (ns.map D.int))=some (.tup (ns.map D.int)):=by show(if aN (ns.map D.int)=true then some (D.tup (ns.map D.int)) else none)=_;rw[if_pos (fT ns)]
open PySem PySem.Spec PyProof.Rows
theorem aB.look{K:PySem.W.Frag}{H:Hp}:∀{es:List (Str×D)}{fs:List (Str×V)}{fp:List Addr}{f:Str}{d:D},es.map (·.1)=fs.map (·.1)->aB K H (es.map (·.2)) (fs.map (·.2)) fp->es.lookup f=some d->∃v g,fs.lookup f=some v/\Rep K H d v g/\∀a∈g,a∈fp
 |[],[],_,_,_,_,_,e=>by cases e
 |[],_::_,_,_,_,k,_,_=>by simp at k
 |_::_,[],_,_,_,k,_,_=>by simp at k
 |(x,d0)::es,(y,v0)::fs,fp,f,d,k,r,e=>by
  simp only[aax,ae1] at k;obtain⟨rfl,k⟩:=k;cases r with
  |cons r1 r2=>
   by_cases hx:(f==x)=true
   .simp only[List.lookup,hx] at e ⊢;cases e;exact⟨v0,_,rfl,r1,λa m=>abn _ m⟩
   .have hx:(f==x)=false:=by simpa using hx
    simp only[List.lookup,hx] at e ⊢;obtain⟨v,g,h1,h2,h3⟩:=aB.look k r2 e;exact⟨v,g,h1,h2,λa m=>aaM _ (h3 a m)⟩
theorem uM:∀{es:List (Str×D)}{fs:List (Str×V)}{f:Str},es.map (·.1)=fs.map (·.1)->es.lookup f=none->fs.lookup f=none
 |[],[],_,_,_=>rfl
 |[],_::_,_,k,_=>by simp at k
 |_::_,[],_,k,_=>by simp at k
 |(x,d0)::es,(y,v0)::fs,f,k,e=>by
  simp only[aax,ae1] at k;obtain⟨rfl,k⟩:=k
  by_cases hx:(f==x)=true
  .simp only[List.lookup,hx] at e;cases e
  .have hx:(f==x)=false:=by simpa using hx
   simp only[List.lookup,hx] at e ⊢;exact uM k e
structure ClsAt(K:PySem.W.Frag)(cn:Str)(C:Addr):Prop where
 ns:PySem.W.nsIn K mainGlobals cn=some (some (.ref C))
 cl:j7 K C
theorem Rep.lY{K:PySem.W.Frag}{H:Hp}{cn:Str}(r:Rep K H (.ins cn es) v fp)(hn:PySem.W.nsIn K mainGlobals cn=some (some (.ref C))):
  ∃a dx fs g,v=.ref a/\fp=a::dx::g/\H a=some (.ins C dx fs)/\H dx=some (.own a)/\es.map (·.1)=fs.map (·.1)/\aB K H (es.map (·.2)) (fs.map (·.2)) g:=by
 cases r with
 | @ins _ a C' dx fs _ g h0 h1 h2 h3 h4=>
  rw[hn] at h0;cases h0;exact⟨a,dx,fs,g,rfl,rfl,h1,h2,h3,h4⟩
def bJ(cn f:Str)(fa:EF):EF:=λρ=>match fa ρ with
 |some (.ins c es,t)=>if c=cn then(es.lookup f).map λd=>(d,k_ t) else none
 |_=>none
section
variable{X:Cx}{a:Expr}{fa:EF}{pos:Pos}
theorem cN.sub(hz:∀a j,z a=some j->∃o,H a=some o)(h:cN z H t f)(s:∀a∈g,a∈f):cN z H (k_ t) g:=by
 cases t with
 |sh o=>exact λa m j q=>h a (s a m) j q
 |own=>exact λa m j q=>by obtain⟨o,w⟩:=hz a j q;rw[h.2 a (s a m)] at w;cases w
 |lk=>exact λa m j q=>by obtain⟨o,w⟩:=hz a j q;rw[h.2 a (s a m)] at w;cases w
theorem bz{cn f:Str}{C:Addr}(hC:ClsAt X.K cn C)(na:iC X.K C f)(ha:FP X a fa)(hb:attributeBase a f X.env (eval a X.env)=eval a X.env:=by rfl):FP X (.Attribute a f pos) (bJ cn f fa):=by
 obtain⟨t,p,q⟩:=ha;exists 21,pS p hb;unfold bJ at e;exists h,fa ρ,w,e,0;obtain⟨d0,t0⟩:=w;rw[h] at e;cases d0<;>try (cases e;done)
 rename_i c es;dsimp only at e
 by_cases hc:c=cn
 .subst hc;rw[if_pos rfl] at e;exists hl,es.lookup f,d1,e;cases e;refine q ok h λH1 v fp s1 r1 g1=>?_
  obtain⟨b,dx,fs,g,rfl,rfl,h1,h2,h3,h4⟩:=r1.lY hC.ns;obtain⟨u,gf,h5,h6,h7⟩:=aB.look h3 h4 hl;exact⟨b,C,dx,fs,u,rfl,h1,hC.cl,na,h5,k H1 u gf s1 h6 (cN.sub (λa j e=>(ok.zd a j e).1) g1 λa m=>aaa _ (aaa _ (h7 a m)))⟩
 .rw[if_neg hc] at e;cases e
end
noncomputable def cK(cn m:Str)(F:List D->Option D)(fo:EF)(g:AF):EF:=λρ=>match fo ρ with
 |some (.ins c es,_)=>if c=cn/\es.lookup m=none then(g ρ).bind λps=>(F (.ins c es::ps.map (·.1))).map λd=>(d,.own) else none
 |_=>none
section
variable{X:Cx}{o e:Expr}{es:List Expr}{fo:EF}{g:AF}{m cn:Str}{apos pos:Pos}{k:Nat}{C f:Addr}{fd:FuncData}{ps:List Str}{F:List D->Option D}{pl:Sem Bool}
theorem Q8{ta:TA}(hC:ClsAt X.K cn C)(q:∀{H0:Hp}{S:List Addr}{z:Addr->Option Nat}{Q:VK}{d:D}{tg:Tag},Ok X.K H0 S z aq ρ σ H->fo ρ=some (d,tg)->(∀H' v fp,aH H H'->Rep X.K H' d v fp->cN z H tg fp->Q v H')->t σ H Q)
  (qa:∀{H0:Hp}{S:List Addr}{z:Addr->Option Nat}{aq:List b7}{ρ:aA}{σ:St}{H:Hp}{Q:List V->Hp->Prop}{ps:List (D×Tag)},Ok X.K H0 S z aq ρ σ H->g ρ=some ps->(∀H' vs fp,aH H H'->aB X.K H' (ps.map (·.1)) vs fp->cN z H (jT ps) fp->Q vs H')->ta σ H Q)
  (ok:Ok X.K H0 S z aq ρ σ H) (e0:cK cn m F fo g ρ=some (d,tg)) (kk:∀H' v fp,aH H H'->Rep X.K H' d v fp->cN z H tg fp->Q v H') :
  zq C m (bf X.K F) [] E0 t ta σ H Q:=by
 unfold cK at e0;cases h:fo ρ with
 |none=>rw[h] at e0;cases e0
 |some w=>
  obtain⟨d0,t0⟩:=w;rw[h] at e0;cases d0<;>try (cases e0;done)
  rename_i c AW;dsimp only at e0
  by_cases hc:c=cn/\AW.lookup m=none
  .rw[if_pos hc] at e0;obtain⟨rfl,hm⟩:=hc;cases h2:g ρ with
   |none=>rw[h2] at e0;cases e0
   |some qs=>
    rw[h2,acR] at e0;cases h3:F (.ins c AW::qs.map (·.1)) with
    |none=>rw[h3] at e0;cases e0
    |some d1=>
     rw[h3] at e0;cases e0;refine q ok h λH1 v fp s1 r1 g1=>?_
     obtain⟨b,dx,fs,gf,rfl,rfl,h4,h5,h6,h7⟩:=r1.lY hC.ns;refine⟨b,dx,fs,rfl,h4,uM h6 hm,?_⟩;refine qa (ok.same s1) h2 λH2 vs nA s2 r2 _=>?_
     rw[acm];exact⟨_,_,d,.cons (r1.same s2) r2,h3,λH3 u jZ s3 r3 nd fr=>kk H3 u jZ ((s1.trans s2).trans s3) r3 ⟨nd,λa m=>s1.free (s2.free (fr a m))⟩⟩
  .rw[if_neg hc] at e0;cases e0
theorem gb(hC:ClsAt X.K cn C)(hm:lT X.K C m f)(G:cI X.prog X.w X.K X.mg X.base c_ k f fd ps (bf X.K F))(hr:bh k X.A)(hb:Binds X.K fd ps [])(ho:FP X o fo)(ha:FA X (e::es) g)
  (iE:SE X e es pos:=by exact⟨rfl,rfl⟩)
  (ht:ya X o m apos (e::es) pos pl:=by exact rfl):FP X (.Call (.Attribute o m apos) (e::es) [] pos) (cK cn m F fo g):=by
 obtain⟨t,p,q⟩:=ho;obtain⟨ta,pa,_,qa⟩:=ha;exact⟨_,Au p hC.cl hm G hr hb .nil mU pa iE.1 iE.2 ht,@λH0 S z aq ρ σ H Q d tg ok e0 kk=>Q8 hC q qa ok e0 kk⟩
theorem eS(hC:ClsAt X.K cn C)(hm:lT X.K C m f)(G:cI X.prog X.w X.K X.mg X.base c_ k f fd ps (bf X.K F))(hr:bh k X.A)(hb:Binds X.K fd ps [])(ho:FP X o fo)
  (ht:ya X o m apos [] pos pl:=by exact rfl):FP X (.Call (.Attribute o m apos) [] [] pos) (cK cn m F fo aJ):=by
 obtain⟨t,p,q⟩:=ho;obtain⟨ta,pa,_,qa⟩:=aG (X:=X);refine⟨_,La p hC.cl hm G hr hb .nil mU ht,@λH0 S z aq ρ σ H Q d tg ok e0 kk=>Q8 hC q (@λ_ _ _ _ _ _ H _ _ _ e q=>by cases e;exact q H _ _ (aH.refl H) .nil .nil) ok e0 kk⟩
end
noncomputable abbrev MF:=D->List D->Option (D×D)
def dH(K:PySem.W.Frag)(G:MF):Sp:=λvs H Q _=>∃a ws d0 bq ds eV r d1,vs=V.ref a::ws/\Rep K H d0 (.ref a) bq/\bq.Nodup/\aB K H ds ws eV/\(∀b∈eV,b∉bq)/\G d0 ds=some (r,d1)/\
 ∀H' v bU,aT H H'->(∀b o,b∉bq->H b=some o->H' b=some o)->Rep K H' d1 (.ref a) bU->bU.Nodup->(∀b∈bU,b∈bq\/H b=none)->Rep K H' r v []->Q v H'
def apart(i:Nat)(ps:List (D×Tag)):Bool:=match jT ps with
 |.sh o=>!o.contains i
 |_=>true
theorem Ih{K:PySem.W.Frag}{H0:Hp}{S:List Addr}{z:Addr->Option Nat}{aq:List b7}{ps:List (D×Tag)}(ok:Ok K H0 S z aq ρ σ H)(h:apart i ps=true)(g:cN z H (jT ps) fp)(zz:uz z i .own bq):∀b∈fp,b∉bq:=by
 intro b m n;unfold apart at h;have zb:=zz.2 b n;cases ht:jT ps with
 |sh o=>
  rw[ht] at h g;have:=g b m i zb;simp at h;exact h this
 |own=>
  rw[ht] at g;obtain⟨⟨o,w⟩,_⟩:=ok.zd b i zb;rw[g.2 b m] at w;cases w
 |lk=>
  rw[ht] at g;obtain⟨⟨o,w⟩,_⟩:=ok.zd b i zb;rw[g.2 b m] at w;cases w
def xO(i:Nat)(cn m:Str)(G:MF)(g:AF):XF:=λρ=>match ρ[i]?,g ρ with
 |some (some (.ins c es,.own)),some ps=>if c=cn/\es.lookup m=none/\apart i ps=true then(G (.ins c es) (ps.map (·.1))).map λw=>(w.1,bP ρ i w.2) else none
 |_,_=>none
theorem QN{i:Nat}{cn m:Str}{G:MF}{g:AF}{ρ ρ':aA}{r:D}(e:xO i cn m G g ρ=some (r,ρ')):∃es ps d1,ρ[i]? = some (some (.ins cn es,.own))/\g ρ=some ps/\es.lookup m=none/\apart i ps=true/\G (.ins cn es) (ps.map (·.1))=some (r,d1)/\ρ'=bP ρ i d1:=by
 unfold xO at e
 split at e
 .rename_i c es ps h1 h2
  by_cases hc:c=cn/\es.lookup m=none/\apart i ps=true
  .rw[if_pos hc] at e;obtain⟨rfl,hm,ha⟩:=hc;exists h3,G (.ins c es) (ps.map (·.1)),w,e;cases e;exact⟨es,ps,w.2,h1,h2,hm,ha,h3,rfl⟩
  .rw[if_neg hc] at e;cases e
 .cases e
def FZ(X:Cx)(e:Expr)(f:XF):Prop:=∃t,PE X e t/\∀{H0:Hp}{S:List Addr}{z:Addr->Option Nat}{aq:List b7}{ρ:aA}{σ:St}{H:Hp}{Q:VK}{d:D}{ρ':aA},
 Ok X.K H0 S z aq ρ σ H->f ρ=some (d,ρ')->(∀z' H' v,Ok X.K H0 S z' aq ρ' σ H'->Rep X.K H' d v []->Q v H')->t σ H Q
section
variable{X:Cx}{e:Expr}{es:List Expr}{g:AF}{m cn x:Str}{p1 apos pos:Pos}{k:Nat}{C f:Addr}{fd:FuncData}{ps:List Str}{G:MF}{pl:Sem Bool}{fx:XF}
theorem aee{i:Nat}{ta:TA}(hC:ClsAt X.K cn C)(hN:X.N[i]? = some x)
  (qa:∀{H0:Hp}{S:List Addr}{z:Addr->Option Nat}{aq:List b7}{ρ:aA}{σ:St}{H:Hp}{Q:List V->Hp->Prop}{ps:List (D×Tag)},Ok X.K H0 S z aq ρ σ H->g ρ=some ps->(∀H' vs fp,aH H H'->aB X.K H' (ps.map (·.1)) vs fp->cN z H (jT ps) fp->Q vs H')->ta σ H Q)
  {H0:Hp} (ok:Ok X.K H0 S z aq ρ σ H) (e0:xO i cn m G g ρ=some (d,ρ')) (kk:∀z' H' v,Ok X.K H0 S z' aq ρ' σ H'->Rep X.K H' d v []->Q v H') :
  zq C m (dH X.K G) [] E0 (n5 i) ta σ H Q:=by
 obtain⟨AW,qs,d1,h1,h2,hm,nN,hG,rfl⟩:=QN e0;obtain⟨v,bq,hs,r0,zz⟩:=ok.sl i _ _ h1;refine⟨v,hs,?_⟩;obtain⟨b,dx,fs,gf,rfl,Cj,h4,h5,h6,h7⟩:=r0.lY hC.ns;refine⟨b,dx,fs,rfl,h4,uM h6 hm,?_⟩;refine qa ok h2 λH2 vs nA s2 r2 g2=>?_
 rw[acm];have jB:=ok.same s2;refine⟨b,vs,_,bq,_,nA,d,d1,rfl,r0.same s2,zz.1,r2,Ih ok nN g2 zz,hG,λH3 u bU im kp r1 nd fr rr=>?_⟩;obtain⟨z',i9⟩:=jB.put h1 hs zz im kp r1 nd fr;exact kk z' H3 u i9 rr
theorem j0(i:Nat)(hC:ClsAt X.K cn C)(hm:lT X.K C m f)(GG:cI X.prog X.w X.K X.mg X.base c_ k f fd ps (dH X.K G))(hr:bh k X.A)(hb:Binds X.K fd ps [])(va:VA X i x:=by walk_at "va")
  (ht:ya X (.Name x p1) m apos [] pos pl:=by exact rfl):FZ X (.Call (.Attribute (.Name x p1) m apos) [] [] pos) (xO i cn m G aJ):=
 ⟨_,La va.pe hC.cl hm GG hr hb .nil mU ht,@λH0 S z aq ρ σ H Q d ρ' ok e0 kk=>aee hC va.N (@λ_ _ _ _ _ _ H _ _ _ e q=>by cases e;exact q H _ _ (aH.refl H) .nil .nil) ok e0 kk⟩
noncomputable def sZ(f:XF):SF:=λρ=>(f ρ).map λw=>.nx w.2
theorem jS(he:FZ X e fx)(kF:swapsWith e none pos.line X.env=pure false:=by rfl):fM X (.Expr e pos) (sZ fx):=by
 obtain⟨t,p,q⟩:=he;exists 23,AK p kF;unfold sZ at e;exists h,fx ρ,w,e,0;obtain⟨d,aS⟩:=w;rw[h] at e;cases e;exact q ok h λz' H1 v cE r1=>k z' σ H1 cE (.refl _ _)
def L5(i:Nat)(f:XF):SF:=λρ=>match f ρ with
 |some (d,ρ')=>some (.nx (iw ρ' i d .own))
 |none=>none
theorem ZY(i:Nat){pos':Pos}(he:FZ X e fx)(hN:X.N.Nodup)(hi:X.N[i]? = some x:=by rfl)(hx:Loc X.env.scope x:=by first|exact Or.inl rfl|exact Or.inr rfl)
  (hs:swapsWith e (some (.Name x pos')) pos.line X.env=pure false:=by rfl) (hf:X.fn x=true\/X.env.scope.names.lookup x=some .local:=by first|exact .inl rfl|exact .inr rfl) (oS:kZ X x=false:=by rfl):fM X (.Assign [.Name x pos'] e pos) (L5 i fx):=by
 obtain⟨t,p,q⟩:=he;exists 23,zB hN hi hx p hs hf;unfold L5 at e;cases h:fx ρ with
 |none=>rw[h] at e;cases e
 |some w=>
  obtain⟨d,aS⟩:=w;rw[h] at e;cases e;refine q ok h λz1 H1 v cE r1=>?_
  exact cE.stored (aH.refl H1) r1 .nil λz' aX=>k z' _ H1 aX (.set hi oS)
end
noncomputable def vJ(cn:Str)(G:MF)(g:AF):EF:=λρ=>(g ρ).bind λps=>match G (.ins cn []) (ps.map (·.1)) with
 |some (.aD,d)=>some (d,.own)
 |_=>none
section
variable{X:Cx}{e:Expr}{es:List Expr}{g:AF}{cn x:Str}{p pos:Pos}{k:Nat}{C f:Addr}{fd:FuncData}{ps:List Str}{G:MF}
theorem make_core{H1:Hp}{vs:List V}{fp:List Addr}{Q:VK}(hn:PySem.W.nsIn X.K mainGlobals cn=some (some (.ref C)))(r1:aB X.K H1 ds vs fp)(h3:G (.ins cn []) ds=some (.aD,d))(kk:∀H' v fp,aH H1 H'->Rep X.K H' d v fp->fp.Nodup->(∀a∈fp,H1 a=none)->Q v H'):
  ∀x dx,H1 x=none->H1 dx=none->dx≠x->dH X.K G (.ref x::(vs++[])) (upd (upd H1 dx (.own x)) x (.ins C dx [])) (λv H2=>v=.aD/\Q (.ref x) H2) E0:=by
 intro b dx nb A4 ne;rw[acm];have s2:aH H1 (upd (upd H1 dx (.own b)) b (.ins C dx [])):=λc o e=>by rw[aL (cT e nb),aL (cT e A4)];exact e
 refine⟨b,vs,.ins cn [],[b,dx],_,fp,.aD,d,rfl,.ins hn bQ (by rw[aL ne];exact bQ) rfl .nil,?_,r1.same s2,λc m n=>?_,h3,λH3 u bU im kp r3 nd fr rr=>?_⟩
 .exact abv.mpr ⟨λm=>ne (aa1.mp m).symm,abv.mpr ⟨(λm=>nomatch m),ace⟩⟩
 .obtain⟨o,w,_⟩:=r1.cG c m;rcases aa3.mp n with e|n
  .rw[e,nb] at w;cases w
  .rw[aa1.mp n,A4] at w;cases w
 .cases rr;refine⟨rfl,kk H3 _ bU (λc o e=>?_) r3 nd λc m=>?_⟩
  .refine kp c o (λn=>?_) (s2 c o e);rcases aa3.mp n with q|n
   .rw[q,nb] at e;cases e
   .rw[aa1.mp n,A4] at e;cases e
  .rcases fr c m with q|q
   .rcases aa3.mp q with q|q
    .rw[q];exact nb
    .rw[aa1.mp q];exact A4
   .exact s2.free q
theorem O_{ta:TA}(hn:PySem.W.nsIn X.K mainGlobals cn=some (some (.ref C)))
  (qa:∀{H0:Hp}{S:List Addr}{z:Addr->Option Nat}{aq:List b7}{ρ:aA}{σ:St}{H:Hp}{Q:List V->Hp->Prop}{ps:List (D×Tag)},Ok X.K H0 S z aq ρ σ H->g ρ=some ps->(∀H' vs fp,aH H H'->aB X.K H' (ps.map (·.1)) vs fp->cN z H (jT ps) fp->Q vs H')->ta σ H Q)
  {H0:Hp}{S:List Addr}{z:Addr->Option Nat}{aq:List b7}{ρ:aA}{σ:St}{H:Hp}{Q:VK}{d:D}{tg:Tag} (ok:Ok X.K H0 S z aq ρ σ H) (e0:vJ cn G g ρ=some (d,tg)) (kk:∀H' v fp,aH H H'->Rep X.K H' d v fp->cN z H tg fp->Q v H') :
  EB C (dH X.K G) [] E0 ta σ H Q:=by
 unfold vJ at e0;exists h2,g ρ,qs,e0,0;rw[h2,acR] at e0;exists h3,G (.ins cn []) (qs.map (·.1)),w,e0,0;obtain⟨r,d1⟩:=w;rw[h3] at e0;cases r<;>try (cases e0;done)
 cases e0;refine qa ok h2 λH1 vs fp s1 r1 _=>?_
 exact make_core hn r1 h3 λH' v fp s2 r3 nd fr=>kk H' v fp (s1.trans s2) r3 ⟨nd,λa m=>s1.free (fr a m)⟩
theorem aa9(hn:PySem.W.nsIn X.K mainGlobals cn=some (some (.ref C)))(M:Mk X.K C f)(GG:cI X.prog X.w X.K X.mg X.base c_ k f fd ps (dH X.K G))(hr:bh (k+1) X.A)(hm:X.mg x=some (.ref C))(hb:Binds X.K fd ps [])(hg:GD X x:=by exact⟨rfl,by decide⟩):
  FP X (.Call (.Name x p) [] [] pos) (vJ cn G aJ):=
 ⟨_,Tj M GG hr hg.1 hm hb .nil mU hg.2,@λH0 S z aq ρ σ H Q d tg ok e0 kk=>O_ hn (@λ_ _ _ _ _ _ H _ _ _ e q=>by cases e;exact q H _ _ (aH.refl H) .nil .nil) ok e0 kk⟩
theorem MA(hn:PySem.W.nsIn X.K mainGlobals cn=some (some (.ref C)))(M:Mk X.K C f)(GG:cI X.prog X.w X.K X.mg X.base c_ k f fd ps (dH X.K G))(hr:bh (k+1) X.A)(hm:X.mg x=some (.ref C))(hb:Binds X.K fd ps [])(ha:FA X (e::es) g)(hg:GD X x:=by exact⟨rfl,by decide⟩)
  (he:SE X e es pos:=by exact⟨rfl,rfl⟩):FP X (.Call (.Name x p) (e::es) [] pos) (vJ cn G g):=by
 obtain⟨ta,pa,_,qa⟩:=ha;exact⟨_,Xb M GG hr hg.1 hm hb .nil mU pa hg.2 he.1 he.2,@λH0 S z aq ρ σ H Q d tg ok e0 kk=>O_ hn qa ok e0 kk⟩
end
end L2.Ev
namespace L2
open PySem PySem.Spec PyProof.Rows
section
variable{X:Cx}
noncomputable abbrev Cx.ki(X:Cx)(xs:List Str):Cx:={ X with fn:=λy=>!(xs.contains y) }
theorem ir.ki{st:List Stmt}(hX:X.fn=λ_=>true)(h:ir (X.ki xs) st t):ir X st t:=λaf s σ H W I hw=>by
 have I':Inv (X.ki xs) af σ H s:=⟨⟨I.ok.mod,I.ok.kind,I.ok.glob,I.ok.blt,I.ok.above,I.ok.inj,I.ok.has,λx c _ e=>I.ok.vG x c (by rw[hX]) e,I.ok.hd,I.ok.frames,I.ok.vO,I.ok.Bm,I.ok.bs,I.ok.kD,I.ok.vq,I.ok.ud,I.ok.kC,I.ok.qo⟩,I.os,I.bare,I.base,I.loc,I.cell,I.free,I.jh,I.pin,I.aI,I.len,I.hq⟩
 have back:∀{aE:St}{H':Hp}{s':Shared},Inv (X.ki xs) af aE H' s'->Inv X af aE H' s':=λJ=>⟨I.ok,J.os,J.bare,J.base,J.loc,J.cell,J.free,J.jh,J.pin,J.aI,J.len,J.hq⟩
 refine aeR (h af s σ H W I' hw) (λf s' q=>?_) λ_ _ z=>z
 cases f with
 |next=>obtain⟨a,b,J,q⟩:=q;exact⟨a,b,back J,q⟩
 |brk=>obtain⟨a,b,J,q⟩:=q;exact⟨a,b,back J,q⟩
 |cont=>obtain⟨a,b,J,q⟩:=q;exact⟨a,b,back J,q⟩
 |ret u=>obtain⟨v,a,b,J,r,q⟩:=q;exact⟨v,a,b,back J,r,q⟩
end
end L2
namespace L2.Ev
open PySem PySem.Spec PyProof.Rows
noncomputable def j6:List Nat->aA->Option (List D)
 |[],_=>some []
 |i::J,ρ=>match ρ[i]? with
  |some (some (d,Tag.own))=>(j6 J ρ).map (d::·)
  |_=>none
def x6(J:List Nat)(im:Bool)(X:Cx)(H0:Hp)(S:List Addr)(aq:List b7)(oU:St)(E:Ends):Out->Prop
 |.rt p=>∃r es,p=.tup (r::es)/\∀z ρ σ H v cL,Ok X.K H0 S z aq ρ σ H->j6 J ρ=some es->Kp X oU σ->Rep X.K H r v cL->cL.Nodup->(∀b∈cL,(H0 b=none\/b∈S)/\∀i∈J,z b≠some i)->(im=true->cL=[])->E.rt v H
 |o=>nX X H0 S aq oU E o
def FJ(J:List Nat)(im:Bool)(X:Cx)(st:List Stmt)(f:SF):Prop:=∃t,ir X st t/\∀{H0:Hp}{S:List Addr}{z:Addr->Option Nat}{aq:List b7}{ρ:aA}{σ:St}{H:Hp}{E:Ends}{o:Out},
 Ok X.K H0 S z aq ρ σ H->f ρ=some o->x6 J im X H0 S aq σ E o->t E σ H
def pR(J:List Nat)(im:Bool)(X:Cx)(st:Stmt)(f:SF):Prop:=∃t,PS X st t/\∀{H0:Hp}{S:List Addr}{z:Addr->Option Nat}{aq:List b7}{ρ:aA}{σ:St}{H:Hp}{E:Ends}{o:Out},
 Ok X.K H0 S z aq ρ σ H->f ρ=some o->x6 J im X H0 S aq σ E o->t E σ H
noncomputable abbrev HJ:=FJ [0]
noncomputable abbrev FM:=FJ [0] true
theorem x6.of{J:List Nat}{im:Bool}{X:Cx}{H0:Hp}{S:List Addr}{aq:List b7}{σ aE:St}{E:Ends}{o:Out}(k:x6 J im X H0 S aq σ E o)(a:Kp X σ aE):x6 J im X H0 S aq aE E o:=by
 cases o with
 |nx ρ=>exact nX.of (o:=.nx ρ) k a
 |bk ρ=>exact nX.of (o:=.bk ρ) k a
 |ct ρ=>exact nX.of (o:=.ct ρ) k a
 |er raw cn ρ=>exact uw.of k a
 |rt d=>obtain⟨r,d0,e,k⟩:=k;exact⟨r,d0,e,λz ρ s H v cL ok h b=>k z ρ s H v cL ok h (a.trans b)⟩
noncomputable def jk(f:SF):SF:=λρ=>match f ρ with
 |some (.nx ρ')=>some (.nx ρ')
 |some (.bk ρ')=>some (.bk ρ')
 |some (.ct ρ')=>some (.ct ρ')
 |some (.er raw cn ρ')=>some (.er raw cn ρ')
 |_=>none
section
variable{J:List Nat}{im:Bool}{X:Cx}{pos:Pos}{st:Stmt}{rest:List Stmt}{f g:SF}
theorem a_(h:fM X st f):pR J im X st (jk f):=by
 obtain⟨t,p,q⟩:=h;refine⟨t,p,@λH0 S z aq ρ σ H E o ok e k=>?_⟩;unfold jk at e;cases h:f ρ with
 |none=>rw[h] at e;cases e
 |some w=>
  rw[h] at e;refine q ok h ?_;cases w<;>first|(cases e;done)|(cases e;exact k)
theorem jc:FJ J im X [] g9:=⟨_,Qa,@λ_ _ z _ _ σ H _ _ ok e k=>by cases e;exact k z σ H ok (.refl _ _)⟩
theorem cH(h:pR J im X st f):FJ J im X [st] f:=let⟨t,p,q⟩:=h;⟨t,MX p,q⟩
theorem aY(h1:pR J im X st f)(h2:FJ J im X rest g):FJ J im X (st::rest) (cC f g):=by
 obtain⟨t,p,q⟩:=h1;obtain⟨t',p',q'⟩:=h2;exists 23,yD p p';unfold cC at e;cases h:f ρ with
 |none=>rw[h] at e;cases e
 |some w=>
  refine q ok h ?_;rw[h] at e;cases w with
  |nx ρ'=>exact λz' aE H' aX a=>q' aX e (k.of a)
  |rt d=>cases e;exact k
  |bk ρ'=>cases e;exact k
  |ct ρ'=>cases e;exact k
  |er _ _ _=>cases e;exact k
theorem f9{c:Expr}{a b:List Stmt}{tc:TF}(hc:FT X c tc)(ha:FJ J im X a f)(hb:FJ J im X b g):pR J im X (.If c a b pos) (fP tc f g):=by
 obtain⟨t,p,q⟩:=hc;obtain⟨t1,p1,q1⟩:=ha;obtain⟨t2,p2,q2⟩:=hb;exists 23,NB p p1 p2;unfold fP at e;cases h:tc ρ with
 |none=>rw[h] at e;cases e
 |some y=>
  rw[h] at e;refine q ok h λH1 s1=>?_
  cases y with
  |true=>rw[if_pos rfl];exact q1 (ok.same s1) e k
  |false=>rw[if_neg aa6];exact q2 (ok.same s1) e k
theorem o7:pR J im X st Q7:=⟨_,Kz,@λ_ _ _ _ _ _ _ _ _ _ e _=>by cases e⟩
def oX(f:EF)(J:List Nat:=[0]):SF:=λρ=>match f ρ,j6 J ρ with
 |some (r,_),some es=>if aC r=true then some (.rt (.tup (r::es))) else none
 |_,_=>none
theorem lJ{e:Expr}{f:EF}(he:FP X e f):pR J im X (.Return (some e) pos) (oX f J):=by
 obtain⟨t,p,q⟩:=he;exists 23,wY p;unfold oX at e
 split at e
 .rename_i r tg es h1 h2
  by_cases hi:aC r=true
  .rw[if_pos hi] at e;cases e;obtain⟨r',cU,ee,k⟩:=k;cases ee;refine q ok h1 λH1 v fp s1 r1 _=>?_
   have hn:=r1.aC hi;subst hn;exact k z ρ σ H1 v [] (ok.same s1) h2 (.refl _ _) r1 ace (λb m=>nomatch m) λ_=>rfl
  .rw[if_neg hi] at e;cases e
 .cases e
def BX(f:XF)(J:List Nat:=[0]):SF:=λρ=>match f ρ with
 |some (r,ρ')=>(j6 J ρ').map λes=>.rt (.tup (r::es))
 |none=>none
theorem aac{e:Expr}{f:XF}(he:FZ X e f):pR J im X (.Return (some e) pos) (BX f J):=by
 obtain⟨t,p,q⟩:=he;exists 23,wY p;unfold BX at e;cases h1:f ρ with
 |none=>rw[h1] at e;cases e
 |some w=>
  rw[h1] at e;obtain⟨es,h2,rfl⟩:=ab9.mp e;obtain⟨r',cU,ee,k⟩:=k;cases ee;exact q ok h1 λz' H1 v cE r1=>k z' w.2 σ H1 v [] cE h2 (.refl _ _) r1 ace (λb m=>nomatch m) λ_=>rfl
def MP(i:Nat)(J:List Nat:=[0]):SF:=λρ=>match ρ[i]?,j6 J ρ with
 |some (some (r,Tag.own)),some es=>if J.contains i=true then none else some (.rt (.tup (r::es)))
 |_,_=>none
theorem SW(i:Nat){x:Str}{p1:Pos}(va:VA X i x:=by walk_at "va"):pR J false X (.Return (some (.Name x p1)) pos) (MP i J):=by
 exists 23,wY va.pe;unfold MP at e
 split at e
 .rename_i r es h1 h0
  by_cases hj:J.contains i=true
  .rw[if_pos hj] at e;cases e
  .rw[if_neg hj] at e;cases e;obtain⟨r',cU,ee,k⟩:=k;cases ee;obtain⟨v,fp,hs,rr,zz⟩:=ok.sl i _ _ h1;refine⟨v,hs,k z ρ σ H v fp ok h0 (.refl _ _) rr zz.1 (λb m=>⟨(ok.zd b i (zz.2 b m)).2,λj mj q=>?_⟩) λq=>nomatch q⟩;rw[zz.2 b m] at q;cases q;exact hj (ad3.mpr mj)
 .cases e
end
noncomputable def Bv(n:Nat)(d0:D)(ds:List D):aA:=some (d0,.own)::(ds.map (λd=>some (d,.sh []))++List.replicate (n-(ds.length+1)) none)
def runM(n N:Nat)(b:SF):MF:=λd0 ds=>if ds.length + 1=n then(match b (Bv N d0 ds) with
 |some (.rt (.tup [r,d1]))=>some (r,d1)
 |some (.nx ρ)=>match ρ[0]? with
  |some (some (d1,Tag.own))=>some (.aD,d1)
  |_=>none
 |_=>none) else none
theorem aec{ρ:aA}{d:D}(h:j6 [0] ρ=some [d]):ρ[0]? = some (some (d,.own)):=by
 unfold j6 at h
 split at h
 .rename_i d' e;cases h;exact e
 .cases h
def DG(im:Bool)(K:PySem.W.Frag)(G:MF):Sp:=λvs H Q _=>∃v0 ws d0 bq ds eV r d1,vs=v0::ws/\Rep K H d0 v0 bq/\bq.Nodup/\aB K H ds ws eV/\(∀b∈eV,b∉bq)/\G d0 ds=some (r,d1)/\
 ∀H' v bU cL,aT H H'->(∀b o,b∉bq->H b=some o->H' b=some o)->Rep K H' d1 v0 bU->bU.Nodup->(∀b∈bU,b∈bq\/H b=none)->Rep K H' r v cL->cL.Nodup->(∀b∈cL,(b∈bq\/H b=none)/\b∉bU)->(im=true->cL=[])->Q v H'
section
variable{P:Program}{w:World}{K:PySem.W.Frag}{mg:Str->Option Value}{base:Heap}
theorem RS{G:MF}:∀vs H Q E,dH K G vs H Q E->DG true K G vs H Q E:=by
 rintro _ _ _ _ ⟨a,ws,d0,bq,ds,eV,r,d1,h1,h2,h3,h4,h5,h6,q⟩
 exact⟨.ref a,ws,d0,bq,ds,eV,r,d1,h1,h2,h3,h4,h5,h6,λH' v bU cL a1 a2 a3 a4 a5 a6 _ _ e=>q H' v bU a1 a2 a3 a4 a5 (by rw[<- e rfl];exact a6)⟩
theorem adF{im:Bool}{x qual x0:Str}{st:Stmt}{f:Addr}{fd:FuncData}{N ps:List Str}{k:Nat}{b:SF}(F:jI K x qual st f fd)(S:pI N ps (cR st))(h0:N[0]? = some x0)
  (hb:∀(aR:Value) (A:Around) (outer:List Env) (s:Shared) (H:Hp) (E:XK),bh k (A.deeper (envOfC qual (cR st) s.heap.objs.size f aR))->HJ im ((iW c_ P w K mg base N qual (cR st) f aR A outer s H E).gP.ki [x0]) (g_ st) b) :
  cI P w K mg base c_ (k+1) f fd ps (DG im K (runM ps.length N.length b)):=by
 have rQ:∀{d0:D}{ds:List D}{r:D×D},runM ps.length N.length b d0 ds=some r->ds.length+1=ps.length:=λ{d0 ds r} e=>by
  unfold runM at e
  split at e
  .assumption
  .cases e
 refine F.ok S (λvs H Q E h=>?_) λaR A outer s H vs Q E hr h=>?_<;>obtain⟨v0,ws,d0,bq,ds,eV,r,d1,e0,r0,nd0,rs,dj,e,q⟩:=h
 .rw[e0,abP,<- rs.length,rQ e]
 .obtain⟨t,pt,sd⟩:=hb aR A outer s H E hr;refine⟨t,pt.ki rfl,?_⟩;have WN:aB K H [d0] [v0] bq:=by have:=aB.cons r0 .nil;rwa [acm] at this
  obtain⟨z,ok⟩:=Ok.jW WN nd0 rs dj;rw[e0];have fin:∀{z:Addr->Option Nat}{ρ:aA}{σ:St}{H':Hp}{v:V}{cL:List Addr},Ok K H bq z [] ρ σ H'->ρ[0]? = some (some (d1,.own))->Kp ((iW c_ P w K mg base N qual (cR st) f aR A outer s H E).gP.ki [x0]) (start N (v0::ws)) σ->Rep K H' r v cL->cL.Nodup->(∀b∈cL,(H b=none\/b∈bq)/\z b≠some 0)->(im=true->cL=[])->Q v H':=by
   intro z ρ σ H' v cL aX h1 kp rr yi qF hi;obtain⟨u,bU,hs,r1,zz⟩:=aX.sl 0 d1 .own h1;have hk:σ[0]? = some (some v0):=kp 0 _ h0 (by
    show(x0==("self":Str)||(!([x0].contains ("self":Str))&&!(!([x0].contains x0))))=true
    by_cases h:x0=("self":Str)
    .rw[h];rfl
    .simp[aeV h])
   rw[hk] at hs;cases hs;have st:∀{c:Addr}{o:HO},H c=some o->iS o=false->H' c=some o:=λ{c o} e' mo=>aX.en c _ e' λm=>by
    obtain⟨o',w,lE⟩:=r0.cG c m;rw[e'] at w;cases w;rw[mo] at lE;cases lE
   exact q H' v bU cL ⟨λc xs e'=>st e' rfl,λc o u e'=>st e' rfl,λc φ e'=>st e' rfl⟩ (λc o n e'=>aX.en c o e' n) r1 zz.1 (λc m=>((aX.zd c 0 (zz.2 c m)).2).symm.imp id id) rr yi (λc m=>⟨(qF c m).1.symm.imp id id,λm'=>(qF c m).2 (zz.2 c m')⟩) hi
  have hl:=rQ e;unfold runM at e;rw[if_pos hl] at e;cases ho:b (Bv N.length d0 ds) with
  |none=>rw[ho] at e;cases e
  |some o=>
   rw[ho] at e;refine sd ok ho ?_;cases o with
   |rt p=>
    have hp:p=.tup [r,d1]:=by
     split at e<;>rename_i hh
     .cases e;cases hh;rfl
     .cases hh
     .cases e
    exact⟨r,[d1],hp,λz ρ σ H' v cL aX h1 kp rr nd fr=>fin aX (aec h1) kp rr nd λb m=>⟨(fr b m).1,(fr b m).2 0 aar⟩⟩
   |nx ρ'=>
    dsimp only at e
    split at e
    .rename_i dd h1;cases e;exact λz σ H' aX kp=>fin aX h1 kp .aD ace (λb m=>nomatch m) λ_=>rfl
    .cases e
   |bk _=>cases e
   |ct _=>cases e
   |er _ _ _=>cases e
end
noncomputable def dZ(f:Str)(d:D):List (Str×D)->List (Str×D)
 |[]=>[(f,d)]
 |(g,x)::r=>if g=f then(g,d)::r else(g,x)::dZ f d r
theorem JD:∀{es:List (Str×D)}{fs:List (Str×V)},es.map (·.1)=fs.map (·.1)->(dZ f d es).map (·.1)=(e_ f v fs).map (·.1)
 |[],[],_=>rfl
 |[],_::_,k=>by simp at k
 |_::_,[],k=>by simp at k
 |(x,d0)::es,(y,v0)::fs,k=>by
  simp only[aax,ae1] at k;obtain⟨rfl,k⟩:=k;unfold dZ e_
  by_cases hx:x=f
  .rw[if_pos hx,if_pos hx,aax,aax,k]
  .rw[if_neg hx,if_neg hx,aax,aax,JD k]
theorem Nl:∀{es:List (Str×D)},es.lookup f=some d0->(dZ f d es).map (·.1)=es.map (·.1)
 |[],e=>by cases e
 |(x,d1)::es,e=>by
  unfold dZ
  by_cases hx:x=f
  .rw[if_pos hx];rfl
  .have hb:=adg.mpr λq=>hx q.symm
   simp only[List.lookup,hb] at e;rw[if_neg hx,aax,Nl e];rfl
section
variable{K:PySem.W.Frag}{H H':Hp}
theorem aB.e_{f:Str}{d:D}{v:V}{fd:List Addr}(rd:Rep K H d v fd):∀{es:List (Str×D)}{fs:List (Str×V)}{g:List Addr},es.map (·.1)=fs.map (·.1)->aB K H (es.map (·.2)) (fs.map (·.2)) g->
  ∃g',aB K H ((dZ f d es).map (·.2)) ((L2.e_ f v fs).map (·.2)) g'/\(∀a∈g',a∈g\/a∈fd)/\(g.Nodup->fd.Nodup->(∀a∈fd,a∉g)->g'.Nodup)
 |[],[],_,_,r=>by
  cases r;exact⟨fd++[],.cons rd .nil,λa m=>.inr (by simpa using m),λ_ n _=>by simpa using n⟩
 |[],_::_,_,k,_=>by simp at k
 |_::_,[],_,k,_=>by simp at k
 |(x,d0)::es,(y,v0)::fs,_,k,r=>by
  simp only[aax,ae1] at k;obtain⟨rfl,k⟩:=k;cases r with
  | @cons _ _ _ _ f1 f2 r1 r2=>
   unfold dZ L2.e_
   by_cases hx:x=f
   .rw[if_pos hx,if_pos hx];refine⟨fd++f2,.cons rd r2,λa m=>(abD.mp m).elim .inr λm=>.inl (aaM _ m),λn1 n2 n3=>?_⟩;exact acB.mpr ⟨n2,(acB.mp n1).2.1,λa ma b mb e=>n3 a ma (aaM _ (e ▸ mb))⟩
   .rw[if_neg hx,if_neg hx];obtain⟨g',h1,h2,h3⟩:=aB.e_ rd k r2;refine⟨f1++g',.cons r1 h1,λa m=>?_,λn1 n2 n3=>?_⟩
    .rcases abD.mp m with m|m
     .exact .inl (abn _ m)
     .exact(h2 a m).imp (aaM _) id
    .obtain⟨a1,a2,a3⟩:=acB.mp n1;refine acB.mpr ⟨a1,h3 a2 n2 (λa m q=>n3 a m (aaM _ q)),λa ma b mb e=>?_⟩;rcases h2 b mb with q|q
     .exact a3 a ma b q e
     .exact n3 b q (abn _ (e ▸ ma))
theorem aB.place{f:Str}{d0:D}:∀{es:List (Str×D)}{fs:List (Str×V)}{g:List Addr},es.map (·.1)=fs.map (·.1)->aB K H (es.map (·.2)) (fs.map (·.2)) g->g.Nodup->es.lookup f=some d0->
  ∃v gf,fs.lookup f=some v/\Rep K H d0 v gf/\gf.Nodup/\(∀a∈gf,a∈g)/\∀(H':Hp) (d1:D) (g1:List Addr),aT H H'->(∀b o,b∉gf->H b=some o->H' b=some o)->Rep K H' d1 v g1->g1.Nodup->(∀b∈g1,b∈gf\/H b=none)->
   ∃g',aB K H' ((dZ f d1 es).map (·.2)) (fs.map (·.2)) g'/\g'.Nodup/\∀b∈g',b∈g\/H b=none
 |[],_,_,_,_,_,e=>by cases e
 |_::_,[],_,k,_,_,_=>by simp at k
 |(x,d)::es,(y,v0)::fs,_,k,r,nd,e=>by
  simp only[aax,ae1] at k;obtain⟨rfl,k⟩:=k;cases r with
  | @cons _ _ _ _ f1 f2 r1 r2=>
   obtain⟨a1,a2,a3⟩:=acB.mp nd
   by_cases hx:x=f
   .subst hx;have hb:(x==x)=true:=afp x;simp only[List.lookup,hb] at e ⊢;cases e;refine⟨v0,f1,rfl,r1,a1,λa m=>abn _ m,λH' d1 g1 im kp rr n1 fr=>?_⟩;refine⟨g1++f2,?_,acB.mpr ⟨n1,a2,λa ma b mb e=>?_⟩,λb m=>?_⟩
    .unfold dZ;rw[if_pos rfl];refine .cons rr (r2.frame (λa m=>?_) im);obtain⟨o,w,_⟩:=r2.cG a m;rw[kp a o (λq=>a3 a q a m rfl) w,w]
    .subst e;obtain⟨o,w,_⟩:=r2.cG a mb;rcases fr a ma with q|q
     .exact a3 a q a mb rfl
     .rw[q] at w;cases w
    .rcases abD.mp m with m|m
     .exact(fr b m).imp (abn _) id
     .exact .inl (aaM _ m)
   .have hb:(f==x)=false:=adg.mpr λq=>hx q.symm
    simp only[List.lookup,hb] at e ⊢;obtain⟨v,gf,h1,h2,h3,h4,h5⟩:=aB.place k r2 a2 e;refine⟨v,gf,h1,h2,h3,λa m=>aaM _ (h4 a m),λH' d1 g1 im kp rr n1 fr=>?_⟩;obtain⟨g',c1,c2,c3⟩:=h5 H' d1 g1 im kp rr n1 fr;refine⟨f1++g',?_,acB.mpr ⟨a1,c2,λa ma b mb e=>?_⟩,λb m=>?_⟩
    .unfold dZ;rw[if_neg hx];refine .cons (r1.frame (λa m=>?_) im) c1;obtain⟨o,w,_⟩:=r1.cG a m;rw[kp a o (λq=>a3 a m a (h4 a q) rfl) w,w]
    .subst e;obtain⟨o,w,_⟩:=r1.cG a ma;rcases c3 a mb with q|q
     .exact a3 a ma a q rfl
     .rw[q] at w;cases w
    .rcases abD.mp m with m|m
     .exact .inl (abn _ m)
     .exact(c3 b m).imp (aaM _) id
theorem Rep.N8{cn f:Str}(r:Rep K H (.ins cn es) v fp)(hn:PySem.W.nsIn K mainGlobals cn=some (some (.ref C)))(nd:fp.Nodup)(e:es.lookup f=some d0):
  ∃a dx fs u gf,(a∉gf/\dx∉gf)/\v=.ref a/\H a=some (.ins C dx fs)/\fs.lookup f=some u/\Rep K H d0 u gf/\gf.Nodup/\(∀b∈gf,b∈fp)/\∀(H':Hp) (d1:D) (g1:List Addr),aT H H'->(∀b o,b∉gf->H b=some o->H' b=some o)->Rep K H' d1 u g1->g1.Nodup->(∀b∈g1,b∈gf\/H b=none)->
   ∃bU,Rep K H' (.ins cn (dZ f d1 es)) v bU/\bU.Nodup/\∀b∈bU,b∈fp\/H b=none:=by
 obtain⟨a,dx,fs,g,rfl,rfl,h1,h2,h3,h4⟩:=r.lY hn;obtain⟨n1,n2⟩:=abv.mp nd;obtain⟨n3,n4⟩:=abv.mp n2;obtain⟨u,gf,c1,c2,c3,c4,c5⟩:=aB.place h3 h4 n4 e;refine⟨a,dx,fs,u,gf,⟨λm=>n1 (aaa _ (c4 _ m)),λm=>n3 (c4 _ m)⟩,rfl,h1,c1,c2,c3,λb m=>aaa _ (aaa _ (c4 b m)),λH' d1 g1 im kp rr m1 fr=>?_⟩;obtain⟨g',e1,e2,e3⟩:=c5 H' d1 g1 im kp rr m1 fr;have ka:=kp a _ (λq=>n1 (aaa _ (c4 a q))) h1;have kd:=kp dx _ (λq=>n3 (c4 dx q)) h2;refine⟨a::dx::g',.ins hn ka kd (by rw[Nl e];exact h3) e1,?_,λb m=>?_⟩
 .refine abv.mpr ⟨λm=>?_,abv.mpr ⟨λm=>?_,e2⟩⟩
  .rcases aa3.mp m with q|m
   .exact n1 (by rw[q];exact aar)
   .rcases e3 a m with q|q
    .exact n1 (aaa _ q)
    .rw[h1] at q;cases q
  .rcases e3 dx m with q|q
   .exact n3 q
   .rw[h2] at q;cases q
 .rcases aa3.mp m with q|m
  .exact .inl (by rw[q];exact aar)
  .rcases aa3.mp m with q|m
   .exact .inl (by rw[q];exact aaa _ aar)
   .exact(e3 b m).imp (λq=>aaa _ (aaa _ q)) id
theorem Rep.place{cn f:Str}{es:List (Str×D)}{v:V}{fp:List Addr}{d0:D}{C:Addr}(r:Rep K H (.ins cn es) v fp)(hn:PySem.W.nsIn K mainGlobals cn=some (some (.ref C)))(nd:fp.Nodup)(e:es.lookup f=some d0):
  ∃a dx fs u gf,v=.ref a/\H a=some (.ins C dx fs)/\fs.lookup f=some u/\Rep K H d0 u gf/\gf.Nodup/\(∀b∈gf,b∈fp)/\∀(H':Hp) (d1:D) (g1:List Addr),aT H H'->(∀b o,b∉gf->H b=some o->H' b=some o)->Rep K H' d1 u g1->g1.Nodup->(∀b∈g1,b∈gf\/H b=none)->
   ∃bU,Rep K H' (.ins cn (dZ f d1 es)) v bU/\bU.Nodup/\∀b∈bU,b∈fp\/H b=none:=
 let⟨a,dx,fs,u,gf,_,h⟩:=r.N8 hn nd e;⟨a,dx,fs,u,gf,h⟩
end
theorem Ok.fld{K:PySem.W.Frag}{H0:Hp}{S:List Addr}{z:Addr->Option Nat}{aq:List b7}{ρ:aA}{σ:St}{H H1:Hp}{i:Nat}{d:D}{y:V}{fd:List Addr}{cn f:Str}{C b dx:Addr}{es:List (Str×D)}{fs:List (Str×V)}(hC:ClsAt K cn C)(ok:Ok K H0 S z aq ρ σ H)(h:ρ[i]? = some (some (.ins cn es,.own)))
  (hs:σ[i]? = some (some (.ref b))) (hb:H b=some (.ins C dx fs)) (s1:aH H H1) (r1:Rep K H1 d y fd) (nd:fd.Nodup) (fr:∀c∈fd,H c=none):∃z',Ok K H0 S z' aq (bP ρ i (.ins cn (dZ f d es))) σ (upd H1 b (.ins C dx (L2.e_ f y fs))):=by
 obtain⟨v,bq,b8,r0,zz⟩:=ok.sl i _ _ h;rw[hs] at b8;cases b8;obtain⟨b',yK,qS,g,e,rfl,h3,h4,h5,h6⟩:=(r0.same s1).lY hC.ns;cases e;rw[s1 _ _ hb] at h3;cases h3;have h3:=s1 _ _ hb;have ze:∀c∈fd,c∉b::dx::g:=λc m n=>by
  obtain⟨⟨o,w⟩,_⟩:=ok.zd c i (zz.2 c n);rw[fr c m] at w;cases w
 have me:b∈b::dx::g:=aar;have md:dx∈b::dx::g:=aaa _ aar;have mg:∀{c},c∈g->c∈b::dx::g:=λm=>aaa _ (aaa _ m)
 obtain⟨n1,n2⟩:=abv.mp zz.1;obtain⟨n3,n4⟩:=abv.mp n2;have ne:∀{c},c∈g->c≠b:=λm q=>n1 (q ▸ aaa _ m)
 have im:aT H1 (upd H1 b (.ins C dx (L2.e_ f y fs))):=aT.upd h3 rfl;obtain⟨g',c1,c2,c3⟩:=aB.e_ (r1.frame (λc m=>aL λq:c=b=>ze c m (q ▸ me)) im) h5 (h6.frame (λc m=>aL (ne m)) im);have out:∀{c},c∈g'->c∈g\/c∈fd:=λ{c} m=>c2 c m
 refine ok.put h hs zz ((aT.of s1).trans im) (λc o n e=>by rw[aL λq:c=b=>n (q ▸ me)];exact s1 c o e) (.ins hC.ns bQ (by rw[aL λq:dx=b=>n1 (q ▸ aar)];exact h4) (JD h5) c1) ?_ λc m=>?_
 .refine abv.mpr ⟨λm=>?_,abv.mpr ⟨λm=>(out m).elim n3 λq=>ze dx q md,c3 n4 nd λc m n=>ze c m (mg n)⟩⟩;rcases aa3.mp m with q|m
  .exact n1 (q ▸ aar)
  .exact(out m).elim (λq=>n1 (aaa _ q)) λq=>ze b q me
 .rcases aa3.mp m with q|m
  .exact .inl (q ▸ me)
  .rcases aa3.mp m with q|m
   .exact .inl (q ▸ md)
   .exact(out m).imp mg (fr c)
def wo(i:Nat)(cn f:Str)(fv:EF):SF:=λρ=>match fv ρ,ρ[i]? with
 |some (d,t),some (some (.ins c es,.own))=>if c=cn/\es.length<1000/\(jR t||aC d)=true then some (.nx (bP ρ i (.ins c (dZ f d es)))) else none
 |_,_=>none
section
variable{X:Cx}{a:Expr}{fv:EF}{pos pos' p1 p2 p3:Pos}{x cn f:Str}{C:Addr}
theorem fL(i:Nat)(hC:ClsAt X.K cn C)(na:iC X.K C f)(hv:FP X a fv)(va:VA X i x:=by walk_at "va")(hs:swapsWith a (some (.Attribute (.Name x p1) f pos')) pos.line X.env=pure false:=by rfl):fM X (.Assign [.Attribute (.Name x p1) f pos'] a pos) (wo i cn f fv):=by
 obtain⟨t,p,q⟩:=hv;exists 23,SG va.pe p hs;unfold wo at e
 split at e
 .rename_i d tg c es h1 h2
  by_cases hc:c=cn/\es.length<1000/\(jR tg||aC d)=true
  .rw[if_pos hc] at e;cases e;obtain⟨rfl,hl,ho⟩:=hc;obtain⟨v,bq,b8,r0,zz⟩:=ok.sl i _ _ h2;refine q ok h1 λH1 y fd s1 r1 g1=>⟨v,b8,?_⟩
   obtain⟨b,dx,fs,g,rfl,rfl,h3,h4,h5,h6⟩:=r0.lY hC.ns;have lf:fs.length<1000:=by have:=congrArg List.length h5;rw[List.length_map,List.length_map] at this;lia
   refine⟨b,C,dx,fs,rfl,s1 _ _ h3,hC.cl,na,lf,?_⟩;have g:fd.Nodup/\∀a∈fd,H a=none:=by
    rcases(Bool.or_eq_true _ _).mp ho with h|h
    .cases tg<;>first|exact g1|cases h
    .rw[r1.aC h];exact⟨ace,λc m=>nomatch m⟩
   obtain⟨z',aX⟩:=ok.fld hC h2 b8 h3 s1 r1 g.1 g.2;exact k z' σ _ aX (.refl _ _)
  .rw[if_neg hc] at e;cases e
 .cases e
end
section
variable{X:Cx}{a b:Expr}{fa fb:EF}{p pos:Pos}
noncomputable def AQ:D->Option D
 |.int i=>some (.int (-i))
 |_=>none
theorem aew(ha:FP X a fa):FP X (.UnaryOp .USub a pos) (e1 AQ fa):=by
 obtain⟨t,pa,q⟩:=ha;exists 21,acW YV pa;obtain⟨d1,t1,g1,g2,rfl⟩:=uv e;refine q ok g1 λH1 x f1 s1 r1 _=>?_
 cases r1<;>cases g2
 exact⟨_,rfl,k H1 _ [] s1 (.int _) .nil⟩
end
section
variable{X:Cx}{a b c:Expr}{fa fb fc fv:EF}{p p1 p2 p3 pos:Pos}
theorem Th{tk:Tok}(hm:X.mg x=some (.int n tk))(hg:GD X x:=by exact⟨rfl,by decide⟩):FP X (.Name x pos) (eC (.int n)):=
 ⟨_,Lw hg.1 hm (v:=.int n) ⟨_,rfl⟩ hg.2,@λ_ _ _ _ _ _ H _ _ _ _ e q=>by cases e;exact q H _ _ (aH.refl H) (.int n) .nil⟩
noncomputable def Ct(o o':D->D->Option D)(fa fb fc:EF):EF:=λρ=>match fa ρ,fb ρ with
 |some (d1,_),some (d2,_)=>match o d1 d2 with
  |some (.bl true)=>match fc ρ with
   |some (d3,_)=>(o' d2 d3).map λd=>(d,.own)
   |none=>none
  |some (.bl false)=>some (.bl false,.own)
  |_=>none
 |_,_=>none
theorem Vf{op qZ:CmpOp}{r r':R2}{o o':D->D->Option D}(ho:dF X (compareOp op) r)(mF:dF X (compareOp qZ) r')(dd:gC X.K r o)(qW:gC X.K r' o')(ha:FP X a fa)(hb:FP X b fb)(hc:FP X c fc)(hm:lastMarks [op,qZ] [b,c]=false:=by with_unfolding_all rfl):
  FP X (.Compare a [op,qZ] [b,c] pos) (Ct o o' fa fb fc):=by
 obtain⟨ta,pa,sa⟩:=ha;obtain⟨tb,pb,sb⟩:=hb;obtain⟨tc,pc,sc⟩:=hc;exists 21,RM ho mF pa pb pc hm;unfold Ct at e
 split at e
 .rename_i d1 t1 d2 t2 e1 e2;refine sa ok e1 λH1 x f1 s1 r1 _=>?_
  refine sb (ok.same s1) e2 λH2 y f2 s2 r2 _=>?_
  exists h,o d1 d2,w,e,0;refine dd H2 x y d1 d2 f1 f2 w _ (r1.same s2) r2 h λH3 u s3 r3=>?_
  rw[h] at e;cases w<;>try (cases e;done)
  rename_i b';cases r3;refine⟨b',rfl,?_⟩;cases b' with
  |false=>
   cases e;rw[if_neg aa6];exact k H3 _ [] ((s1.trans s2).trans s3) (.bl false) .nil
  |true=>
   rw[if_pos rfl];dsimp only at e;exists h3,fc ρ,w3,e,0;obtain⟨d3,t3⟩:=w3;rw[h3] at e;dsimp only at e;cases h4:o' d2 d3 with
   |none=>rw[h4] at e;cases e
   |some d4=>
    rw[h4] at e;cases e;refine sc (((ok.same s1).same s2).same s3) h3 λH4 w' f4 s4 r4 _=>?_
    exact qW H4 y w' d2 d3 f2 f4 d Q ((r2.same s3).same s4) r4 h4 λH5 v5 s5 r5=>k H5 v5 [] ((((s1.trans s2).trans s3).trans s4).trans s5) r5 .nil
 .cases e
theorem VG(ha:FP X a fa)(hb:FP X b fb)(hc:FP X c fc)(hm:lastMarks [.LtE,.LtE] [b,c]=false:=by with_unfolding_all rfl):FP X (.Compare a [.LtE,.LtE] [b,c] pos) (Ct oLe oLe fa fb fc):=Vf CK CK se se ha hb hc hm
def qq(neg:Bool):D->D->Option D:=λkd dd=>match dd with
 |.bK es=>(iB kd).map λk=>.bl (if neg=true then !(aV es k).isSome else(aV es k).isSome)
 |_=>none
def N4(neg:Bool):R2:=λy x H Q=>∃a o,x=.ref a/\h_ H a y o/\Q (.bl (if neg=true then !o.isSome else o.isSome)) H
theorem DQ{K:PySem.W.Frag}{neg:Bool}:gC K (N4 neg) (qq neg):=by
 intro H y x d1 d2 f1 f2 d Q r1 r2 e k;cases r2 with
 | @bK a aj es fp h hk rs=>
  have e:((iB d1).map λk=>D.bl (if neg=true then !(aV es k).isSome else(aV es k).isSome))=some d:=e;cases mD:iB d1 with
  |none=>rw[mD] at e;cases e
  |some key=>
   rw[mD] at e;cases e;have ek:=r1.key mD;subst ek;have ev:(dY aj key).isSome=(aV es key).isSome:=by
    obtain⟨h1,h2⟩:=qN hk rs;cases hv:aV es key with
    |none=>rw[h2 hv];rfl
    |some dv=>obtain⟨v,f,jQ,_⟩:=h1 dv hv;rw[jQ];rfl
   refine⟨a,dY aj key,rfl,h_.k h,?_⟩;rw[ev];exact k H _ (aH.refl H) (.bl _)
 |_=>cases e
theorem ZA(hu:X.A.units+1<cLine)(ha:FP X a fa)(hb:FP X b fb)(hm:behindInMarks .In b=false:=by rfl):FP X (.Compare a [.In] [b] pos) (e2 (qq false) fa fb):=
 fp_2 DQ ha hb λta tb pa pb=>LJ (Rg hu pa pb) hm
theorem Km(hu:X.A.units+1<cLine)(ha:FP X a fa)(hb:FP X b fb)(hm:behindInMarks .In b=false:=by rfl):FT X (.Compare a [.In] [b] pos) (tV (e2 (qq false) fa fb)):=by
 obtain⟨ta,pa,sa⟩:=ha;obtain⟨tb,pb,sb⟩:=hb;exists 22,YK (t:=pY (N4 false) ta tb) (Rg hu pa pb) hm;obtain⟨tg,e0⟩:=DO e;obtain⟨d1,t1,d2,t2,e1,jn,e3,rfl⟩:=qE e0;refine sa ok e1 λH1 x f1 s1 r1 _=>?_
 refine sb (ok.same s1) jn λH2 y f2 s2 r2 _=>?_
 refine DQ H2 x y d1 d2 f1 f2 _ _ (r1.same s2) r2 e3 λH3 v s3 r3=>?_
 cases r3;exact⟨c,rfl,k H3 ((s1.trans s2).trans s3)⟩
end
section
variable{X:Cx}{a b o:Expr}{fa fb fv fo:EF}{p p1 p2 p3 pos:Pos}{x cn f:Str}{C:Addr}
def A7(i:Nat)(cn f:Str)(fv:EF):SF:=λρ=>match fv ρ,ρ[i]? with
 | some (d,_),some (some (.ins c es,.own))=>if c=cn then(match es.lookup f with
  |some (.lst ds)=>if(aC d&&aN ds&&decide (ds.length<sizeLine))=true then some (.nx (bP ρ i (.ins c (dZ f (.lst (ds++[d])) es)))) else none
  |_=>none) else none
 |_,_=>none
theorem zZ(i:Nat)(hC:ClsAt X.K cn C)(na:iC X.K C f)(hv:FP X a fv)(va:VA X i x:=by walk_at "va")(hs:starEach [a] X.env=[(false,eval a X.env)]:=by rfl)
  (hb:attributeBase (.Name x p) f X.env (eval (.Name x p) X.env)=eval (.Name x p) X.env:=by rfl)
  (jf:attributeBase (.Attribute (.Name x p) f p1) "append" X.env (eval (.Attribute (.Name x p) f p1) X.env)=eval (.Attribute (.Name x p) f p1) X.env:=by rfl)
  (lS:((backTo p3 (starEach [a] X.env)).all (λx=>!x.1)&&(backToKw p3 (keywordEach [] X.env)).all (λx=>x.1.isSome)&&decide ([a].length+([]:List Keyword).length+(if([]:List Keyword).isEmpty then 0 else 1)<30))=true:=by rfl)
  (jt:(p2.endLine==p3.line)=true:=by rfl) (kF:swapsWith (.Call (.Attribute (.Attribute (.Name x p) f p1) "append" p2) [a] [] p3) none pos.line X.env=pure false:=by rfl) :
  fM X (.Expr (.Call (.Attribute (.Attribute (.Name x p) f p1) "append" p2) [a] [] p3) pos) (A7 i cn f fv):=by
 obtain⟨tv,jm,sv⟩:=hv;exists 25,AK (yf PySem.F.plainAttrs_list PySem.F.slot_list_append PySem.F.type_list_append Ck (pS va.pe hb) (dW jm fH hs) jf lS jt hs rfl) kF;unfold A7 at e
 split at e
 .rename_i d td c es g1 g2
  by_cases hc:c=cn
  .subst hc;rw[if_pos rfl] at e
   split at e
   .rename_i ds hl
    by_cases hc:(aC d&&aN ds&&decide (ds.length<sizeLine))=true
    .rw[if_pos hc] at e;cases e;obtain⟨c1,c3⟩:=(aaY _ _).mp hc;obtain⟨c1,c2⟩:=(aaY _ _).mp c1;obtain⟨xv,fp,b8,r,zz⟩:=ok.sl i _ _ g2;refine⟨xv,b8,?_⟩;obtain⟨b0,dx,fs,u,gf,rfl,h1,h2,h3,h4,h5,h6⟩:=r.place hC.ns zz.1 hl;refine⟨b0,C,dx,fs,u,rfl,h1,hC.cl,na,h2,?_⟩;obtain⟨l,xs,f0,rfl,hq,_,_⟩:=h3.d9;refine⟨.inl ⟨rfl,_,hq⟩,?_⟩;refine sv ok g1 λH1 v fd s1 rv gv=>?_
     have hn:=rv.aC c1;subst hn;generalize hw:(V.ref l)=w at h3 h6;cases h3 with
     | @lst a' ys _ f' h rs=>
      cases hw;have hn:=rs.aC c2;subst hn;have HM:=s1 _ _ h;refine⟨_,ys,v,rfl,rfl,HM,by rw[<- rs.length];exact aaP c3,?_⟩;have im:aT H1 (upd H1 l (.lst (ys++[v]))):=aT.upd HM rfl;obtain⟨bU,k1,k2,k3⟩:=h6 (upd H1 l (.lst (ys++[v]))) (.lst (ds++[d])) [l] ((aT.of s1).trans im) (λc o n e=>by rw[aL λq=>n (by rw[q];exact aar)];exact s1 c o e)
       (.lst bQ (aB.append ((rs.same s1).frame (λa m=>nomatch m) im) (aB.cons (rv.frame (λa m=>nomatch m) im) .nil))) h4 (λc m=>.inl m)
      obtain⟨z',aX⟩:=ok.put g2 b8 zz ((aT.of s1).trans im) (λc o n e=>by rw[aL λq=>n (by rw[q];exact h5 l aar)];exact s1 c o e) k1 k2 k3;exact q z' σ _ aX (.refl _ _)
    .rw[if_neg hc] at e;cases e
   .cases e
  .rw[if_neg hc] at e;cases e
 .cases e
end
end L2.Ev
namespace L2
open PySem PySem.Spec PyProof.Rows
section
variable{X:Cx}{elts:List Expr}{tp:Pos}{a b:Expr}{ta:TA}{p pos:Pos}
def Ut:V->List V->Hp->VK->Prop:=λx vs H Q=>∃(l:Addr) (ns:List Int) (n:Int),x=.ref l/\vs=[.int n]/\H l=some (.lst (ns.map V.int))/\n∈ns/\Q .aD (upd H l (.lst ((ns.erase n).map V.int)))
noncomputable def isI(n:Int):Value->Bool
 |.int a _=>a==n
 |_=>false
theorem E3{ns:List Int}{us:List Value}(r:aQ (ns.map V.int) us){m:Nat}(h:m<us.length)(h2:m<ns.length):∃t,us[m]=.int ns[m] t:=by
 obtain⟨u,hu,ru⟩:=r.get (by rw[ab3,aaR h2];rfl);rw[aaR h] at hu;obtain⟨t,rt⟩:=ru;exact⟨t,by rw[<- rt];exact abS hu⟩
theorem QT:∀{ns:List Int}{n:Int}{m:Nat} (h:m<ns.idxOf n) (h2:m<ns.length),ns[m]≠n
 |[],_,_,_,h2=>absurd h2 (Nat.not_lt_zero _)
 |a::ns,n,m,h,h2=>by
  rw[List.idxOf_cons] at h
  by_cases ha:(a==n)=true
  .rw[ha] at h;exact absurd h (Nat.not_lt_zero _)
  .have ha:(a==n)=false:=by simpa using ha
   rw[ha] at h;cases m with
   |zero=>exact adg.mp ha
   |succ m=>exact QT (Nat.lt_of_succ_lt_succ h) (Nat.lt_of_succ_lt_succ h2)
theorem S_{α β:Type}{f:α->β}{l:List α}:(l.map f).eraseIdx k=(l.eraseIdx k).map f:=by
 rw[List.eraseIdx_eq_take_drop_succ,List.eraseIdx_eq_take_drop_succ,acZ,List.map_take,List.map_drop]
theorem ZI:Ml X "list.remove" Ut:=by
 intro af s σ H x vs v us Q I rx rv h;obtain⟨l,ns,n,rfl,rfl,hH,hn,q⟩:=h;cases rx;obtain⟨u,rfl,ru⟩:=rv.one;obtain⟨t,rfl⟩:=ru;obtain⟨z,au,nn,r,hl,e⟩:=I.B9 hH;have hi:ns.idxOf n<ns.length:=List.idxOf_lt_length_of_mem hn;rw[List.length_map] at hl z;have hj:ns.idxOf n<au.toArray.size:=by rw[abW];lia
 refine call_meets F.slot_list_remove ⟨_,e,rfl⟩ F.entry_list_remove (F.args_list_remove_2 _ _)
  (MeetsSeq.list_remove l au.toArray nn (.int n t) (isI n) (λy my=>?_) (ns.idxOf n) hj ?_ (λm hm h2=>?_) (by rw[abW];lia)) ⟨e,?_⟩
 .obtain⟨m,hm,em⟩:=Array.mem_iff_getElem.mp my;rw[abW] at hm;rw[List.getElem_toArray] at em;obtain⟨t',et⟩:=E3 r hm (by lia);rw[<- em,et];exact MeetsSeq.EqGives.int _ _ _ _
 .rw[List.getElem_toArray];obtain⟨t',et⟩:=E3 r (by lia) hi;rw[et];rw[List.getElem_idxOf hi];exact afp n
 .rw[List.getElem_toArray];rw[abW] at hm;obtain⟨t',et⟩:=E3 r hm (by lia);rw[et];exact adg.mpr (QT h2 (by lia))
 .refine⟨.aD,_,I.NY (its':=au.eraseIdx (ns.idxOf n)) hH e ?_ ?_ ?_,rfl,q⟩
  .show au.toArray.eraseIdxIfInBounds _=(au.eraseIdx _).toArray;rw[List.eraseIdxIfInBounds_toArray]
  .rw[List.erase_eq_eraseIdx_of_idxOf rfl,<- S_];exact r.eraseIdx _
  .rw[List.length_map];have:=List.length_erase_le (a:=n) (l:=ns)
   lia
end
end L2
namespace L2.Ev
open PySem PySem.Spec PyProof.Rows
noncomputable def A9(env:Env):Str×NameKind->Str×NameKind:=λ(n,k)=>if(k==NameKind.free&&env.scope.kind == .function&&env.kindOf n==some .cell) then(n,NameKind.cell) else(n,k)
theorem Ja{env:Env}:∀{names:List (Str×NameKind)}{x:Str},(names.lookup x=some .cell\/names.lookup x=some .free)->(names.map (A9 env)).lookup x=some .cell\/(names.map (A9 env)).lookup x=some .free
 |[],_,h=>by simp at h
 |(n,k)::r,x,h=>by
  rw[aax];have e:A9 env (n,k)=(n,.cell)\/A9 env (n,k)=(n,k):=by
   show(if(k==NameKind.free&&env.scope.kind == .function&&env.kindOf n==some .cell)=true then(n,NameKind.cell) else(n,k))=_\/(if(k==NameKind.free&&env.scope.kind == .function&&env.kindOf n==some .cell)=true then(n,NameKind.cell) else(n,k))=_
   split
   .exact .inl rfl
   .exact .inr rfl
  cases hx:x==n with
  |true=>
   simp only[adG,hx] at h;rcases e with e|e<;>rw[e]<;>simp only[adG,hx]
   .exact .inl trivial
   .exact h
  |false=>
   simp only[adG,hx] at h;have ih:=Ja (env:=env) h;rcases e with e|e<;>rw[e]<;>simp only[adG,hx]<;>exact ih
theorem Yy{X:Cx}{M0 M:List Str}{F5 sc:Scope}{s3:Shared}{H3:Hp}{fp:List Addr}{js:List (Option Nat)}(h:wH M0 F5 sc M js=true):l9 (dO X M0 F5 s3 H3 fp) M js sc:=by
 unfold wH at h;obtain⟨h,a6⟩:=(aaY _ _).mp h;obtain⟨h,a5⟩:=(aaY _ _).mp h;obtain⟨h,a4⟩:=(aaY _ _).mp h;obtain⟨h,a3⟩:=(aaY _ _).mp h;obtain⟨a1,a2⟩:=(aaY _ _).mp h;refine⟨?_,λy hy=>?_,λy hy hl=>?_,a4,λx hx=>?_,aaP a6⟩
 .cases hk:sc.kind<;>rw[hk] at a1<;>first|rfl|exact absurd a1 (by decide)
 .have:=ac4.mp a2 y hy;intro z;rw[z] at this;exact absurd this (by decide)
 .have:=ac4.mp a3 y hy;rw[hl] at this;have this:(sc.names.lookup y.1==some NameKind.local)=true:=this;cases q:sc.names.lookup y.1 with
  |none=>rw[q] at this;exact absurd this (by decide)
  |some k=>rw[q] at this;cases k<;>first|rfl|exact absurd this (by decide)
 .have:=ac4.mp a5 x hx;refine Ja ?_;cases q:F5.names.lookup x with
  |none=>rw[q] at this;exact absurd this (by decide)
  |some k=>rw[q] at this;cases k<;>first|exact .inl rfl|exact .inr rfl|exact absurd this (by decide)
section
variable{X:Cx}{elts:List Expr}{tp:Pos}{a b c:Expr}{fa fb fv:EF}{p p1 p2 p3 pos pos':Pos}{x:Str}
def v9(i:Nat)(fv:EF):SF:=λρ=>match fv ρ,ρ[i]? with
 |some (.int n,_),some (some (.lst ds,.own))=>match eE ds with
  |some ns=>if n∈ns then some (.nx (bP ρ i (.lst ((ns.erase n).map D.int)))) else none
  |none=>none
 |_,_=>none
theorem Jq:∀{ds:List D}{ns:List Int},eE ds=some ns->ds=ns.map D.int
 |[],_,e=>by cases e;rfl
 |d::ds,ns,e=>by
  cases d<;>try (cases e;done)
  rename_i i;unfold eE at e;exists h,eE ds,r,e;cases e;rw[Jq h];rfl
theorem abJ(i:Nat)(hv:FP X a fv)(va:VA X i x:=by walk_at "va")(hs:starEach [a] X.env=[(false,eval a X.env)]:=by rfl)
  (jf:attributeBase (.Name x p1) "remove" X.env (eval (.Name x p1) X.env)=eval (.Name x p1) X.env:=by rfl)
  (lS:((backTo p3 (starEach [a] X.env)).all (λx=>!x.1)&&(backToKw p3 (keywordEach [] X.env)).all (λx=>x.1.isSome)&&decide ([a].length+([]:List Keyword).length+(if([]:List Keyword).isEmpty then 0 else 1)<30))=true:=by rfl)
  (jt:(p2.endLine==p3.line)=true:=by rfl) (kF:swapsWith (.Call (.Attribute (.Name x p1) "remove" p2) [a] [] p3) none pos.line X.env=pure false:=by rfl) :
  fM X (.Expr (.Call (.Attribute (.Name x p1) "remove" p2) [a] [] p3) pos) (v9 i fv):=by
 obtain⟨tv,jm,sv⟩:=hv;exists 25,AK (yf PySem.F.plainAttrs_list PySem.F.slot_list_remove PySem.F.type_list_remove ZI va.pe (dW jm fH hs) jf lS jt hs rfl) kF;unfold v9 at e
 split at e
 .rename_i n td ds g1 g2;exists hI,eE ds,ns,e;dsimp only at e;obtain⟨hc,e⟩:=ci e;cases e;have:=Jq hI;subst this;obtain⟨xv,fp,b8,r,zz⟩:=ok.sl i _ _ g2;refine⟨xv,b8,?_⟩;obtain⟨l,xs,f,rfl,hq,_,_⟩:=r.d9;refine⟨.inl ⟨rfl,_,hq⟩,?_⟩;refine sv ok g1 λH1 v fd s1 rv gv=>?_
  cases rv;have r':=r.same s1;have cE:=ok.same s1;generalize hw:(V.ref l)=w at r' b8;cases r' with
  | @lst a' ys _ f' h rs=>
   cases hw;have ey:=tM rs hI;subst ey;have hn:=rs.aC (fT ns);subst hn;refine⟨_,ns,n,rfl,rfl,h,hc,?_⟩;have im:aT H1 (upd H1 l (.lst ((ns.erase n).map V.int))):=aT.upd h rfl;exact q z σ _ (Ok.x_ cE g2 b8 zz aar h rfl (.lst bQ (yq _))) (.refl _ _)
 .cases e
def uU(fa fh:EF):EF:=λρ=>match fa ρ,fh ρ with
 |some (.lst ds,_),some (.int i,_)=>if aN ds=true then some (.lst (cutD ds none (some i)),.own) else none
 |_,_=>none
theorem QB{fh:EF}(ha:FP X a fa)(hh:FP X b fh):FP X (.Subscript a (.Slice none (some b) none p2) pos) (uU fa fh):=by
 obtain⟨t,p,q⟩:=ha;obtain⟨th,ph,qh⟩:=hh;exists 21,FH CO p F6 (EE ph);unfold uU at e
 split at e
 .rename_i ds t1 i t2 e1 e2;obtain⟨hi,e⟩:=ci e;cases e;refine q ok e1 λH1 x f1 s1 r1 _=>?_
  refine qh (ok.same s1) e2 λH2 y f2 s2 r2 _=>?_
  cases r2;refine⟨i,rfl,?_⟩;obtain⟨w,xs,f,rfl,hq,rs,_⟩:=(r1.same s2).d9;have hn:=rs.aC hi;subst hn;refine⟨w,xs,rfl,hq,λp hp=>?_⟩;have s3:aH H2 (upd H2 p (.lst (k8 xs none (some i)))):=λb o e=>by rw[aL (cT e hp)];exact e
  have rr:aB X.K H2 (cutD ds none (some i)) (k8 xs none (some i)) []:=by
   unfold cutD k8;rw[rs.length];exact aB.Bh _ (aB.zF _ rs)
  refine k _ _ [p] ((s1.trans s2).trans s3) (.lst bQ (rr.same s3)) ⟨abv.mpr ⟨(λm=>by cases m),ace⟩,λa m=>?_⟩;cases aa1.mp m;exact s1.free (s2.free hp)
 .cases e
end
theorem abE(h:l.Nodup):(cB l).Pairwise (· < ·):=by
 have n:=(qK l).nodup_iff.mpr h;exact(List.Pairwise.and (z9 l) n).imp λ⟨a,b⟩=>Int.lt_iff_le_and_ne.mpr ⟨a,b⟩
def wk(X:Cx)(st:Stmt):TS:=λW σ H=>∀(af:List (Addr×Obj)) (s:Shared),Inv X af σ H s->wpAny (model X.prog X.w) X.A (exec st X.env) (SP X af W) X.xe s
theorem X_{st:Stmt}:PS X st (wk X st):=λaf s _ _ _ I h=>h af s I
inductive ER where
 |ok (d:D) (ρ:aA)|er (cn:XN) (ρ:aA)
def Vk(X:Cx)(H0:Hp)(S:List Addr)(aq:List b7)(σ:St)(Q:VK)(E:XK):ER->Prop
 |.ok d ρ=>∀z H1 H' v fp,Ok X.K H0 S z aq ρ σ H1->aH H1 H'->Rep X.K H' d v fp->cN z H1 .own fp->Q v H'
 |.er cn ρ=>∀z H' C,Ok X.K H0 S z aq ρ σ H'->PySem.W.nsIn X.K mainGlobals cn.1=some (some (.ref C))->E (.ref C) cn.2 H'
abbrev XR:=aA->Option ER
def FE(X:Cx)(e:Expr)(f:XR):Prop:=∃t,PX X e t/\∀{H0:Hp}{S:List Addr}{z:Addr->Option Nat}{aq:List b7}{ρ:aA}{σ:St}{H:Hp}{Q:VK}{E:XK}{r:ER},
 Ok X.K H0 S z aq ρ σ H->f ρ=some r->Vk X H0 S aq σ Q E r->t σ H Q E
theorem ab0:yY X (λ_ _ _ _=>False):=λ_ _ _ _ _ _ _ _ z=>z.elim
def xN(i:Nat)(f:XR):SF:=λρ=>match f ρ with
 |some (.ok d ρ')=>some (.nx (iw ρ' i d .own))
 |some (.er cn ρ')=>some (.er false cn ρ')
 |none=>none
section
variable{X:Cx}{e:Expr}{f:XR}{pos:Pos}
theorem IX(i:Nat){x:Str}{pos':Pos}(he:FE X e f)(hN:X.N.Nodup)(hi:X.N[i]? = some x:=by rfl)(hx:Loc X.env.scope x:=by first|exact Or.inl rfl|exact Or.inr rfl)
  (hs:swapsWith e (some (.Name x pos')) pos.line X.env=pure false:=by rfl) (hf:X.fn x=true\/X.env.scope.names.lookup x=some .local:=by first|exact .inl rfl|exact .inr rfl) (oS:kZ X x=false:=by rfl):fM X (.Assign [.Name x pos'] e pos) (xN i f):=by
 obtain⟨t,p,q⟩:=he;exists 23,X_;unfold xN at e;cases h:f ρ with
 |none=>rw[h] at e;cases e
 |some r=>
  rw[h] at e;intro af s I;cases r with
  |ok d aS=>
   cases e;refine Pu ab0 hN hi hx p hs hf af s σ H E I ?_;exact q ok h λz1 H1 H2 v fp cE s1 r1 g1=>cE.stored s1 r1 g1 λz' aX=>k z' _ H2 aX (.set hi oS)
  |er cn aS=>
   cases e;obtain⟨ES,th,kk⟩:=k;refine Pu th hN hi hx p hs hf af s σ H E I ?_;exact q ok h λz1 H1 C cE hC=>kk z1 σ H1 C cE (.refl _ _) hC
end
noncomputable def kr:List D->Option (List Str)
 |[]=>some []
 |.str x::r=>(kr r).map λm=>x::m
 |_::_=>none
theorem xD{K:PySem.W.Frag}{H:Hp}:∀{ds:List D}{xs:List V}{fp:List Addr}{ys:List Str},aB K H ds xs fp->kr ds=some ys->xs=ys.map V.str
 |_,_,_,_,.nil,e=>by cases e;rfl
 |_,_,_,ys,.cons (d:=d) h t,e=>by
  cases d with
  |str x=>
   unfold kr at e;cases q:kr _ with
   |none=>rw[q] at e;cases e
   |some m=>
    rw[q] at e;cases e;cases h;rw[xD t q];rfl
  |_=>cases e
theorem Rh:∀ys:List Str,kr (ys.map D.str)=some ys
 |[]=>rfl
 |y::ys=>by
  show(kr (ys.map D.str)).map (λm=>y::m)=_;rw[Rh ys];rfl
theorem Nx:∀{ys:List Str}{us:List Value},aQ (ys.map V.str) us->StrsAre us ys
 |[],_,r=>by cases r;exact .nil
 |y::ys,_,r=>by
  cases r with
  |cons h t=>
   obtain⟨tk,rfl⟩:=h;exact .cons y tk (Nx t)
noncomputable def dG(k:Str)(ys:List Str):Nat:=ys.countP (· == k)
theorem count_eq(k:Str):∀ys:List Str,countIn (.str k) (ys.map PyData.str)=(dG k ys:Int)
 |[]=>rfl
 |y::ys=>by
  rw[aax,countIn,count_eq k ys];unfold dG;rw[List.countP_cons];have e:same (.str y) (.str k)=(y==k):=by simp[same]
  rw[e];cases h:(y==k)
  .simp
  .simp;omega
def Zk(K:PySem.W.Frag):V->List V->Hp->VK->Prop:=λx vs H Q=>∃(l:Addr) (ys:List Str) (k:Str),x=.ref l/\vs=[.str k]/\bY K H l (ys.map V.str)/\Q (.int (dG k ys)) H
theorem aaG{X:Cx}:vX X "list.count" (Zk X.K):=by
 intro af s σ H x vs v us Q I rx rv h;obtain⟨l,ys,k,rfl,rfl,hH,q⟩:=h;cases rx;obtain⟨u,rfl,ru⟩:=rv.one;obtain⟨t,rfl⟩:=ru;obtain⟨au,r,pl,hz⟩:=I.list hH;refine count_list_strs pl.isList (Nx r) ?_;rw[count_eq];exact⟨.int (dG k ys),H,I.tok _,⟨_,rfl⟩,q⟩
def uT:D->D->Option D
 |.lst ds,.str k=>(kr ds).map λys=>.int (dG k ys)
 |_,_=>none
section
variable{X:Cx}{o a b c d:Expr}{fo fa fb fc fd:EF}{p p1 p2 p3 p4 pos:Pos}
theorem CZ(ho:FP X o fo)(ha:FP X a fa)(hs:starEach [a] X.env=[(false,eval a X.env)]:=by rfl)(jf:attributeBase o "count" X.env (eval o X.env)=eval o X.env:=by rfl)
  (lS:((backTo p3 (starEach [a] X.env)).all (λx=>!x.1)&&(backToKw p3 (keywordEach [] X.env)).all (λx=>x.1.isSome)&&decide ([a].length+([]:List Keyword).length+(if([]:List Keyword).isEmpty then 0 else 1)<30))=true:=by rfl)
  (jt:(p2.endLine==p3.line)=true:=by rfl):FP X (.Call (.Attribute o "count" p2) [a] [] p3) (e2 uT fo fa):=by
 obtain⟨to,po,so⟩:=ho;obtain⟨ta,pa,sa⟩:=ha;refine⟨_,yf PySem.F.plainAttrs_list PySem.F.slot_list_count PySem.F.type_list_count aaG po (dW pa fH hs) jf lS jt hs rfl,@λH0 S z aq ρ σ H Q dd tg ok e k=>?_⟩;obtain⟨d1,t1,d2,t2,e1,jn,e3,rfl⟩:=qE e;unfold uT at e3
 split at e3
 .rename_i ds ky;cases hS:kr ds with
  |none=>rw[hS] at e3;cases e3
  |some ys=>
   rw[hS] at e3;cases e3;refine so ok e1 λH1 v fp s1 r1 _=>?_
   obtain⟨l,xs,f,rfl,hq,rs,_⟩:=r1.d9;have ex:=xD rs hS;subst ex;refine⟨.inl ⟨rfl,_,hq⟩,?_⟩;refine sa (ok.same s1) jn λH2 u nA s2 r2 _=>?_
   cases r2;obtain⟨l',xs',f',e',Vv,yH,_⟩:=(r1.same s2).d9;cases e';have ex:=xD yH hS;subst ex;exact⟨l,ys,ky,rfl,rfl,Vv,k H2 _ [] (s1.trans s2) (.int _) .nil⟩
 .cases e3
def AI(K:PySem.W.Frag)(t:Addr)(ys:List Str):Prop:=∃(o:Obj) (au:Array Value) (n:Nat),K.lookup t=some o/\o.cls=.type "tuple"/\o.dict=none/\o.data=.seq au n/\au.size<=sizeLine/\aQ (ys.map V.str) au.toList
theorem LL{K:PySem.W.Frag}{H:Hp}:∀ys:List Str,aB K H (ys.map D.str) (ys.map V.str) []
 |[]=>.nil
 |y::ys=>.cons (.str y) (LL ys)
theorem Vi{x:Str}{t:Addr}{ys:List Str}(hm:X.mg x=some (.ref t))(ht:AI X.K t ys)(hg:GD X x:=by exact⟨rfl,by decide⟩):FP X (.Name x pos) (eC (.tup (ys.map D.str))):=
 ⟨_,Lw hg.1 hm (v:=.ref t) rfl hg.2,@λ_ _ _ _ _ _ H _ _ _ _ e q=>by cases e;exact q H _ _ (aH.refl H) (.tup (.inr ht) (LL ys)) .nil⟩
def vo(neg:Bool):D->D->Option D
 |.str i,.lst ds=>(kr ds).map λns=>.bl (if neg=true then !(ns.any (· == i)) else ns.any (· == i))
 |.str i,.tup ds=>(kr ds).map λns=>.bl (if neg=true then !(ns.any (· == i)) else ns.any (· == i))
 |_,_=>none
theorem OH(i:Str)(ns:List Str):vN (.str i) (ns.map V.str)=ns.any (· == i):=by
 unfold vN;rw[afv];rfl
theorem J7(ns:List Str):(ns.map V.str).all mL=true:=by
 rw[afT];exact ac4.mpr λ_ _=>rfl
theorem Jf{K:PySem.W.Frag}{neg:Bool}:gC K (zP K neg) (vo neg):=by
 intro H x y d1 d2 f1 f2 d Q r1 r2 e k;unfold vo at e
 split at e
 .rename_i i ds;cases hS:kr ds with
  |none=>rw[hS] at e;cases e
  |some ys=>
   rw[hS] at e;cases e;cases r1;obtain⟨l,xs,f,rfl,hq,rs,_⟩:=r2.d9;have ex:=xD rs hS;subst ex;refine⟨l,_,rfl,.inl hq,rfl,J7 ys,?_⟩;rw[OH];exact k H _ (aH.refl H) (.bl _)
 .rename_i i ds;cases hS:kr ds with
  |none=>rw[hS] at e;cases e
  |some ys=>
   rw[hS] at e;cases e;cases r1;cases r2 with
   |tup hq rs=>
    have ex:=xD rs hS;subst ex;refine⟨_,_,rfl,.inr hq,rfl,J7 ys,?_⟩;rw[OH];exact k H _ (aH.refl H) (.bl _)
 .cases e
theorem UU(ha:FP X a fa)(hb:FP X b fb)(hm:behindInMarks .In b=false:=by rfl):FT X (.Compare a [.In] [b] pos) (tV (e2 (vo false) fa fb)):=jX Of Jf ha hb hm
theorem VD(ha:FP X a fa)(hb:FP X b fb)(hm:behindInMarks .NotIn b=false:=by rfl):FT X (.Compare a [.NotIn] [b] pos) (tV (e2 (vo true) fa fb)):=jX HN Jf ha hb hm
end
end L2.Ev
namespace L2
open PySem PySem.Spec PyProof.Rows
section
variable{X:Cx}{e:Expr}{ES:XS}{pos:Pos}
theorem QK(h:PE X.gP e t):PX X e (λσ H Q _=>t σ H Q):=λaf s σ H Q E I hw=>
 aeR (h af s σ H Q (I.l8 _) hw) (λ_ _ ⟨v,H',I',r,q⟩=>⟨v,H',I'.oz,r,q⟩) λ_ _ z=>False.elim z
end
end L2
namespace L2.Ev
open PySem PySem.Spec PyProof.Rows
def yV(fa fh:EF):EF:=λρ=>match fa ρ,fh ρ with
 |some (.lst ds,_),some (.int i,_)=>if aN ds=true then some (.lst (cutD ds (some i) none),.own) else none
 |_,_=>none
section
variable{X:Cx}{a b:Expr}{fa:EF}{p2 pos:Pos}
theorem aan{fh:EF}(ha:FP X a fa)(hh:FP X b fh):FP X (.Subscript a (.Slice (some b) none none p2) pos) (yV fa fh):=by
 obtain⟨t,p,q⟩:=ha;obtain⟨th,ph,qh⟩:=hh;exists 21,FH CO p (EE ph) F6;unfold yV at e
 split at e
 .rename_i ds t1 i t2 e1 e2;obtain⟨hi,e⟩:=ci e;cases e;refine q ok e1 λH1 x f1 s1 r1 _=>?_
  refine qh (ok.same s1) e2 λH2 y f2 s2 r2 _=>?_
  cases r2;refine⟨i,rfl,?_⟩;obtain⟨w,xs,f,rfl,hq,rs,_⟩:=(r1.same s2).d9;have hn:=rs.aC hi;subst hn;refine⟨w,xs,rfl,hq,λp hp=>?_⟩;have s3:aH H2 (upd H2 p (.lst (k8 xs (some i) none))):=λb o e=>by rw[aL (cT e hp)];exact e
  have rr:aB X.K H2 (cutD ds (some i) none) (k8 xs (some i) none) []:=by
   unfold cutD k8;rw[rs.length];exact aB.Bh _ (aB.zF _ rs)
  refine k _ _ [p] ((s1.trans s2).trans s3) (.lst bQ (rr.same s3)) ⟨abv.mpr ⟨(λm=>by cases m),ace⟩,λa m=>?_⟩;cases aa1.mp m;exact s1.free (s2.free hp)
 .cases e
end
def JO(fa fb:EF):EF:=λρ=>match fa ρ,fb ρ with
 |some (.tup ds,.sh o),some (.int i,_)=>(dM ds i).map λd=>(d,.sh o)
 |_,_=>none
theorem BI(ha:FP X a fa)(hb:FP X b fb)(hs:Gm b:=by exact λ_ _=>rfl):FP X (.Subscript a b pos) (JO fa fb):=by
 obtain⟨ta,pa,sa⟩:=ha;obtain⟨tb,pb,sb⟩:=hb;exists 20,Iq Kq pa pb hs;unfold JO at e
 split at e
 .rename_i ds o i t2 e1 jn;cases h3:dM ds i with
  |none=>rw[h3] at e;cases e
  |some d3=>
   rw[h3] at e;cases e;refine sa ok e1 λH1 x f1 s1 r1 g1=>?_
   refine sb (ok.same s1) jn λH2 y f2 s2 r2 _=>?_
   have r1:=r1.same s2;obtain⟨p,xs,rfl,hq,rs⟩:=r1.iX;cases r2;unfold dM at h3;cases h:gJ ds.length i with
   |none=>rw[h] at h3;cases h3
   |some j=>
    rw[h,acR] at h3;obtain⟨v,f',hv,rv,hm⟩:=rs.get h3;refine .inr (.inl ⟨p,xs,i,v,rfl,rfl,hq,?_,q H2 v f' (s1.trans s2) rv λa m=>g1 a (hm a m)⟩);unfold dM;rw[<- rs.length,h,acR];exact hv
 .cases e
def Bu(X:Cx)(e:Expr)(f:aA->Option (Bool×aA)):Prop:=∃t,PT X e t/\∀{H0:Hp}{S:List Addr}{z:Addr->Option Nat}{aq:List b7}{ρ:aA}{σ:St}{H:Hp}{Q:Bool->Hp->Prop}{b:Bool}{ρ':aA},
 Ok X.K H0 S z aq ρ σ H->f ρ=some (b,ρ')->(∀z' H',Ok X.K H0 S z' aq ρ' σ H'->Q b H')->t σ H Q
section
variable(P:Program)(w:World)(K:PySem.W.Frag)(mg:Str->Option Value)(base:Heap)(CX:j8)(k:Nat)
def FN(x:Str)(ps:List Str)(sp:Sp)(cm:Bool:=true):Prop:=∃a fd,cI P w K mg base CX k a fd ps sp cm/\mg x=some (.ref a)/\PySem.W.keepIn K (.ref a)=true/\Binds K fd ps []
def MT(C:Addr)(x:Str)(ps:List Str)(sp:Sp)(cm:Bool:=true):Prop:=∃a fd,cI P w K mg base CX k a fd ps sp cm/\Binds K fd ps []/\lT K C x a
def MI(C:Addr)(ps:List Str)(sp:Sp)(cm:Bool:=true):Prop:=∃a fd,cI P w K mg base CX k a fd ps sp cm/\Binds K fd ps []/\Mk K C a
end
def GL(K:PySem.W.Frag)(x q:Str)(st:Stmt)(f:Addr):Prop:=∃oc od kV dc pm an cd ct sl,K.lookup f=some ⟨oc,od,.func (PySem.W.fnOf x q (lW st) (g_ st) (cR st) .none kV dc pm an cd ct),sl⟩/\PySem.W.codeIn K cd q=true/\PySem.W.keepIn K (.ref f)=true
def HD(K:PySem.W.Frag)(x:Str)(st:Stmt):Prop:=∃f,PySem.W.nsIn K mainGlobals x=some (some (.ref f))/\GL K x x st f
def GM(K:PySem.W.Frag)(C:Addr)(x q:Str)(st:Stmt):Prop:=∃f,PySem.W.findIn K (.ref C) x=some (some (.ref f))/\PySem.W.isFn K (.ref f)=true/\GL K x q st f
abbrev BA(x q:Str)(st:Stmt)(ps:List Str):Prop:=∀(kV doc pm:Value) (an:Option Addr) (aR ct:Value) (us:List Value),us.length=ps.length->bindArgs (PySem.W.fnOf x q (lW st) (g_ st) (cR st) .none kV doc pm an aR ct) ⟨us,[]⟩=pure (ps.zip us)
theorem EC{K:PySem.W.Frag}{x q:Str}{st:Stmt}{f:Addr}(l:GL K x q st f):PySem.W.keepIn K (.ref f)=true/\∃fd,jI K x q st f fd:=by
 obtain⟨oc,od,kV,dc,pm,an,cd,ct,sl,h1,h2,h3⟩:=l;exact⟨h3,_,Lj h1 h2 h3⟩
section
variable{P:Program}{w:World}{K:PySem.W.Frag}{h:Heap}{mg:Str->Option Value}{base:Heap}{CX:j8}{k:Nat}{C:Addr}{x q:Str}{st:Stmt}{ps:List Str}{sp:Sp}{cm:Bool}
theorem fnW(X:K.In h)(G:h.Ns mainGlobals mg)(l:HD K x st)(ok:∀{f:Addr}{fd:FuncData},jI K x x st f fd->cI P w K mg base CX k f fd ps sp cm)(b:BA x x st ps):FN P w K mg base CX k x ps sp cm:=by
 obtain⟨f,a,l⟩:=l;obtain⟨kp,fd,F⟩:=EC l;exact⟨f,fd,ok F,PySem.W.mg_of X G a,kp,F.binds b⟩
theorem TH(l:GM K C x q st)(ok:∀{f:Addr}{fd:FuncData},jI K x q st f fd->cI P w K mg base CX k f fd ps sp cm)(b:BA x q st ps):MT P w K mg base CX k C x ps sp cm:=by
 obtain⟨f,a,i,l⟩:=l;obtain⟨kp,fd,F⟩:=EC l;exact⟨f,fd,ok F,F.binds b,⟨a,i,kp⟩⟩
theorem abr{sp:Heap->Sp}(X:K.In h)(G:h.Ns mainGlobals mg)(Ey:mg "law"=some (.ref fa))(l:HD K "law" st)
  (b:∀(kV doc pm:Value) (an:Option Addr) (aR ct:Value) (s:Shared) (v:Value),BindsTo s (PySem.W.fnOf "law" "law" (lW st) (g_ st) (cR st) .none kV doc pm an aR ct) ⟨[v],[]⟩ [(p,v)])
  (ok:∀base:Heap,K.In base->base.Ns mainGlobals mg->∀{f:Addr}{fd:FuncData},jI K "law" "law" st f fd->cI P w K mg base CX k f fd [p] (sp base) cm) :
  ∃fd:FuncData,(∀(s:Shared) (v:Value),BindsTo s fd ⟨[v],[]⟩ [(p,v)])/\∀base:Heap,K.In base->base.Ns mainGlobals mg->cI P w K mg base CX k fa fd [p] (sp base) cm:=by
 obtain⟨f,a,oc,od,kV,dc,pm,an,cd,ct,sl,h1,h2,h3⟩:=l;have e:=Ey.symm.trans (PySem.W.mg_of X G a);cases e;exact⟨_,b kV dc pm an cd ct,λbase K1 G1=>ok base K1 G1 (Lj h1 h2 h3)⟩
end
section
variable{g:GF}{t:Tag}{f:SF}{d:D}{ds:List D}{ρ aS bx:aA}
theorem lB(h1:g d t ρ=some aS)(h2:f aS=some (.nx bx)):dw g t f (d::ds) ρ=dw g t f ds bx:=by
 conv=>lhs;unfold dw
 rw[h1];dsimp only;rw[h2]
theorem AB(h1:g d t ρ=some aS)(h2:f aS=some (.rt r)):dw g t f (d::ds) ρ=some (.rt r):=by
 unfold dw;rw[h1];dsimp only;rw[h2]
end
end L2.Ev
namespace L2
open PySem PySem.Spec PyProof.Rows
namespace Ev
section
variable{X:Cx}{e a b:Expr}{f:EF}{fx:XF}{pos:Pos}
noncomputable def wB(ft:TF)(fz:aA->Option (Bool×aA)):aA->Option (Bool×aA):=λρ=>match ft ρ with
 |some true=>fz ρ
 |some false=>some (false,ρ)
 |none=>none
theorem XM{ft:TF}{fz:aA->Option (Bool×aA)}(ha:FT X a ft)(hb:Bu X b fz):Bu X (.BoolOp .And [a,b] pos) (wB ft fz):=by
 obtain⟨t,p,q⟩:=ha;obtain⟨t',p',q'⟩:=hb;refine⟨_,(NJ p (Jo p')).pt,@λH0 S z aq ρ σ H Q c ρ' ok e k=>?_⟩;unfold wB at e
 split at e
 .rename_i h1;refine q ok h1 λH1 s1=>?_
  rw[if_pos rfl];exact q' (ok.same s1) e k
 .rename_i h1;cases e;refine q ok h1 λH1 s1=>?_
  rw[if_neg aa6];exact k z H1 (ok.same s1)
 .cases e
end
end Ev
section
variable{X:Cx}{af:List (Addr×Obj)}{σ:St}{H:Hp}{s:Shared}
theorem Inv.aab{a:Addr}{o:Obj}{aj:List (Key×V)}(I:Inv X af σ H s)(ha:H a=some (.dK aj))(ho:s.heap.get? a=some o):Inv X af σ (upd H a (.ck o (.dK aj))) s:=
 I.write (h':=s.heap) (t':=s.toks) (o:=.ck o (.dK aj)) (x:=a) (e:=a) (by rw[ha];trivial) (.inl rfl) (λ_ _ _ q=>q) ⟨o,ho⟩ ⟨ho,I.aI a _ ha⟩
theorem Inv.Z_{a:Addr}{o:Obj}{aj:List (Key×V)}(I:Inv X af σ H s)(ha:H a=some (.ck o (.dK aj)))(h0:∀o u,X.pC a≠some (.ck o u))(hd:X.A.handled=none):Inv X af σ (upd H a (.dK aj)) s:=by
 have nn:∀{b:Addr},H b=none->upd H a (.dK aj) b=none:=λ{b} e=>by rw[aL (λq=>by rw[q,ha] at e;cases e)];exact e
 have ne:∀{b:Addr}{u:HO},H b=some u->(∀o',u≠.ck o' (.dK aj))->upd H a (.dK aj) b=some u:=λ{b u} e n=>by
  rw[aL (λq=>by rw[q,ha] at e;cases e;exact n _ rfl)];exact e
 refine⟨I.ok,I.os,I.bare,⟨I.base.keep,I.base.slot,λb o e n hx=>nn (I.base.free b o e n hx),I.base.there,λb xs e=>ne (I.base.ko b xs e) (λ_ q=>by cases xs<;>cases q),λb o u e=>?_,λb ps e=>?_⟩,I.loc,I.cell,nn I.free,λx c e=>nn (I.jh x c e),λp hp=>?_,λb u e=>?_,I.len,⟨.inl hd,I.hq.ok,λr m=>ne (I.hq.lm r m) (λ_ q=>by cases q)⟩⟩
 .rw[aL (λq=>h0 o u (by rw[<- q];exact e))];exact I.base.jU b o u e
 .obtain⟨m,q⟩:=I.base.lQ b ps e;exact⟨m,ne q (λ_ q=>by cases q)⟩
 .obtain⟨e,n,r⟩:=I.pin p hp;exact⟨e,nn n,r⟩
 .by_cases hb:b=a
  .subst hb;rw[bQ] at e;cases e;exact(I.aI b _ ha).2
  .rw[aL hb] at e;exact(I.aI b u e).mz (λc v _ q=>q) (λc q=>ne q (λ_ q=>by cases q)) λc xs q=>ne q (λ_ q=>by cases xs<;>cases q)
end
end L2
namespace L2.Ev
open PySem PySem.Spec PyProof.Rows
section
variable{X:Cx}{pos:Pos}
def BP(i:Nat)(fk:EF)(fx:XF):SF:=λρ=>match fx ρ with
 |some (d,ρ')=>match ρ'[i]?,fk ρ' with
  | some (some (.lst ds,.own)),some (.int k,_)=>(match gJ ds.length k with
   |some j=>if(aC d&&aN ds)=true then some (.nx (bP ρ' i (.lst (ds.set j d)))) else none
   |none=>none)
  |_,_=>none
 |none=>none
end
end L2.Ev
namespace L2
open PySem PySem.Spec PyProof.Rows
section
variable{X:Cx}
theorem TU:gu X (.type "int") (λxs H Q=>∃b,xs=[V.bl b]/\Q (.int (if b then 1 else 0)) H):=by
 intro af s σ H xs us Q I r h;obtain⟨b,rfl,q⟩:=h;obtain⟨u,rfl,ru⟩:=vals1 r;cases ru;exact call_int_bool ⟨.int _,H,I.tok _,⟨_,rfl⟩,q⟩
end
end L2
namespace L2.Ev
open PySem PySem.Spec PyProof.Rows
section
variable{X:Cx}{a b e:Expr}{fa fb fv:EF}{p p1 p2 p3 pos:Pos}
noncomputable def MH:D->Option D
 |.bl b=>some (.int (if b then 1 else 0))
 |_=>none
theorem UJ{K:PySem.W.Frag}:lF K (λxs H Q=>∃b,xs=[V.bl b]/\Q (.int (if b then 1 else 0)) H) MH:=by
 intro H x d1 f1 d Q r e k;cases d1<;>try (cases e;done)
 cases e;cases r;exact⟨_,rfl,k H _ [] (aH.refl H) (.int _) ace λa m=>nomatch m⟩
theorem Hu(hm:X.mg "int"=none)(ha:FP X a fa)(hg:Gl X "int":=by rfl)(hs:starEach [a] X.env=[(false,eval a X.env)]:=by rfl):FP X (.Call (.Name "int" p) [a] [] pos) (e1 MH fa):=
 fp_1 UJ ha λta pa=>z7 TU hg hm (show bootBuiltins "int"=some (.type "int") by decide +kernel) (dW pa fH hs) (he:=hs) (hpl:=rfl)
end
end L2.Ev
namespace L2.Ev
open PySem
section
variable{ρ ρ':aA}{f:EF}{sf sg:SF}{d d1 d2:D}{t t1 t2:Tag}{i:Nat}{r:Option Out}
theorem sq(h:sf ρ=some (.nx ρ'))(h2:sg ρ'=r):cC sf sg ρ=r:=by rw[jG,h,nU,h2]
theorem jP(h:f ρ=some (d,t))(h2:sg (iw ρ i d t)=r):cC (dQ i f) sg ρ=r:=sq (by unfold dQ;rw[h]) h2
theorem pP(h:tf ρ=some b)(h2:cC (if b=true then sf else g9) sg ρ=r):cC (fP tf sf g9) sg ρ=r:=by
 have e:fP tf sf g9 ρ=(if b=true then sf else g9) ρ:=by rw[je,h];cases b<;>rfl
 rw[jG,e,<- jG,h2]
theorem dg(h:tf ρ=some false)(h2:sg ρ=r):cC (fP tf sf g9) sg ρ=r:=sq (by rw[je,h];rfl) h2
theorem bC{op:D->Option D}(h:f ρ=some (d,t))(h2:op d=some d1):e1 op f ρ=some (d1,.own):=by rw[yp,h,K3,h2];rfl
theorem aO{op:D->D->Option D}(h:f ρ=some (d1,t1))(h2:g ρ=some (d2,t2))(h3:op d1 d2=some d):e2 op f g ρ=some (d,.own):=by rw[j_,h,h2,xw,h3];rfl
theorem c9{F:List D->Option D}{ps:List (D×Tag)}(h:g ρ=some ps)(h2:F (ps.map (·.1))=some d):cP F g ρ=some (d,.own):=by rw[s_call,h,O9,h2];rfl
theorem bO(h:f ρ=some (.bl b,t)):tV f ρ=some b:=by rw[yh,h];rfl
theorem kN(h:tf ρ=some b):mR tf ρ=some (!b):=by rw[Ib,h];rfl
end
open PySem PySem.Spec PyProof.Rows
section
variable{X:Cx}{x f cn:Str}{C:Addr}{a k v:Expr}{fk fv:EF}{p p1 p2 p3 pos pos':Pos}
def uC(i:Nat)(cn f:Str)(fk fv:EF):SF:=λρ=>match fv ρ,ρ[i]?,fk ρ with
 | some (d,_),some (some (.ins c es,.own)),some (kd,_)=>if c=cn then(match es.lookup f,iB kd with
  |some (.bK aj),some k=>if(aC d&&aN (aj.map (·.2))&&decide (aj.length<sizeLine))=true then some (.nx (bP ρ i (.ins c (dZ f (.bK (putD aj k d)) es)))) else none
  |_,_=>none) else none
 |_,_,_=>none
theorem AR(i:Nat)(hu:X.A.units+1<cLine)(hC:ClsAt X.K cn C)(na:iC X.K C f)(hk:FP X k fk)(hv:FP X v fv)(va:VA X i x:=by walk_at "va")
  (hb:attributeBase (.Name x p) f X.env (eval (.Name x p) X.env)=eval (.Name x p) X.env:=by rfl)
  (hs:swapsWith v (some (.Subscript (.Attribute (.Name x p) f p1) k pos')) pos.line X.env=pure false:=by rfl) :
  fM X (.Assign [.Subscript (.Attribute (.Name x p) f p1) k pos'] v pos) (uC i cn f fk fv):=by
 obtain⟨tk,pk,sk⟩:=hk;obtain⟨tv,jm,sv⟩:=hv;exists 25,A8 hu (pS va.pe hb) pk jm hs;unfold uC at e
 split at e
 .rename_i d td c es kd Lm g1 g2 g3
  by_cases hc:c=cn
  .subst hc;rw[if_pos rfl] at e
   split at e
   .rename_i aj key hl wV
    by_cases hc:(aC d&&aN (aj.map (·.2))&&decide (aj.length<sizeLine))=true
    .rw[if_pos hc] at e;cases e;obtain⟨c1,c3⟩:=(aaY _ _).mp hc;obtain⟨c1,c2⟩:=(aaY _ _).mp c1;refine sv ok g1 λH1 v fd s1 rv gv=>?_
     have hn:=rv.aC c1;subst hn;obtain⟨xv,fp,b8,r,zz⟩:=(ok.same s1).sl i _ _ g2;refine⟨xv,b8,?_⟩;obtain⟨b0,dx,fs,u,gf,rfl,h1,h2,h3,h4,h5,h6⟩:=r.place hC.ns zz.1 hl;refine⟨b0,C,dx,fs,u,rfl,h1,hC.cl,na,h2,?_⟩;refine sk (ok.same s1) g3 λH2 y Bp s2 rk _=>?_
     have ek:=rk.key wV;subst ek;have r':=h3.same s2;generalize hw:u=w at r' h6;cases r' with
     | @bK l ks _ f' h fG rs=>
      have hn:=rs.aC c2;subst hn;have hlen:ks.length=aj.length:=by have:=congrArg List.length fG;simpa using this.symm
      refine⟨l,_,rfl,oK.k h (by rw[hlen];exact aaP c3),?_⟩;have im:aT H2 (upd H2 l (.dK (putK ks key v))):=aT.upd h rfl;have kp:∀(c:Addr) o,c∉[l]->H1 c=some o->upd H2 l (.dK (putK ks key v)) c=some o:=λc o n e=>by rw[aL λq=>n (by rw[q];exact aar)];exact s2 c o e
      obtain⟨bU,k1,k2,k3⟩:=h6 (upd H2 l (.dK (putK ks key v))) (.bK (putD aj key d)) [l] ((aT.of s2).trans im) kp
       (.bK bQ (wX fG) (GB fG (rs.frame (λa m=>nomatch m) im) ((rv.same s2).frame (λa m=>nomatch m) im))) h4 (λc m=>.inl m)
      obtain⟨z',aX⟩:=(ok.same s1).put g2 b8 zz ((aT.of s2).trans im) (λc o n e=>kp c o (λm=>n (h5 c m)) e) k1 k2 k3;exact q z' σ _ aX (.refl _ _)
    .rw[if_neg hc] at e;cases e
   .cases e
  .rw[if_neg hc] at e;cases e
 .cases e
def yU(i:Nat)(cn f:Str)(fv:EF):SF:=λρ=>match fv ρ,ρ[i]? with
 | some (.int j,_),some (some (.ins c es,.own))=>if c=cn/\es.length < 1000 then(match es.lookup f with
  |some (.int k)=>some (.nx (bP ρ i (.ins c (dZ f (.int (k+j)) es))))
  |_=>none) else none
 |_,_=>none
theorem CB(i:Nat)(hC:ClsAt X.K cn C)(na:iC X.K C f)(hv:FP X a fv)(va:VA X i x:=by walk_at "va"):fM X (.AugAssign (.Attribute (.Name x p1) f pos') .Add a pos) (yU i cn f fv):=by
 obtain⟨t,p,q⟩:=hv;exists 23,Sq va.pe p WS;unfold yU at e
 split at e
 .rename_i j tg c es h1 h2
  by_cases hc:c=cn/\es.length<1000
  .rw[if_pos hc] at e;obtain⟨rfl,hl⟩:=hc
   split at e
   .rename_i m hf;cases e;obtain⟨v,bq,b8,r0,zz⟩:=ok.sl i _ _ h2;refine⟨v,b8,?_⟩;obtain⟨b,dx,fs,u,gf,rfl,h3,e2,e3,_⟩:=r0.place hC.ns zz.1 hf;obtain⟨b',yK,qS,g,ev,rfl,Bf,h4,h5,h6⟩:=r0.lY hC.ns;cases ev;rw[h3] at Bf;cases Bf;cases e3;have lf:fs.length<1000:=by have:=congrArg List.length h5;rw[List.length_map,List.length_map] at this;omega
    refine⟨b,C,dx,fs,_,rfl,h3,hC.cl,na,e2,q ok h1 λH1 y fd s1 r1 g1=>?_⟩;cases r1;refine⟨m,j,rfl,rfl,dx,fs,s1 _ _ h3,lf,?_⟩;obtain⟨z',aX⟩:=ok.fld hC h2 b8 h3 s1 (.int (m+j)) ace λc m=>nomatch m
    exact k z' σ _ aX (.refl _ _)
   .cases e
  .rw[if_neg hc] at e;cases e
 .cases e
noncomputable def sR(f:EF):TF:=λρ=>match f ρ with
 |some (.lst ds,_)=>some (!ds.isEmpty)
 |_=>none
theorem Nb{f:EF}(h:FP X a f)(he:∀whole,isTrue a X.env whole=(do let v <- whole;standAt a.pos;holding [v] (truthy v)):=by intro _;rfl):FT X a (sR f):=by
 obtain⟨t,p,q⟩:=h;refine⟨_,acz p he,@λH0 S z aq ρ σ H Q b ok e k=>?_⟩;unfold sR at e
 split at e
 .rename_i ds tg e1;cases e;refine q ok e1 λH1 v fp s1 r1 _=>?_
  obtain⟨w,xs,f,rfl,hq,rs,_⟩:=r1.d9;have he:(!ds.isEmpty)=!xs.isEmpty:=by cases rs<;>rfl
  exact⟨_,.inl ⟨xs,hq,rfl⟩,he ▸ k H1 s1⟩
 .cases e
theorem ab6{b:Expr}{fa fb:EF}(hu:X.A.units+1<cLine)(ha:FP X a fa)(hb:FP X b fb)(hm:behindInMarks .NotIn b=false:=by rfl):FP X (.Compare a [.NotIn] [b] pos) (e2 (qq true) fa fb):=
 fp_2 DQ ha hb λta tb pa pb=>LJ (R_ hu pa pb) hm
end
end L2.Ev
namespace L2
open PySem PySem.Spec PyProof.Rows
section
variable{X:Cx}{af:List (Addr×Obj)}{σ:St}{H:Hp}{s:Shared}{a:Addr}
theorem KI{ks:List Key}(I:Inv X af σ H s)(h:cg X.K H a (ks.map kV)):(tupleKind (fR X.prog X.w)).is s.heap ks a:=by
 obtain⟨au,r,⟨o,h1,h2,_,n,h3⟩,_⟩:=I.Nf h;exact⟨o,au.toArray,n,h1,h2,h3,by simpa using Gv r⟩
def Ni(K:PySem.W.Frag)(neg:Bool):R2:=λx y H Q=>∃b a k aj,x=.ref b/\y=.ref a/\cg K H b (List.map kV k)/\H a=some (.dT aj)/\Q (.bl (if neg=true then !(dY aj k).isSome else(dY aj k).isSome)) H
theorem adL(hu:X.A.units+1<cLine):dF X (compareOp .In) (Ni X.K false):=by
 rintro af s σ H x y v u Q I rx ry ⟨b,a,k,aj,rfl,rfl,hq,e,q⟩
 obtain rfl:v=Value.ref b:=rx;obtain rfl:u=Value.ref a:=ry;obtain⟨z,hd,xs,rel,dd⟩:=nF I.aI (.inl e);refine wpAny_in_heap (afb hu) (KI I hq) hd dd ?_;have w:=(rel.val k).uW;rw[afh] at w;rw[<- w];exact⟨.bl (dY aj k).isSome,H,I.tok _,rfl,q⟩
def U7(K:PySem.W.Frag)(td ty:TE):TE:=λσ H Q=>td σ H λx H1=>ty σ H1 λy H2=>∃a b k aj v,x=.ref a/\y=.ref b/\cg K H2 b (List.map kV k)/\H2 a=some (.dT aj)/\dY aj k=some v/\Q v H2
theorem VN{o i:Expr}{pos:Pos}{td ty:TE}(hu:X.A.units+1<cLine)(ho:PE X o td)(hi:PE X i ty)(hs:xW i):PE X (.Subscript o i pos) (U7 X.K td ty):=by
 intro af s σ H Q I h;refine LG PySem.F.slot_dict_getitem.lookup hs (aM (ho af s σ H _ I h) λu s1 ⟨x,H1,I1,rx,q1⟩=>aM (hi af s1 σ H1 _ I1 q1) λiv s2 hq=>?_);obtain⟨y,H2,I2,ry,a,b,k,aj,v,ex,ey,hq,e,l,q2⟩:=hq;subst ex;subst ey;obtain rfl:u=Value.ref a:=rx;obtain rfl:iv=Value.ref b:=ry;obtain⟨z,hd,xs,rel,dd⟩:=nF I2.aI (.inl e);obtain⟨w',hw,fS⟩:=gX.some_of (by rw[<- l];exact rel.val k);obtain⟨p,hp,xg⟩:=ab9.mp hw;refine⟨dd.typeIs,wpAny_getItem_heap (afb hu) (KI I2 hq) dd hp ?_⟩;rw[xg];exact⟨v,H2,I2.tok _,fS,q2⟩
end
namespace Ev
section
variable{X:Cx}{a b:Expr}{fa fb:EF}{pos:Pos}
def iA:List D->Option (List Key)
 |[]=>some []
 |d::ds=>match iB d,iA ds with
  |some k,some ks=>some (k::ks)
  |_,_=>none
theorem aB.keys{K:PySem.W.Frag}{H:Hp}:∀{ds:List D}{xs:List V}{fp:List Addr}{ks:List Key},aB K H ds xs fp->iA ds=some ks->xs=ks.map L2.kV
 |[],_,_,_,.nil,e=>by cases e;rfl
 |d::ds,_,_,ks,.cons r rs,e=>by
  unfold iA at e
  split at e
  .rename_i k nR h1 h2;cases e;rw[r.key h1,aB.keys rs h2];rfl
  .cases e
def Fb(neg:Bool):D->D->Option D
 |.tup ds,.cM es=>(iA ds).map λk=>.bl (if neg=true then !(aV es k).isSome else(aV es k).isSome)
 |_,_=>none
theorem Ue{neg:Bool}{K:PySem.W.Frag}:gC K (Ni K neg) (Fb neg):=by
 intro H x y d1 d2 f1 f2 d Q r1 r2 e k;cases d1<;>try (cases e;done)
 cases d2<;>try (cases e;done)
 rename_i ds es;have e:((iA ds).map λk=>D.bl (if neg=true then !(aV es k).isSome else(aV es k).isSome))=some d:=e;obtain⟨w,xs,rfl,hq,rs⟩:=r1.iX;cases hk:iA ds with
 |none=>rw[hk] at e;cases e
 |some ks=>
  rw[hk] at e;cases e;obtain rfl:=aB.keys rs hk;cases r2 with
  | @cM a aj _ f h fG yH=>
   have ev:(dY aj ks).isSome=(aV es ks).isSome:=by
    obtain⟨h1,h2⟩:=qN fG yH;cases hv:aV es ks with
    |none=>rw[h2 hv];rfl
    |some dv=>obtain⟨v,f,jQ,_⟩:=h1 dv hv;rw[jQ];rfl
   refine⟨w,a,ks,aj,rfl,rfl,hq,h,?_⟩;rw[ev];exact k H _ (aH.refl H) (.bl _)
theorem XG(hu:X.A.units+1<cLine)(ha:FP X a fa)(hb:FP X b fb)(hm:behindInMarks .In b=false:=by rfl):FT X (.Compare a [.In] [b] pos) (tV (e2 (Fb false) fa fb)):=jX (adL hu) Ue ha hb hm
def yN(fa fb:EF):EF:=λρ=>match fa ρ,fb ρ with
 |some (.cM es,t),some (.tup ds,_)=>(iA ds).bind λk=>(aV es k).map λd=>(d,k_ t)
 |_,_=>none
theorem LB(hu:X.A.units+1<cLine)(ha:FP X a fa)(hb:FP X b fb)(hs:xW b):FP X (.Subscript a b pos) (yN fa fb):=by
 obtain⟨ta,pa,sa⟩:=ha;obtain⟨tb,pb,sb⟩:=hb;exists 20,VN hu pa pb hs;unfold yN at e
 split at e
 .rename_i es t ds t2 e1 jn;cases hk:iA ds with
  |none=>rw[hk] at e;cases e
  |some ks=>
   rw[hk,acR] at e;cases hv:aV es ks with
   |none=>rw[hv] at e;cases e
   |some dv=>
    rw[hv] at e;cases e;refine sa ok e1 λH1 x f1 s1 r1 g1=>?_
    refine sb (ok.same s1) jn λH2 y f2 s2 r2 _=>?_
    obtain⟨w,xs,rfl,hq,rs⟩:=r2.iX;obtain rfl:=aB.keys rs hk;have Fv:=r1.same s2;cases Fv with
    | @cM l aj _ f h fG yH=>
     obtain⟨h1,_⟩:=qN fG yH;obtain⟨v,f,jQ,rv,sub⟩:=h1 _ hv;refine⟨l,w,ks,aj,v,rfl,rfl,hq,h,jQ,?_⟩;exact q H2 v f (s1.trans s2) rv (cN.sub (λa j e=>(ok.zd a j e).1) g1 λa m=>aaa _ (sub a m))
 .cases e
def BF(neg:Bool):D->D->Option D
 |d1,.lst ds=>if(dX d1&&dX (.lst ds))=true then some (.bl (if neg=true then !(fB ds).any λy=>PyData.eqv y (py d1) else(fB ds).any λy=>PyData.eqv y (py d1))) else none
 |_,_=>none
def FU(K:PySem.W.Frag)(neg:Bool):R2:=λx y H Q=>∃d1 ds f1 f2,Rep K H d1 x f1/\Rep K H (.lst ds) y f2/\dX d1=true/\dX (.lst ds)=true/\Q (.bl (if neg=true then !(fB ds).any λy=>PyData.eqv y (py d1) else(fB ds).any λy=>PyData.eqv y (py d1))) H
theorem WB(hu:X.A.units+64<cLine):dF X (compareOp .In) (FU X.K false):=by
 intro af s σ H x y v u Q I rx ry h;obtain⟨d1,ds,f1,f2,r1,r2,l1,l2,q⟩:=h;obtain⟨a1,a2,a3⟩:=lay_of l1;obtain⟨b1,b2,b3⟩:=lay_of l2;obtain⟨as,ra⟩:=pN I r1 rx a1;obtain⟨bs,rb⟩:=pN I r2 ry b1;rw[py] at rb b2 b3;simp only[PyData.canLay0] at b2;exact SeqAt.in_list_reads rb ra b2 a2 (by have:=Nat.min_le_right (PyData.depthAll (fB ds)) (py d1).depth;omega) ⟨.bl _,H,I,rfl,q⟩
theorem Xj(hu:X.A.units+64<cLine):dF X (compareOp .NotIn) (FU X.K true):=by
 intro af s σ H x y v u Q I rx ry h;obtain⟨d1,ds,f1,f2,r1,r2,l1,l2,q⟩:=h;obtain⟨a1,a2,a3⟩:=lay_of l1;obtain⟨b1,b2,b3⟩:=lay_of l2;obtain⟨as,ra⟩:=pN I r1 rx a1;obtain⟨bs,rb⟩:=pN I r2 ry b1;rw[py] at rb b2 b3;simp only[PyData.canLay0] at b2;exact SeqAt.notIn_list_reads rb ra b2 a2 (by have:=Nat.min_le_right (PyData.depthAll (fB ds)) (py d1).depth;omega) ⟨.bl _,H,I,rfl,q⟩
theorem Nh{K:PySem.W.Frag}{neg:Bool}:gC K (FU K neg) (BF neg):=by
 intro H x y d1 d2 f1 f2 d Q r1 r2 e k;cases d2<;>try (cases e;done)
 rename_i ds;have e:(if(dX d1&&dX (.lst ds))=true then some (D.bl (if neg=true then !(fB ds).any λy=>PyData.eqv y (py d1) else(fB ds).any λy=>PyData.eqv y (py d1))) else none)=some d:=by cases d1<;>exact e
 by_cases hc:(dX d1&&dX (.lst ds))=true
 .rw[if_pos hc] at e;cases e;obtain⟨c1,c2⟩:=(aaY _ _).mp hc;exact⟨d1,ds,f1,f2,r1,r2,c1,c2,k H _ (aH.refl H) (.bl _)⟩
 .rw[if_neg hc] at e;cases e
theorem Va(hu:X.A.units+64<cLine)(ha:FP X a fa)(hb:FP X b fb)(hm:behindInMarks .NotIn b=false:=by rfl):FT X (.Compare a [.NotIn] [b] pos) (tV (e2 (BF true) fa fb)):=jX (Xj hu) Nh ha hb hm
theorem RH(hu:X.A.units+64<cLine)(ha:FP X a fa)(hb:FP X b fb)(hm:behindInMarks .In b=false:=by rfl):FP X (.Compare a [.In] [b] pos) (e2 (BF false) fa fb):=qm (WB hu) Nh ha hb hm
theorem Fj:FP X (.Dict [] [] pos) (eC (.cM [])):=by
 refine⟨_,abZ,@λH0 S z aq ρ σ H Q d tg ok e k p hp=>?_⟩;cases e;have s2:aH H (upd H p (.dT [])):=λb o e=>by rw[aL (cT e hp)];exact e
 exact k _ _ [p] s2 (.cM bQ rfl .nil) ⟨abv.mpr ⟨(λm=>by cases m),ace⟩,λa m=>by cases aa1.mp m;exact hp⟩
end
end Ev
end L2
namespace L2
open PySem PySem.W PyProof.Rows
structure nS(r:Nat->Nat->Bool)(n:Nat):Prop where
 tr:∀i j k,i<n->j<n->k<n->r i j=true->r j k=true->r i k=true
 tt:∀i j,i<n->j<n->i≠j->r i j=false->r j i=true
def jJ(r:Nat->Nat->Bool)(p:Array Nat)(m:Nat):Prop:=∀i j,i<j->j<m->r (p.getD i 0) (p.getD j 0)=true
def wW(r:Nat->Nat->Bool)(p:Array Nat)(m:Nat):Prop:=∀i j,i<j->j<m->r (p.getD j 0) (p.getD i 0)=true
noncomputable abbrev bg(n:Nat)(p:Array Nat):Prop:=p.Perm (List.range n).toArray
section
variable{cmp:Nat->Nat->(Bool->Shared->Prop)->Shared->Prop}{r:Nat->Nat->Bool}{n:Nat}{s:Shared}{p:Array Nat}
theorem bg.sz(P:bg n p):p.size=n:=by rw[Array.Perm.size_eq P];simp
theorem getD_at(h:i<p.size):p.getD i 0=p[i]:=by simp[Array.getD,h]
theorem bg.lt(P:bg n p)(h:i<n):p.getD i 0<n:=by
 have hs:i<p.size:=by rw[bg.sz P];exact h
 rw[getD_at hs];have m:p[i]∈p.toList:=by simp
 have:=(afo.mp P).mem_iff.mp m;simpa using this
theorem bg.ne(P:bg n p)(hi:i<n)(hj:j<n)(h:i≠j):p.getD i 0≠p.getD j 0:=λe'=>by
 have hs:i<p.size:=by rw[bg.sz P];exact hi
 have b8:j<p.size:=by rw[bg.sz P];exact hj
 rw[getD_at hs,getD_at b8] at e';have nd:=(afo.mp P).nodup_iff.mpr (by simpa using List.nodup_range);have w:=afP.mp nd;rcases Nat.lt_or_gt_of_ne h with q|q
 .exact w i j (by simpa using hs) (by simpa using b8) q (by simpa using e')
 .exact w j i (by simpa using b8) (by simpa using hs) q (by simpa using e'.symm)
def uA(cmp:Nat->Nat->(Bool->Shared->Prop)->Shared->Prop)(r:Nat->Nat->Bool)(n:Nat)(s:Shared):Prop:=∀i j C,i<n->j<n->C (r i j) s->cmp i j C s
theorem jJ.snoc{m:Nat}(T:nS r n)(P:bg n p)(h:jJ r p m)(h1:1<=m)(hm:m<n)(h2:r (p.getD (m-1) 0) (p.getD m 0)=true):jJ r p (m+1):=λi j a b=>by
 by_cases e:j=m
 .subst e
  by_cases e':i=j-1
  .subst e';exact h2
  .exact T.tr _ _ _ (bg.lt P (by lia)) (bg.lt P (by lia)) (bg.lt P (by lia)) (h i (j-1) (by lia) (by lia)) h2
 .exact h i j a (by lia)
theorem wW.snoc{m:Nat}(T:nS r n)(P:bg n p)(h:wW r p m)(h1:1<=m)(hm:m<n)(h2:r (p.getD m 0) (p.getD (m-1) 0)=true):wW r p (m+1):=λi j a b=>by
 by_cases e:j=m
 .subst e
  by_cases e':i=j-1
  .subst e';exact h2
  .exact T.tr _ _ _ (bg.lt P (by lia)) (bg.lt P (by lia)) (bg.lt P (by lia)) h2 (h i (j-1) (by lia) (by lia))
 .exact h i j a (by lia)
theorem G7(T:nS r n)(A:uA cmp r n s)(P:bg n p):∀(f m:Nat) {G:Nat->Shared->Prop},1<=m->m+f<=n->jJ r p m->
  (∀m',m<=m'->m'<=m+f->jJ r p m'->(m'=m+f\/r (p.getD m' 0) (p.getD (m'-1) 0)=true)->G m' s)->(kas_asc p f m).kasWp cmp G s
 |0,m,G,_,_,hs,g=>g m (abH _) (abH _) hs (.inl rfl)
 |f+1,m,G,h1,h2,hs,g=>by
  refine A _ _ _ (bg.lt P (by lia)) (bg.lt P (by lia)) ?_;cases c:r (p.getD m 0) (p.getD (m-1) 0) with
  |true=>exact g m (abH _) (by lia) hs (.inr c)
  |false=>
   exact G7 T A P f (m+1) (by lia) (by lia) (hs.snoc T P h1 (by lia) (T.tt _ _ (bg.lt P (by lia)) (bg.lt P (by lia)) (bg.ne P (by lia) (by lia) (by lia)) c)) λm' a b c d=>g m' (by lia) (by lia) c (by rw[show m+1+f=m+(f+1) by lia] at d;exact d)
theorem Oi(T:nS r n)(A:uA cmp r n s)(P:bg n p):∀(f m:Nat) {G:Array Nat×Nat×Nat->Shared->Prop},1<=m->m+f<=n->wW r p m->
  (∀m',m<=m'->m'<=m+f->wW r p m'->G (p,m',0) s)->(kas_desc f p m 0).kasWp cmp G s
 |0,m,G,_,_,hs,g=>g m (abH _) (abH _) hs
 |f+1,m,G,h1,h2,hs,g=>by
  refine A _ _ _ (bg.lt P (by lia)) (bg.lt P (by lia)) ?_;cases c:r (p.getD m 0) (p.getD (m-1) 0) with
  |true=>exact Oi T A P f (m+1) (by lia) (by lia) (hs.snoc T P h1 (by lia) c) λm' a b d=>g m' (by lia) (by lia) d
  |false=>
   refine A _ _ _ (bg.lt P (by lia)) (bg.lt P (by lia)) ?_;rw[T.tt _ _ (bg.lt P (by lia)) (bg.lt P (by lia)) (bg.ne P (by lia) (by lia) (by lia)) c];exact g m (abH _) (by lia) hs
theorem rev_getD{m i:Nat}(hm:m<=p.size)(h:i<m):(kas_rev p 0 m).getD i 0=p.getD (m-1-i) 0:=by
 have e:=getElem?_mirror_all (i:=0) hm i;rw[if_pos ⟨ad0 _,h⟩] at e;unfold kas_rev;rw[aeA,aeA,e]
 congr 2;lia
theorem adE(T:nS r n)(A:uA cmp r n s)(P:bg n p)(h:1<=n){G:Nat×Array Nat->Shared->Prop}(g:∀m q,1<=m->m<=n->bg n q->jJ r q m->G (m,q) s):(kas_count n p).kasWp cmp G s:=by
 unfold kas_count;rw[KasT.kasWp_bind];refine G7 T A P (n-1) 1 (abH _) (by lia) (λi j a b=>by lia) λm a b hs d=>?_
 by_cases e:m=n
 .subst e;rw[if_pos (by simp)];exact g m p a (abH _) P hs
 .rw[if_neg (by simpa using e)]
  by_cases e1:m > 1
  .rw[if_pos e1];refine A _ _ _ (bg.lt P (by lia)) (bg.lt P (by lia)) ?_;rw[hs 0 (m-1) (by lia) (by lia)];exact g m p a (by lia) P hs
  .rw[if_neg e1];obtain rfl:m=1:=by lia
   have d:=d.resolve_left (by lia);unfold kas_descPart;rw[KasT.kasWp_bind];refine Oi T A P (n - (1 + 1)) (1 + 1) (by lia) (by lia) (λi j a b=>by
    obtain⟨rfl,rfl⟩:i=0/\j=1:=by lia
    exact d) λm' a' b' hd=>?_
   dsimp only;rw[if_neg (by lia)];unfold kas_tail3;rw[KasT.kasWp_bind];have Q:bg n (kas_rev p 0 m'):=(mirror_perm _ _ _ _).trans P;refine G7 T A Q (n-m') m' (by lia) (by lia) (λi j a b=>?_) λm2 a2 b2 d8 _=>g m2 _ (by lia) (by lia) Q d8
   rw[rev_getD (by rw[bg.sz P];lia) (by lia),rev_getD (by rw[bg.sz P];lia) (by lia)];exact hd _ _ (by lia) (by lia)
theorem DH(T:nS r n)(A:uA cmp r n s)(P:bg n p){x:Nat}(hx:x<n)(hs:jJ r p x):∀(f l u:Nat) {G:Nat->Shared->Prop},u-l<=f->u<=x->l<=u->(∀i,i<l->r (p.getD i 0) (p.getD x 0)=true)->(∀i,u<=i->i<x->r (p.getD x 0) (p.getD i 0)=true)->
  (∀l,l<=x->(∀i,i<l->r (p.getD i 0) (p.getD x 0)=true)->(∀i,l<=i->i<x->r (p.getD x 0) (p.getD i 0)=true)->G l s)->(kas_place p x f l u).kasWp cmp G s
 |0,l,u,G,h1,h2,h3,lo,hi,g=>g l (by lia) lo λi a b=>hi i (by lia) b
 |f+1,l,u,G,h1,h2,h3,lo,hi,g=>by
  unfold kas_place
  by_cases c:l >= u
  .rw[if_pos c];exact g l (by lia) lo λi a b=>hi i (by lia) b
  .rw[if_neg c];refine A _ _ _ (bg.lt P hx) (bg.lt P (by lia)) ?_;cases d:r (p.getD x 0) (p.getD ((l+u) / 2) 0) with
   |true=>
    refine DH T A P hx hs f l ((l+u) / 2) (by lia) (by lia) (by lia) lo (λi a b=>?_) g
    by_cases e:i=(l+u) / 2
    .rw[e];exact d
    .exact T.tr _ _ _ (bg.lt P (by lia)) (bg.lt P (by lia)) (bg.lt P (by lia)) d (hs _ i (by lia) b)
   |false=>
    have d:=T.tt _ _ (bg.lt P (by lia)) (bg.lt P (by lia)) (bg.ne P (by lia) (by lia) (by lia)) d;refine DH T A P hx hs f ((l+u) / 2+1) u (by lia) h2 (by lia) (λi a=>?_) hi g
    by_cases e:i=(l+u) / 2
    .rw[e];exact d
    .exact T.tr _ _ _ (bg.lt P (by lia)) (bg.lt P (by lia)) (bg.lt P (by lia)) (hs i _ (by lia) (by lia)) d
theorem Oa{x l i:Nat}(hx:x<p.size)(hl:l<=x):(bubble p x (x-l)).getD i 0=if i=l then p.getD x 0 else if l<i/\i<=x then p.getD (i-1) 0 else p.getD i 0:=by
 have e:=getElem?_bubble hx (x-l) (by lia) i;rw[show x-(x-l)=l by lia] at e;rw[aeA,e]
 by_cases h1:i=l
 .rw[if_pos h1,if_pos h1,aeA]
 .rw[if_neg h1,if_neg h1]
  by_cases h2:l<i/\i<=x
  .rw[if_pos h2,if_pos h2,aeA]
  .rw[if_neg h2,if_neg h2,aeA]
theorem PU(T:nS r n)(A:uA cmp r n s):∀(f:Nat) (p:Array Nat) (x:Nat) {G:Array Nat->Shared->Prop},bg n p->1<=x->x+f=n->jJ r p x->(∀q,bg n q->jJ r q n->G q s)->(kas_bin f p x).kasWp cmp G s
 |0,p,x,G,P,_,e,hs,g=>g p P (by rw[<- e];exact hs)
 |f+1,p,x,G,P,h1,e,hs,g=>by
  unfold kas_bin;rw[KasT.kasWp_bind];refine DH T A P (by lia) hs x 0 x (by lia) (abH _) (ad0 _) (λi a=>by lia) (λi a b=>by lia) λl hl lo hi=>?_
  have hz:x<p.size:=by rw[bg.sz P];lia
  refine PU T A f _ (x+1) ((bubble_perm _ _ _).trans P) (by lia) (by lia) (λi j a b=>?_) g;rw[Oa hz hl,Oa hz hl]
  by_cases i1:i=l
  .rw[if_pos i1,if_neg (by lia),if_pos (by lia)];exact hi _ (by lia) (by lia)
  .rw[if_neg i1]
   by_cases j1:j=l
   .rw[if_pos j1,if_neg (by lia)];exact lo _ (by lia)
   .rw[if_neg j1]
    by_cases i2:l<i/\i<=x
    .rw[if_pos i2,if_pos (by lia)];exact hs _ _ (by lia) (by lia)
    .rw[if_neg i2]
     by_cases j2:l<j/\j<=x
     .rw[if_pos j2];exact hs _ _ (by lia) (by lia)
     .rw[if_neg j2];exact hs _ _ (by lia) (by lia)
theorem XA(T:nS r n)(A:uA cmp r n s)(h:1<=n){G:Array Nat->Shared->Prop}(g:∀q,bg n q->jJ r q n->G q s):(kas_sort n).kasWp cmp G s:=by
 unfold kas_sort;rw[KasT.kasWp_bind];refine adE T A (Array.Perm.refl _) h λm q a b Q hs=>?_
 by_cases e:m<n
 .dsimp only;rw[if_pos e,Nat.max_eq_left a];exact PU T A _ q m Q a (by lia) hs g
 .dsimp only;rw[if_neg e];obtain rfl:m=n:=by lia
  exact g q Q hs
end
open PySem PySem.Spec PySem.W PyProof.Rows
noncomputable def lex(x y:Int×Int):Bool:=decide (x.1<y.1\/x.1=y.1/\x.2<y.2)
def IsPair(h:Heap)(q:Addr)(x:Int×Int):Prop:=∃t u,IsTup h q #[.int x.1 t,.int x.2 u]
theorem abf{pr:Nat->Int×Int}{n:Nat}(h:∀i j,i<n->j<n->pr i=pr j->i=j):nS (λi j=>lex (pr i) (pr j)) n where
 tr:=λi j k _ _ _ a b=>by
  have a:=aaP a;have b:=aaP b;exact aaN (by lia)
 tt:=λi j a b ne e=>by
  have e:=of_decide_eq_false e;have n2:¬((pr i).1=(pr j).1/\(pr i).2=(pr j).2):=λz=>ne (h i j a b (Prod.ext z.1 z.2))
  exact aaN (by lia)
section
variable{prog:Program}{w:World}{A:Around}{E:Value->Shared->Prop}{s:Shared}
theorem VR{a b:Int×Int}{Q:Bool->Shared->Prop}(hx:IsPair s.heap x a)(hy:IsPair s.heap y b)(h:Q (lex a b) s):wpAny (model prog w) A (keyLt' (tuples' true) (.ref x) (.ref y)) Q E s:=by
 obtain⟨t,u,o,h1,_,n,h2⟩:=hx;obtain⟨t',u',o',ic,_,n',kq⟩:=hy;refine kat_lt h1 h2 ic kq (kat_cons (wpAny_eqBool_int (kat_go (λe=>kat_yes (kat_cons (wpAny_eqBool_int (kat_go (λe2=>kat_yes (kat_nil ?_)) λe2=>kat_no (kat_one _ _ (lt_int ?_)))))) λe=>kat_no (oneLt_int ?_))))
 .have e:=eq_of_beq e;have e2:=eq_of_beq e2;have:lex a b=false:=abN (by omega);rw[this] at h;exact h
 .have e:=eq_of_beq e;have:lex a b=decide (a.2<b.2):=by unfold lex;congr 1;exact propext ⟨λz=>by omega,λz=>.inr ⟨e,z⟩⟩
  rw[this] at h;exact h
 .have e:=ne_of_beq_false e;have:lex a b=decide (a.1<b.1):=by unfold lex;congr 1;exact propext ⟨λz=>by omega,.inl⟩
  rw[this] at h;exact h
theorem Jy:∀{qs:List Addr}{ps:List (Int×Int)},Paired (IsPair h) qs ps->∃fs,KatTups h (qs.map Value.ref) fs/\fs.length=qs.length/\∀v∈fs,∃i t,v=Value.int i t
 |_,_,.nil=>⟨[],.nil,rfl,λ_ m=>nomatch m⟩
 |_,_,.cons r t=>by
  obtain⟨fs,h1,h2,h3⟩:=Jy t;obtain⟨t,u,o,e1,e2,n,e3⟩:=r;exact⟨_::fs,KatTups.cons e1 e2 e3 rfl h1,by rw[abP,abP,h2],λv m=>(aa3.mp m).elim (λz=>⟨_,_,z⟩) (h3 v)⟩
theorem abO{a kS:Addr}{vs:List Value}{qs:List Addr}{ps:List (Int×Int)}{e e1:Nat}{P:PySem.Fin->Shared->Prop}(l5:vs.length<64)(hl:qs.length=vs.length)(hp:Paired (IsPair s.heap) qs ps)(nd:ps.Nodup)
  (hk:s.heap.get? kS=some (seqObj "list" (qs.map Value.ref).toArray e)) (ha:s.heap.get? a=some (seqObj "list" #[] e1)) (ne:a≠kS)
  (h:∀q:Array Nat,bg vs.length q->jJ (λi j=>lex (ps.getD i (0,0)) (ps.getD j (0,0))) q vs.length->
   P (.done (.ret .none)) { s with heap:=(s.heap.update kS (Obj.mapSeq λ_=>#[])).update a (Obj.mapSeq λ_=>(q.toList.map λi=>vs.getD i Value.none).toArray) }) :
  wpAny (model prog w) A (ksk_end a false vs.toArray e1 (.ref kS) (qs.map Value.ref).toArray) P E s:=by
 have y_:(qs.map Value.ref).length=vs.length:=by rw[List.length_map];exact hl
 have tail:∀(st:SortSt) (q:Array Nat),bg vs.length q->jJ (λi j=>lex (ps.getD i (0,0)) (ps.getD j (0,0))) q vs.length->(arrOf st).map (·.2)=(q.toList.map λi=>vs.getD i Value.none).toArray->failedOf st=none->
   wpAny (model prog w) A (ksk_tail a false e1 (.ref kS) st) P E s:=by
  intro st q hq hs ho hf;have s1:=Heap.SameBut.update s.heap kS (Obj.mapSeq λ_=>(#[]:Array Value));have M9:=(s1.2 a ne).trans ha;unfold ksk_tail;dsimp only;refine aaQ (listUpdate_at hk rfl ?_ (by rw[abW,y_,aeI];lia) (ad0 _));refine aaQ (wpAny_letGo ?_);refine aaQ (seqEpoch_at M9 rfl ?_);refine aaQ (listUpdate_at M9 rfl ?_ (ad0 _) ?_)
  .rw[hf];simp only[bne_self_eq_false,afr,if_false];rw[ho];exact acr (h q hq hs)
  .simp only[afr,if_false];rw[ho,abW,List.length_map,aeu,bg.sz hq,aeI];lia
 unfold ksk_end;dsimp only;rw[if_neg aa6]
 by_cases h2:vs.toArray.size<2
 .rw[if_pos h2,if_pos h2];refine aaQ (acr ?_);rw[StateT.run_pure];refine aaQ (acr ?_);dsimp only;rw[abW] at h2;refine tail _ (List.range vs.length).toArray (Array.Perm.refl _) (λi j a b=>by lia) ?_ rfl;have e:=kat_snds y_ (st:=kas_st general' ((qs.map Value.ref).toArray.zip vs.toArray) (List.range vs.length).toArray) rfl;have er:(List.range vs.length).toArray.map (kas_item ((qs.map Value.ref).toArray.zip vs.toArray))=(qs.map Value.ref).toArray.zip vs.toArray:=by
   have:=kas_range ((qs.map Value.ref).toArray.zip vs.toArray);rw[show((qs.map Value.ref).toArray.zip vs.toArray).size=vs.length by simp[hl]] at this;exact this
  rw[<- e];show((qs.map Value.ref).toArray.zip vs.toArray).map (·.2)=((List.range vs.length).toArray.map (kas_item ((qs.map Value.ref).toArray.zip vs.toArray))).map (·.2);rw[er]
 .rw[if_neg h2,if_neg h2];rw[abW] at h2;obtain⟨fs,k1,k2,k3⟩:=Jy hp;refine aaQ (kat_kind k1 (by lia) (λv m=>by obtain⟨i,t,rfl⟩:=k3 v m;exact Looks.of_pure rfl) (by decide) ?_);refine aaQ (aeR (kat_run (Q:=λst s'=>s'=s/\∃q:Array Nat,bg vs.length q/\jJ (λi j=>lex (ps.getD i (0,0)) (ps.getD j (0,0))) q vs.length/\(arrOf st).map (·.2)=(q.toList.map λi=>vs.getD i Value.none).toArray/\failedOf st=none)
   (G:=λq s'=>s'=s/\bg vs.length q/\jJ (λi j=>lex (ps.getD i (0,0)) (ps.getD j (0,0))) q vs.length) y_ (by lia) l5 (λq kP s' _ ha hf g=>⟨g.1,q,g.2.1,g.2.2,kat_snds y_ ha,hf⟩) ?_) ?_ λ_ _ z=>z)
  .have lp:ps.length=vs.length:=by rw[<- Paired.length hp];exact hl
   refine XA (abf λi j a b e=>?_) (λi j C hi hj hc=>?_) (by lia) λq a b=>⟨rfl,a,b⟩
   .have ei:i<ps.length:=by lia
    have ej:j<ps.length:=by lia
    simp only[ac7,aaR ei,aaR ej,afA] at e;have w:=afP.mp nd;rcases Nat.lt_trichotomy i j with q|q|q
    .exact absurd e (w i j ei ej q)
    .exact q
    .exact absurd e.symm (w j i ej ei q)
   .have at_:∀i,i<vs.length->∃x,(qs.map Value.ref).getD i Value.none=.ref x/\IsPair s.heap x (ps.getD i (0,0)):=λi hi=>by
     have lq:i<qs.length:=by lia
     have Ju:i<ps.length:=by lia
     refine⟨qs[i],by simp[ac7,lq],?_⟩;rw[ac7,aaR Ju,afA];have go:∀{qs:List Addr}{ps:List (Int×Int)},Paired (IsPair s.heap) qs ps->∀(i:Nat) (a:i<qs.length) (b:i<ps.length),IsPair s.heap qs[i] ps[i]:=by
      intro qs ps r
      induction r with
      |nil=>intro i a;exact absurd a (Nat.not_lt_zero _)
      |cons r t ih=>intro i a b;cases i with
       |zero=>exact r
       |succ i=>exact ih i (by simpa using a) (by simpa using b)
     exact go hp i lq Ju
    obtain⟨x,ex,hx⟩:=at_ i hi;obtain⟨y,ey,hy⟩:=at_ j hj;show wpAny (model prog w) A (keyLt' _ ((qs.map Value.ref).getD i Value.none) ((qs.map Value.ref).getD j Value.none)) C _ s;rw[ex,ey];exact VR hx hy hc
  .rintro⟨⟨⟩,st⟩ s' ⟨rfl,q,h1,h3,h4,h5⟩
   exact tail st q h1 h3 h4 h5
end
section
variable{X:Cx}{af:List (Addr×Obj)}{σ:St}{H:Hp}{s:Shared}{q:Str}{jd:Pos}{args:Arguments}{body:Expr}{sc:Scope}{mH:List (Str×Addr)}
theorem zp:∀{K:PySem.W.Frag},K.lookup a=some o->(a,o)∈K
 |[],h=>by cases h
 |(b,u)::r,h=>by
  by_cases e:(a==b)=true
  .simp only[List.lookup,e] at h;cases h;rw[eq_of_beq e];exact aar
  .simp only[List.lookup,(by simpa using e:(a==b)=false)] at h;exact aaa _ (zp h)
theorem Zt(I:Inv X af σ H s)(lk:X.K.lookup f0=some o0)(sh:vC o0=some (cv,q,jd)):∃cc P,cv=.ref cc/\codeHdIn X.K cc P=true/\H P=some (.iP q jd):=by
 obtain⟨cE,ok⟩:=(aaY _ _).mp I.hq.ok;have cE:=ac4.mp ((aaY _ _).mp cE).2 (f0,o0) (zp lk);have cE:=cE;rw[sh] at cE;obtain⟨⟨cc,P,q',pos'⟩,e⟩:=afa.mp (show(z8 X.K (f0,o0)).isSome=true from cE);have hm:(cc,P,q',pos')∈i7 X.K:=afU.mpr ⟨_,zp lk,e⟩;have e':=e;unfold z8 at e';dsimp only at e';rw[sh] at e'
 split at e'
 .rename_i h;cases h
  split at e'
  .split at e'
   .cases e';refine⟨cc,P,rfl,?_,I.hq.lm _ hm⟩
    split at ok
    .rename_i e;rw[e] at hm;cases hm
    .rename_i r e;rw[e] at hm;cases aa1.mp hm;exact((aaY _ _).mp ok).1
    .cases ok
   .cases e'
  .cases e'
 .cases e'
theorem acg{A:Around}{E:Value->Shared->Prop}{Q:Value->Shared->Prop}{f0:Addr}{o0:Obj}(I:Inv X af σ H s)(lk:X.K.lookup f0=some o0)(sh:vC o0=some (X.env.code,q,jd))(yR:defaultsOf args X.env=([],[]))(ur:closureFor sc X.env=pure mH)(hq:X.env.qual++"<lambda>"=q)
  (h:∀f c' iz pm H' s',Inv X ((f,kla_obj "<lambda>" q args body sc mH pm c' iz)::af) σ H' s'->aH H H'->H' c'=some (.ju q)->Q (.ref f) s'):wpAny (model X.prog X.w) A (eval (.Lambda args body sc jd) X.env) Q E s:=by
 refine kla_eval yR ?_;rw[hq];obtain⟨cc,P,PL,hc,hP⟩:=Zt I lk sh;obtain⟨ps,eP,qY⟩:=I.aI P _ hP;have C:=codeHd_of_K I.eU hc;have g:s.heap.Ns mainGlobals X.mg:=I.ok.mod.glob.keeps I.bk;obtain⟨bm,ob,b1,b2,b3,b4,b5,b6⟩:=I.ok.mod.bmn;have nP:∀{b:Addr}{o:Obj},X.base.get? b=some o->b≠P:=λ{b o} e z=>by
  have:=(I.bs b o e).2;rw[z,hP] at this;cases this
 obtain⟨om,es,ep,em,dm,_⟩:=id I.ok.mod.glob;have hb:s.heap.BuiltinsAt X.mg P:=⟨bm,ob,b1,b2,(λz=>by rw[z,em] at b3;cases b3;rw[dm] at b6;cases b6),nP b3,I.bk _ _ b3,b4,b5,b6⟩
 have fin:∀(f:Addr) (o:Obj) (H':Hp) (s':Shared),Inv X af σ H' s'->s'.heap.get? f=some o->s.heap.objs.size<=f->H' f=none->(∀v,o.data≠.cell v)->Inv X ((f,o)::af) σ H' s':=λf o H' s' J e hf hn hd=>by
  refine J.rq λp hp=>?_
  rcases aa3.mp hp with rfl|hp
  .exact⟨e,hn,afg (acH I.lt hf),I.Q_ hf,hd⟩
  .exact J.pin p (aaM _ hp)
 rcases qY with rfl|⟨c',rfl,rC⟩
 .refine kla_makeFunction ur I.ok.glob g PL C eP trivial rfl (nP em) hb λc' iz h' tk hx BL cj VF Rf=>?_
  have fc:H c'=none:=I.aI.fresh BL;have ff:H h'.objs.size=none:=I.aI.fresh (aeW (ae0 BL cj));have up:∀{b:Addr}{o:HO},H b=some o->upd H c' (.ju q) b=some o:=λ{b o} e=>by rw[aL (cT e fc)];exact e
  have pu:∀(b:Addr) (o:Obj),b≠P->s.heap.get? b=some o->(h'.push (kla_obj "<lambda>" q args body sc mH ((X.mg "__name__").getD .none) c' iz)).get? b=some o:=λb o n e=>aaE _ (hx b o n e)
  have Ku:∀{b:Addr},H b=none->b≠P:=λ{b} e z=>by rw[z,hP] at e;cases e
  have J:Inv X af σ (upd H c' (.ju q)) { s with heap:=h'.push (kla_obj "<lambda>" q args body sc mH ((X.mg "__name__").getD .none) c' iz),toks:=tk }:=by
   refine I.un ⟨λb o e n _ _=>pu b o (Ku n) e,λb o e n _ _=>⟨o.slots,pu b o (Ku n) e⟩,λb o e n _=>?_,λb o e _=>?_,λb t e=>up e,λb o u e=>up e,λb ps e=>⟨#[],by rw[up e];simp⟩⟩ λa o e=>?_
   .rw[aL (acu (acH (abo e) BL))];exact n
   .by_cases z:b=P
    .rw[z];exact⟨_,aaE _ Rf⟩
    .exact⟨o,pu b o z e⟩
   .by_cases z:a=c'
    .subst z;rw[bQ] at e;cases e;exact VF.push _
    .rw[aL z] at e
     by_cases z2:a=P
     .subst z2;rw[hP] at e;cases e;exact⟨_,aaE _ Rf,.inr ⟨c',by simp,bQ⟩⟩
     .refine(I.aI a o e).mz (λb u v8 q=>pu b u ?_ q) (λb q=>up q) λb t q=>up q
      rcases v8 with z3|z3
      .rw[z3];exact z2
      .intro z4;rw[z4,hP] at z3;cases z3
  refine h _ c' iz _ _ _ (fin _ _ _ _ J (ab2 _ rfl) (aeW (ae0 BL cj)) ?_ (λv z=>by cases z)) (λb o e=>up e) bQ;rw[aL (afg cj)];exact ff
 .refine kla_makeFunctionHit ur I.ok.glob g PL C eP (TriplesOk_snoc _ _ _ [] trivial) (codeAmong_snoc [] trivial rfl) hb λiz h' tk hk hsz=>?_
  exact h _ c' iz _ H _ (fin _ _ _ _ (I.kept λb u e=>aaE _ (hk b u e)) (ab2 _ rfl) hsz (I.aI.fresh hsz) λv z=>by cases z) (aH.refl H) rC
noncomputable def sX(X:Cx)(A:Around)(x y:Str)(q:Str)(sc:Scope)(f:Addr)(cd:Value)(mH:List (Str×Addr))(s:Shared)(H:Hp):Cx where
 prog:=X.prog
 w:=X.w
 K:=X.K
 mg:=X.mg
 base:=X.base
 A:=A.deeper (envX q sc s.heap.objs.size f cd mH)
 N:=[x,y]
 eN:=s
 pC:=H
 env:=envX q sc s.heap.objs.size f cd mH
 outer:=X.stack
 stack:=envX q sc s.heap.objs.size f cd mH::X.stack
 ex:=[]
 fn:=λ_=>false
 calm:=X.calm
 pn:=[]
 xe:=λ_ _=>False
structure zM(sc:Scope)(args:Arguments)(x y:Str):Prop where
 kind:sc.kind=.function
 co:sc.isCoroutine=false
 gen:sc.isGenerator=false
 yt:∀z∈sc.names,z.2≠.cell
 loc:sc.names.lookup x=some .local
 w_:sc.names.lookup y=some .free
 one:∀z∈sc.names,z.2=.free->z.1=y
 bnd:∀(q:Str) (body:Expr) (mH:List (Str×Addr)) (pm aR iz u:Value),bindArgs (kla_fn "<lambda>" q args body sc mH pm aR iz) ⟨[u],[]⟩=pure [(x,u)]
theorem acG{A:Around}{f c' c:Addr}{iz pm u:Value}{v0 v1:V}{x y:Str}{j:Nat}{te:TE}{Q:VK}{E:Value->Shared->Prop}(I:Inv X af σ H s)(S:zM sc args x y)(hf:(f,kla_obj "<lambda>" q args body sc [(y,c)] pm c' iz)∈af)(hc:H c'=some (.ju q))
  (pA:X.env.cells.lookup y=some c) (hj:X.N[j]? = some y) (hv:σ[j]? = some (some v1)) (qJ:X.env.scope.names.lookup y=some .cell) (ru:RelV v0 u) (hA:A.frames=X.A.frames) (hh:A.handled=X.A.handled) (hr:A.depth<recursionLimit)
  (hb:PE (sX X A x y q sc f (.ref c') [(y,c)] s H) body te) (h:te [some v0,some v1] H Q):wpAny (model X.prog X.w) A (call (.ref f) [u]) (EP X af σ Q) E s:=by
 have Sa:=(I.pin _ (aaM _ hf)).1;refine wpAny_call (codeAny_mono (R:=λr s'=>match r with|.ok (.ret v)=>CE X.stack X.prog X.w H s Q v s'|_=>False) ?_ λr s' z=>?_)
 .refine kla_callFunE hr Sa rfl S.co S.gen rfl (I.aI c' _ hc) ?_;rw[S.bnd];refine acr (wpAny_newFunctionEnv S.yt (λz m=>by cases aa1.mp m;exact S.loc) (λAg vj Du=>?_) S.kind);have wU:∀b o,s.heap.get? b=some o->Ag.get? b=some o:=λb o e=>Du.extBut b o (acu (abo e)) (aaE _ e)
  refine⟨(I.ok.mod.nolimit.keeps I.bk).keeps wU,?_⟩;have cl:∀{z:Str}{d:Addr},List.lookup z [(y,c)]=some d->z=y/\d=c:=λ{z d} e=>by
   by_cases w:(z==y)=true
   .simp only[List.lookup,w] at e;cases e;exact⟨eq_of_beq w,rfl⟩
   .simp only[List.lookup,(by simpa using w:(z==y)=false)] at e;cases e
  have cy:List.lookup y [(y,c)]=some c:=by simp[List.lookup]
  have sC:∀b:Addr,b∉(sX X A x y q sc f (.ref c') [(y,c)] s H).ex:=λb z=>absurd (show b∈([]:List Addr) from z) (by simp)
  have J:Inv (sX X A x y q sc f (.ref c') [(y,c)] s H) [] [some v0,some v1] H { s with heap:=Ag,toks:=s.toks+[(x,u)].length }:=by
   refine⟨⟨I.ok.mod,S.kind,rfl,rfl,abH _,λa b d h1 h2=>?_,λa ha=>?_,(λa d h _=>by cases h),λhc=>?_,Around.frames_deeper (hA.trans I.ok.frames),.inr ⟨rfl,rfl⟩,λb z=>absurd z (sC b),I.bs,adw I.ok.kD I.sz,λb _ _=>sC b,λb z=>absurd z (sC b),I.stack,I.EA⟩,
    rfl,I.bare,Un.kept wU,⟨_,vj,λi z v h1 h2 h3=>?_⟩,λz d e=>?_,I.aI.fresh (abH _),λz d e=>?_,λp hp=>absurd (show p∈([]:List (Addr×Obj)) from hp) (by simp),I.aI.kept wU,rfl,⟨?_,I.hq.ok,I.hq.lm⟩⟩
   .exact(cl h1).1.trans (cl h2).1.symm
   .have ha:sc.names.lookup a=some .cell\/sc.names.lookup a=some .free:=ha;rcases ha with ha|ha
    .exact absurd rfl (S.yt _ (PySem.mem_of_lookup ha))
    .have e:a=y:=S.one _ (PySem.mem_of_lookup ha) rfl;rw[e];exact⟨c,cy⟩
   .have:=I.ok.hd hc;exact hh.trans this
   .match i,h1,h2 with
    |0,h1,h2=>
     cases h1;cases h2;refine⟨u,ru,.inl ⟨S.loc,by simp[List.lookup]⟩⟩
    |1,h1,h2=>
     cases h1;cases h2;obtain⟨m,_,hl⟩:=I.loc;obtain⟨u1,r1,l⟩:=hl j y v1 hj hv (.inr (.inl qJ));refine⟨u1,r1,.inr ⟨.inr S.w_,c,cy,?_⟩⟩;rcases l with⟨kk,_⟩|⟨_,d,e,o,ho,hd⟩
     .rw[show X.env.kindOf y=some .cell from qJ] at kk;cases kk
     .rw[pA] at e;cases e;exact⟨o,wU _ _ ho,hd⟩
    |i+2,h1,h2=>exact absurd h2 (by simp)
   .rw[(cl e).2];obtain⟨w,o,ho,hd⟩:=I.cell y c pA;exact⟨w,o,wU _ _ ho,hd⟩
   .rw[(cl e).2];exact I.jh y c pA
   .have:=I.hq.hd;unfold xU at this ⊢;rw[show(sX X A x y q sc f (.ref c') [(y,c)] s H).A.handled=X.A.handled from hh];exact this
  refine kla_codeExpr (aeR (hb [] _ _ H _ J h) (λv s' ⟨v',H',J',rv,q'⟩=>?_) λ_ _ z=>z.elim);exact⟨v',H',J'.os,J'.bare,J'.base,J'.aI,rv,q'⟩
 .cases r with
  |error e=>exact z.elim
  |ok fl=>
   cases fl with
   |ret w=>exact I.after z
   |next=>exact z
   |brk=>exact z
   |cont=>exact z
end
theorem TL(r:aQ [.int a,.int b] au):∃t u,au=[.int a t,.int b u]:=by
 cases r with
 |cons h1 r=>cases r with
  |cons h2 r=>cases r;obtain⟨t,rfl⟩:=h1;obtain⟨u,rfl⟩:=h2;exact⟨t,u,rfl⟩
theorem IntsAre.at{vs:List Value}{ns:List Int}(h:IntsAre vs ns):∀{j:Nat}{v:Value},vs[j]? = some v->∃n t,ns[j]? = some n/\v=.int n t:=by
 induction h with
 |nil=>intro j v e;simp at e
 |cons n t _ ih=>
  intro j v e;cases j with
  |zero=>cases e;exact⟨n,t,rfl,rfl⟩
  |succ j=>exact ih (by simpa using e)
theorem Paired.YU{α β:Type}{R:α->β->Prop}{l:List α}{m:List β}{a:α}{b:β}(h:Paired R l m)(r:R a b):Paired R (l++[a]) (m++[b]):=by
 induction h with
 |nil=>exact .cons r .nil
 |cons r' _ ih=>exact .cons r' ih
theorem QA(h:IntsAre au ns):∀(l:List Nat),(∀i∈l,i<ns.length)->aQ ((l.map λi=>ns.getD i 0).map V.int) (l.map λi=>au.getD i Value.none)
 |[],_=>.nil
 |i::l,hl=>by
  have hi:=hl i aar;have JE:i<au.length:=by rw[h.length];exact hi
  obtain⟨n,t,e1,e2⟩:=IntsAre.at h (aaR JE);refine .cons ?_ (QA h l λj m=>hl j (aaa _ m));show RelV (V.int (ns.getD i 0)) (au.getD i Value.none);rw[ac7,ac7,e1,aaR JE,e2];exact⟨t,rfl⟩
theorem acq{ns:List Int}{q:Array Nat}(P:bg ns.length q):(q.toList.map λi=>ns.getD i 0).Perm ns:=by
 have h:=(afo.mp P).map λi=>ns.getD i 0
 have e:((List.range ns.length).toArray.toList.map λi=>ns.getD i 0)=ns:=by
  refine List.ext_getElem (by simp) λi h1 h2=>?_
  simp[ac7,h2]
 rw[e] at h;exact h
section
variable{X:Cx}{af:List (Addr×Obj)}{σ:St}{s:Shared}{q:Str}{args:Arguments}{body:Expr}{sc:Scope}{x y:Str}{c:Addr}{j:Nat}{te:Addr->Addr->Shared->Hp->TE}
theorem aaA{H2:Hp}{p f c':Addr}{iz pm:Value}{v1:V}{ns:List Int}{pr:Int->Int×Int}{Q:VK}(I:Inv X ((f,kla_obj "<lambda>" q args body sc [(y,c)] pm c' iz)::af) σ H2 s)(S:zM sc args x y)(hc:H2 c'=some (.ju q))
  (pA:X.env.cells.lookup y=some c) (hj:X.N[j]? = some y) (hv:σ[j]? = some (some v1)) (qJ:X.env.scope.names.lookup y=some .cell) (xR:X.A.in1.in1.depth<recursionLimit)
  (hb:∀f c' s H,PE (sX X X.A.in1.in1 x y q sc f (.ref c') [(y,c)] s H) body (te f c' s H)) (hq:bY X.K H2 p (ns.map V.int)) (l5:ns.length<64) (nd:(ns.map pr).Nodup)
  (ht:∀s H3,aH H2 H3->∀n∈ns,te f c' s H3 [some (.int n),some v1] H3 λv H4=>∃k,v=.ref k/\cg X.K H4 k [.int (pr n).1,.int (pr n).2]/\aH H3 H4)
  (hQ:∀(Hf:Hp) (D:Addr) (eO:List Int),aH H2 Hf->H2 D=none->Hf D=some (.lst (eO.map V.int))->eO.Perm ns->eO.Pairwise (λa b=>lex (pr a) (pr b)=true)->Q (.ref D) Hf) :
  wpAny (model X.prog X.w) X.A (call (.builtin "sorted") [.ref p] [(Str.ofString "key",.ref f)]) (EP X af σ Q) X.xe s:=by
 obtain⟨au,ri,pl,hz⟩:=I.list hq;have hi:=intsAre_of ri;have li:=hi.length;have zl:au.length<=sizeLine:=by rw[aeI];lia
 refine call_function_entry_kw kind_sorted plain_sorted entry_sorted (ksk_s1 _ _) ?_;unfold Builtin.«sorted»;refine aaQ (acr ?_);refine aaQ (collect_list pl.isList ?_ zl);refine aaQ (wpAny_newList ?_ zl);generalize OQ:(s.heap.push (seqObj "list" #[] 0)).update s.heap.objs.size (Obj.mapSeq (·++au.toArray))=h3;have k3:∀b o,s.heap.get? b=some o->h3.get? b=some o:=λb o e=>by
  rw[<- OQ,afl _ _ _ _ (acu (abo e))];exact aaE _ e
 have z3:h3.objs.size=s.heap.objs.size+1:=by rw[<- OQ,Heap.size_update,size_push']
 have hD:(h3.push (seqObj "list" au.toArray 0)).get? h3.objs.size=some (seqObj "list" au.toArray 0):=ab2 _ rfl;refine aaQ (aeU (wpAny_call_entry_kw slot_list_sort ⟨_,hD,rfl⟩ entry_list_sort ?body (ksk_l1 _ _)))
 case body=>
  rw[ksk_t1];obtain⟨e1,OL⟩:∃e1,((h3.push (seqObj "list" au.toArray 0)).update h3.objs.size (Obj.mapSeq λ_=>(#[]:Array Value))).get? h3.objs.size=some (seqObj "list" #[] e1):=⟨_,get?_update_seq hD λ_=>#[]⟩
  unfold ksk_tree;refine aaQ (listItems_at hD rfl ?_);refine aaQ (listUpdate_at hD rfl ?_ (by rw[abW];exact zl) (ad0 _));refine aaQ (seqEpoch_at OL rfl ?_);refine aaQ (wpAny_newTuple ?_ (by show au.length<=_;exact zl));refine aaQ (wpAny_newList ?_ (ad0 _));refine aeU ?_;generalize Fe:((h3.push (seqObj "list" au.toArray 0)).update h3.objs.size (Obj.mapSeq λ_=>(#[]:Array Value))).push (seqObj "tuple" au.toArray 0)=h6;have z6:h6.objs.size=s.heap.objs.size+3:=by rw[<- Fe,size_push',Heap.size_update,size_push',z3]
  have k6:∀b o,s.heap.get? b=some o->h6.get? b=some o:=λb o e=>by
   have cj:=abo e;rw[<- Fe];refine aaE _ ?_;rw[afl _ _ _ _ (acu (acH cj (by rw[z3];exact Nat.le_succ _)))];exact aaE _ (k3 b o e)
  have YO:h6.get? h3.objs.size=some (seqObj "list" #[] e1):=by rw[<- Fe];exact aaE _ OL
  generalize hDe:h3.objs.size=D at *;generalize hKe:h6.objs.size=kS at *;have fD:=I.pO (H':=λ_=>none) (b:=D) (by lia) rfl;have fK:=I.pO (H':=λ_=>none) (b:=kS) (by lia) rfl;have DV:D≠kS:=by lia
  have Hy:∀{H:Hp}{s':Shared}{b:Addr}{o:Obj},iH X ((f,kla_obj "<lambda>" q args body sc [(y,c)] pm c' iz)::af) (λ_=>none) b->H b=none->s'.heap.get? b=some o->(∀v,o.data≠.cell v)->
    s'.heap.get? b=some o/\H b=none/\b≠X.env.locals/\b∉X.fs/\∀v,o.data≠.cell v:=λF a b d=>⟨b,a,F.2.1,F.2.2.1,d⟩
  have J0:Inv X ((kS,seqObj "list" (List.map Value.ref []).toArray 0)::(D,seqObj "list" #[] e1)::(f,kla_obj "<lambda>" q args body sc [(y,c)] pm c' iz)::af) σ H2 { s with heap:=h6.push (seqObj "list" #[] 0) }:=by
   have J:=I.kept (h':=h6.push (seqObj "list" #[] 0)) (t':=s.toks) λb o e=>aaE _ (k6 b o e)
   refine J.rq λp hp=>?_
   rcases aa3.mp hp with rfl|hp
   .exact Hy fK (I.aI.fresh (by lia)) (by rw[<- hKe];exact ab2 _ rfl) (λv z=>by cases z)
   .rcases aa3.mp hp with rfl|hp
    .exact Hy fD (I.aI.fresh (by lia)) (aaE _ YO) (λv z=>by cases z)
    .exact J.pin p (aaM _ hp)
  unfold ksk_rest;refine aaQ (wpAny_rule ?_);rw[List.forIn_toArray];refine aaQ (ksk_fold (λi s'=>∃(H:Hp) (qs:List Addr) (e:Nat),Inv X ((kS,seqObj "list" (qs.map Value.ref).toArray e)::(D,seqObj "list" #[] e1)::(f,kla_obj "<lambda>" q args body sc [(y,c)] pm c' iz)::af) σ H s'/\aH H2 H/\
   Paired (λk n=>cg X.K H k [.int (pr n).1,.int (pr n).2]) qs (ns.take i)) au 0 _ ⟨H2,[],0,J0,aH.refl _,.nil⟩ (λi u s' hu hI=>?_) λs' hI=>?_)
  .rw[afR] at hI ⊢;obtain⟨H,qs,e,J,sm,pd⟩:=hI;obtain⟨n,t,en,rfl⟩:=IntsAre.at hi hu;have ln:=Paired.length pd;have uq:=(abh.mp en).1;rw[afz] at ln;refine aaQ (wpAny_attempt (aeR (acG (v0:=.int n) (E:=λ_ _=>False) J S (aaa _ (aaa _ aar)) (sm _ _ hc) pA hj hv qJ ⟨t,rfl⟩ rfl rfl xR (hb f c' s' H) (ht s' H sm n (adD en))) (λk rm hk=>?_) λ_ _ z=>z.elim));obtain⟨v,H',J',rv,k',rfl,sq,yM⟩:=hk;obtain rfl:k=.ref k':=rv;have pk:=(J'.pin _ (aaM _ aar))
   have ea:((qs.map Value.ref).toArray).push (.ref k')=((qs++[k']).map Value.ref).toArray:=by simp
   obtain⟨c2,Ir⟩:∃c2,(rm.heap.update kS (Obj.mapSeq (·.push (.ref k')))).get? kS=some (seqObj "list" ((qs++[k']).map Value.ref).toArray c2):=⟨_,by rw[<- ea];exact get?_update_seq pk.1 (·.push (.ref k'))⟩
   dsimp only;refine aaQ (listUpdate_at pk.1 rfl ?_ (by rw[abW,List.length_map,ln,aeI];lia) (adw (Nat.le_of_eq (Array.size_push ..)) (by rw[abW,List.length_map,ln,aeI];lia)));refine acr ⟨rfl,H',qs++[k'],c2,?_,sm.trans yM,?_⟩
   .have J1:=J'.rq λp hp=>J'.pin p (aaM _ (aaa _ hp))
    have J2:=J1.turned (h':=rm.heap.update kS (Obj.mapSeq (·.push (.ref k')))) (t':=rm.toks) (λb o n e=>(afl _ _ _ _ n).trans e) pk.2.1 fK.2.1 fK.2.2.2.1 fK.2.2.2.2.1 λp hp=>by
     rcases abD.mp hp with hp|hp
     .exact fK.2.2.2.2.2 p (abn _ hp)
     .rcases aa3.mp hp with rfl|hp
      .exact DV
      .exact fK.2.2.2.2.2 p (aaM _ hp)
    refine J2.rq λp hp=>?_
    rcases aa3.mp hp with rfl|hp
    .exact Hy fK pk.2.1 Ir (λv z=>by cases z)
    .exact J2.pin p (aaM _ hp)
   .rw[List.take_succ,en];exact Paired.YU (Paired.zO pd λk n r=>by
     rcases r with(r|⟨o,r⟩)|r
     .exact .inl (.inl (yM _ _ r))
     .exact .inl (.inr ⟨o,yM _ _ r⟩)
     .exact .inr r) sq
  .rw[afR] at hI;obtain⟨H,qs,e,J,sm,pd⟩:=hI;rw[li,List.take_length] at pd;have lq:=Paired.length pd;have pk:=(J.pin _ (aaM _ aar))
   have pD:=(J.pin _ (aaM _ (aaa _ aar)))
   refine aaQ (listItems_at pk.1 rfl ?_);have pp:∀{l:List Int}{qs:List Addr},Paired (λk n=>cg X.K H k [.int (pr n).1,.int (pr n).2]) qs l->Paired (IsPair s'.heap) qs (l.map pr):=by
    intro l qs r
    induction r with
    |nil=>exact .nil
    |cons r _ ih=>
     refine .cons ?_ ih;obtain⟨it,rv,tp,_⟩:=J.tuple r;obtain⟨t,u,rfl⟩:=TL rv;exact⟨t,u,tp⟩
   refine abO (by lia) (by rw[lq,li]) (pp pd) nd pk.1 pD.1 DV λq2 P2 S2=>?_
   rw[li] at P2 S2;have ql:∀i∈q2.toList,i<ns.length:=λi m=>by
    have:=(afo.mp P2).mem_iff.mp m;simpa using this
   refine⟨_,rfl,acr ⟨_,rfl,?_⟩⟩;have J1:=J.rq λp hp=>J.pin p (aaM _ (aaa _ (aaa _ (aaa _ hp))))
   have np:∀{b:Addr},iH X ((f,kla_obj "<lambda>" q args body sc [(y,c)] pm c' iz)::af) (λ_=>none) b->∀p∈X.pn++af,p.1≠b:=λF p hp=>F.2.2.2.2.2 p ((abD.mp hp).elim (λz=>abn _ z) λz=>aaM _ (aaa _ z))
   have J2:=J1.turned (h':=s'.heap.update kS (Obj.mapSeq λ_=>#[])) (t':=s'.toks) (λb o n e=>(afl _ _ _ _ n).trans e) pk.2.1 fK.2.1 fK.2.2.2.1 fK.2.2.2.2.1 (np fK);have J3:=J2.turned (h':=(s'.heap.update kS (Obj.mapSeq λ_=>#[])).update D (Obj.mapSeq λ_=>(q2.toList.map λi=>au.getD i Value.none).toArray)) (t':=s'.toks) (λb o n e=>(afl _ _ _ _ n).trans e) pD.2.1 fD.2.1 fD.2.2.2.1 fD.2.2.2.2.1 (np fD);have S9:=get?_update_seq (h:=s'.heap.update kS (Obj.mapSeq λ_=>#[])) ((afl _ _ _ _ DV).trans pD.1) λ_=>(q2.toList.map λi=>au.getD i Value.none).toArray
   refine⟨.ref D,upd H D (.lst ((q2.toList.map λi=>ns.getD i 0).map V.int)),J3.RT pD.2.1 ⟨?_,fD.2.1,fD.2.2.2.2.1,np fD⟩ ⟨?_,_,_,QA hi _ ql,S9⟩,rfl,hQ _ D _ (λb o e=>?_) ?_ bQ (acq P2) ?_⟩
   .exact afK (by have:=I.sz;lia)
   .rw[List.length_map,List.length_map,aeu,bg.sz P2,aeI];lia
   .rw[aL (cT (sm b o e) pD.2.1)];exact sm b o e
   .cases e:H2 D with
    |none=>rfl
    |some o=>have:=sm D o e;rw[pD.2.1] at this;cases this
   .rw[afP];intro i k hi hk hik;have hq:∀i,i<ns.length->(hx:i<(q2.toList.map λi=>ns.getD i 0).length)->pr ((q2.toList.map λi=>ns.getD i 0)[i])=(ns.map pr).getD (q2.getD i 0) (0,0):=λi hi hx=>by
     have hs:i<q2.size:=by rw[bg.sz P2];exact hi
     have cj:=bg.lt P2 hi;rw[List.getElem_map,getD_at hs];rw[getD_at hs] at cj;simp[ac7,cj]
    have hz:(q2.toList.map λi=>ns.getD i 0).length=ns.length:=by rw[List.length_map,aeu,bg.sz P2]
    rw[hq i (by lia) hi,hq k (by lia) hk];exact S2 i k hik (by lia)
def Qf(K:PySem.W.Frag)(j:Nat)(te:Addr->Addr->Shared->Hp->TE)(σ:St)(Q:VK)(x:V)(H1:Hp):Prop:=∃(p:Addr) (ns:List Int) (pr:Int->Int×Int) (v1:V),x=.ref p/\bY K H1 p (ns.map V.int)/\ns.length<64/\(ns.map pr).Nodup/\σ[j]? = some (some v1)/\
 (∀f c' s H3,aH H1 H3->∀n∈ns,te f c' s H3 [some (.int n),some v1] H3 λv H4=>∃k,v=.ref k/\cg K H4 k [.int (pr n).1,.int (pr n).2]/\aH H3 H4)/\
 ∀(Hf:Hp) (D:Addr) (eO:List Int),aH H1 Hf->H1 D=none->Hf D=some (.lst (eO.map V.int))->eO.Perm ns->eO.Pairwise (λa b=>lex (pr a) (pr b)=true)->Q (.ref D) Hf
def tSK(K:PySem.W.Frag)(j:Nat)(ta:TE)(te:Addr->Addr->Shared->Hp->TE):TE:=λσ H Q=>ta σ H (Qf K j te σ Q)
theorem Tq{a:Expr}{ta:TE}{p kp pos jd:Pos}{f0:Addr}{o0:Obj}(hm:X.mg "sorted"=none)(ha:PE X a ta)(S:zM sc args x y)(lk:X.K.lookup f0=some o0)(sh:vC o0=some (X.env.code,q,jd))(hq:X.env.qual++"<lambda>"=q)(ur:closureFor sc X.env=pure [(y,c)])
  (pA:X.env.cells.lookup y=some c) (hj:X.N[j]? = some y) (qJ:X.env.scope.names.lookup y=some .cell) (xR:X.A.in1.in1.depth<recursionLimit) (hb:∀f c' s H,PE (sX X X.A.in1.in1 x y q sc f (.ref c') [(y,c)] s H) body (te f c' s H))
  (yR:defaultsOf args X.env=([],[]):=by rfl) (hg:Gl X "sorted":=by rfl) (hs:starEach [a] X.env=[(false,eval a X.env)]:=by rfl)
  (h1:backTo pos (starEach [a] X.env)=(false,eval a X.env)::backTo pos (starEach [] X.env):=by rfl) (h2:(backTo pos (starEach [a] X.env)).any (·.1)=false:=by rfl)
  (h3:(backToKw pos (keywordEach [⟨some "key",.Lambda args body sc jd,kp⟩] X.env)).all (·.1.isSome)=true:=by rfl) (h4:(backToKw pos (keywordEach [⟨some "key",.Lambda args body sc jd,kp⟩] X.env)).any (·.1.isNone)=false:=by rfl)
  (h5:(backToKw pos (keywordEach [⟨some "key",.Lambda args body sc jd,kp⟩] X.env)).filterMap (·.1)=[("key":Str)]:=by rfl) :
  PE X (.Call (.Name "sorted" p) [a] [⟨some "key",.Lambda args body sc jd,kp⟩] pos) (tSK X.K j ta te):=by
 intro af s σ H Q I h;refine aeY (qC I hg hm (show bootBuiltins "sorted"=some (.builtin "sorted") by decide +kernel) ?_ (by decide) (by decide));refine callWith_kw ?_ h1 h2 h3 h4;rw[h5];refine aM (dW ha fH hs pos af s σ H (λvs H1=>match vs with|[x]=>Qf X.K j te σ Q x H1|_=>False) I h) λus s1 ⟨vs,H1,I1,rv,q1⟩=>?_
 rcases vs with _|⟨x,_|⟨x2,r2⟩⟩
 .exact q1.elim
 .obtain⟨u,rfl,ru⟩:=vals1 rv;obtain⟨p,ns,pr,v1,rfl,lM,l5,nd,hv,ht,hQ⟩:=q1;cases ru;refine kws_cons (acg I1 lk sh yR ur hq λf c' iz pm H' s' J sm hc=>kws_nil ?_);refine aaA J S hc pA hj hv qJ xR hb (lM.elim (λz=>.inl (z.elim (λz=>.inl (sm _ _ z)) λ⟨o,z⟩=>.inr ⟨o,sm _ _ z⟩)) .inr) l5 nd (λs H3 yM=>ht f c' s H3 (sm.trans yM)) λHf D eO s1 n1=>hQ Hf D eO (sm.trans s1) ?_
  cases e:H1 D with
  |none=>rfl
  |some o=>have:=sm D o e;rw[n1] at this;cases this
 .exact q1.elim
end
end L2
namespace L2.Ev
open PySem PySem.Spec PyProof.Rows
section
variable{pr:Int->Int×Int}
def vI(pr:Int->Int×Int)(x:Int):List Int->List Int
 |[]=>[x]
 |y::r=>if lex (pr x) (pr y)=true then x::y::r else y::vI pr x r
def jr(pr:Int->Int×Int):List Int->List Int
 |[]=>[]
 |x::r=>vI pr x (jr pr r)
theorem IZ(x:Int):∀l:List Int,(vI pr x l).Perm (x::l)
 |[]=>.refl _
 |y::r=>by
  unfold vI
  split
  .exact .refl _
  .exact((IZ x r).cons y).trans (.swap x y r)
theorem vY:∀l:List Int,(jr pr l).Perm l
 |[]=>.refl _
 |x::r=>(IZ x (jr pr r)).trans ((vY r).cons x)
theorem lex_trans{a b c:Int×Int}(h:lex a b=true)(g:lex b c=true):lex a c=true:=by
 have h:=aaP h;have g:=aaP g;exact aaN (by lia)
theorem Vt{a b:Int×Int}(h:a≠b)(g:¬lex a b=true):lex b a=true:=by
 have n2:¬(a.1=b.1/\a.2=b.2):=λz=>h (Prod.ext z.1 z.2)
 have g:¬(a.1<b.1\/a.1=b.1/\a.2<b.2):=λz=>g (aaN z)
 exact aaN (by omega)
theorem LV(x:Int):∀{l:List Int},(∀y∈l,pr x≠pr y)->l.Pairwise (λa b=>lex (pr a) (pr b)=true)->(vI pr x l).Pairwise (λa b=>lex (pr a) (pr b)=true)
 |[],_,_=>List.pairwise_singleton _ _
 |y::r,n,h=>by
  obtain⟨h1,h2⟩:=adp.mp h;unfold vI
  split
  .rename_i hx;exact adp.mpr ⟨λz m=>(aa3.mp m).elim (λe=>e ▸ hx) λm=>lex_trans hx (h1 z m),h⟩
  .rename_i hx;refine adp.mpr ⟨λz m=>?_,LV x (λy m=>n y (aaa _ m)) h2⟩;rcases aa3.mp ((IZ x r).mem_iff.mp m) with e|m
   .rw[e];exact Vt (n y aar) hx
   .exact h1 z m
theorem OC:∀{l:List Int},(l.map pr).Nodup->(jr pr l).Pairwise (λa b=>lex (pr a) (pr b)=true)
 |[],_=>.nil
 |x::r,n=>by
  rw[aax] at n;obtain⟨n1,n2⟩:=abv.mp n;exact LV x (λy m e=>n1 (abG.mpr ⟨y,(vY r).mem_iff.mp m,e.symm⟩)) (OC n2)
theorem aeK{a b:List Int}(p:a.Perm b)(n:(b.map pr).Nodup)(s:a.Pairwise (λa b=>lex (pr a) (pr b)=true)):a=jr pr b:=by
 have q:a.Perm (jr pr b):=p.trans (vY b).symm;refine q.eq_of_pairwise (λx y _ _ h1 h2=>?_) s (OC n);have h1:=aaP h1;have h2:=aaP h2
 lia
end
noncomputable def sA(fb:EF)(dc:D)(n:Int):Option (Int×Int):=match fb [some (.int n,.own),some (dc,.sh [])] with
 |some (.tup [.int a,.int b],_)=>some (a,b)
 |_=>none
def uN(fb:EF)(dc:D)(n:Int):Int×Int:=(sA fb dc n).getD (0,0)
def G3(j:Nat)(fa fb:EF):EF:=λρ=>match fa ρ,ρ[j]? with
 |some (.lst ds,_),some (some (dc,_))=>match eE ds with
  |some ns=>if ns.length<64/\(ns.map (uN fb dc)).Nodup/\∀n∈ns,(sA fb dc n).isSome=true then some (.lst ((jr (uN fb dc) ns).map D.int),.own) else none
  |none=>none
 |_,_=>none
section
variable{X:Cx}{a body:Expr}{fa fb:EF}{p kp pos jd:Pos}{f0 c:Addr}{o0:Obj}{x y q:Str}{args:Arguments}{sc:Scope}
theorem aeF(j:Nat)(hm:X.mg "sorted"=none)(ha:FP X a fa)(S:zM sc args x y)(lk:X.K.lookup f0=some o0)(sh:vC o0=some (X.env.code,q,jd))(xR:X.A.in1.in1.depth<recursionLimit)
  (hb:∀f c' s H,FP (sX X X.A.in1.in1 x y q sc f (.ref c') [(y,c)] s H) body fb) (hq:X.env.qual++"<lambda>"=q:=by rfl) (ur:closureFor sc X.env=pure [(y,c)]:=by rfl)
  (pA:X.env.cells.lookup y=some c:=by rfl) (hj:X.N[j]? = some y:=by rfl) (qJ:X.env.scope.names.lookup y=some .cell:=by rfl)
  (yR:defaultsOf args X.env=([],[]):=by rfl) (hg:Gl X "sorted":=by rfl) (hs:starEach [a] X.env=[(false,eval a X.env)]:=by rfl)
  (h1:backTo pos (starEach [a] X.env)=(false,eval a X.env)::backTo pos (starEach [] X.env):=by rfl) (h2:(backTo pos (starEach [a] X.env)).any (·.1)=false:=by rfl)
  (h3:(backToKw pos (keywordEach [⟨some "key",.Lambda args body sc jd,kp⟩] X.env)).all (·.1.isSome)=true:=by rfl) (h4:(backToKw pos (keywordEach [⟨some "key",.Lambda args body sc jd,kp⟩] X.env)).any (·.1.isNone)=false:=by rfl)
  (h5:(backToKw pos (keywordEach [⟨some "key",.Lambda args body sc jd,kp⟩] X.env)).filterMap (·.1)=[("key":Str)]:=by rfl) :
  FP X (.Call (.Name "sorted" p) [a] [⟨some "key",.Lambda args body sc jd,kp⟩] pos) (G3 j fa fb):=by
 obtain⟨ta,pa,sa⟩:=ha;refine⟨_,Tq hm pa S lk sh hq ur pA hj qJ xR (λf c' s H=>(hb f c' s H).choose_spec.1) yR hg hs h1 h2 h3 h4 h5,@λH0 S' z aq ρ σ H Q d tg ok e k=>?_⟩;unfold G3 at e
 split at e
 .rename_i ds t1 dc t2 e1 e2
  split at e
  .rename_i ns vj
   split at e
   .rename_i hc;cases e;obtain⟨l5,nd,hk⟩:=hc;refine sa ok e1 λH1 v fp s1 r1 g1=>?_
    obtain⟨l,xs,f',rfl,lM,rs,_⟩:=r1.d9;have ex:=tM rs vj;subst ex;obtain⟨vc,fc,hvc,rc,_⟩:=ok.sl j dc t2 e2;refine⟨l,ns,uN fb dc,vc,rfl,lM,l5,nd,hvc,λf c' s H3 s3 n mn=>?_,λHf D eO sf nD hD pm st=>?_⟩
    .obtain⟨kk,ek⟩:=afa.mp (hk n mn);have A6:=ek;unfold sA at A6
     split at A6
     .rename_i a b tb eb;cases A6;have i9:Ok X.K H3 [] (λ_=>none) [] [some (.int n,.own),some (dc,.sh [])] [some (.int n),some vc] H3:=by
       refine⟨λi d t e=>?_,(λp m=>nomatch m),(λa j e=>nomatch e),λa o e _=>e,rfl⟩
       match i,e with
       |0,e=>cases e;exact⟨_,[],rfl,.int n,ace,λa m=>nomatch m⟩
       |1,e=>cases e;exact⟨vc,fc,rfl,(rc.same s1).same s3,λa m j e=>nomatch e⟩
       |i+2,e=>exact absurd e (by simp)
      refine(hb f c' s H3).choose_spec.2 i9 eb λH4 v fp s4 r4 _=>?_
      obtain⟨w,xs,rfl,hw,fS⟩:=r4.iX;refine⟨w,rfl,?_,s4⟩;have e1:(uN fb dc n)=(a,b):=by unfold uN;rw[ek];rfl
      rw[e1];cases fS with
      |cons h1 r=>cases r with
       |cons h2 r=>cases r;cases h1;cases h2;exact hw
     .cases A6
    .have eq:=aeK pm nd st;subst eq;refine k Hf _ [D] (s1.trans sf) (.lst hD (yq _)) ⟨abv.mpr ⟨(λm=>nomatch m),ace⟩,λa m=>?_⟩;cases aa1.mp m;exact s1.free nD
   .cases e
  .cases e
 .cases e
end
def FY(X:Cx)(e:Expr)(f:XF):Prop:=∃t,PE X e t/\∀{H0:Hp}{S:List Addr}{z:Addr->Option Nat}{aq:List b7}{ρ:aA}{σ:St}{H:Hp}{Q:VK}{d:D}{ρ':aA},
 Ok X.K H0 S z aq ρ σ H->f ρ=some (d,ρ')->(∀z' H' v,Ok X.K H0 S z' aq ρ' σ H'->aT H H'->Rep X.K H' d v []->Q v H')->t σ H Q
section
variable{X:Cx}{a b c e:Expr}{es:List Expr}{f:XF}{g:XAF}{pos:Pos}
theorem FY.fz(h:FY X e f):FZ X e f:=let⟨t,p,q⟩:=h;⟨t,p,@λH0 S z aq ρ σ H Q d ρ' ok e k=>q ok e λz' H' v o _ r=>k z' H' v o r⟩
section
variable{g:AF}{m cn gm fl x:Str}{p1 p2 apos:Pos}{k:Nat}{C C2 fa:Addr}{fd:FuncData}{ps:List Str}{G:MF}{pl:Sem Bool}
theorem AA(i:Nat)(hC:ClsAt X.K cn C)(hm:lT X.K C m fa)(GG:cI X.prog X.w X.K X.mg X.base c_ k fa fd ps (dH X.K G))(hr:bh k X.A)(hb:Binds X.K fd ps [])(ha:FA X (e::es) g)(va:VA X i x:=by walk_at "va")
  (iE:SE X e es pos:=by exact⟨rfl,rfl⟩)
  (ht:ya X (.Name x p1) m apos (e::es) pos pl:=by exact rfl):FY X (.Call (.Attribute (.Name x p1) m apos) (e::es) [] pos) (xO i cn m G g):=by
 obtain⟨ta,pa,_,qa⟩:=ha;refine⟨_,Au va.pe hC.cl hm GG hr hb .nil mU pa iE.1 iE.2 ht,@λH0 S z aq ρ σ H Q d ρ' ok e0 kk=>?_⟩;obtain⟨AW,qs,d1,h1,h2,hm,nN,hG,rfl⟩:=QN e0;obtain⟨v,bq,hs,r0,zz⟩:=ok.sl i _ _ h1;refine⟨v,hs,?_⟩;obtain⟨b,dx,fs,gf,rfl,Cj,h4,h5,h6,h7⟩:=r0.lY hC.ns;refine⟨b,dx,fs,rfl,h4,uM h6 hm,?_⟩;refine qa ok h2 λH2 vs nA s2 r2 g2=>?_
 rw[acm];refine⟨b,vs,_,bq,_,nA,d,d1,rfl,r0.same s2,zz.1,r2,Ih ok nN g2 zz,hG,λH3 u bU im kp r1 nd fr rr=>?_⟩;obtain⟨z',i9⟩:=(ok.same s2).put h1 hs zz im kp r1 nd fr;exact kk z' H3 u i9 ((aT.of s2).trans im) rr
def zU(i:Nat)(cn fl gm m:Str)(G:MF)(g:AF):XF:=λρ=>match ρ[i]?,g ρ with
 |some (some (.ins c es,.own)),some ps=>match es.lookup fl with
  |some (.ins c2 gU)=>if c=cn/\c2=gm/\gU.lookup m=none/\apart i ps=true then(G (.ins c2 gU) (ps.map (·.1))).map λw=>(w.1,bP ρ i (.ins c (dZ fl w.2 es))) else none
  |_=>none
 |_,_=>none
theorem aby(i:Nat)(hC:ClsAt X.K cn C)(na:iC X.K C fl)(x9:ClsAt X.K gm C2)(hm:lT X.K C2 m fa)(GG:cI X.prog X.w X.K X.mg X.base c_ k fa fd ps (dH X.K G))(hr:bh k X.A)(hb:Binds X.K fd ps [])(ha:FA X (e::es) g)(va:VA X i x:=by walk_at "va")
  (yr:attributeBase (.Name x p1) fl X.env (eval (.Name x p1) X.env)=eval (.Name x p1) X.env:=by rfl)
  (iE:SE X e es pos:=by exact⟨rfl,rfl⟩)
  (ht:ya X (.Attribute (.Name x p1) fl p2) m apos (e::es) pos pl:=by exact rfl):FY X (.Call (.Attribute (.Attribute (.Name x p1) fl p2) m apos) (e::es) [] pos) (zU i cn fl gm m G g):=by
 obtain⟨ta,pa,_,qa⟩:=ha;refine⟨_,Au (pS va.pe yr) x9.cl hm GG hr hb .nil mU pa iE.1 iE.2 ht,@λH0 S z aq ρ σ H Q d ρ' ok e0 kk=>?_⟩;unfold zU at e0
 split at e0
 .rename_i c es1 qs h1 h2
  split at e0
  .rename_i c2 gU hl
   by_cases hc:c=cn/\c2=gm/\gU.lookup m=none/\apart i qs=true
   .rw[if_pos hc] at e0;obtain⟨rfl,rfl,hlm,nN⟩:=hc;obtain⟨w,hG,ew⟩:=ab9.mp e0;cases ew;obtain⟨v,bq,hs,r0,zz⟩:=ok.sl i _ _ h1;refine⟨v,hs,?_⟩;obtain⟨b0,dx,fs,u,gf,rfl,a1,a2,a3,a4,a5,a6⟩:=r0.place hC.ns zz.1 hl;refine⟨b0,C,dx,fs,u,rfl,a1,hC.cl,na,a2,?_⟩;obtain⟨b,dx2,fs2,g2,rfl,Cj,c4,c5,c6,c7⟩:=a3.lY x9.ns;refine⟨b,dx2,fs2,rfl,c4,uM c6 hlm,?_⟩;refine qa ok h2 λH2 vs nA s2 r2 gg=>?_
    rw[acm];refine⟨b,vs,_,gf,_,nA,w.1,w.2,rfl,a3.same s2,a4,r2,λx m n=>Ih ok nN gg zz x m (a5 x n),hG,λH3 u' bU im kp r1 nd fr rr=>?_⟩;have i3:=(aT.of s2).trans im;have k3:∀b o,b∉gf->H b=some o->H3 b=some o:=λb o n e=>kp b o n (s2 b o e)
    obtain⟨Ik,k1,k2,k4⟩:=a6 H3 w.2 bU i3 k3 r1 nd λb m=>(fr b m).imp id s2.free
    obtain⟨z',i9⟩:=ok.put h1 hs zz i3 (λb o n e=>k3 b o (λm=>n (a5 b m)) e) k1 k2 k4;exact kk z' H3 u' i9 i3 rr
   .rw[if_neg hc] at e0;cases e0
  .cases e0
 .cases e0
end
noncomputable def tZ(f:XF):aA->Option (Bool×aA):=λρ=>match f ρ with
 |some (.bl b,ρ')=>some (b,ρ')
 |_=>none
theorem Vl(h:FZ X a f)(he:∀whole,isTrue a X.env whole=(do let v <- whole;standAt a.pos;holding [v] (truthy v)):=by intro _;rfl):Bu X a (tZ f):=by
 obtain⟨t,p,q⟩:=h;refine⟨_,P7 p he,@λH0 S z aq ρ σ H Q c ρ' ok e k=>?_⟩;unfold tZ at e
 split at e
 .rename_i c' aS h1;cases e;refine q ok h1 λz' H' v aX r=>?_
  cases r;exact⟨_,rfl,k z' H' aX⟩
 .cases e
noncomputable def lA(c:aA->Option (Bool×aA))(f:SF):Nat->SF
 |0,_=>none
 |n+1,ρ=>match c ρ with
  |some (false,aS)=>some (.nx aS)
  |some (true,aS)=>match f aS with
   |some (.nx ρ')=>lA c f n ρ'
   |_=>none
  |none=>none
theorem Y4(n:Nat){body:List Stmt}{tc:aA->Option (Bool×aA)}{fb:SF}(hc:Bu X c tc)(hb:FS X body fb)(hp:PassesOwn (model X.prog X.w) X.A X.env X.xe:=by exact PassesOwn.never):fM X (.While c body [] pos) (lA tc fb n):=by
 obtain⟨t,p,q⟩:=hc;obtain⟨tb,pb,qb⟩:=hb;exists 23,Ol hp p pb;refine⟨λm aE H'=>∃z' ρ',Ok X.K H0 S z' aq ρ' aE H'/\lA tc fb m ρ'=some o/\Kp X σ aE,⟨n,z,ρ,ok,e,.refl _ _⟩,?_⟩
 rintro m aE H' ⟨z',ρ',aX,e',kp⟩
 cases m with
 |zero=>cases e'
 |succ m=>
  unfold lA at e'
  split at e'
  .rename_i aS hc;cases e';refine q aX hc λz1 H1 cE=>?_
   rw[if_neg aa6];exact k z1 aE H1 cE kp
  .rename_i aS hc;refine q aX hc λz1 H1 cE=>?_
   rw[if_pos rfl]
   split at e'
   .rename_i bx hf;refine⟨λg8 H2=>∃z2 bx,Ok X.K H0 S z2 aq bx g8 H2/\lA tc fb m bx=some o/\Kp X σ g8,λg8 H2 hn=>⟨m,afy m,hn⟩,?_⟩;exact qb cE hf λz3 cX H3 iI b=>⟨z3,bx,iI,e',kp.trans b⟩
   .cases e'
  .cases e'
noncomputable def vt(f g:XF):XF:=λρ=>match f ρ with
 |some (.bl true,ρ')=>some (.bl true,ρ')
 |some (.bl false,ρ')=>match g ρ' with
  |some (.bl b,bx)=>some (.bl b,bx)
  |_=>none
 |_=>none
theorem Yg{g:XF}(ha:FZ X a f)(hb:FZ X b g):FZ X (.BoolOp .Or [a,b] pos) (vt f g):=by
 obtain⟨t,p,q⟩:=ha;obtain⟨t',p',q'⟩:=hb;refine⟨_,JM p (OB p'),@λH0 S z aq ρ σ H Q d ρ' ok e k=>?_⟩;unfold vt at e
 split at e
 .rename_i aS h;cases e;refine q ok h λz1 H1 v cE r1=>?_
  cases r1;refine⟨true,rfl,?_⟩;rw[if_pos rfl];exact k z1 H1 _ cE (.bl _)
 .rename_i aS h
  split at e
  .rename_i c bx h2;cases e;refine q ok h λz1 H1 v cE r1=>?_
   cases r1;refine⟨false,rfl,?_⟩;rw[if_neg aa6];exact q' cE h2 k
  .cases e
 .cases e
end
section
variable{K:PySem.W.Frag}{H H':Hp}
theorem Ld{a:Addr}{ks:List Key}(h:cg K H a (ks.map L2.kV))(ni:pU K=true)(hi:ks.all (λk=>k.isLeft)=true)(hn:ks≠[]):Tk H a (ks.map L2.kV):=by
 rcases h with(h|⟨o,h⟩)|⟨o,au,n,hk,_,_,hd,_,rv⟩
 .exact⟨.tup _,rfl,h⟩
 .exact⟨.uX o _,rfl,h⟩
 .exfalso
  have q:=ac4.mp ni (a,o) (zp hk);dsimp only at q;rw[hd] at q;have len:=rv.length;have go:∀{ks:List Key}{vs:List Value},ks.all (λk=>k.isLeft)=true->aQ (ks.map L2.kV) vs->∀v∈vs,∃i t,v=Value.int i t:=by
   intro ks
   induction ks with
   |nil=>intro vs _ r v m;cases r;cases m
   |cons k ks ih=>
    intro vs h r v m;obtain⟨h1,h2⟩:=(aaY _ _).mp (by simpa only[afW] using h);cases r with
    |cons r1 r2=>
     rcases aa3.mp m with e|m
     .subst e;cases k with
      |inr _=>cases h1
      |inl i=>obtain⟨t,e⟩:=(show RelV (.int i) _ from r1);exact⟨i,t,e⟩
     .exact ih h2 r2 v m
  rcases(Bool.or_eq_true _ _).mp (show(au.size==0||au.toList.any _)=true from q) with z|z
  .have z:au.size=0:=by simpa using z
   simp only[List.length_map,aeu] at len;exact hn (afB (len.trans z))
  .obtain⟨v,mv,e⟩:=adn.mp z;obtain⟨i,t,rfl⟩:=go hi rv v mv;cases e
theorem Tk.aC{a:Addr}{xs:List V}(h:Tk H a xs)(i:aT H H'):Tk H' a xs:=by
 obtain⟨t,e1,e2⟩:=h;cases t with
 |tup ys=>exact⟨.tup ys,e1,i.1 _ _ e2⟩
 |uX o ys=>exact⟨.uX o ys,e1,i.2.1 _ _ _ e2⟩
 |iP _ _=>cases e1
 |ju _=>cases e1
variable{κ:Type}[DecidableEq κ]
theorem u_{α:Type}{k:κ}{d:α}:∀{es:List (κ×α)},k∉es.map (·.1)->(es.map λkv=>if kv.1=k then(kv.1,d) else kv)=es
 |[],_=>rfl
 |(q,x)::es,n=>by
  rw[aax] at n ⊢;rw[if_neg (λe=>n (by rw[e];exact aar)),u_ λm=>n (aaa _ m)]
theorem aB.Lq{k:κ}{d0:D}:∀{es:List (κ×D)}{aj:List (κ×V)}{g:List Addr},es.map (·.1)=aj.map (·.1)->aB K H (es.map (·.2)) (aj.map (·.2)) g->g.Nodup->(es.map (·.1)).Nodup->aV es k=some d0->
  ∃v gf,dY aj k=some v/\Rep K H d0 v gf/\gf.Nodup/\(∀a∈gf,a∈g)/\∀(H':Hp) (d1:D) (g1:List Addr),aT H H'->(∀b o,b∉gf->b∈g->H b=some o->H' b=some o)->Rep K H' d1 v g1->g1.Nodup->(∀b∈g1,b∈gf\/H b=none)->
   ∃g',aB K H' ((putD es k d1).map (·.2)) ((putK aj k v).map (·.2)) g'/\g'.Nodup/\∀b∈g',b∈g\/H b=none
 |[],_,_,_,_,_,_,e=>by cases e
 |_::_,[],_,k,_,_,_,_=>by simp at k
 |(x,d)::es,(y,v0)::aj,_,hk,r,nd,kd,e=>by
  simp only[aax,ae1] at hk;obtain⟨rfl,hk⟩:=hk;rw[aax] at kd;obtain⟨K6,XJ⟩:=abv.mp kd;have any:∀{α:Type}{l:List (κ×α)}{d:α},k∈l.map (·.1)->(l.any λkv=>decide (kv.1=k))=true:=λ{α l d} m=>by
   obtain⟨p,m1,m2⟩:=abG.mp m;exact adn.mpr ⟨p,m1,aaN m2⟩
  cases r with
  | @cons _ _ _ _ f1 f2 r1 r2=>
   obtain⟨a1,a2,a3⟩:=acB.mp nd
   by_cases hx:x=k
   .subst hx;have e1:aV ((x,d)::es) x=some d:=by simp[aV,ac9]
    rw[e1] at e;obtain rfl:d=d0:=abS e;refine⟨v0,f1,wC rfl,r1,a1,λa m=>abn _ m,λH' d1 g1 im kp rr n1 fr=>?_⟩;refine⟨g1++f2,?_,acB.mpr ⟨n1,a2,λa ma b mb e=>?_⟩,λb m=>?_⟩
    .have er:putD ((x,d)::es) x d1=(x,d1)::es:=by
      unfold putD;rw[any (d:=d1) (by simp),if_pos rfl,aax,u_ K6,if_pos rfl]
     have ev:putK ((x,v0)::aj) x v0=(x,v0)::aj:=by
      unfold putK;rw[any (d:=v0) (by simp),if_pos rfl,aax,u_ (show x∉aj.map (·.1) by rw[<- hk];exact K6),if_pos rfl]
     rw[er,ev,aax,aax];refine .cons rr (r2.frame (λa m=>?_) im);obtain⟨o,w,_⟩:=r2.cG a m;rw[kp a o (λq=>a3 a q a m rfl) (aaM _ m) w,w]
    .subst e;obtain⟨o,w,_⟩:=r2.cG a mb;rcases fr a ma with q|q
     .exact a3 a q a mb rfl
     .rw[q] at w;cases w
    .rcases abD.mp m with m|m
     .exact(fr b m).imp (abn _) id
     .exact .inl (aaM _ m)
   .have e1:aV ((x,d)::es) k=aV es k:=by simp[aV,ac9,hx]
    rw[e1] at e;obtain⟨v,gf,h1,h2,h3,h4,h5⟩:=aB.Lq hk r2 a2 XJ e;have mk:k∈es.map (·.1):=by
     unfold aV at e;obtain⟨p,e2,e3⟩:=ab9.mp e;exact abG.mpr ⟨p,aeT e2,aaP (show decide (p.1=k)=true from afZ (p:=λkv:κ×D=>decide (kv.1=k)) e2)⟩
    refine⟨v,gf,by rw[xy hx];exact h1,h2,h3,λa m=>aaM _ (h4 a m),λH' d1 g1 im kp rr n1 fr=>?_⟩;obtain⟨g',c1,c2,c3⟩:=h5 H' d1 g1 im (λb o n m e=>kp b o n (aaM _ m) e) rr n1 fr;refine⟨f1++g',?_,acB.mpr ⟨a1,c2,λa ma b mb e=>?_⟩,λb m=>?_⟩
    .have er:(putD ((x,d)::es) k d1)=(x,d)::putD es k d1:=by
      unfold putD;rw[any (d:=d1) (l:=(x,d)::es) (aaa _ mk),any (d:=d1) mk,if_pos rfl,if_pos rfl,aax,if_neg hx]
     have ev:(putK ((x,v0)::aj) k v)=(x,v0)::putK aj k v:=by
      unfold putK;rw[any (d:=v) (by rw[aax,<- hk];exact aaa _ mk),any (d:=v) (by rw[<- hk];exact mk),if_pos rfl,if_pos rfl,aax,if_neg hx]
     rw[er,ev,aax,aax];refine .cons (r1.frame (λa m=>?_) im) c1;obtain⟨o,w,_⟩:=r1.cG a m;rw[kp a o (λq=>a3 a m a (h4 a q) rfl) (abn _ m) w,w]
    .subst e;obtain⟨o,w,_⟩:=r1.cG a ma;rcases c3 a mb with q|q
     .exact a3 a ma a q rfl
     .rw[q] at w;cases w
    .rcases abD.mp m with m|m
     .exact .inl (abn _ m)
     .exact(c3 b m).imp (aaM _) id
theorem Ok.blank{K:PySem.W.Frag}{H0:Hp}{S:List Addr}{z:Addr->Option Nat}{aq:List b7}{ρ:aA}{σ:St}{H:Hp}{i:Nat}{x:Option V}(ok:Ok K H0 S z aq ρ σ H)(h:ρ[i]? = some none):Ok K H0 S z aq ρ (σ.set i x) H:=
 ⟨λj d t e=>by
  have ne:i≠j:=λz=>by rw[<- z,h] at e;cases e
  obtain⟨v,fp,a,b,c⟩:=ok.sl j d t e;exact⟨v,fp,by rw[acM ne];exact a,b,c⟩,ok.hl,ok.zd,ok.en,by rw[afu];exact ok.ln⟩
end
noncomputable def AU(cn:Str):Option Slot->Option (List (Str×D))
 |some (some (.ins c es,.own))=>if c=cn then some es else none
 |_=>none
noncomputable def F7:Option Slot->Option (List D)
 |some (some (.tup ls,_))=>some ls
 |_=>none
noncomputable def Dr:Option Slot->Option Str
 |some (some (.str w,_))=>some w
 |_=>none
noncomputable def CJ:Option D->Option (List (List Key×D))
 |some (.cM l)=>some l
 |_=>none
theorem K2{cn:Str}:∀{x:Option Slot}{es:List (Str×D)},AU cn x=some es->x=some (some (.ins cn es,.own)):=by
 rintro(_|_|⟨d,t⟩) es e
 any_goals cases e
 cases d
 any_goals cases e
 cases t
 any_goals cases e
 exact(Option.ite_none_right_eq_some.mp e).elim λa b=>by cases a;cases b;rfl
theorem Sb:∀{x:Option Slot}{ls:List D},F7 x=some ls->∃t,x=some (some (.tup ls,t)):=by
 rintro(_|_|⟨d,t⟩) es e
 any_goals cases e
 cases d
 all_goals cases e
 exact⟨_,rfl⟩
theorem aaI:∀{x:Option Slot}{w:Str},Dr x=some w->∃t,x=some (some (.str w,t)):=by
 rintro(_|_|⟨d,t⟩) es e
 any_goals cases e
 cases d
 all_goals cases e
 exact⟨_,rfl⟩
theorem XH:∀{x:Option D}{l:List (List Key×D)},CJ x=some l->x=some (.cM l):=by
 rintro(_|d) es e
 any_goals cases e
 cases d
 all_goals cases e
 rfl
def vA(cn fl gm m:Str)(ft:EF)(G:MF):SF:=λρ=>
 (AU cn ρ[0]?).bind λes=>(F7 ρ[1]?).bind λls=>(Dr ρ[2]?).bind λwd=>(CJ (es.lookup fl)).bind λaj=>(iA ls).bind λks=>(ft ρ).bind λdn=>
  (AU gm (some (some ((aV aj ks).getD dn.1,dn.2)))).bind λgU=>(G (.ins gm gU) [.str wd]).bind λr=>
   if ρ[3]?.any Option.isNone=true/\gU.lookup m=none/\ks.all (λk=>k.isLeft)=true/\ks≠[]/\(aj.map (·.1)).Nodup/\aj.length<sizeLine/\aC r.1=true then some (.nx (iw (bP ρ 0 (.ins cn (dZ fl (.cM (putD aj ks r.2)) es))) 4 r.1 .own)) else none
theorem SY{cn fl gm m:Str}{ft:EF}{G:MF}{ρ:aA}{w:Out}(e:vA cn fl gm m ft G ρ=some w):∃es ls lt wd wt aj ks dn gU r d1,ρ[0]? = some (some (.ins cn es,.own))/\ρ[1]? = some (some (.tup ls,lt))/\ρ[2]? = some (some (.str wd,wt))/\ρ[3]? = some none/\es.lookup fl=some (.cM aj)/\iA ls=some ks/\ft ρ=some (dn,.own)/\
  (aV aj ks).getD dn=.ins gm gU/\gU.lookup m=none/\ks.all (λk=>k.isLeft)=true/\ks≠[]/\(aj.map (·.1)).Nodup/\aj.length<sizeLine/\G (.ins gm gU) [.str wd]=some (r,d1)/\aC r=true/\w=.nx (iw (bP ρ 0 (.ins cn (dZ fl (.cM (putD aj ks d1)) es))) 4 r .own):=by
 obtain⟨es,h1,e⟩:=aeg.mp e;obtain⟨ls,h2,e⟩:=aeg.mp e;obtain⟨wd,h3,e⟩:=aeg.mp e;obtain⟨aj,h4,e⟩:=aeg.mp e;obtain⟨ks,h5,e⟩:=aeg.mp e;obtain⟨dn,h6,e⟩:=aeg.mp e;obtain⟨gU,h7,e⟩:=aeg.mp e;obtain⟨⟨r,d1⟩,h8,e⟩:=aeg.mp e;obtain⟨⟨a0,a1,a2,a3,a4,a5,a6⟩,e⟩:=Option.ite_none_right_eq_some.mp e;obtain⟨t2,h2⟩:=Sb h2;obtain⟨t3,h3⟩:=aaI h3;have h7:=K2 h7;have a0:ρ[3]? = some none:=by
  rcases h:ρ[3]? with _|_|_<;>rw[h] at a0<;>first|rfl|cases a0
 cases e;injection h7 with h7;injection h7 with h7;injection h7 with h7 h9;exact⟨es,ls,t2,wd,t3,aj,ks,dn.1,gU,r,d1,K2 h1,h2,h3,a0,XH h4,h5,by rw[h6,<- h9],h7,a1,a2,a3,a4,a5,h8,a6,rfl⟩
theorem Yj{cn fl gm m:Str}{ft:EF}{G:MF}{ρ:aA}{es gU:List (Str×D)}{ls:List D}{lt wt:Tag}{wd:Str}{aj:List (List Key×D)}{ks:List Key}{dn r d1:D}(h0:ρ[0]? = some (some (.ins cn es,.own)))(h1:ρ[1]? = some (some (.tup ls,lt)))(h2:ρ[2]? = some (some (.str wd,wt)))(h3:ρ[3]? = some none)(h4:es.lookup fl=some (.cM aj))(h5:iA ls=some ks)(h6:ft ρ=some (dn,.own))(h7:(aV aj ks).getD dn=.ins gm gU)(h8:G (.ins gm gU) [.str wd]=some (r,d1))
  (hc:gU.lookup m=none/\ks.all (λk=>k.isLeft)=true/\ks≠[]/\(aj.map (·.1)).Nodup/\aj.length<sizeLine/\aC r=true):vA cn fl gm m ft G ρ=some (.nx (iw (bP ρ 0 (.ins cn (dZ fl (.cM (putD aj ks d1)) es))) 4 r .own)):=by
 unfold vA AU F7 Dr CJ;simp only[h0,h1,h2,h3,h4,h5,h6,h7,h8,acR,if_pos];exact if_pos ⟨rfl,hc⟩
section
variable{X:Cx}{cn fl gm m x0 x1 x2 x3 x4:Str}{C C2 fa:Addr}{fd:FuncData}{ps:List Str}{k:Nat}{G:MF}{tc:Expr}{ft:EF}{g:SF}{rest:List Stmt}{p1 p2 p3 p4 p5 p6 p7 p8 p9 q1 q2 q3 q4 q5 q6 q7 q8 q9 r1:Pos}{pl:Sem Bool}
set_option maxHeartbeats 1000000 in
theorem acX(hu:X.A.units+1<cLine)(ni:pU X.K=true)(hC:ClsAt X.K cn C)(na:iC X.K C fl)(x9:ClsAt X.K gm C2)(hm:lT X.K C2 m fa)(GG:cI X.prog X.w X.K X.mg X.base c_ k fa fd ps (dH X.K G))(hr:bh k X.A)(hb:Binds X.K fd ps [])
  (hT:FP X tc ft) (v_:FM X rest g) (hN:X.N.Nodup) (a0:VA X 0 x0:=by walk_at "va") (a1:VA X 1 x1:=by walk_at "va") (a2:VA X 2 x2:=by walk_at "va") (a3:VA X 3 x3:=by walk_at "va") (h4:X.N[4]? = some x4:=by rfl)
  (v3:Loc X.env.scope x3:=by first|exact Or.inl rfl|exact Or.inr rfl) (v4:Loc X.env.scope x4:=by first|exact Or.inl rfl|exact Or.inr rfl)
  (yr:attributeBase (.Name x0 p1) fl X.env (eval (.Name x0 p1) X.env)=eval (.Name x0 p1) X.env:=by rfl) (acv:attributeBase (.Name x0 q1) fl X.env (eval (.Name x0 q1) X.env)=eval (.Name x0 q1) X.env:=by rfl)
  (mm:M2 X (.Attribute (.Name x0 p1) fl p2) "get" p3 (.Name x1 p4) tc p5:=by exact⟨rfl,rfl,rfl,rfl⟩)
  (s1:swapsWith (.Call (.Attribute (.Attribute (.Name x0 p1) fl p2) "get" p3) [.Name x1 p4,tc] [] p5) (some (.Name x3 p6)) p7.line X.env=pure false:=by rfl)
  (s2:swapsWith (.Call (.Attribute (.Name x3 q2) m q3) [.Name x2 q4] [] q5) (some (.Name x4 p8)) p9.line X.env=pure false:=by rfl)
  (s3:swapsWith (.Name x3 q6) (some (.Subscript (.Attribute (.Name x0 q1) fl q7) (.Name x1 q8) q9)) r1.line X.env=pure false:=by rfl)
  (f3:X.fn x3=true\/X.env.scope.names.lookup x3=some .local:=by first|exact .inl rfl|exact .inr rfl) (f4:X.fn x4=true\/X.env.scope.names.lookup x4=some .local:=by first|exact .inl rfl|exact .inr rfl) (k3:kZ X x3=false:=by rfl) (k4:kZ X x4=false:=by rfl)
  (iE:starEach [.Name x2 q4] X.env=[(false,eval (.Name x2 q4) X.env)]:=by rfl)
  (ht:eval (.Call (.Attribute (.Name x3 q2) m q3) [.Name x2 q4] [] q5) X.env=(do
   let ov <- eval (.Name x3 q2) X.env
   standAt q3.atName
   let(f,first) <- holding [ov] (getMethod ov m pl)
   callWith q5 f first (backTo q5 (starEach [.Name x2 q4] X.env)) (backToKw q5 (keywordEach [] X.env))):=by rfl) :
  FM X (.Assign [.Name x3 p6] (.Call (.Attribute (.Attribute (.Name x0 p1) fl p2) "get" p3) [.Name x1 p4,tc] [] p5) p7::.Assign [.Name x4 p8] (.Call (.Attribute (.Name x3 q2) m q3) [.Name x2 q4] [] q5) p9::.Assign [.Subscript (.Attribute (.Name x0 q1) fl q7) (.Name x1 q8) q9] (.Name x3 q6) r1::rest) (cC (vA cn fl gm m ft G) g):=by
 obtain⟨tT,pT,sT⟩:=hT;obtain⟨tr,pr,sr⟩:=v_;refine⟨_,yD (zB hN a3.N v3 (FL hu (pS a0.pe yr) a1.pe pT mm) s1 f3)
  (yD (zB hN h4 v4 (Au a3.pe x9.cl hm GG hr hb .nil mU (dW a2.pe fH iE) iE rfl ht) s2 f4)
  (yD (A8 hu (pS a0.pe acv) a1.pe a3.pe s3) pr)),@λH0 S z aq ρ σ H E o ok e kE=>?_⟩
 cases hw:vA cn fl gm m ft G ρ with
 |none=>unfold cC at e;rw[hw] at e;cases e
 |some w=>
  obtain⟨es,ls,lt,wd,wt,aj,ks,dn,gU,r,d1,e0,e1,e2,e3,elf,Xl,eft,vF,Yp,D8,j9,knd,hlen,eG,hir,rfl⟩:=SY hw;have e:g (iw (bP ρ 0 (.ins cn (dZ fl (.cM (putD aj ks d1)) es))) 4 r .own)=some o:=by unfold cC at e;rw[hw] at e;exact e
  obtain⟨v,bq,hs,r0,zz⟩:=ok.sl 0 _ _ e0;obtain⟨vl,Dl,NL,rl,_⟩:=ok.sl 1 _ _ e1;obtain⟨bL,xs,rfl,RQ,UL⟩:=rl.iX;obtain rfl:=aB.keys UL Xl;have vm:=Ld RQ ni D8 j9;obtain⟨vw,fw,kF,fS,_⟩:=ok.sl 2 _ _ e2;obtain⟨rfl,rfl⟩:=fS.uR;have l3:3<σ.length:=by rw[<- ok.ln];exact(abh.mp e3).1
  obtain⟨b0,dx,fs,u,gf,⟨nb,nx⟩,rfl,a1,a2,a3,a4,a5,a6⟩:=r0.N8 hC.ns zz.1 elf;cases a3 with
  | @cM l ie _ g0 hl fG rs=>
   obtain⟨lg,n0⟩:=abv.mp a4;refine⟨.ref b0,hs,b0,C,dx,fs,.ref l,rfl,a1,hC.cl,na,a2,l,rfl,.inr ⟨ie,.inl hl⟩,.ref bL,NL,?_⟩;refine sT ok eft λH3 zv Ik s3 rn gn=>?_
   refine⟨dY ie ks,.inr ⟨ie,ks,bL,.inl (s3 _ _ hl),rfl,(Tk.aC vm (.of s3)),rfl⟩,?_⟩;have hv:∃ji,Rep X.K H3 (.ins gm gU) ((dY ie ks).getD zv) ji/\ji.Nodup/\(∀b∈ji,b∈g0\/H b=none)/\∀H5 bU,aT H3 H5->(∀b o,b∉ji->H3 b=some o->H5 b=some o)->Rep X.K H5 d1 ((dY ie ks).getD zv) bU->bU.Nodup->(∀b∈bU,b∈ji\/H3 b=none)->
     ∃g',aB X.K (upd H5 l (.dT (putK ie ks ((dY ie ks).getD zv)))) ((putD aj ks d1).map (·.2)) ((putK ie ks ((dY ie ks).getD zv)).map (·.2)) g'/\g'.Nodup/\l∉g'/\∀b∈g',b∈g0\/H b=none:=by
    cases sG:aV aj ks with
    |some dv=>
     rw[sG,afA] at vF;subst vF;obtain⟨v,gv,b1,b2,b3,b4,b5⟩:=aB.Lq fG rs n0 knd sG;rw[b1,afA];refine⟨gv,b2.same s3,b3,λb m=>.inl (b4 b m),λH5 bU im kp r5 xM lN=>?_⟩;have nl:l∉gv:=λm=>lg (b4 l m)
     have oO:=kp l _ nl (s3 _ _ hl);have zC:l∉bU:=λm=>(lN l m).elim nl λq=>by rw[s3 _ _ hl] at q;cases q
     obtain⟨g',c1,c2,c3⟩:=b5 (upd H5 l (.dT (putK ie ks v))) d1 bU (((aT.of s3).trans im).trans (aT.upd oO rfl)) (λb o n mb e=>by rw[aL (λq:b=l=>lg (q ▸ mb))];exact kp b o n (s3 b o e))
      (r5.frame (λb m=>aL (λq:b=l=>zC (q ▸ m))) (aT.upd oO rfl)) xM (λb m=>(lN b m).imp id s3.free)
     exact⟨g',c1,c2,(λm=>(c3 l m).elim lg λq=>by rw[hl] at q;cases q),c3⟩
    |none=>
     rw[sG] at vF;have vF:=vF;subst vF;have hn:=(qN fG rs).2 sG;rw[hn];show ∃ji,Rep X.K H3 (.ins gm gU) zv ji/\ji.Nodup/\(∀b∈ji,b∈g0\/H b=none)/\∀H5 bU,aT H3 H5->(∀b o,b∉ji->H3 b=some o->H5 b=some o)->Rep X.K H5 d1 zv bU->bU.Nodup->(∀b∈bU,b∈ji\/H3 b=none)->
      ∃g',aB X.K (upd H5 l (.dT (putK ie ks zv))) ((putD aj ks d1).map (·.2)) ((putK ie ks zv).map (·.2)) g'/\g'.Nodup/\l∉g'/\∀b∈g',b∈g0\/H b=none
     refine⟨Ik,rn,gn.1,λb m=>.inr (gn.2 b m),λH5 bU im kp r5 xM lN=>?_⟩;have nl:l∉Ik:=λm=>by rw[gn.2 l m] at hl;cases hl
     have oO:=kp l _ nl (s3 _ _ hl);have w_:∀b∈bU,H b=none:=λb m=>(lN b m).elim (gn.2 b) s3.free
     have zC:l∉bU:=λm=>by rw[w_ l m] at hl;cases hl
     have i6:aT H (upd H5 l (.dT (putK ie ks zv))):=((aT.of s3).trans im).trans (aT.upd oO rfl);have n1:(aj.any λkv=>decide (kv.1=ks))=false:=by
      unfold aV at sG;rw[Option.map_eq_none_iff,aeP] at sG;exact List.any_eq_false.mpr sG
     have n2:(ie.any λkv=>decide (kv.1=ks))=false:=by
      rw[Hr,hn];rfl
     refine⟨g0++(bU++[]),?_,?_,λm=>?_,λb m=>?_⟩
     .unfold putD putK;rw[n1,n2,if_neg aa6,if_neg aa6,acZ,acZ];unfold putK at i6;rw[n2,if_neg aa6] at i6;refine aB.append (rs.frame (λb m=>?_) i6) (.cons (r5.frame (λb m=>aL (λq:b=l=>zC (q ▸ m))) (aT.upd oO rfl)) .nil);obtain⟨o,w,_⟩:=rs.cG b m;rw[aL (λq:b=l=>lg (q ▸ m)),kp b o (λq=>by rw[gn.2 b q] at w;cases w) (s3 b o w),w]
     .rw[acm];refine acB.mpr ⟨n0,xM,λa ma b mb e=>?_⟩;obtain⟨o,w,_⟩:=rs.cG a ma;rw[e,w_ b mb] at w;cases w
     .rw[acm] at m;exact(abD.mp m).elim lg zC
     .rw[acm] at m;exact(abD.mp m).imp id (w_ b)
   generalize(dY ie ks).getD zv=v at hv ⊢;obtain⟨ji,rv,ndv,Cr,fin⟩:=hv;obtain⟨a,VC,Sl,gT,rfl,Cj,t1,t2,t3,t4⟩:=rv.lY x9.ns;refine⟨.ref a,aeo l3,a,VC,Sl,rfl,t1,uM t3 Yp,.str wd,(by rw[acM (by decide)];exact kF),?_⟩;refine⟨a,[.str wd],_,ji,[.str wd],[],r,d1,rfl,rv,ndv,.cons (.str wd) .nil,(λb m=>nomatch m),eG,λH5 ut bU im kp r5 xM lN rr=>?_⟩;have nl:l∉ji:=λm=>(Cr l m).elim lg λq=>by rw[hl] at q;cases q
   have oO:=kp l _ nl (s3 _ _ hl);have nb0:b0∉ji:=λm=>(Cr b0 m).elim (λq=>nb (aaa _ q)) λq=>by rw[a1] at q;cases q
   have Wv:=kp b0 _ nb0 (s3 _ _ a1);have hlv:ie.length=aj.length:=by have:=congrArg List.length fG;simpa using this.symm
   refine⟨.ref a,(by rw[acM (by decide)];exact aeo l3),.ref b0,(by rw[acM (by decide),acM (by decide)];exact hs),b0,C,dx,fs,.ref l,rfl,Wv,hC.cl,na,a2,.ref bL,(by rw[acM (by decide),acM (by decide)];exact NL),l,_,rfl,
    .inr ⟨ie,ks,bL,oO,rfl,(Tk.aC vm ((aT.of s3).trans im)),(by rw[hlv];exact hlen),rfl⟩,?_⟩
   obtain⟨g',y1,y2,y3,y4⟩:=fin H5 bU im kp r5 xM lN;have i6:aT H (upd H5 l (.dT (putK ie ks (.ref a)))):=((aT.of s3).trans im).trans (aT.upd oO rfl);have k6:∀b o,b∉l::g0->H b=some o->upd H5 l (.dT (putK ie ks (.ref a))) b=some o:=λb o n e=>by
    rw[aL (λq=>n (by rw[q];exact aar))];exact kp b o (λm=>(Cr b m).elim (λq=>n (aaa _ q)) λq=>by rw[e] at q;cases q) (s3 b o e)
   obtain⟨ae4,z1,z2,z3⟩:=a6 _ (.cM (putD aj ks d1)) (l::g') i6 k6 (.cM bQ (wX fG) y1) (abv.mpr ⟨y3,y2⟩) (λb m=>(aa3.mp m).elim (λq=>.inl (by rw[q];exact aar)) λm=>(y4 b m).imp (aaa _) id);obtain⟨z',i9⟩:=ok.put e0 hs zz i6 (λb o n e=>k6 b o (λm=>n (a5 b m)) e) z1 z2 z3;have YN:(bP ρ 0 (.ins cn (dZ fl (.cM (putD aj ks d1)) es)))[3]? = some none:=by unfold bP;rw[acM (by decide),ab3,e3];rfl
   refine(i9.blank (x:=some (.ref a)) YN).stored (t:=.own) (i:=4) (aH.refl _) (rr.frame (λa m=>nomatch m) (aT.upd oO rfl)) .nil λz2 ok5=>?_
   exact sr ok5 e (kE.of ((Kp.set a3.N k3).trans (Kp.set h4 k4)))
end
end L2.Ev
namespace L2
open PySem PySem.Spec PyProof.Rows
section
variable{X:Cx}
def abK(K:PySem.W.Frag):V->List V->Hp->VK->Prop:=λx vs H Q=>∃(l:Addr) (ts:List Int) (i:Int) (j:Nat),x=.ref l/\vs=[.int i]/\bY K H l (ts.map V.int)/\ts[j]? = some i/\(∀m,m<j->ts[m]?≠some i)/\Q (.int j) H
theorem Nj(i y:Int)(t:Tok):iD (.int i) (.int y t)=(y==i):=rfl
theorem Z9:vX X "list.index" (abK X.K):=by
 intro af s σ H x vs v us Q I rx rv h;obtain⟨l,ts,i,j,rfl,rfl,hq,hj,Co,q⟩:=h;cases rx;obtain⟨u,rfl,ru⟩:=vals1 rv;obtain⟨t,rfl⟩:=ru;obtain⟨au,r,pl,hz⟩:=I.list hq;have hlen:=r.length;rw[List.length_map] at hlen hz;obtain⟨o,ho,hc,n,hd⟩:=pl.isList;obtain⟨c,dd,da,sl⟩:=o;cases hc;cases hd;have hjl:=(abh.mp hj).1;have oj:∀(m:Nat) (hm:m<au.toArray.size),∃y t',ts[m]? = some y/\au.toArray[m]=.int y t':=λm hm=>by
  have pW:m<ts.length:=by simp at hm;omega
  obtain⟨w,hw,fS⟩:=r.get (by rw[ab3,aaR pW];rfl);obtain⟨t',rfl⟩:=fS;refine⟨ts[m],t',aaR pW,?_⟩;have:=(abh.mp hw).2;simpa using this
 have hsz:j<au.toArray.size:=by simp;omega
 refine call_meets F.slot_list_index ⟨_,ho,rfl⟩ F.entry_list_index (F.args_list_index_2 _ _) (SeqAt.list_indexAt l au.toArray n dd sl (.int i t) (iD (.int i)) j hsz (by rw[aeI] at hz;omega) ?_ (λm hm cj=>?_)) ⟨ho,λw hw=>um (x:=.int i) ⟨t,rfl⟩ rfl r (by rw[afT];exact ac4.mpr λ_ _=>rfl) w (by simpa using hw),⟨.int j,H,I.tok _,⟨_,rfl⟩,q⟩⟩
 .obtain⟨y,t',h1,h2⟩:=oj j hsz;rw[h2,Nj];rw[hj] at h1;cases h1;exact afp _
 .obtain⟨y,t',h1,h2⟩:=oj m hm;rw[h2,Nj];refine ae7.mpr λe=>Co m cj ?_
  rw[h1,eq_of_beq e]
end
end L2
namespace L2
theorem bh.m{j k:Nat}{A:PySem.Around}{cm:Bool}(r:bh k A cm)(h:j<=k:=by decide):bh j A cm:=r.mono h
end L2
namespace L2.Ev
open PySem PySem.Spec PyProof.Rows
section
variable{X:Cx}{a b:Expr}{fa fb:EF}{pos p2 p3:Pos}
def FO:D->D->Option D
 |.lst ds,.int i=>match eE ds with
  |some ts=>(ts.findIdx? (· == i)).map λj:Nat=>.int j
  |none=>none
 |_,_=>none
theorem UI(ha:FP X a fa)(hb:FP X b fb)(hs:starEach [b] X.env=[(false,eval b X.env)]:=by rfl)(jf:attributeBase a "index" X.env (eval a X.env)=eval a X.env:=by rfl)
  (lS:((backTo p3 (starEach [b] X.env)).all (λx=>!x.1)&&(backToKw p3 (keywordEach [] X.env)).all (λx=>x.1.isSome)&&decide ([b].length+([]:List Keyword).length+(if([]:List Keyword).isEmpty then 0 else 1)<30))=true:=by rfl)
  (jt:(p2.endLine==p3.line)=true:=by rfl):FP X (.Call (.Attribute a "index" p2) [b] [] p3) (e2 FO fa fb):=by
 obtain⟨ta,pa,sa⟩:=ha;obtain⟨tb,pb,sb⟩:=hb;exists 21,yf PySem.F.plainAttrs_list PySem.F.slot_list_index PySem.F.type_list_index Z9 pa (dW pb fH hs) jf lS jt hs rfl;obtain⟨d1,t1,d2,t2,e1,jn,e3,rfl⟩:=qE e;refine sa ok e1 λH1 x f1 s1 r1 _=>?_
 cases d1 with
 |lst ds=>
  cases d2 with
  |int i=>
   have e3:(match eE ds with|some ts=>(ts.findIdx? (· == i)).map λj:Nat=>D.int j|none=>none)=some d:=e3;cases h:eE ds with
   |none=>rw[h] at e3;cases e3
   |some ts=>
    rw[h] at e3;dsimp only at e3;cases h2:ts.findIdx? (· == i) with
    |none=>rw[h2] at e3;cases e3
    |some j=>
     rw[h2] at e3;cases e3;obtain⟨l0,xs0,f0,rfl,RY,rs0,_⟩:=r1.d9;refine⟨.inl ⟨rfl,_,RY⟩,?_⟩;refine sb (ok.same s1) jn λH2 y f2 s2 r2 _=>?_
     obtain⟨rfl,_⟩:=r2.i_;have Fv:=r1.same s2;obtain⟨l,xs,f,e0,hq,rs,_⟩:=Fv.d9;cases e0;have hx:=tM rs h;subst hx;obtain⟨hj,hp,Co⟩:=List.findIdx?_eq_some_iff_getElem.mp h2;refine⟨l0,ts,i,j,rfl,rfl,hq,?_,λm hm em=>?_,k H2 _ [] (s1.trans s2) (.int _) ⟨ace,λa m=>nomatch m⟩⟩
     .rw[aaR hj,eq_of_beq hp]
     .obtain⟨pW,e'⟩:=abh.mp em;exact Co m hm (by rw[e'];exact afp _)
  |_=>cases e3
 |_=>cases e3
end
end L2.Ev
namespace L2
open PySem PySem.Spec PyProof.Rows
theorem GK{K:PySem.W.Frag}(h:xP K=true):∀r∈i7 K,i7 K=[r]/\PySem.W.codeHdIn K r.1 r.2.1=true/\K.lookup r.2.1=none:=λr m=>by
 have ok:=((aaY _ _).mp h).2
 split at ok
 .rename_i e;rw[e] at m;cases m
 .rename_i r' e;rw[e] at m;cases aa1.mp m;obtain⟨a,b⟩:=(aaY _ _).mp ok;exact⟨e,a,by simpa using b⟩
 .cases ok
def uE(K:PySem.W.Frag):Hp:=λb=>match i7 K with
 |[r]=>if b=r.2.1 then some (.iP r.2.2.1 r.2.2.2) else none
 |_=>none
theorem Vg{P:Program}{w:World}{K:PySem.W.Frag}{mg mb:Str->Option Value}{CX:j8}{k:Nat}{fa a:Addr}{fd:FuncData}{x:Str}{sp:Sp}{bN:Shared}{vs:List Value}{ns:List Int}
  (KX:K.In bN.heap) (yE:xP K=true) (yb:∀r∈i7 K,bN.heap.get? r.2.1=some (PySem.W.tabObj #[])) (vj:bN.heap.Ns mainGlobals mg) (hb:bN.heap.Ns builtinsNs mb) (hbb:∀x:Str,x≠"__name__"->mb x=bootBuiltins x) (abd:bN.heap.NoLimit)
  (hbm:∃bm ob,mg "__builtins__"=some (.ref bm)/\bm≠builtinsNs/\bN.heap.get? bm=some ob/\ob.cls=.type "module"/\ob.dict=some builtinsNs/\ob.data=.plain) (hg:bN.gens=#[])
  (ha:bN.heap.get? a=some { cls:=.type "list",data:=.seq vs.toArray }) (hi:IntsAre vs ns) (hl:ns.length<=sizeLine) (hr:bh k callerA)
  (F:∀base:Heap,K.In base->base.Ns mainGlobals mg->cI P w K mg base CX k fa fd [x] sp) (UG:∀(s:Shared) (u:Value),BindsTo s fd ⟨[u],[]⟩ [(x,u)])
  (qU:∀H:Hp,Ev.qf K H a (ns.map V.int)->sp [.ref a] H (λv _=>v=.bl true) λ_ _ _=>False) (Hz:∀H e s',CX [] H bN (λ_ _ _=>False) e s'->False) :
  codeAny (model P w) callerA (.call (.ref fa) ⟨[.ref a],[]⟩) (λr s'=>r=.ok (.ret (.bool true))/\OldK bN.heap s'.heap/\s'.os=bN.os/\AllBare s'.gens) bN:=by
 have rv:=Gf hi;have Wg:=hi.length;have tab_of:∀{b:Addr}{u:HO},uE K b=some u->∃r∈i7 K,b=r.2.1/\u=.iP r.2.2.1 r.2.2.2:=λ{b u} e=>by
  unfold uE at e
  split at e
  .rename_i r er;obtain⟨h,e⟩:=ci e;cases e;exact⟨r,by rw[er];exact List.mem_singleton_self r,h,rfl⟩
  .cases e
 have MU:∀r∈i7 K,uE K r.2.1=some (.iP r.2.2.1 r.2.2.2):=λr m=>by
  unfold uE;rw[(GK yE r m).1];exact if_pos rfl
 have na:∀r∈i7 K,r.2.1≠a:=λr m z=>by
  have:=yb r m;rw[z,ha] at this;cases this
 have core:∀H:Hp,Ev.qf K H a (ns.map V.int)->(∀b u,H b=some u->(b=a/\K.lookup a=none/\u=.ck { cls:=.type "list",data:=.seq vs.toArray } (.lst (ns.map V.int)))\/∃r∈i7 K,b=r.2.1/\u=.iP r.2.2.1 r.2.2.2)->(∀r∈i7 K,H r.2.1=some (.iP r.2.2.1 r.2.2.2))->
   codeAny (model P w) callerA (.call (.ref fa) ⟨[.ref a],[]⟩) (λr s'=>r=.ok (.ret (.bool true))/\OldK bN.heap s'.heap/\s'.os=bN.os/\AllBare s'.gens) bN:=by
  intro H hS hA hL;have aI:d7 P w H bN.heap:=λb u e=>by
   rcases hA b u e with⟨rfl,_,rfl⟩|⟨r,m,rfl,rfl⟩
   .exact⟨ha,by rw[List.length_map];exact hl,vs,_,rv,ha⟩
   .exact⟨#[],yb r m,.inl rfl⟩
  have free:∀{b:Addr}{o:Obj},bN.heap.get? b=some o->(∀xs n,o.data≠.seq xs n)->(∀xs,o.data≠.fields xs)->H b=none:=λ{b o} e d1 d2=>by
   cases q:H b with
   |none=>rfl
   |some u=>
    rcases hA b u q with⟨rfl,_,_⟩|⟨r,m,rfl,_⟩
    .rw[ha] at e;cases e;exact absurd rfl (d1 _ _)
    .rw[yb r m] at e;cases e;exact absurd rfl (d2 _)
  have zW:∀{b:Addr}{m:Str->Option Value},bN.heap.Ns b m->(qL bN.heap H).Ns b m:=λ{b m} ⟨o,es,ep,e,d,r⟩=>⟨o,es,ep,Dq e (free e (λ_ _ z=>by rw[d] at z;cases z) λ_ z=>by rw[d] at z;cases z),d,r⟩
  have N2:K.In (qL bN.heap H):=λb o e=>Dq (KX b o e) (by
   cases q:H b with
   |none=>rfl
   |some u=>
    rcases hA b u q with⟨rfl,z,_⟩|⟨r,m,rfl,_⟩
    .rw[z] at e;cases e
    .rw[(GK yE r m).2.2] at e;cases e)
  obtain⟨bm,ob,b1,b2,b3,b4,b5,b6⟩:=hbm;have hM:Mod K mg (qL bN.heap H):=⟨N2,zW vj,⟨mb,zW hb,hbb⟩,let⟨mc,h1,h2⟩:=abd;⟨mc,zW h1,h2⟩,bm,ob,b1,b2,Dq b3 (free b3 (λ_ _ z=>by rw[b6] at z;cases z) λ_ z=>by rw[b6] at z;cases z),b4,b5,b6⟩
  have e0:tK P w K mg (qL bN.heap H) callerA [] bN H:=⟨rfl,hM,λb o e=>ac5 e,Nat.le_of_eq (Vo _ _),trivial,λb hb=>absurd (show b∈([]:List Addr) from hb) (by simp),aI,.of_eq hg,⟨.inl rfl,yE,hL⟩⟩
  refine codeAny_mono ((F _ N2 (zW vj)).run callerA [] bN H ⟨[.ref a],[]⟩ [.ref a] [.ref a] _ _ hr e0 (UG bN (.ref a)) (.cons rfl .nil) (qU H hS)) λr s' h=>?_
  cases r with
  |error e=>exact(Hz H e s' h).elim
  |ok fl=>
   cases fl with
   |next=>exact False.elim h
   |brk=>exact False.elim h
   |cont=>exact False.elim h
   |ret u=>
    obtain⟨v,H',os,bare,un,Jz,r',q⟩:=h;have q':=q;subst q';obtain rfl:u=Value.bool true:=r';refine⟨rfl,⟨λb o e=>?_,λb o e=>un.there b o e (by simp)⟩,os,bare⟩;cases q:H b with
    |none=>exact .inl (un.keep b o e q (by intro z;exact absurd (show b∈([]:List Addr) from z) (by simp)) (by simp))
    |some u=>
     rcases hA b u q with⟨rfl,_,rfl⟩|⟨r,m,rfl,rfl⟩
     .have z2:=un.jU b _ _ q;obtain⟨e1,_⟩:=aI b _ q;obtain⟨e2,_⟩:=Jz b _ z2;rw[e] at e1;cases e1;exact .inl e2
     .have z2:=un.ko r.2.1 (.iP _ _) q;obtain⟨ps,e2,_⟩:=Jz _ _ z2;rw[yb r m] at e;cases e;exact .inr (.inl ⟨((PySem.W.codeHd_of_K KX (GK yE r m).2.1).tab (yb r m)).isCodeTable,rfl,#[],ps,rfl,by simpa using e2⟩)
 cases hk:K.lookup a with
 |some o=>
  have e:=KX a o hk;rw[ha] at e;cases e;refine core (uE K) (.inr ⟨_,vs.toArray,_,hk,rfl,rfl,rfl,by rw[abW,Wg];exact hl,by simpa using rv⟩) (λb u z=>.inr (tab_of z)) MU
 |none=>
  refine core (λb=>if b=a then some (.ck { cls:=.type "list",data:=.seq vs.toArray } (.lst (ns.map V.int))) else uE K b) (.inl ⟨{ cls:=.type "list",data:=.seq vs.toArray },if_pos rfl⟩) (λb u z=>?_) λr m=>(if_neg (na r m)).trans (MU r m)
  by_cases hb:b=a
  .have z':=(if_pos hb).symm.trans z;cases z';exact .inl ⟨hb,hk,rfl⟩
  .exact .inr (tab_of ((if_neg hb).symm.trans z))
theorem X3{l:PySem.W.OpenLaw}{XP:(Str->Option Value)->Heap->Prop}{YP:World->Heap->Prop}{K:Params->PySem.W.Frag}{CX:World->j8}{sp:World->Sp}
  (hn:l.most=some n) (sD:n<=sizeLine) (xB:d.params.defaults=[]) (hr:bh k callerA) (hY:∀(w:World) (h:Heap),YP w h->(K w.params).In h) (hT:∀(w:World) (h:Heap),YP w h->∀r∈i7 (K w.params),h.get? r.2.1=some (PySem.W.tabObj #[])) (hL:∀w:World,xP (K w.params)=true)
  (F:∀(w:World) (mg:Str->Option Value) (fa:Addr) (h:Heap),(K w.params).In h->h.Ns mainGlobals mg->mg d.name=some (.ref fa)->
   ∃fd:FuncData,(∀(s:Shared) (u:Value),BindsTo s fd ⟨[u],[]⟩ [(x,u)])/\∀base:Heap,(K w.params).In base->base.Ns mainGlobals mg->cI l.prog w (K w.params) mg base (CX w) k fa fd [x] (sp w))
  (qU:∀(w:World) (H:Hp) (a:Addr) (ns:List Int),ns.length<=n->Ev.qf (K w.params) H a (ns.map V.int)->sp w [.ref a] H (λv _=>v=.bl true) λ_ _ _=>False)
  (Hz:∀(w:World) (H:Hp) (s:Shared) (e:Value) (s':Shared),CX w [] H s (λ_ _ _=>False) e s'->False) :
  PySem.W.WalkO q loose XP YP l.row.toRowW d [] (λf vs=>PySem.call f vs):=by
 refine O3.Z7 hn xB λw eN bN mg mb fa o pm cd doc a vs ns G Y ho hd l_ vW D9 hints hlen hg=>?_
 obtain⟨fd,hb,hF⟩:=F w mg fa _ (hY w _ Y) G.T.g vW;exact Vg (hY w _ Y) (hL w) (hT w _ Y) G.T.g G.T.b G.T.builtins G.T.nolimit G.T.bmain hg D9 hints (adw hlen sD) hr hF hb (λH hS=>qU w H a ns hlen hS) λH e s'=>Hz w H bN e s'
end L2
namespace L2.Ev
open PySem PySem.Spec PySem.W PyProof.Rows
structure Z where
 P:Program
 w:World
 K:Frag
 mg:Str->Option Value
 base:Heap
structure En(L:Ls)(z:Z):Prop where
 b:∀{x:Str},L.bt.contains x=true->z.mg x=none
 i:∀{x:Str}{n:Int},L.gi.lookup x=some n->∃t,z.mg x=some (.int n t)
 t:∀{x:Str}{l:List Str},L.tp.lookup x=some l->∃a,z.mg x=some (.ref a)/\AI z.K a l
 c:∀c:Str,L.cl.contains c=true->ClsAt z.K c (cA z.K c)
 m:∀{c:Str},L.cl.contains c=true->z.mg c=some (.ref (cA z.K c))
 n:∀{c a:Str},L.na.contains (c,a)=true->iC z.K (cA z.K c) a
 ni:L.ni=true->pU z.K=true
def oE(s:Stmt):List Str:=(lW s).args.map (·.arg)
theorem MN:∀{l:List Str}{us:List Value},us.map strOf=l.map some->aQ (l.map V.str) us
 |[],[],_=>.nil
 |[],_::_,e=>nomatch e
 |_::_,[],e=>nomatch e
 |a::l,u::us,e=>by
  obtain⟨e1,e2⟩:=List.cons.inj e;refine .cons ?_ (MN e2);cases u<;>cases e1
  exact⟨_,rfl⟩
theorem aae{K:Frag}(q:GQ K x l=true):∃a,nsIn K mainGlobals x=some (some (.ref a))/\AI K a l:=by
 unfold GQ at q
 split at q
 .rename_i a h;refine⟨a,h,?_⟩
  split at q
  .rename_i c au n sl h1;simp only[aaY,afG,afH] at q;exact⟨_,au,_,h1,q.1.1,rfl,rfl,q.1.2,MN q.2⟩
  .cases q
 .cases q
theorem HV{β:Type}{y:β}:∀{l:List (Str×β)},l.lookup x=some y->(x,y)∈l
 |[],e=>nomatch e
 |(a,b)::l,e=>by
  rw[adG] at e
  by_cases h:(x==a)=true
  .rw[h] at e;cases e;rw[eq_of_beq h];exact .head _
  .rw[show(x==a)=false by simpa using h] at e;exact .tail _ (HV e)
theorem T7{L:Ls}{P:Program}{w:World}{K:Frag}{h base:Heap}{mg:Str->Option Value}(X:K.In h)(G:h.Ns mainGlobals mg)(q:tE L K=true):En L ⟨P,w,K,mg,base⟩:=by
 unfold tE at q;simp only[aaY,ac4,afG] at q;obtain⟨⟨⟨⟨⟨qi,q1⟩,q2⟩,q3⟩,q4⟩,q5⟩:=q;have cl:∀c:Str,L.cl.contains c=true->vR K c=true:=λc h=>q4 c (ad3.mp h)
 refine⟨λh=>mg_none_of X G (q1 _ (ad3.mp h)),λ{x n} h=>?_,λh=>?_,λc h=>?_,λ{c} h=>?_,λh=>q5 _ (ad3.mp h),λh=>?_⟩
 .have:=q2 _ (HV h);unfold Nn at this
  split at this
  .rename_i m t e;cases eq_of_beq this;exact⟨t,mg_of X G e⟩
  .cases this
 .obtain⟨a,e,t⟩:=aae (q3 _ (HV h));exact⟨a,mg_of X G e,t⟩
 .have:=cl c h;unfold vR at this;simp only[aaY,afG] at this;obtain⟨⟨⟨⟨⟨⟨h1,h2⟩,h3⟩,h4⟩,h5⟩,_⟩,_⟩:=this;exact⟨h1,⟨h2,h3,h4,h5⟩⟩
 .have:=cl c h;unfold vR at this;simp only[aaY,afG] at this;exact mg_of X G this.1.1.1.1.1.1
 .rw[h] at qi;exact qi
theorem Tu{L:Ls}{K:Frag}(q:tE L K=true)(h:L.cl.contains c=true):makesIn K (cA K c)=true/\keepIn K (.ref (cA K c))=true:=by
 unfold tE at q;simp only[aaY,ac4] at q;have:=q.1.2 c (ad3.mp h);unfold vR at this;simp only[aaY] at this;exact⟨this.1.2,this.2⟩
theorem KP{K:Frag}{v:Option (Option Value)}(e:Cd K q v=some (fnOf x q (lW s) (g_ s) (cR s) .none .none .none .none none .none .none)):∃f,v=some (some (.ref f))/\isFn K (.ref f)=true/\GL K x q s f:=by
 unfold Cd at e
 split at e
 .rename_i a
  split at e
  .rename_i oc od fd sl h;obtain⟨hc,e⟩:=ci e;simp only[aaY] at hc;refine⟨a,rfl,hc.2,?_⟩;obtain⟨n,qn,pa,bo,sc,gl,cl,df,kw,dc,pm,an,cd,ct,bi⟩:=fd;unfold Ql at e;injection e with e;injection e with e1 e2 e3 e4 e5 e6 e7 e8 e9 e10 NQ e12 e13 e14 e15;subst e1 e2 e3 e4 e5 e6 e7 e8 e15;exact⟨_,_,_,_,_,_,_,_,_,h,hc.1.1,hc.1.2⟩
  .cases e
 .cases e
theorem JP{K:Frag}{tab:List (Str×Stmt)}{i:Nat}{p:Str×Stmt}(t:tab.map (look K)=tab.map want)(e:tab[i]? = some p):look K p=want p:=by
 have:=congrArg (·[i]?) t;simp only[ab3,e,Option.map_some] at this;exact abS this
theorem Mw{K:Frag}{tab:List (Str×Stmt)}(i:Nat){s:Stmt}(t:tab.map (look K)=tab.map want)(e:tab[i]? = some (Str.empty,s)):HD K (jx s) s:=by
 obtain⟨f,h,_,g⟩:=KP (JP t e);exact⟨f,h,g⟩
theorem J4{K:Frag}{tab:List (Str×Stmt)}(i:Nat){c:Str}{s:Stmt}(t:tab.map (look K)=tab.map want)(e:tab[i]? = some (c,s))(n:(c==Str.empty)=false):GM K (cA K c) (jx s) (jL c s) s:=by
 obtain⟨f,h,i,g⟩:=KP (JP t e);refine⟨f,?_,i,g⟩;rw[n] at h;exact h
section
variable(z:Z)(k:Nat)(c:Str)(s:Stmt)(sp:Frag->Sp)(cm:Bool:=true)
def Z.D:Prop:=∀(f:Addr) (fd:FuncData),jI z.K (jx s) (jL c s) s f fd->cI z.P z.w z.K z.mg z.base c_ k f fd (oE s) (sp z.K) cm
def Z.N:Prop:=FN z.P z.w z.K z.mg z.base c_ k (jx s) (oE s) (sp z.K) cm
def Z.M:Prop:=MT z.P z.w z.K z.mg z.base c_ k (cA z.K c) (jx s) (oE s) (sp z.K) cm
def Z.I:Prop:=MI z.P z.w z.K z.mg z.base c_ k (cA z.K c) (oE s) (sp z.K) cm
end
section
variable{P:Program}{w:World}{K:Frag}{mg:Str->Option Value}{base:Heap}{CX:j8}{k:Nat}{C:Addr}{x:Str}{ps:List Str}{sp:Sp}{cm:Bool}
theorem FN.G(W:FN P w K mg base CX k x ps sp cm):cI P w K mg base CX k W.choose W.choose_spec.choose ps sp cm:=W.choose_spec.choose_spec.1
theorem FN.m(W:FN P w K mg base CX k x ps sp cm):mg x=some (.ref W.choose):=W.choose_spec.choose_spec.2.1
theorem FN.kp(W:FN P w K mg base CX k x ps sp cm):keepIn K (.ref W.choose)=true:=W.choose_spec.choose_spec.2.2.1
theorem FN.b(W:FN P w K mg base CX k x ps sp cm):Binds K W.choose_spec.choose ps []:=W.choose_spec.choose_spec.2.2.2
theorem MT.G(W:MT P w K mg base CX k C x ps sp cm):cI P w K mg base CX k W.choose W.choose_spec.choose ps sp cm:=W.choose_spec.choose_spec.1
theorem MT.b(W:MT P w K mg base CX k C x ps sp cm):Binds K W.choose_spec.choose ps []:=W.choose_spec.choose_spec.2.1
theorem MT.t(W:MT P w K mg base CX k C x ps sp cm):lT K C x W.choose:=W.choose_spec.choose_spec.2.2
theorem MI.G(W:MI P w K mg base CX k C ps sp cm):cI P w K mg base CX k W.choose W.choose_spec.choose ps sp cm:=W.choose_spec.choose_spec.1
theorem MI.b(W:MI P w K mg base CX k C ps sp cm):Binds K W.choose_spec.choose ps []:=W.choose_spec.choose_spec.2.1
theorem MI.M(W:MI P w K mg base CX k C ps sp cm):Mk K C W.choose:=W.choose_spec.choose_spec.2.2
end
def kK(s:Stmt):List Str:=(cR s).names.filterMap λy=>if y.2 == .local||y.2 == .cell then some y.1 else none
def BZ(n m:Nat)(s:Stmt):Prop:=pI (kK s) (oE s) (cR s)/\(oE s).length=n/\(kK s).length=m/\n<=m
section
variable{z:Z}{k n m:Nat}{c:Str}{s:Stmt}{b:SF}{x0 x1:Str}
theorem Z.oF(S:BZ n m s)(h:∀(f:Addr) (fd:FuncData) (aR:{c:Value // c=fd.code}) (A:Around) (o:List Env) (t:Shared) (H:Hp) (E:XK),bh k (A.deeper (envOfC (jL c s) (cR s) t.heap.objs.size f aR)) cm->(kK s).Nodup->FS (iW c_ z.P z.w z.K z.mg z.base (kK s) (jL c s) (cR s) f aR A o t H E cm).gP (g_ s) b):
  z.D (k+1) c s (bf · (bB n m b)) cm:=by
 obtain⟨S,rfl,rfl,_⟩:=S;exact λ_ _ F=>Mc F S λaR A o t H E hr=>h _ _ aR A o t H E hr S.nd
theorem Z.oQ(S:BZ n m s)(h0:(kK s)[0]? = some x0)(h:∀(f:Addr) (aR:Value) (A:Around) (o:List Env) (t:Shared) (H:Hp) (E:XK),bh k (A.deeper (envOfC (jL c s) (cR s) t.heap.objs.size f aR))->(kK s).Nodup->HJ im ((iW c_ z.P z.w z.K z.mg z.base (kK s) (jL c s) (cR s) f aR A o t H E).gP.ki [x0]) (g_ s) b):
  z.D (k+1) c s (DG im · (runM n m b)):=by
 obtain⟨S,rfl,rfl,l⟩:=S;exact λ_ _ F=>adF F S h0 λaR A o t H E hr=>h _ aR A o t H E hr S.nd
theorem Z.oM(S:BZ n m s)(h0:(kK s)[0]? = some x0)(h:∀(f:Addr) (aR:Value) (A:Around) (o:List Env) (t:Shared) (H:Hp) (E:XK),bh k (A.deeper (envOfC (jL c s) (cR s) t.heap.objs.size f aR))->(kK s).Nodup->HJ true ((iW c_ z.P z.w z.K z.mg z.base (kK s) (jL c s) (cR s) f aR A o t H E).gP.ki [x0]) (g_ s) b):
  z.D (k+1) c s (dH · (runM n m b)):=λ_ _ F=>(Z.oQ S h0 h _ _ F).imp RS
end
section
variable{P:Program}{w:World}{K:Frag}{h:Heap}{mg:Str->Option Value}{base:Heap}{k:Nat}{c:Str}{s:Stmt}{sp:Frag->Sp}{cm:Bool}{tab:List (Str×Stmt)}{L:Ls}
theorem eB(X:K.In h)(G:h.Ns mainGlobals mg)(t:tab.map (look K)=tab.map want)(i:Nat)(o:Z.D ⟨P,w,K,mg,base⟩ k Str.empty s sp cm)(b:BA (jx s) (jx s) s (oE s):=by walk_at "ba")(e:tab[i]? = some (Str.empty,s):=by rfl):Z.N ⟨P,w,K,mg,base⟩ k s sp cm:=fnW X G (Mw i t e) (λF=>o _ _ F) b
theorem cV(t:tab.map (look K)=tab.map want)(i:Nat)(o:Z.D ⟨P,w,K,mg,base⟩ k c s sp cm)(b:BA (jx s) (jL c s) s (oE s):=by walk_at "ba")(e:tab[i]? = some (c,s):=by rfl)(n:(c==Str.empty)=false:=by rfl):Z.M ⟨P,w,K,mg,base⟩ k c s sp cm:=TH (J4 i t e n) (λF=>o _ _ F) b
theorem Fi(t:tab.map (look K)=tab.map want)(q:tE L K=true)(i:Nat)(o:Z.D ⟨P,w,K,mg,base⟩ k c s sp cm)(b:BA (jx s) (jL c s) s (oE s):=by walk_at "ba")(e:tab[i]? = some (c,s):=by rfl)(n:(c==Str.empty)=false:=by rfl)(y:jx s="__init__":=by rfl)(v:L.cl.contains c=true:=by rfl):Z.I ⟨P,w,K,mg,base⟩ k c s sp cm:=by
 have l:=J4 i t e n;obtain⟨a,b'⟩:=Tu q v;obtain⟨f,e1,i,l⟩:=l;obtain⟨kp,fd,F⟩:=EC l;rw[y] at e1;exact⟨f,fd,o _ _ F,F.binds b,⟨a,e1,i,b'⟩⟩
end
section
variable{x q:Str}{st:Stmt}{ps:List Str}
theorem ba_n(n:Nat)(h:ps.length=n)(e:∀(kV doc pm:Value) (an:Option Addr) (aR ct:Value) (f:Fin n->Value),bindArgs (fnOf x q (lW st) (g_ st) (cR st) .none kV doc pm an aR ct) ⟨List.ofFn f,[]⟩=pure (ps.zip (List.ofFn f))):BA x q st ps:=λkV doc pm an aR ct us hl=>by
 obtain rfl:=hl.trans h;have:=e kV doc pm an aR ct λi=>us[(i:Nat)]
 rwa [List.ofFn_getElem] at this
end
section
variable{X:Cx}{pos:Pos}
theorem o9{x:Str}{n:Int}(h:∃t,X.mg x=some (.int n t))(hg:GD X x:=by exact⟨rfl,by decide⟩):FP X (.Name x pos) (eC (.int n)):=let⟨_,h⟩:=h;Th h hg
theorem K4{x:Str}{ys:List Str}(h:∃t,X.mg x=some (.ref t)/\AI X.K t ys)(hg:GD X x:=by exact⟨rfl,by decide⟩):FP X (.Name x pos) (eC (.tup (ys.map D.str))):=let⟨_,h,t⟩:=h;Vi h t hg
end
theorem g7{X:Cx}{sc:Scope}{M:List Str}{js:List (Option Nat)}(h3:X.env.kindOf=λx=>X.env.scope.names.lookup x)(h:wH X.N X.env.scope sc M js=true):l9 X M js sc:=RU rfl rfl h3 h
section
variable{A:Z->Prop}{k:Nat}{c:Str}{s:Stmt}{cm:Bool}
noncomputable abbrev wF{F:List D->Option D}(_:∀z,A z->z.D k c s (bf · F) cm)(z:Z):Prop:=z.N k s (bf · F) cm
noncomputable abbrev wG{F:List D->Option D}(_:∀z,A z->z.D k c s (bf · F) cm)(z:Z):Prop:=z.M k c s (bf · F) cm
noncomputable abbrev wO{F:MF}(_:∀z,A z->z.D k c s (dH · F) cm)(z:Z):Prop:=z.M k c s (dH · F) cm
noncomputable abbrev wI{F:MF}(_:∀z,A z->z.D k c s (dH · F) cm)(z:Z):Prop:=z.I k c s (dH · F) cm
noncomputable abbrev fF{F:List D->Option D}(_:∀z,A z->z.D k c s (bf · F) cm):List D->Option D:=F
noncomputable abbrev fO{F:MF}(_:∀z,A z->z.D k c s (dH · F) cm):MF:=F
end
end L2.Ev
namespace L2.Ev
open PySem PySem.Spec PyProof.Rows
noncomputable abbrev JF:=List D->Option (D×List D)
noncomputable def mP(J:List Nat):Nat->List D->aA
 |_,[]=>[]
 |i,d::r=>some (d,if J.contains i=true then Tag.own else Tag.sh [])::mP J (i+1) r
def mT(J:List Nat)(n N:Nat)(b:SF):JF:=λds=>if ds.length=n then(match b (mP J 0 ds++List.replicate (N - ds.length) none) with
 |some (.rt (.tup (r::es)))=>some (r,es)
 |some (.nx ρ)=>(j6 J ρ).map λes=>(.aD,es)
 |_=>none) else none
structure aau(K:PySem.W.Frag)(H:Hp)(J:List Nat)(C:List Addr)(y:Addr->Option Nat)(ds:List D)(vs:List V):Prop where
 ln:ds.length=vs.length
 sl:∀i d,ds[i]? = some d->∃v f,vs[i]? = some v/\Rep K H d v f/\(i∈J->f.Nodup/\∀a∈f,y a=some i)/\(i∉J->∀a∈f,y a=none)
 dm:∀a j,y a=some j->a∈C
 mu:∀a∈C,∃o,H a=some o/\iS o=true
def nI(J:List Nat)(K:PySem.W.Frag)(G:JF):Sp:=λvs H Q _=>∃ds C y r es,aau K H J C y ds vs/\G ds=some (r,es)/\
 ∀H' v cL (nf:Nat->List Addr),aT H H'->(∀b o,b∉C->H b=some o->H' b=some o)->(∀k l a,a∈nf k->a∈nf l->k=l)->
  (∀k i,J[k]? = some i->∃d u,es[k]? = some d/\vs[i]? = some u/\Rep K H' d u (nf k)/\(nf k).Nodup/\∀a∈nf k,a∈C\/H a=none)->
  Rep K H' r v cL->cL.Nodup->(∀b∈cL,(b∈C\/H b=none)/\∀k,b∉nf k)->es.length=J.length->Q v H'
theorem O7{J:List Nat}:∀{ds:List D}{k i:Nat},(mP J k ds)[i]? = (ds[i]?).map λd=>some (d,if J.contains (k+i)=true then Tag.own else Tag.sh [])
 |[],k,i=>by simp[mP]
 |d::ds,k,0=>rfl
 |d::ds,k,i+1=>by
  show(mP J (k+1) ds)[i]? = _;rw[O7,Nat.add_right_comm];rfl
theorem AJ{J:List Nat}:∀{ds:List D}{k:Nat},(mP J k ds).length=ds.length
 |[],_=>rfl
 |d::ds,k=>by show(mP J (k+1) ds).length+1=_;rw[AJ];rfl
theorem Mq:∀{J:List Nat}{ρ:aA}{es:List D},j6 J ρ=some es->es.length=J.length/\∀(k i:Nat),J[k]? = some i->∃d,es[k]? = some d/\ρ[i]? = some (some (d,Tag.own))
 |[],ρ,es,h=>by cases h;exact⟨rfl,λk i e=>by simp at e⟩
 |j::J,ρ,es,h=>by
  unfold j6 at h
  split at h
  .rename_i d e;obtain⟨cU,h',rfl⟩:=ab9.mp h;obtain⟨l,c⟩:=Mq h';refine⟨by rw[abP,abP,l],λk i e2=>?_⟩;cases k with
   |zero=>cases e2;exact⟨d,rfl,e⟩
   |succ k=>exact c k i e2
  .cases h
noncomputable def K9(N xs:List Str)(J:List Nat):Bool:=J.all λi=>match N[i]? with
 |some x=>x==("self":Str)||(!(xs.contains ("self":Str))&&!(!(xs.contains x)))
 |none=>false
section
variable{P:Program}{w:World}{K:PySem.W.Frag}{mg:Str->Option Value}{base:Heap}
theorem R5{J:List Nat}{xs:List Str}{x qual:Str}{st:Stmt}{f:Addr}{fd:FuncData}{N ps:List Str}{k:Nat}{b:SF}(F:jI K x qual st f fd)(S:pI N ps (cR st))(h0:K9 N xs J=true)(hJ:J.Nodup)(qY:ps.length<=N.length)
  (hb:∀(aR:Value) (A:Around) (outer:List Env) (s:Shared) (H:Hp) (E:XK),bh k (A.deeper (envOfC qual (cR st) s.heap.objs.size f aR))->FJ J false ((iW c_ P w K mg base N qual (cR st) f aR A outer s H E).gP.ki xs) (g_ st) b) :
  cI P w K mg base c_ (k+1) f fd ps (nI J K (mT J ps.length N.length b)):=by
 have rQ:∀{ds:List D}{r:D×List D},mT J ps.length N.length b ds=some r->ds.length=ps.length:=λ{ds r} e=>by
  unfold mT at e
  split at e
  .assumption
  .cases e
 refine F.ok S (λvs H Q E h=>?_) λaR A outer s H vs Q E hr h=>?_<;>obtain⟨ds,C,y,r,es,a,e,q⟩:=h
 .rw[<- a.ln,rQ e]
 .obtain⟨t,pt,sd⟩:=hb aR A outer s H E hr;refine⟨t,pt.ki rfl,?_⟩;have hl:=rQ e;have ok:Ok K H C y [] (mP J 0 ds++List.replicate (N.length-ds.length) none) (start N vs) H:=by
   unfold start;refine⟨λi d t e=>?_,(λp m=>by cases m),(λa' j e=>⟨let⟨o,w,_⟩:=a.mu a' (a.dm a' j e);⟨o,w⟩,.inr (a.dm a' j e)⟩),(λa o e _=>e),?_⟩
   .by_cases hi:i<ds.length
    .rw[adz (by rw[AJ];exact hi),O7,aaR hi] at e;cases e;obtain⟨v,g,hv,rv,h1,h2⟩:=a.sl i _ (aaR hi);refine⟨v,g,(adz (by rw[List.length_map,<- a.ln];exact hi)).trans (by rw[ab3,hv];rfl),rv,?_⟩;rw[afR]
     by_cases hj:i∈J
     .rw[if_pos (ad3.mpr hj)];exact h1 hj
     .rw[if_neg λq=>hj (ad3.mp q)];intro a' m j e;rw[h2 hj a' m] at e;cases e
    .rw[aed (by rw[AJ];lia),afw] at e
     split at e<;>cases e
   .simp only[abb,List.length_map,List.length_replicate,AJ];have:=a.ln
    lia
  have fin:∀{z:Addr->Option Nat}{ρ:aA}{σ:St}{H':Hp}{v:V}{cL:List Addr},Ok K H C z [] ρ σ H'->j6 J ρ=some es->Kp ((iW c_ P w K mg base N qual (cR st) f aR A outer s H E).gP.ki xs) (start N vs) σ->Rep K H' r v cL->cL.Nodup->(∀b∈cL,(H b=none\/b∈C)/\∀i∈J,z b≠some i)->Q v H':=by
   intro z ρ σ H' v cL aX h1 kp rr yi qF;obtain⟨le,at_⟩:=Mq h1;have ex:∀k:Nat,∃g:List Addr,(∀i,J[k]? = some i->∃d u,es[k]? = some d/\vs[i]? = some u/\Rep K H' d u g/\g.Nodup/\(∀a∈g,z a=some i))/\(J[k]? = none->g=[]):=λk=>by
    cases hk:J[k]? with
    |none=>exact⟨[],(λi e=>nomatch e),λ_=>rfl⟩
    |some i=>
     obtain⟨d,e1,e2⟩:=at_ k i hk;obtain⟨u,g,hs,r1,zz⟩:=aX.sl i d .own e2;refine⟨g,λi' e'=>?_,λe'=>nomatch e'⟩;cases e';refine⟨d,u,e1,?_,r1,zz.1,zz.2⟩;have hi:=ac4.mp h0 i (adD hk);cases hN:N[i]? with
     |none=>rw[hN] at hi;cases hi
     |some x=>
      rw[hN] at hi;have hk:=kp i x hN hi;rw[hs] at hk;have il:i<vs.length:=by
       by_cases hv:i<vs.length
       .exact hv
       .exfalso
        unfold start at hk;rw[aed (by rw[List.length_map];lia),afw] at hk
        split at hk<;>cases hk
      unfold start at hk;rw[adz (by rw[List.length_map];exact il),ab3] at hk;cases hv:vs[i]? with
      |none=>rw[hv] at hk;cases hk
      |some u'=>rw[hv] at hk;cases hk;rfl
   obtain⟨nf,hn⟩:=Classical.axiomOfChoice ex;have zk:∀k a,a∈nf k->∃i,J[k]? = some i/\z a=some i:=λk a m=>by
    cases hk:J[k]? with
    |none=>rw[(hn k).2 hk] at m;cases m
    |some i=>obtain⟨_,_,_,_,_,_,c⟩:=(hn k).1 i hk;exact⟨i,rfl,c a m⟩
   have bV:∀{c:Addr}{o:HO},H c=some o->iS o=false->H' c=some o:=λ{c o} e' mo=>aX.en c _ e' λm=>by
    obtain⟨o',w,lE⟩:=a.mu c m;rw[e'] at w;cases w;rw[mo] at lE;cases lE
   refine q H' v cL nf ⟨λc xs e'=>bV e' rfl,λc o u e'=>bV e' rfl,λc φ e'=>bV e' rfl⟩ (λc o n e'=>aX.en c o e' n) (λk l a m m'=>?_) (λk i e=>?_) rr yi (λc m=>⟨(qF c m).1.symm,λk m'=>?_⟩) le
   .obtain⟨i,h1,h2⟩:=zk k a m;obtain⟨j,h3,h4⟩:=zk l a m';rw[h2] at h4;cases h4;obtain⟨lk,ek⟩:=abh.mp h1;obtain⟨ll,el⟩:=abh.mp h3;exact(List.getElem_inj hJ).mp (ek.trans el.symm)
   .obtain⟨d,u,a1,a2,a3,a4,a5⟩:=(hn k).1 i e;exact⟨d,u,a1,a2,a3,a4,λa m=>((aX.zd a i (a5 a m)).2).symm⟩
   .obtain⟨i,h1,h2⟩:=zk k c m';exact(qF c m).2 i (adD h1) h2
  unfold mT at e;rw[if_pos hl] at e;cases ho:b (mP J 0 ds++List.replicate (N.length-ds.length) none) with
  |none=>rw[ho] at e;cases e
  |some o=>
   rw[ho] at e;refine sd ok ho ?_;cases o with
   |rt p=>
    have hp:p=.tup (r::es):=by
     split at e<;>rename_i hh
     .cases e;cases hh;rfl
     .cases hh
     .cases e
    exact⟨r,es,hp,λz ρ σ H' v cL aX h1 kp rr nd fr _=>fin aX h1 kp rr nd fr⟩
   |nx ρ'=>
    obtain⟨cU,h1,e2⟩:=ab9.mp e;cases e2;exact λz σ H' aX kp=>fin aX h1 kp .aD ace λb m=>nomatch m
   |bk _=>cases e
   |ct _=>cases e
   |er _ _ _=>cases e
end
def lZ:aA->List Nat->List D->aA
 |ρ,j::js,e::es=>lZ (bP ρ j e) js es
 |ρ,_,_=>ρ
theorem Ny:∀{js:List Nat}{es:List D}{ρ:aA},(lZ ρ js es).length=ρ.length
 |[],_,_=>rfl
 |_::_,[],_=>rfl
 |j::js,e::es,ρ=>by show(lZ (bP ρ j e) js es).length=_;rw[Ny,BO]
theorem EX:∀{js:List Nat}{es:List D}{ρ:aA}{j:Nat}{d:D}{t:Tag},js.length=es.length->j∉js->(lZ ρ js es)[j]? = some (some (d,t))->ρ[j]? = some (some (d,t))/\∀o,t=.sh o->∀i∈js,i∉o
 |[],[],_,_,_,_,_,_,h=>⟨h,λ_ _ _ m=>nomatch m⟩
 |i::js,e::es,ρ,j,d,t,l,n,h=>by
  obtain⟨h1,h2⟩:=EX (by simpa using l) (λm=>n (aaa _ m)) h;obtain⟨h3,h4⟩:=Dy (λq=>n (by rw[q];exact aar)) h1;refine⟨h3,λo ho k m=>?_⟩;rcases aa3.mp m with rfl|m
  .exact h4.resolve_left (λq=>q) o ho
  .exact h2 o ho k m
theorem QO:∀{js:List Nat}{es:List D}{ρ:aA}{j:Nat}{d:D},j∉js->ρ[j]? = some (some (d,.own))->(lZ ρ js es)[j]? = some (some (d,.own))
 |[],_,_,_,_,_,h=>h
 |_::_,[],_,_,_,_,h=>h
 | i::js,e::es,ρ,j,d,n,h=>QO (ρ:=bP ρ i e) (λm=>n (aaa _ m)) (by
  unfold bP;rw[acM λq=>n (by rw[q];exact aar),ab3,h];rfl)
theorem NP:∀{js:List Nat}{es:List D}{ρ:aA}{k j:Nat}{d:D},js.Nodup->js[k]? = some j->es[k]? = some d->j<ρ.length->(lZ ρ js es)[j]? = some (some (d,.own))
 |[],_,_,_,_,_,_,h,_,_=>by simp at h
 |_::_,[],_,_,_,_,_,_,h,_=>by simp at h
 |i::js,e::es,ρ,0,j,d,n,h1,h2,l=>by
  cases h1;cases h2;exact QO (js:=js) (abv.mp n).1 (Cp (aaR l))
 |i::js,e::es,ρ,k+1,j,d,n,h1,h2,l=>NP (ρ:=bP ρ i e) (abv.mp n).2 h1 h2 (by rw[BO];exact l)
section
variable{K:PySem.W.Frag}{H0:Hp}{S:List Addr}{z:Addr->Option Nat}{aq:List b7}{ρ:aA}{σ:St}{H H':Hp}
theorem Ok.adB{js:List Nat}{es:List D}{C:List Addr}{nf:Nat->List Addr}(ok:Ok K H0 S z aq ρ σ H)(nd:js.Nodup)(le:es.length=js.length)(old:∀j∈js,∃d,ρ[j]? = some (some (d,.own)))(im:aT H H')(hz:∀a∈C,∃j∈js,z a=some j)
  (keep:∀b o,b∉C->H b=some o->H' b=some o) (ap:∀k l a,a∈nf k->a∈nf l->k=l) (new:∀k j,js[k]? = some j->∃d v,es[k]? = some d/\σ[j]? = some (some v)/\Rep K H' d v (nf k)/\(nf k).Nodup/\∀a∈nf k,a∈C\/H a=none):∃z',Ok K H0 S z' aq (lZ ρ js es) σ H':=by
 classical
 let N:Addr->Prop:=λa=>∃k,k<js.length/\a∈nf k
 let z':Addr->Option Nat:=λa=>if h:N a then js[Classical.choose h]? else if ∃j∈js,z a=some j then none else z a
 have z1:∀{a k j},js[k]? = some j->a∈nf k->z' a=some j:=λ{a k j} e m=>by
  have h:N a:=⟨k,(abh.mp e).1,m⟩
  show(if h:N a then js[Classical.choose h]? else _)=_;rw[dif_pos h,ap _ k a (Classical.choose_spec h).2 m,e]
 have z2:∀{a j},z' a=some j->(∃k,js[k]? = some j/\a∈nf k)\/(z a=some j/\j∉js):=λ{a j} e=>by
  have e:(if h:N a then js[Classical.choose h]? else if ∃j∈js,z a=some j then none else z a)=some j:=e
  by_cases h:N a
  .rw[dif_pos h] at e;exact .inl ⟨_,e,(Classical.choose_spec h).2⟩
  .rw[dif_neg h] at e
   by_cases h2:∃j∈js,z a=some j
   .rw[if_pos h2] at e;cases e
   .rw[if_neg h2] at e;exact .inr ⟨e,λm=>h2 ⟨j,m,e⟩⟩
 have at_:∀{k j},js[k]? = some j->j<ρ.length:=λ{k j} e=>let⟨_,h⟩:=old j (adD e);(abh.mp h).1
 have nC:∀{a},(∀j∈js,z a≠some j)->a∉C:=λh m=>let⟨j,mj,e⟩:=hz _ m;h j mj e
 have fr:∀{d v fp},Rep K H d v fp->(∀a∈fp,∀j∈js,z a≠some j)->Rep K H' d v fp:=λr h=>r.frame (λa m=>by
  obtain⟨o,w,_⟩:=r.cG a m;rw[keep a o (nC (h a m)) w,w]) im
 have DP:∀{a k},k<js.length->a∈nf k->a∈C\/H a=none:=λ{a k} l m=>let⟨_,_,_,_,_,_,h⟩:=new k _ (aaR l);h a m
 refine⟨z',λi d t e=>?_,λp m=>?_,λa j e=>?_,λa o e n=>?_,Ny.trans ok.ln⟩
 .by_cases hi:i∈js
  .obtain⟨k,hk⟩:=afL hi;obtain⟨d',v,e1,e2,e3,e4,_⟩:=new k i hk;rw[NP nd hk e1 (at_ hk)] at e;cases e;exact⟨v,nf k,e2,e3,e4,λa m=>z1 hk m⟩
  .obtain⟨e1,e2⟩:=EX le.symm hi e;obtain⟨v,fp,hs,r,zz⟩:=ok.sl i d t e1;have hn:∀a∈fp,∀j∈js,z a≠some j:=λa m j mj q=>by
    cases t with
    |sh o=>exact e2 o rfl j mj (zz a m j q)
    |own=>have:=zz.2 a m;rw[q] at this;cases this;exact hi mj
    |lk=>have:=zz.2 a m;rw[q] at this;cases this;exact hi mj
   have hN:∀a∈fp,∀j,z' a=some j->z a=some j:=λa m j q=>by
    rcases z2 q with⟨k,hk,mk⟩|⟨q,_⟩
    .rcases DP (abh.mp hk).1 mk with c|c
     .exact(nC (hn a m) c).elim
     .obtain⟨o,w,_⟩:=r.cG a m;rw[c] at w;cases w
    .exact q
   have sS:∀a∈fp,z' a=z a:=λa m=>by
    have h1:¬N a:=by
     rintro⟨k,l,mk⟩
     rcases DP l mk with c|c
     .exact nC (hn a m) c
     .obtain⟨o,w,_⟩:=r.cG a m;rw[c] at w;cases w
    show(if h:N a then js[Classical.choose h]? else if ∃j∈js,z a=some j then none else z a)=_;rw[dif_neg h1,if_neg λ⟨j,mj,q⟩=>hn a m j mj q]
   refine⟨v,fp,hs,fr r hn,?_⟩;cases t with
   |sh o=>exact λa m j q=>zz a m j (hN a m j q)
   |own=>exact⟨zz.1,λa m=>(sS a m).trans (zz.2 a m)⟩
   |lk=>exact⟨zz.1,λa m=>(sS a m).trans (zz.2 a m)⟩
 .obtain⟨r,h⟩:=ok.hl p m;have hn:∀a∈p.fp,∀j∈js,z a≠some j:=λa ma j mj q=>let⟨d,e⟩:=old j mj;(h a ma j q).2 d e
  refine⟨fr r hn,λa ma j q=>?_⟩;rcases z2 q with⟨k,hk,mk⟩|⟨q,nj⟩
  .rcases DP (abh.mp hk).1 mk with c|c
   .exact(nC (hn a ma) c).elim
   .obtain⟨o,w,_⟩:=r.cG a ma;rw[c] at w;cases w
  .exact⟨(h a ma j q).1,λd e=>(h a ma j q).2 d (EX le.symm nj e).1⟩
 .rcases z2 e with⟨k,hk,mk⟩|⟨q,nj⟩
  .obtain⟨d',v,e1,e2,e3,e4,e5⟩:=new k j hk;refine⟨let⟨o,w,_⟩:=e3.cG a mk;⟨o,w⟩,?_⟩;rcases e5 a mk with c|c
   .obtain⟨j,_,q⟩:=hz a c;exact(ok.zd a j q).2
   .cases h0:H0 a with
    |none=>exact .inl rfl
    |some o=>
     by_cases hS:a∈S
     .exact .inr hS
     .rw[ok.en a o h0 hS] at c;cases c
  .obtain⟨⟨o,w⟩,y⟩:=ok.zd a j q;exact⟨⟨o,keep a o (nC λi mi q'=>by rw[q] at q';cases q';exact nj mi) w⟩,y⟩
 .refine keep a o (λc=>?_) (ok.en a o e n);obtain⟨j,_,q⟩:=hz a c;rcases(ok.zd a j q).2 with w|w
  .rw[e] at w;cases w
  .exact n w
end
structure Ru(K:PySem.W.Frag)(z:Addr->Option Nat)(H H':Hp)(ρ:aA)(σ:St)(sl:List (Option Nat))(ps:List (D×Tag))(vs:List V)(C:List Addr):Prop where
 ln:ps.length=vs.length
 at_:∀(i:Nat) (p:D×Tag),ps[i]? = some p->∃v f s,vs[i]? = some v/\sl[i]? = some s/\Rep K H' p.1 v f/\(∀j,s=some j->σ[j]? = some (some v)/\(∃d,ρ[j]? = some (some (d,.own)))/\f.Nodup/\∀a∈f,z a=some j/\a∈C)/\(s=none->cN z H p.2 f)
 cc:∀a∈C,∃(i j:Nat),sl[i]? = some (some j)/\z a=some j/\∃o,H' a=some o/\iS o=true
def FB(X:Cx)(sl:List (Option Nat))(es:List Expr)(g:AF):Prop:=∃t,PA X es t/\∀{H0:Hp}{S:List Addr}{z:Addr->Option Nat}{aq:List b7}{ρ:aA}{σ:St}{H:Hp}{Q:List V->Hp->Prop}{ps:List (D×Tag)},
 Ok X.K H0 S z aq ρ σ H->g ρ=some ps->(∀H' vs C,aH H H'->Ru X.K z H H' ρ σ sl ps vs C->Q vs H')->t σ H Q
noncomputable def G4(i:Nat)(g:AF):AF:=λρ=>match ρ[i]?,g ρ with
 |some (some (d,Tag.own)),some ps=>some ((d,.sh [i])::ps)
 |_,_=>none
section
variable{X:Cx}{e:Expr}{es:List Expr}{g:AF}{sl:List (Option Nat)}
theorem DR:FB X [] [] aJ:=⟨_,fH,@λ_ _ _ _ _ _ H _ _ _ e k=>by cases e;exact k H [] [] (.refl _) ⟨rfl,λi p e=>by simp at e,λa m=>nomatch m⟩⟩
theorem vU(i:Nat){x:Str}{p1:Pos}(hr:FB X sl es g)(va:VA X i x:=by walk_at "va")(hs:starEach (.Name x p1::es) X.env=(false,eval (.Name x p1) X.env)::starEach es X.env:=by rfl):FB X (some i::sl) (.Name x p1::es) (G4 i g):=by
 obtain⟨t,p,q⟩:=hr;refine⟨_,dW va.pe p hs,@λH0 S z aq ρ σ H Q ps ok e k=>?_⟩;unfold G4 at e
 split at e
 .rename_i d r h1 h2;cases e;obtain⟨v,f,hv,rv,zz⟩:=ok.sl i _ _ h1;refine⟨v,hv,q ok h2 λH' vs C s a=>k H' (v::vs) (f++C) s ⟨by rw[abP,abP,a.ln],λn p e=>?_,λb m=>?_⟩⟩
  .cases n with
   |zero=>cases e;exact⟨v,f,_,rfl,rfl,rv.same s,(λj e=>by cases e;exact⟨hv,⟨_,h1⟩,zz.1,λa m=>⟨zz.2 a m,abn _ m⟩⟩),λe=>nomatch e⟩
   |succ n=>
    obtain⟨v',f',s',a1,a2,a3,a4,a5⟩:=a.at_ n p e;exact⟨v',f',s',a1,a2,a3,λj e=>let⟨b1,b2,b3,b4⟩:=a4 j e;⟨b1,b2,b3,λa m=>⟨(b4 a m).1,aaM _ (b4 a m).2⟩⟩,a5⟩
  .rcases abD.mp m with m|m
   .exact⟨0,i,rfl,zz.2 b m,(rv.same s).cG b m⟩
   .obtain⟨n,j,c1,c2,c3⟩:=a.cc b m;exact⟨n+1,j,c1,c2,c3⟩
 .cases e
theorem nH{f:EF}(ha:FP X e f)(hr:FB X sl es g)(hs:starEach (e::es) X.env=(false,eval e X.env)::starEach es X.env:=by rfl):FB X (none::sl) (e::es) (ay f g):=by
 obtain⟨t,p,q⟩:=ha;obtain⟨t',p',q'⟩:=hr;refine⟨_,dW p p' hs,@λH0 S z aq ρ σ H Q ps ok e k=>?_⟩;obtain⟨d,tg,r,e1,e2,rfl⟩:=ID e;refine q ok e1 λH1 v f1 s1 r1 g1=>?_
 refine q' (ok.same s1) e2 λH2 vs C s2 a=>k H2 (v::vs) C (s1.trans s2) ⟨by rw[abP,abP,a.ln],λn p e=>?_,λb m=>?_⟩
 .cases n with
  |zero=>cases e;exact⟨v,f1,_,rfl,rfl,r1.same s2,(λj e=>nomatch e),λ_=>g1⟩
  |succ n=>
   obtain⟨v',f',s',a1,a2,a3,a4,a5⟩:=a.at_ n p e;refine⟨v',f',s',a1,a2,a3,a4,λe=>?_⟩;have:=a5 e;cases ht:p.2 with
   |sh o=>rw[ht] at this;exact this
   |own=>rw[ht] at this;exact⟨this.1,λa m=>s1.free (this.2 a m)⟩
   |lk=>rw[ht] at this;exact⟨this.1,λa m=>s1.free (this.2 a m)⟩
 .obtain⟨n,j,c1,c2,c3⟩:=a.cc b m;exact⟨n+1,j,c1,c2,c3⟩
end
noncomputable def oA(js:List Nat):List (Option Nat)->List (D×Tag)->Bool
 |none::sl,p::ps=>(match p.2 with|.sh o=>o.all λx=>!(js.contains x)|_=>true)&&oA js sl ps
 |some _::sl,_::ps=>oA js sl ps
 |_,_=>true
theorem DW{js:List Nat}:∀{sl:List (Option Nat)}{ps:List (D×Tag)}{i:Nat}{p:D×Tag}{o:List Nat},oA js sl ps=true->sl[i]? = some none->ps[i]? = some p->p.2=.sh o->∀x∈o,x∉js
 |[],_,_,_,_,_,h,_,_=>by simp at h
 |_::_,[],_,_,_,_,_,h,_=>by simp at h
 |none::sl,p::ps,0,_,o,h,_,e,e2=>by
  cases e;unfold oA at h;rw[e2] at h;intro x m q;have:=ac4.mp (afJ.mp h).1 x m;rw[ad3.mpr q] at this;cases this
 |none::sl,p::ps,i+1,_,o,h,e0,e,e2=>DW (i:=i) (by unfold oA at h;exact(afJ.mp h).2) e0 e e2
 |some _::sl,p::ps,0,_,o,h,e0,_,_=>by cases e0
 |some _::sl,p::ps,i+1,_,o,h,e0,e,e2=>DW (ps:=ps) h e0 e e2
def xJ(js:List Nat)(sl:List (Option Nat))(G:JF)(g:AF):XF:=λρ=>match g ρ with
 |some ps=>if oA js sl ps=true then(G (ps.map (·.1))).map λw=>(w.1,lZ ρ js w.2) else none
 |none=>none
def Aa(js:List Nat)(sl:List (Option Nat))(G:JF)(g:AF):XR:=λρ=>(xJ js sl G g ρ).map λw=>.ok w.1 w.2
def FK(X:Cx)(e:Expr)(f:XF):Prop:=∃t,PE X e t/\∀{H0:Hp}{S:List Addr}{z:Addr->Option Nat}{aq:List b7}{ρ:aA}{σ:St}{H:Hp}{Q:VK}{d:D}{ρ':aA},
 Ok X.K H0 S z aq ρ σ H->f ρ=some (d,ρ')->(∀z H1 H' v fp,Ok X.K H0 S z aq ρ' σ H1->aH H1 H'->Rep X.K H' d v fp->cN z H1 .own fp->Q v H')->t σ H Q
noncomputable abbrev Pk(J js:List Nat)(sl:List (Option Nat)):Prop:=(∀i,i<sl.length->((sl[i]?).join.isSome=true->i∈J))/\J.length=js.length/\(∀k,k<J.length->sl[(J[k]?).getD 0]? = some (js[k]?))/\js.Nodup/\J.Nodup
section
variable{X:Cx}{x:Str}{p pos:Pos}{e:Expr}{es:List Expr}{k:Nat}{f:Addr}{fd:FuncData}{ps:List Str}{G:JF}{g:AF}{J:List Nat}
theorem K8(js:List Nat)(sl:List (Option Nat))(GG:cI X.prog X.w X.K X.mg X.base c_ k f fd ps (nI J X.K G))(hr:bh k X.A)(hm:X.mg x=some (.ref f))(hk:PySem.W.keepIn X.K (.ref f)=true)(hb:Binds X.K fd ps [])(ha:FB X sl (e::es) g)
  (hJ:Pk J js sl:=by decide) (hg:GD X x:=by exact⟨rfl,by decide⟩) (he:starEach (e::es) X.env=(false,eval e X.env)::starEach es X.env:=by rfl) (hpl:(backTo pos (starEach es X.env)).any (·.1)=false:=by rfl) :
  FK X (.Call (.Name x p) (e::es) [] pos) (xJ js sl G g):=by
 classical
 obtain⟨t,pa,sa⟩:=ha;obtain⟨j1,j2,j3,j4,j5⟩:=hJ;refine⟨_,Mg GG hr hg.1 hm hk hb .nil mU pa hg.2 he hpl,@λH0 S z aq ρ σ H Q d ρ' ok e0 kk=>?_⟩;unfold xJ at e0;cases h1:g ρ with
 |none=>rw[h1] at e0;cases e0
 |some qs=>
  rw[h1] at e0;dsimp only at e0
  by_cases nN:oA js sl qs=true
  .rw[if_pos nN] at e0;obtain⟨w,h3,e0⟩:=ab9.mp e0;cases e0;refine sa ok h1 λH2 vs C s2 ai=>?_
   rw[acm];have jB:=ok.same s2;have kJ:∀{k i:Nat},J[k]? = some i->∃j,js[k]? = some j/\sl[i]? = some (some j):=λ{k i} e=>by
    have l:=(abh.mp e).1;have:=j3 k l;rw[e] at this;exact⟨js[k]'(j2 ▸ l),aaR _,this.trans (by rw[aaR (j2 ▸ l)])⟩
   have iJ:∀{i j:Nat},sl[i]? = some (some j)->∃k,J[k]? = some i/\js[k]? = some j:=λ{i j} e=>by
    obtain⟨k,hk⟩:=afL (j1 i (abh.mp e).1 (by rw[e];rfl));obtain⟨j',a1,a2⟩:=kJ hk;rw[e] at a2;cases a2;exact⟨k,hk,a1⟩
   have inj:∀{i i' j:Nat},sl[i]? = some (some j)->sl[i']? = some (some j)->i=i':=λ{i i' j} e e'=>by
    obtain⟨k,a1,a2⟩:=iJ e;obtain⟨k',b1,b2⟩:=iJ e';obtain⟨l1,c1⟩:=abh.mp a2;obtain⟨l2,c2⟩:=abh.mp b2;cases(List.getElem_inj j4).mp (c1.trans c2.symm);rw[a1] at b1;cases b1;rfl
   let M:Addr->Nat->Prop:=λa i=>a∈C/\∃j,sl[i]? = some (some j)/\z a=some j
   let y:Addr->Option Nat:=λa=>if h:∃i,M a i then some (Classical.choose h) else none
   have y1:∀{a i},M a i->y a=some i:=λ{a i} m=>by
    show(if h:∃i,M a i then some (Classical.choose h) else none)=_;rw[dif_pos ⟨i,m⟩];obtain⟨_,j,b1,b2⟩:=Classical.choose_spec (⟨i,m⟩:∃i,M a i);obtain⟨_,j',c1,c2⟩:=m;rw[b2] at c2;cases c2;rw[inj b1 c1]
   refine⟨_,C,y,w.1,w.2,⟨by rw[List.length_map,ai.ln],λi d e=>?_,λa j e=>?_,λa m=>let⟨_,_,_,_,c⟩:=ai.cc a m;c⟩,h3,λH3 u cL nf im kp ap nw rr yi qF le=>?_⟩
   .rw[ab3] at e;obtain⟨q,hq,rfl⟩:=ab9.mp e;obtain⟨v,fp,s,a1,a2,a3,a4,a5⟩:=ai.at_ i q hq;refine⟨v,fp,a1,a3,λm=>?_,λn a m=>?_⟩
    .obtain⟨k,hk⟩:=afL m;obtain⟨j,_,b2⟩:=kJ hk;rw[a2] at b2;cases b2;obtain⟨_,_,c3,c4⟩:=a4 j rfl;exact⟨c3,λa m=>y1 ⟨(c4 a m).2,j,a2,(c4 a m).1⟩⟩
    .show(if h:∃i,M a i then some (Classical.choose h) else none)=_;rw[dif_neg]
     rintro⟨i',mc,j,b1,b2⟩
     cases s with
     |some j'=>obtain⟨k,hk,_⟩:=iJ a2;exact n (adD hk)
     |none=>
      have tg:=a5 rfl;obtain⟨k,_,hj⟩:=iJ b1;cases ht:q.2 with
      |sh o=>rw[ht] at tg;exact DW nN a2 hq ht j (tg a m j b2) (adD hj)
      |own=>rw[ht] at tg;obtain⟨⟨o,hw⟩,_⟩:=ok.zd a j b2;rw[tg.2 a m] at hw;cases hw
      |lk=>rw[ht] at tg;obtain⟨⟨o,hw⟩,_⟩:=ok.zd a j b2;rw[tg.2 a m] at hw;cases hw
   .have e:(if h:∃i,M a i then some (Classical.choose h) else none)=some j:=e
    by_cases h:∃i,M a i
    .obtain⟨_,m,_⟩:=h;exact m
    .rw[dif_neg h] at e;cases e
   .have st:∀{c:Addr}{o:HO},H3 c=some o->iS o=false->(if c∈cL then none else H3 c)=some o:=λ{c o} e mo=>by
     rw[if_neg λm=>?_]
     .exact e
     .obtain⟨o',w,lE⟩:=rr.cG c m;rw[e] at w;cases w;rw[mo] at lE;cases lE
    have i4:aT H2 (λc=>if c∈cL then none else H3 c):=⟨λc xs e=>st (im.1 c xs e) rfl,λc o u e=>st (im.2.1 c o u e) rfl,λc φ e=>st (im.2.2 c φ e) rfl⟩
    have P:∃z',Ok X.K H0 S z' aq (lZ ρ js w.2) σ (λc=>if c∈cL then none else H3 c):=by
     refine jB.adB (C:=C) j4 (le.trans j2) (λj m=>?_) i4 (λa m=>?_) (λb o n e=>?_) ap (λk j e=>?_)
     .obtain⟨k,hk⟩:=afL m;have l:=(abh.mp hk).1;obtain⟨j',c1,c2⟩:=kJ (aaR (j2 ▸ l:k<J.length));rw[hk] at c1;cases c1;obtain⟨d,u',_,b2,_⟩:=nw k _ (aaR (j2 ▸ l:k<J.length));have lv:=(abh.mp b2).1;obtain⟨v,fp,s,a1,a2,a3,a4,a5⟩:=ai.at_ _ _ (aaR (ai.ln ▸ lv));rw[c2] at a2;cases a2;exact(a4 _ rfl).2.1
     .obtain⟨i,j,c1,c2,_⟩:=ai.cc a m;obtain⟨k,_,hj⟩:=iJ c1;exact⟨j,adD hj,c2⟩
     .show(if b∈cL then none else H3 b)=some o;rw[if_neg λm=>?_]
      .exact kp b o n e
      .rcases(qF b m).1 with q|q
       .exact n q
       .rw[e] at q;cases q
     .have l:=(abh.mp e).1;obtain⟨j',c1,c2⟩:=kJ (aaR (j2 ▸ l:k<J.length));rw[e] at c1;cases c1;obtain⟨d,u',b1,b2,b3,b4,b5⟩:=nw k _ (aaR (j2 ▸ l:k<J.length));have lv:=(abh.mp b2).1;obtain⟨v,fp,s,a1,a2,a3,a4,a5⟩:=ai.at_ _ _ (aaR (ai.ln ▸ lv));rw[c2] at a2;cases a2;rw[b2] at a1;cases a1;refine⟨d,u',b1,(a4 _ rfl).1,b3.frame (λa m=>if_neg λq=>(qF a q).2 k m) ⟨λc xs e=>st e rfl,λc o u e=>st e rfl,λc φ e=>st e rfl⟩,b4,b5⟩
    obtain⟨z',i9⟩:=P;refine kk z' _ H3 u cL i9 (λc o e=>?_) rr ⟨yi,λa m=>if_pos m⟩;have e:(if c∈cL then none else H3 c)=some o:=e
    by_cases m:c∈cL
    .rw[if_pos m] at e;cases e
    .rw[if_neg m] at e;exact e
  .rw[if_neg nN] at e0;cases e0
theorem JA(js:List Nat)(sl:List (Option Nat))(GG:cI X.prog X.w X.K X.mg X.base c_ k f fd ps (nI J X.K G))(hr:bh k X.A)(hm:X.mg x=some (.ref f))(hk:PySem.W.keepIn X.K (.ref f)=true)(hb:Binds X.K fd ps [])(ha:FB X.gP sl (e::es) g)
  (hJ:Pk J js sl:=by decide) (hg:GD X x:=by exact⟨rfl,by decide⟩) (he:starEach (e::es) X.env=(false,eval e X.env)::starEach es X.env:=by rfl) (hpl:(backTo pos (starEach es X.env)).any (·.1)=false:=by rfl) :
  FE X (.Call (.Name x p) (e::es) [] pos) (Aa js sl G g):=by
 obtain⟨t,p,q⟩:=K8 (X:=X.gP) js sl GG hr hm hk hb ha hJ hg he hpl;refine⟨_,QK p,@λH0 S z aq ρ σ H Q E r ok e0 kk=>?_⟩;obtain⟨w,h,rfl⟩:=ab9.mp e0;exact q ok h kk
end
open PySem PySem.Spec PySem.W PyProof.Rows
def qy:D->Option (List Key)
 |.tup ds=>match iA ds with
  |some ks=>if ks.all (λk=>k.isLeft)=true/\ks≠[] then some ks else none
  |none=>none
 |_=>none
theorem Rep.tk{K:Frag}{H:Hp}{d:D}{v:V}{fp:List Addr}{ks:List Key}(r:Rep K H d v fp)(ni:pU K=true)(h:qy d=some ks):∃b,v=.ref b/\Tk H b (ks.map L2.kV):=by
 cases d with
 |tup ds=>
  obtain⟨b,xs,rfl,hq,rs⟩:=r.iX;unfold qy at h;dsimp only at h;cases hk:iA ds with
  |none=>rw[hk] at h;cases h
  |some k=>
   rw[hk] at h;dsimp only at h
   by_cases hc:k.all (λk=>k.isLeft)=true/\k≠[]
   .rw[if_pos hc] at h;cases h;obtain rfl:=aB.keys rs hk;exact⟨b,rfl,Ld hq ni hc.1 hc.2⟩
   .rw[if_neg hc] at h;cases h
 |_=>cases h
def xQ(ρ:aA)(j:Nat):aA:=(ρ.map (bG j)).set j none
theorem Ok.out{K:Frag}{H0:Hp}{S:List Addr}{z:Addr->Option Nat}{aq:List b7}{ρ:aA}{σ:St}{H:Hp}{j:Nat}{d:D}{v:V}{fp:List Addr}(ok:Ok K H0 S z aq ρ σ H)(hj:ρ[j]? = some (some (d,.own)))(r:Rep K H d v fp)(hz:∀a∈fp,z a=some j):
  ∃z',Ok K H0 S z' aq (xQ ρ j) σ (λc=>if c∈fp then none else H c):=by
 classical
 have im:aT H (λc=>if c∈fp then none else H c):=by
  have st:∀{c:Addr}{o:HO},H c=some o->iS o=false->(if c∈fp then none else H c)=some o:=λ{c o} e mo=>by
   rw[if_neg λm=>?_]
   .exact e
   .obtain⟨o',w,lE⟩:=r.cG c m;rw[e] at w;cases w;rw[mo] at lE;cases lE
  exact⟨λc xs e=>st e rfl,λc o u e=>st e rfl,λc φ e=>st e rfl⟩
 have fr:∀{d v g},Rep K H d v g->(∀a∈g,z a≠some j)->Rep K (λc=>if c∈fp then none else H c) d v g:=λr h=>r.frame (λa m=>if_neg λq=>h a m (hz a q)) im
 have at_:∀{a k},(if z a=some j then none else z a)=some k->z a=some k/\k≠j:=λ{a k} e=>by
  by_cases h:z a=some j
  .rw[if_pos h] at e;cases e
  .rw[if_neg h] at e;exact⟨e,λq=>h (q ▸ e)⟩
 refine⟨λa=>if z a=some j then none else z a,λk d t e=>?_,λp m=>?_,λa k e=>?_,λa o e n=>?_,?_⟩
 .unfold xQ at e
  by_cases hk:k=j
  .subst hk;rw[aeo (by rw[List.length_map];exact(abh.mp hj).1)] at e;cases e
  .rw[acM (aeV hk),ab3] at e;obtain⟨s,e0,e⟩:=ab9.mp e;obtain⟨rfl,h2⟩:=DE e;obtain⟨v,g,hs,r1,zz⟩:=ok.sl k d t e0;have own:(∀a∈g,z a=some k)->∀a∈g,z a≠some j:=λh a m q=>by rw[h a m] at q;exact hk (abS q)
   cases t with
   |sh o=>exact⟨v,g,hs,fr r1 λa m q=>h2 o rfl (zz a m j q),λa m i e=>zz a m i (at_ e).1⟩
   |own=>exact⟨v,g,hs,fr r1 (own zz.2),zz.1,λa m=>(if_neg (own zz.2 a m)).trans (zz.2 a m)⟩
   |lk=>exact⟨v,g,hs,fr r1 (own zz.2),zz.1,λa m=>(if_neg (own zz.2 a m)).trans (zz.2 a m)⟩
 .obtain⟨r1,h⟩:=ok.hl p m;refine⟨fr r1 λa m q=>(h a m j q).2 d hj,λa m k e=>?_⟩;obtain⟨h1,h2⟩:=h a m k (at_ e).1;refine⟨h1,λd' q=>h2 d' ?_⟩;unfold xQ at q;rw[acM (aeV (at_ e).2),ab3] at q;obtain⟨s,e0,q⟩:=ab9.mp q;rw[e0,(DE q).1]
 .obtain⟨e1,e2⟩:=at_ e;obtain⟨⟨o,w⟩,y⟩:=ok.zd a k e1;exact⟨⟨o,(if_neg λm=>by rw[hz a m] at e1;exact e2 (abS e1).symm).trans w⟩,y⟩
 .show(if a∈fp then none else H a)=some o;rw[if_neg λm=>?_]
  .exact ok.en a o e n
  .rcases(ok.zd a j (hz a m)).2 with w|w
   .rw[e] at w;cases w
   .exact n w
 .unfold xQ;rw[afu,List.length_map];exact ok.ln
def yT(f0:EF)(j:Nat)(f2:EF):XR:=λρ=>match f0 ρ,ρ[j]?,f2 ρ with
 |some (d0,_),some (some (d,.own)),some (d2,.own)=>if aC d0=true then some (.ok (.tup [d0,d,d2]) (xQ ρ j)) else none
 |_,_,_=>none
section
variable{X:Cx}{a b:Expr}{pos:Pos}{f0 f2:EF}
theorem adb(j:Nat){y:Str}{p1:Pos}{x1}(h0:FP X.gP a f0)(h2:FP X.gP b f2)(va:VA X.gP j y:=by walk_at "va")(hs:starEach [a,.Name y p1,b] X.env=(false,eval a X.env)::starEach [.Name y p1,b] X.env:=by rfl)(d8:starEach [.Name y p1,b] X.env=(false,eval (.Name y p1) X.env)::starEach [b] X.env:=by rfl)(BW:starEach [b] X.env=[(false,eval b X.env)]:=by rfl):
  FE X (.Tuple [a,.Name y p1,b] x1 pos) (yT f0 j f2):=by
 classical
 obtain⟨t0,p0,q0⟩:=h0;obtain⟨t2,p2,q2⟩:=h2;refine⟨_,QK (KS (dW p0 (dW va.pe (dW p2 fH BW) d8) hs)),@λH0 S z aq ρ σ H Q E r ok e k=>?_⟩;unfold yT at e
 split at e
 .rename_i d0 t d d2 e0 e1 e2
  by_cases hi:aC d0=true
  .rw[if_pos hi] at e;cases e;refine q0 ok e0 λH1 v0 g0 s1 r0 _=>?_
   have hn:=r0.aC hi;subst hn;obtain⟨v,fj,hv,rj,zz⟩:=ok.sl j _ _ e1;refine⟨v,hv,q2 (ok.same s1) e2 λH2 v2 g2 s2 r2 gg=>⟨by show(3:Nat)<=_;exact aeW (BH (by decide)),λc hc=>?_⟩⟩;obtain⟨z',aX⟩:=ok.out e1 rj zz.2;have sc:aH H2 (upd H2 c (.tup [v0,v,v2])):=λb o e=>by rw[aL (cT e hc)];exact e
   have sa:=(s1.trans s2).trans sc;refine k z' _ _ _ ([]++(fj++(g2++[]))) aX (λb o e=>?_) (.tup (cg.of bQ) (.cons (r0.same (s2.trans sc)) (.cons (rj.same sa) (.cons (r2.same sc) .nil)))) ⟨?_,λb m=>?_⟩
   .by_cases m:b∈fj
    .rw[show(if b∈fj then none else H b)=none from if_pos m] at e;cases e
    .exact sa b o ((if_neg m).symm.trans e)
   .rw[List.nil_append,acm];refine acB.mpr ⟨zz.1,gg.1,λa ma b mb e=>?_⟩;obtain⟨o,w,_⟩:=rj.cG a ma;have:=s1.free (gg.2 b mb);rw[<- e,w] at this;cases this
   .rw[List.nil_append,acm] at m;rcases abD.mp m with m|m
    .exact if_pos m
    .show(if b∈fj then none else H b)=none;rw[s1.free (gg.2 b m)];split<;>rfl
  .rw[if_neg hi] at e;cases e
 .cases e
end
section
variable{z:Z}{k n m:Nat}{c:Str}{s:Stmt}{b:SF}
theorem Z.oJ(J:List Nat)(xs:List Str)(S:BZ n m s)(h0:K9 (kK s) xs J=true)(hJ:J.Nodup)(h:∀(f:Addr) (aR:Value) (A:Around) (o:List Env) (t:Shared) (H:Hp) (E:XK),bh k (A.deeper (envOfC (jL c s) (cR s) t.heap.objs.size f aR))->(kK s).Nodup->FJ J false ((iW c_ z.P z.w z.K z.mg z.base (kK s) (jL c s) (cR s) f aR A o t H E).gP.ki xs) (g_ s) b):
  z.D (k+1) c s (nI J · (mT J n m b)):=by
 obtain⟨S,rfl,rfl,l⟩:=S;exact λ_ _ F=>R5 F S h0 hJ l λaR A o t H E hr=>h _ aR A o t H E hr S.nd
end
section
variable{A:Z->Prop}{k:Nat}{c:Str}{s:Stmt}{cm:Bool}{J:List Nat}
noncomputable abbrev wJ{F:JF}(_:∀z,A z->z.D k c s (nI J · F) cm)(z:Z):Prop:=z.N k s (nI J · F) cm
noncomputable abbrev fJ{F:JF}(_:∀z,A z->z.D k c s (nI J · F) cm):JF:=F
end
end L2.Ev
namespace L2
open PySem PySem.Spec PyProof.Rows
section
variable{X:Cx}
theorem aey{P:Program}{w:World}{k:Key}{u:Value}(h:(fR P w).is k u=true):RelV (kV k) u:=by
 rcases lO h with⟨i,t,rfl,rfl⟩|⟨x,t,rfl,rfl⟩
 .exact⟨t,rfl⟩
 .exact⟨t,rfl⟩
theorem KV.at{κ:Type}:∀{aj:List (κ×V)}{vs:List (κ×Value)}{i:Nat}{p:κ×V},KV aj vs->aj[i]? = some p->∃q,vs[i]? = some q/\p.1=q.1
 |_,_,i,p,.nil,e=>by simp at e
 |_,_,0,p,.cons r _,e=>by cases e;exact⟨_,rfl,r.1⟩
 |_,_,i+1,p,.cons _ t,e=>KV.at (i:=i) t e
def Ms(a:Addr)(o:Obj)(aj:List (Key×V)):It:=⟨λi H=>i<aj.length/\H a=some (.ck o (.dK aj)),λi H x H'=>H'=H/\∃p,aj[i]? = some p/\x=kV p.1,λi H=>aj.length<=i/\H a=some (.ck o (.dK aj)),false⟩
theorem ada{P:Program}{w:World}{K:PySem.W.Frag}{tg:Expr}(a it:Addr){o:Obj}{es:Array DictEntry}{ep:Nat}{aj:List (Key×V)}{vs:List (Key×Value)}(kv:KV aj vs)(h1:o.ExactDict)(h2:o.data=.dict es ep)(h3:KeysOf (fR P w) es)(h4:Pairs (fR P w) es.toList vs)(h5:(vs.map (·.1)).Nodup):
  Turn P w K tg (Ms a o aj) [it] it (λi h=>h.IsKeyIter it a i vs.length ep) where
 mem:=by simp
 obj:=λi h st b hb=>by
  have e:b=it:=by simpa using hb
  subst e;obtain⟨o,e,c,d⟩:=st;exact⟨o,e,λv z=>by rw[d] at z;cases z⟩
 keep:=λi h h' st k=>by
  obtain⟨o,e,c,d⟩:=st;exact⟨o,k it (by simp) o e,c,d⟩
 item:=by
  intro X hP hw hK hc i af s σ H E I hf st hg;subst hP hw hK;obtain⟨hi,hH⟩:=hg;obtain⟨ho,_⟩:=(show s.heap.get? a=some o/\dh X.prog X.w H s.heap a (.dK aj) from I.aI a _ hH)
  obtain⟨f0,f1,f2,f3,f4,f5⟩:=hf it (by simp);obtain⟨q,hq,e⟩:=kv.at (aaR hi);refine wpAny_pyNext_dict_item st ⟨o,es,ho,h1,h2,h3,h4,h5⟩ hq λkey h' hk kP sb=>?_
  have I1:Inv X af σ H { s with heap:=h' }:=I.turned (λb o hb e=>(sb.2 b hb).trans e) f0 f1 f3 f4 f5;obtain⟨o',e',c,d⟩:=id kP;exact⟨key,rfl,Ad e' c d (by decide) ⟨kV q.1,H,I1,aey hk,⟨rfl,_,aaR hi,by rw[e]⟩,kP,λb hb=>(hf b hb).1⟩⟩
 done:=by
  intro X hP hw hK hc i af s σ H E I hf st hg;subst hP hw hK;obtain⟨hi,hH⟩:=hg;obtain⟨ho,_⟩:=(show s.heap.get? a=some o/\dh X.prog X.w H s.heap a (.dK aj) from I.aI a _ hH)
  obtain⟨f0,f1,f2,f3,f4,f5⟩:=hf it (by simp);have hl:=Paired.length kv;exact wpAny_pyNext_dict_end (I.ok.hd (hc.resolve_right λz=>aa6 z)) st ⟨o,es,ho,h1,h2,h3,h4,h5⟩ (List.getElem?_eq_none (by omega)) λh' eb=>⟨rfl,I.turned (λb o hb e=>eb b o hb e) f0 f1 f3 f4 f5⟩
 self:=λ_ _ _ _ _ st h=>wpAny_pyIter_keyiter st h
def ZG(X:Cx)(tl:TE):TI:=λσ H R=>tl σ H λx H1=>∃a aj,x=.ref a/\H1 a=some (.dK aj)/\∀o,(∀o u,X.pC a≠some (.ck o u))->R (Ms a o aj) (upd H1 a (.ck o (.dK aj)))
theorem UZ{tg l:Expr}{tl:TE}(hl:PE X l tl):PI X tg l (ZG X tl):=by
 intro af s σ H R I h;refine aM (hl af s σ H _ I h) λv s1 ⟨x,H1,I1,r1,q1⟩=>?_
 obtain⟨a,aj,e,ha,q⟩:=q1;subst e;cases r1;obtain⟨_,adQ,vs,kv,od⟩:=(show aj.length<=sizeLine/\(a==sysModules)=false/\∃vs,KV aj vs/\s1.heap.DictOf (fR X.prog X.w) a vs from I1.aI a _ ha)
 obtain⟨ep,oj⟩:=od.dictAt;obtain⟨o,es,ho,h1,h2,h3,h4,h5⟩:=id oj;refine wpAny_pyIter_dict adQ oj ?_;have I2:=I1.aab ha ho;refine⟨s1.heap.objs.size,[s1.heap.objs.size],_,_,_,rfl,I2.kept λb o e=>aaE _ e,ada a _ kv h1 h2 h3 h4 h5,⟨_,ab2 _ rfl,rfl,rfl⟩,λb hb=>?_,q o λo u z=>by rw[I1.base.jU a o u z] at ha;cases ha⟩;have e:b=s1.heap.objs.size:=by simpa using hb
 subst e;exact I2.pO (abH _) (I2.aI.fresh (abH _))
def ML(K:PySem.W.Frag)(f c:Str):TT:=Oe (pY E4 (pY (zL K) (M6 (CL K (n5 1) f) (n5 0)) (tC (.int 0))) (tC (.str c)))
def jO(c:Str)(ps:List ((Key×V)×Str)):List V:=(ps.filter λp=>decide (p.2=c)).map λp=>kV p.1.1
def aaC(K:PySem.W.Frag)(i:Nat)(f c:Str):TE:=λσ H Q=>∃b C dx fs a aj ss,σ[i]? = some (some (.ref b))/\H b=some (.ins C dx fs)/\j7 K C/\iC K C f/\fs.lookup f=some (.ref a)/\H a=some (.dK aj)/\(aj.map (·.1)).Nodup/\aj.length<sizeLine/\aj.length=ss.length/\
 (∀(j:Nat) (p:Key×V) (s:Str),aj[j]? = some p->ss[j]? = some s->∃t xs,p.2=.ref t/\cg K H t xs/\dM xs 0=some (.str s))/\∀D,H D=none->Q (.ref D) (upd H D (.lst (jO c (aj.zip ss))))
theorem US{aj:List (Key×V)}{j:Nat}{p:Key×V}(nd:(aj.map (·.1)).Nodup)(e:aj[j]? = some p):dY aj p.1=some p.2:=by
 induction aj generalizing j with
 |nil=>simp at e
 |cons q r ih=>
  obtain⟨n1,n2⟩:=abv.mp nd;unfold dY;cases j with
  |zero=>cases e;rw[ae3 (by simp)];rfl
  |succ j=>
   have e:=e;rw[adU (by simpa using λz:q.1=p.1=>n1 (abG.mpr ⟨p,adD e,z.symm⟩))];exact ih n2 e
theorem V9{i:Nat}{f c:Str}{tg iter elt:Expr}{ifs:List Expr}{sc:Scope}{pos:Pos}{M:List Str}(S:l9 X M [none,some i] sc)(hc:X.calm=true)(hl:PE X iter (CL X.K (n5 i) f))
  (hb:∀s3 H3 fp,PG (dO X M sc s3 H3 fp) tg (rV 0)/\rK (dO X M sc s3 H3 fp) ifs (ML X.K f c)/\PE (dO X M sc s3 H3 fp) elt (n5 0)) (hs:∀x,foldedSetIterable iter X.env x=pure x:=by intro _;rfl) :
  PE X (.ListComp elt [⟨tg,iter,ifs,0⟩] sc pos) (aaC X.K i f c):=by
 intro af s σ H Q I h;obtain⟨b,C,dx,fs,a,aj,ss,Ae,hB,cl,na,hf,ha,nd,hz,uF,hv,k⟩:=h;have nba:b≠a:=λz=>by rw[z,ha] at hB;cases hB
 refine aM (LR S hc (UZ hl) hb hs af s σ H (λv H'=>∃o D,(∀o u,X.pC a≠some (.ck o u))/\v=.ref D/\H D=none/\H'=upd (upd H a (.ck o (.dK aj))) D (.lst (jO c (aj.zip ss)))) I ?_) λv s1 ⟨x,H',I',r,o,D,h0,e1,hD,e2⟩=>?_
 .refine⟨.ref b,Ae,b,C,dx,fs,.ref a,rfl,hB,cl,na,hf,a,aj,rfl,ha,λo h0 D hD=>?_⟩;have j9:D≠a:=λz=>by rw[z,bQ] at hD;cases hD
  rw[aL j9] at hD;have hnb:D≠b:=λz=>by rw[z,hB] at hD;cases hD
  refine⟨λj m aE H'=>m=aj.length-j/\j<=aj.length/\(∃s0,aE=[s0,some (.ref b)])/\H'=upd (upd H a (.ck o (.dK aj))) D (.lst (jO c ((aj.zip ss).take j))),⟨_,rfl,ad0 _,⟨none,by show[none,(σ[i]?).join]=_;rw[Ae];rfl⟩,rfl⟩,?_⟩
  rintro j m aE H' ⟨rfl,hj,⟨s0,rfl⟩,rfl⟩
  have ga:upd (upd H a (.ck o (.dK aj))) D (.lst (jO c ((aj.zip ss).take j))) a=some (.ck o (.dK aj)):=by rw[aL (aeV j9),bQ]
  by_cases cj:j<aj.length
  .refine .inr ⟨⟨cj,ga⟩,?_⟩
   rintro x H2 ⟨rfl,p,hp,rfl⟩
   have Qx:=aaR (uF ▸ cj);obtain⟨t,xs,e1,hq,e2⟩:=hv j p _ hp Qx;have zj:(aj.zip ss)[j]? = some (p,ss[j]'(uF ▸ cj)):=List.getElem?_zip_eq_some.mpr ⟨hp,Qx⟩;have tk:(aj.zip ss).take (j+1)=(aj.zip ss).take j++[(p,ss[j]'(uF ▸ cj))]:=by
    obtain⟨l,e⟩:=abh.mp zj;rw[List.take_succ_eq_append_getElem l,e]
   have gq:cg X.K (upd (upd H a (.ck o (.dK aj))) D (.lst (jO c ((aj.zip ss).take j)))) t xs:=by
    have n1:∀{u:HO}{ad:Addr},H ad=some u->(∀z,u≠.dK z)->upd (upd H a (.ck o (.dK aj))) D (.lst (jO c ((aj.zip ss).take j))) ad=some u:=λ{u ad} e n=>by
     rw[aL (λz=>by rw[z,hD] at e;cases e),aL (λz=>by rw[z,ha] at e;cases e;exact n _ rfl)];exact e
    rcases hq with(h|⟨o',h⟩)|h
    .exact .inl (.inl (n1 h λ_ z=>by cases z))
    .exact .inl (.inr ⟨o',n1 h λ_ z=>by cases z⟩)
    .exact .inr h
   refine⟨.ref b,rfl,b,C,dx,fs,.ref a,rfl,by rw[aL (aeV hnb),aL nba];exact hB,cl,na,hf,kV p.1,rfl,a,p.2,rfl,.inl ⟨aj,p.1,.inr ⟨o,ga⟩,rfl,(US nd hp).symm⟩,?_⟩;refine⟨t,xs,0,_,e1,rfl,gq,e2,rfl,?_⟩;refine⟨_,rfl,?_⟩
   by_cases BD:ss[j]'(uF ▸ cj)=c
   .have:decide (V.str (ss[j]'(uF ▸ cj))=V.str c)=true:=aaN (by rw[BD]);rw[this];dsimp only;rw[if_pos rfl];refine⟨_,rfl,_,bQ,?_,aj.length-(j+1),by omega,rfl,cj,⟨_,rfl⟩,?_⟩
    .refine ae0 ?_ hz;unfold jO;rw[List.length_map];refine adw (aeb _ _) ?_;rw[afz];omega
    .rw[tk];unfold jO;rw[List.filter_append,acZ,afd (by simpa using BD)]
     funext z
     by_cases h1:z=D
     .rw[h1,bQ,bQ];rfl
     .rw[aL h1,aL h1,aL h1]
   .have:decide (V.str (ss[j]'(uF ▸ cj))=V.str c)=false:=abN (λz=>BD (by injection z));rw[this];dsimp only;rw[if_neg aa6];refine⟨aj.length-(j+1),by omega,rfl,cj,⟨_,rfl⟩,?_⟩;rw[tk];unfold jO;rw[List.filter_append,afe (by simpa using BD),List.filter_nil,acm]
  .have ej:j=aj.length:=by omega
   refine .inl ⟨⟨by omega,ga⟩,o,D,h0,rfl,hD,?_⟩;rw[ej,List.take_of_length_le (by rw[List.length_zip];omega)]
 .subst e1 e2;have j9:D≠a:=λz=>by rw[z,ha] at hD;cases hD
  have I2:=I'.Z_ (by rw[aL (aeV j9),bQ]) h0 (I.ok.hd hc);have e:upd (upd (upd H a (.ck o (.dK aj))) D (.lst (jO c (aj.zip ss)))) a (.dK aj)=upd H D (.lst (jO c (aj.zip ss))):=by
   funext z
   by_cases h1:z=a
   .subst h1;rw[bQ,aL (aeV j9),ha]
   .rw[aL h1]
    by_cases h2:z=D
    .subst h2;rw[bQ,bQ]
    .rw[aL h2,aL h2,aL h1]
  rw[e] at I2;exact⟨_,_,I2,r,k D hD⟩
end
end L2
namespace L2.Ev
open PySem PySem.Spec PyProof.Rows
noncomputable def lu:D->Option Str
 |.tup (.str s::_)=>some s
 |_=>none
noncomputable def aa2:Key->D
 |.inl k=>.int k
 |.inr x=>.str x
def qd(c:Str)(aj:List (Key×D)):List D:=(aj.filter λp=>decide ((lu p.2).getD Str.empty=c)).map λp=>aa2 p.1
def CC(i:Nat)(cn f c:Str):EF:=λρ=>match ρ[i]? with
 |some (some (.ins Ra es,_))=>match es.lookup f with
  |some (.bK aj)=>if Ra=cn/\(aj.map (·.1)).Nodup/\aj.length<sizeLine/\∀p∈aj,(lu p.2).isSome=true then some (.lst (qd c aj),.own) else none
  |_=>none
 |_=>none
theorem Jp{K:PySem.W.Frag}{H:Hp}{c:Str}:∀{aj:List (Key×D)}{vs:List (Key×V)},aj.map (·.1)=vs.map (·.1)->aB K H (qd c aj) (jO c (vs.zip (aj.map λp=>(lu p.2).getD Str.empty))) []
 |[],[],_=>.nil
 |[],_::_,e=>nomatch e
 |_::_,[],e=>nomatch e
 |p::aj,q::vs,e=>by
  obtain⟨e1,e2⟩:=List.cons.inj e;have ih:=Jp (K:=K) (H:=H) (c:=c) e2;unfold qd jO at ih ⊢;rw[aax,List.zip_cons_cons]
  by_cases h:(lu p.2).getD Str.empty=c
  .rw[afd (by simpa using h),afd (by simpa using h),aax,aax];refine .cons (f1:=[]) ?_ ih;have e1:p.1=q.1:=e1;rw[e1];cases q.1 with
   |inl k=>exact .int k
   |inr x=>exact .str x
  .rw[afe (by simpa using h),afe (by simpa using h)];exact ih
theorem WC{X:Cx}{pos:Pos}(i:Nat){x cn f c:Str}{C:Addr}{p1 p2:Pos}{tg elt:Expr}{ifs:List Expr}{sc:Scope}{M:List Str}(S:l9 X M [none,some i] sc)(hc:X.calm=true)(hC:ClsAt X.K cn C)(na:iC X.K C f)
  (hb:∀s3 H3 fp,PG (dO X M sc s3 H3 fp) tg (rV 0)/\rK (dO X M sc s3 H3 fp) ifs (ML X.K f c)/\PE (dO X M sc s3 H3 fp) elt (n5 0)) (va:VA X i x:=by walk_at "va") (yr:attributeBase (.Name x p1) f X.env (eval (.Name x p1) X.env)=eval (.Name x p1) X.env:=by rfl) (hs:∀v,foldedSetIterable (.Attribute (.Name x p1) f p2) X.env v=pure v:=by intro _;rfl) :
  FP X (.ListComp elt [⟨tg,.Attribute (.Name x p1) f p2,ifs,0⟩] sc pos) (CC i cn f c):=by
 exists 21,V9 S hc (pS va.pe yr) hb hs;unfold CC at e
 split at e
 .rename_i Ra es t h1
  split at e
  .rename_i aj h2
   split at e
   .rename_i h3;obtain⟨rfl,nd,hz,hS⟩:=h3;cases e;obtain⟨v,fp,Ae,r,_⟩:=ok.sl i _ _ h1;obtain⟨b,dx,fs,g,rfl,rfl,h1,kq,h3,h4⟩:=r.lY hC.ns;obtain⟨u,gf,h5,h6,_⟩:=aB.look h3 h4 h2;cases h6 with
    | @bK a vs _ g0 ha fG rs=>
     refine⟨b,C,dx,fs,a,vs,aj.map λp=>(lu p.2).getD Str.empty,Ae,h1,hC.cl,na,h5,ha,fG ▸ nd,?_,?_,λj p s hp hs=>?_,λD hD=>?_⟩
     .have:=congrArg List.length fG;rw[List.length_map,List.length_map] at this;omega
     .have:=congrArg List.length fG;rw[List.length_map,List.length_map] at this;rw[List.length_map,this]
     .rw[ab3] at hs;obtain⟨q,hq,rfl⟩:=ab9.mp hs;obtain⟨w,fw,hw,fS,_⟩:=rs.get (d:=q.2) (by rw[ab3,hq];rfl);rw[ab3,hp] at hw;have hw:=abS hw;have hq:=hS q (adD hq);cases hd:q.2 with
      |tup ds=>
       rw[hd] at hq fS;cases ds with
       |nil=>cases hq
       |cons d0 ds=>
        cases d0 with
        |str s=>
         obtain⟨tt,xs,e1,lM,r2⟩:=fS.iX;cases r2 with
         |cons r3 _=>
          obtain⟨e3,_⟩:=r3.uR;exact⟨tt,_,hw.trans e1,lM,by rw[e3];unfold dM gJ;rw[if_pos (by omega),if_pos (by rw[abP];omega)];rfl⟩
        |_=>cases hq
      |_=>rw[hd] at hq;cases hq
     .have s2:aH H (upd H D (.lst (jO c (vs.zip (aj.map λp=>(lu p.2).getD Str.empty))))):=λb o e=>by rw[aL (cT e hD)];exact e
      refine k _ _ [D] s2 (.lst bQ (Jp fG)) ⟨abv.mpr ⟨(λm=>by cases m),ace⟩,λa m=>?_⟩;cases aa1.mp m;exact hD
   .cases e
  .cases e
 .cases e
theorem Xm{X:Cx}(i:Nat){x:Str}{pos:Pos}(hN:X.N.Nodup)(hi:X.N[i]? = some x:=by rfl)(hx:Loc X.env.scope x:=by first|exact Or.inl rfl|exact Or.inr rfl)(hf:X.fn x=true\/X.env.scope.names.lookup x=some .local:=by first|exact .inl rfl|exact .inr rfl):PG X (.Name x pos) (rV i):=L3 hN hi hx hf
open PySem PySem.Spec PySem.W PyProof.Rows
def xI(f:XF):XF:=λρ=>match f ρ with
 |some (d,ρ')=>if aC d=true then some (d,ρ') else none
 |none=>none
section
variable{X:Cx}{a b e:Expr}{pos:Pos}{fa fb fc:EF}{fx:XF}
theorem FK.fz(h:FK X e fx):FZ X e (xI fx):=by
 obtain⟨t,p,q⟩:=h;refine⟨t,p,@λH0 S z aq ρ σ H Q d ρ' ok e k=>?_⟩;unfold xI at e;cases h1:fx ρ with
 |none=>rw[h1] at e;cases e
 |some w=>
  rw[h1] at e;dsimp only at e
  by_cases hi:aC w.1=true
  .rw[if_pos hi] at e;cases e;refine q ok h1 λz' H1 H' v fp cE s1 r1 _=>?_
   have hn:=r1.aC hi;subst hn;exact k z' H' v (cE.same s1) r1
  .rw[if_neg hi] at e;cases e
noncomputable def za(fa:EF)(fx:XF):XF:=λρ=>match fa ρ with
 |some (.int m,_)=>match fx ρ with
  |some (.int n,ρ')=>some (.int (m+n),ρ')
  |_=>none
 |_=>none
theorem aam(ha:FP X a fa)(hb:FZ X b fx):FZ X (.BinOp a .Add b pos) (za fa fx):=by
 obtain⟨ta,pa,sa⟩:=ha;obtain⟨tb,pb,sb⟩:=hb;refine⟨_,Dt OZ pa pb,@λH0 S z aq ρ σ H Q d ρ' ok e k=>?_⟩;unfold za at e
 split at e
 .rename_i m t h1
  split at e
  .rename_i n aS h2;cases e;refine sa ok h1 λH1 x f1 s1 r1 _=>sb (ok.same s1) h2 λz2 H2 y jB r2=>?_
   cases r1;cases r2;exact⟨m,n,rfl,rfl,k z2 H2 _ jB (.int _)⟩
  .cases e
 .cases e
theorem Wc(i:Nat){x:Str}{k v:Expr}{fk:EF}{p1 pos':Pos}(hk:FP X k fk)(hv:FZ X v fx)(va:VA X i x:=by walk_at "va")
  (ha:∀w,assign (.Subscript (.Name x p1) k pos') X.env w=(do
   let ov <- holding [w] (eval (.Name x p1) X.env)
   let iv <- holding [w,ov] (eval k X.env)
   standAt pos'
   holding [w,ov,iv] (setItem ov iv w)
   release [w,ov,iv] []):=by intro _;rfl)
  (hs:swapsWithSole [.Subscript (.Name x p1) k pos'] v pos.line X.env=pure false:=by rfl) (hw:swappedStores [.Subscript (.Name x p1) k pos'] v X.env=pure none:=by rfl) (h1:(assignEach [.Subscript (.Name x p1) k pos'] X.env).map (·.2)=[assign (.Subscript (.Name x p1) k pos') X.env]:=by rfl) :
  fM X (.Assign [.Subscript (.Name x p1) k pos'] v pos) (BP i fk fx):=by
 obtain⟨tk,pk,sk⟩:=hk;obtain⟨tv,jm,sv⟩:=hv;exists 25,Jd jm (Jk va.pe pk set_list ha) hs hw h1;unfold BP at e;cases g1:fx ρ with
 |none=>rw[g1] at e;cases e
 |some w=>
  obtain⟨d,ρ'⟩:=w;rw[g1] at e;dsimp only at e
  split at e
  .rename_i ds kk WE g2 g3;cases hj:gJ ds.length kk with
   |none=>rw[hj] at e;cases e
   |some j=>
    rw[hj] at e;dsimp only at e
    by_cases hc:(aC d&&aN ds)=true
    .rw[if_pos hc] at e;cases e;obtain⟨c1,c2⟩:=(aaY _ _).mp hc;refine sv ok g1 λz1 H1 v cE rv=>?_
     obtain⟨xv,fp,b8,r,zz⟩:=cE.sl i _ _ g2;refine⟨xv,b8,?_⟩;refine sk cE g3 λH2 y Bp s2 rk _=>?_
     cases rk;have r':=r.same s2;have jB:=cE.same s2;cases r' with
     | @lst a xs _ f h rs=>
      have hn:=rs.aC c2;subst hn;refine⟨a,xs,kk,j,rfl,rfl,h,by rw[<- rs.length];exact hj,?_⟩;have im:aT H2 (upd H2 a (.lst (xs.set j v))):=aT.upd h rfl;refine q z1 σ _ (Ok.x_ jB g2 b8 zz aar h rfl (.lst bQ ?_)) (.refl _ _);exact aB.Eu ((rv.same s2).frame (λa m=>nomatch m) im) (rs.frame (λa m=>nomatch m) im)
    .rw[if_neg hc] at e;cases e
  .cases e
def Pz(fa fb fc:EF):EF:=λρ=>match fa ρ,fb ρ,fc ρ with
 |some (.cM es,.sh o),some (kd,_),some (d3,.own)=>(qy kd).map λk=>((aV es k).getD d3,.sh o)
 |_,_,_=>none
theorem Vr{c:Expr}{apos fZ:Pos}(hu:X.A.units+1<cLine)(ni:pU X.K=true)(ha:FP X a fa)(hb:FP X b fb)(hc:FP X c fc)(m:M2 X a "get" apos b c fZ:=by exact⟨rfl,rfl,rfl,rfl⟩):FP X (.Call (.Attribute a "get" apos) [b,c] [] fZ) (Pz fa fb fc):=by
 obtain⟨ta,pa,sa⟩:=ha;obtain⟨tb,pb,sb⟩:=hb;obtain⟨tc,pc,sc⟩:=hc;exists 21,FL hu pa pb pc m;unfold Pz at e
 split at e
 .rename_i es o kd t2 d3 h1 h2 h3;obtain⟨ks,hk,e⟩:=ab9.mp e;cases e;refine sa ok h1 λH1 x f1 s1 r1 g1=>?_
  cases r1 with
  | @cM p aj _ fp h he rs=>
   refine⟨p,rfl,.inr ⟨aj,.inl h⟩,?_⟩;refine sb (ok.same s1) h2 λH2 y f2 s2 r2 _=>?_
   refine sc ((ok.same s1).same s2) h3 λH3 w f3 s3 r3 g3=>?_
   obtain⟨bL,rfl,vm⟩:=r2.tk ni hk;refine⟨_,h_.t (s3 _ _ (s2 _ _ h)) (Tk.aC vm (.of s3)),?_⟩;have yy:=(s1.trans s2).trans s3;obtain⟨i1,i2⟩:=qN he ((rs.same s2).same s3);cases hv:aV es ks with
   |some d'=>
    rw[hv] at k;obtain⟨v,f,e1,r,sub⟩:=i1 d' hv;rw[e1];exact k H3 v f yy r λa m j q=>g1 a (aaa _ (sub a m)) j q
   |none=>
    rw[hv] at k;rw[i2 hv];refine k H3 w f3 yy r3 λa m j q=>?_
    obtain⟨⟨o',w'⟩,_⟩:=ok.zd a j q;rw[(s1.trans s2).free (g3.2 a m)] at w';cases w'
 .cases e
theorem YI{K:Frag}{H:Hp}{κ:Type}[DecidableEq κ]{k:κ}{d:D}{v:V}{fv:List Addr}(rv:Rep K H d v fv)(nv:fv.Nodup):∀{es:List (κ×D)}{aj:List (κ×V)}{g:List Addr},es.map (·.1)=aj.map (·.1)->aB K H (es.map (·.2)) (aj.map (·.2)) g->g.Nodup->(es.map (·.1)).Nodup->(∀a∈fv,a∉g)->
  ∃g',aB K H ((putD es k d).map (·.2)) ((putK aj k v).map (·.2)) g'/\g'.Nodup/\∀a∈g',a∈g\/a∈fv:=by
 intro es
 induction es with
 |nil=>
  intro aj g e rs ng _ dj;cases aj with
  |nil=>cases rs;exact⟨fv++[],.cons rv .nil,by rw[acm];exact nv,λa m=>.inr (by rwa [acm] at m)⟩
  |cons _ _=>cases e
 |cons p es ih=>
  intro aj g e rs ng nk dj;cases aj with
  |nil=>cases e
  |cons q aj=>
   obtain⟨e1,e2⟩:=List.cons.inj e;have e1:p.1=q.1:=e1;obtain⟨n1,n2⟩:=abv.mp nk;cases rs with
   | @cons _ _ _ _ f1 f2 r1 r2=>
    obtain⟨a1,a2,a3⟩:=acB.mp ng
    by_cases hk:p.1=k
    .have nk:k∉es.map (·.1):=hk ▸ n1;have o1:putD (p::es) k d=(p.1,d)::es:=by
      unfold putD;rw[aeZ,aaN hk,Bool.true_or,if_pos rfl,aax,if_pos hk,u_ nk]
     have o2:putK (q::aj) k v=(q.1,v)::aj:=by
      unfold putK;rw[aeZ,aaN (e1 ▸ hk),Bool.true_or,if_pos rfl,aax,if_pos (e1 ▸ hk),u_ (e2 ▸ nk)]
     rw[o1,o2];exact⟨fv++f2,.cons rv r2,acB.mpr ⟨nv,a2,λa m b m' e=>dj a m (e ▸ aaM _ m')⟩,λa m=>(abD.mp m).elim .inr λm=>.inl (aaM _ m)⟩
    .obtain⟨g',b1,b2,b3⟩:=ih e2 r2 a2 n2 λa m q=>dj a m (aaM _ q)
     have o1:putD (p::es) k d=p::putD es k d:=by
      unfold putD;rw[aeZ,abN hk,Bool.false_or]
      split
      .rw[aax,if_neg hk]
      .rfl
     have o2:putK (q::aj) k v=q::putK aj k v:=by
      unfold putK;rw[aeZ,abN (e1 ▸ hk),Bool.false_or]
      split
      .rw[aax,if_neg (e1 ▸ hk)]
      .rfl
     rw[o1,o2];refine⟨f1++g',.cons r1 b1,acB.mpr ⟨a1,b2,λa m b m' e=>?_⟩,λa m=>?_⟩
     .rcases b3 b m' with q|q
      .exact a3 a m b q e
      .exact dj b q (e ▸ abn _ m)
     .rcases abD.mp m with m|m
      .exact .inl (abn _ m)
      .exact(b3 a m).imp (aaM _) id
def vL(i:Nat)(fk fv:EF):SF:=λρ=>match fv ρ,ρ[i]?,fk ρ with
 |some (d,t),some (some (.cM es,.own)),some (kd,_)=>match qy kd with
  |some k=>if(jR t||aC d)=true/\(es.map (·.1)).Nodup/\es.length<sizeLine then some (.nx (bP ρ i (.cM (putD es k d)))) else none
  |none=>none
 |_,_,_=>none
theorem PK(i:Nat){x:Str}{k v:Expr}{fk fv:EF}{p1 pos':Pos}(hu:X.A.units+1<cLine)(ni:pU X.K=true)(hk:FP X k fk)(hv:FP X v fv)(va:VA X i x:=by walk_at "va")(hs:swapsWith v (some (.Subscript (.Name x p1) k pos')) pos.line X.env=pure false:=by rfl):
  fM X (.Assign [.Subscript (.Name x p1) k pos'] v pos) (vL i fk fv):=by
 obtain⟨tk,pk,sk⟩:=hk;obtain⟨tv,jm,sv⟩:=hv;exists 25,A8 hu va.pe pk jm hs;unfold vL at e
 split at e
 .rename_i d td es kd Lm h1 h2 h3;cases h4:qy kd with
  |none=>rw[h4] at e;cases e
  |some key=>
   rw[h4] at e;dsimp only at e
   split at e
   .rename_i hc;obtain⟨ho,nk,hz⟩:=hc;cases e;refine sv ok h1 λH1 v sL s1 rv gv=>?_
    have fr:sL.Nodup/\∀a∈sL,H a=none:=by
     cases hi:aC d with
     |true=>rw[rv.aC hi];exact⟨.nil,λa m=>nomatch m⟩
     |false=>
      rw[hi,Bool.or_false] at ho;cases td with
      |sh _=>cases ho
      |own=>exact gv
      |lk=>exact gv
    obtain⟨xv,fp,b8,r,zz⟩:=ok.sl i _ _ h2;refine⟨xv,b8,?_⟩;refine sk (ok.same s1) h3 λH2 y Bp s2 rk _=>?_
    obtain⟨bL,rfl,vm⟩:=rk.tk ni h4;cases r with
    | @cM a aj _ f h fG rs=>
     have Oc:=s2 _ _ (s1 _ _ h);have hl:aj.length=es.length:=by have:=congrArg List.length fG;simpa using this.symm
     refine⟨a,_,rfl,oK.t Oc vm (by rw[hl];exact hz),?_⟩;obtain⟨na,nf⟩:=abv.mp zz.1;have rd:∀a∈f,∃o,H a=some o:=λa m=>let⟨o,w,_⟩:=rs.cG a m;⟨o,w⟩
     have dj:∀b∈sL,b∉f:=λb m n=>by obtain⟨o,w⟩:=rd b n;rw[fr.2 b m] at w;cases w
     have av:a∉sL:=λm=>by rw[fr.2 a m] at h;cases h
     have im:aT H2 (upd H2 a (.dT (putK aj key v))):=aT.upd Oc rfl;obtain⟨g',b1,b2,b3⟩:=YI ((rv.same s2).frame (H':=upd H2 a (.dT (putK aj key v))) (λb m=>aL λq=>av (q ▸ m)) im) fr.1 fG (((rs.same s1).same s2).frame (λb m=>aL λq=>na (q ▸ m)) im) nf nk dj;obtain⟨z',aX⟩:=ok.put h2 b8 zz (((aT.of s1).trans (aT.of s2)).trans im) (λb o n e=>by rw[aL λq:b=a=>n (q ▸ aar)];exact s2 _ _ (s1 _ _ e)) (.cM bQ (wX fG) b1) (abv.mpr ⟨λm=>(b3 a m).elim na av,b2⟩) (λb m=>by
      rcases aa3.mp m with rfl|m
      .exact .inl aar
      .exact(b3 b m).imp (aaa _) (fr.2 b))
     exact q z' σ _ aX (.refl _ _)
   .cases e
 .cases e
end
end L2.Ev
namespace PySem
section
variable{prog:Program}{w:World}{K:Type}[DecidableEq K]{knd:HeapKind prog w K}{A:Around}{E:Value->Shared->Prop}{s:Shared}{d:Addr}{xs:List (K×Addr×Value)}
theorem XT(knd:HeapKind prog w K)(d:Addr)(hd:(d==sysModules)=false):
  MeetsIn prog w (Builtin.«dict.__len__» ⟨[.ref d],[]⟩) (λ_ R s=>∃xs,s.heap.DictOfH knd d xs/\R (.ok (.ret (.int xs.length s.toks))) { s with toks:=s.toks+1 }):=
 .of_wp λA R s ⟨xs,hm,h⟩=>by
  obtain⟨o,es,ep,ho,hc,nV,hk,hp,hn⟩:=hm;show wpAny _ _ (dictSize d >>= _) _ _ s;unfold dictSize;refine aaQ (aaQ (wpAny_dictEntries ho nV (acr ?_)));refine aaQ (wpAny_pendingCount_other hd ?_);refine wpAny_ret_mkInt ?_;rw[Nat.add_zero,size_of_entries hk];exact h
theorem TN{Q:Value->Shared->Prop}(hd:(d==sysModules)=false)(hm:s.heap.DictOfH knd d xs)(aeS:(xs.length:Int)<2 ^ 63)
  (h:Q (.int xs.length (s.toks+1)) { s with toks:=s.toks+1+1 }):wpAny (model prog w) A (call (.builtin "len") [.ref d]) Q E s:=by
 refine Calls.call_function_entry kind_len plain_len entry_len (args_len1 _) ?_;unfold Builtin.«len»;refine aaQ (acr ?_);refine aaQ (wpAny_callSpecial?_slot hm.typeIs F.slot_dict_len
  (call_meetsIn F.slot_dict_len hm.typeIs F.entry_dict_len (F.args_dict_len_1 _) (XT knd d hd) ⟨xs,hm,?_⟩))
 refine aaQ (aeU (acr ?_));refine aaQ (wpAny_letGo ?_);rw[if_neg (by omega)];rw[if_neg (by omega)];exact aaQ (wpAny_mkInt (acr ⟨_,rfl,h⟩))
end
end PySem
namespace L2.Ev
open PySem PySem.Spec PySem.W PyProof.Rows
section
variable{X:Cx}{a:Expr}{fa:EF}{pos p:Pos}
theorem ad9:gu X (.builtin "len") (λxs H Q=>∃a aj,xs=[V.ref a]/\H a=some (.dT aj)/\Q (.int aj.length) H):=by
 intro af s σ H xs us Q I r h;obtain⟨a,aj,rfl,ha,q⟩:=h;obtain⟨u,rfl,ru⟩:=vals1 r;cases ru;obtain⟨z,hd,xs,rel,dd⟩:=nF I.aI (.inl ha);have hl:=Paired.length rel;refine TN hd dd (by rw[aeI] at z;omega) ?_;rw[<- hl];exact⟨.int aj.length,H,I.tok _,⟨_,rfl⟩,q⟩
noncomputable def Hg:D->Option D
 |.cM es=>some (.int es.length)
 |_=>none
theorem Zn:lF X.K (λxs H Q=>∃a aj,xs=[V.ref a]/\H a=some (.dT aj)/\Q (.int aj.length) H) Hg:=by
 intro H x d1 f1 d Q r e k;cases d1 with
 |cM es=>
  cases r with
  |cM h hk rs=>
   cases e;refine⟨_,_,rfl,h,?_⟩;have hl:=congrArg List.length hk;rw[List.length_map,List.length_map] at hl;rw[<- hl];exact k H _ [] (aH.refl H) (.int _) ace λa m=>nomatch m
 |_=>cases e
theorem Yn(hm:X.mg "len"=none)(ha:FP X a fa)(hg:Gl X "len":=by rfl)(hs:starEach [a] X.env=[(false,eval a X.env)]:=by rfl):FP X (.Call (.Name "len" p) [a] [] pos) (e1 Hg fa):=
 fp_1 Zn ha λta pa=>pK ad9 hg hm PySem.boot_len (dW pa fH hs) (he:=hs)
theorem Yo:gu X (.builtin "repr") (λxs H Q=>∃i:Int,xs=[.int i]/\i.natAbs.log2<1920/\Q (.str (toString i)) H):=by
 intro af s σ H xs us Q I r h;obtain⟨i,rfl,hz,q⟩:=h;obtain⟨u,rfl,ru⟩:=vals1 r;obtain⟨t,rfl⟩:=ru;exact PySem.P.repr_of_int hz ⟨.str _,H,I.tok _,⟨_,rfl⟩,q⟩
noncomputable def Eh:D->Option D
 |.int i=>if i.natAbs.log2<1920 then some (.str (toString i)) else none
 |_=>none
theorem Ux{K:PySem.W.Frag}:lF K (λxs H Q=>∃i:Int,xs=[.int i]/\i.natAbs.log2<1920/\Q (.str (toString i)) H) Eh:=by
 intro H x d1 f1 d Q r e k;cases d1 with
 |int i=>
  have e:(if i.natAbs.log2<1920 then some (D.str (toString i)) else none)=some d:=e
  by_cases hz:i.natAbs.log2<1920
  .rw[if_pos hz] at e;cases e;cases r;exact⟨i,rfl,hz,k H _ [] (aH.refl H) (.str _) ace λa m=>nomatch m⟩
  .rw[if_neg hz] at e;cases e
 |_=>cases e
theorem K_(hm:X.mg "repr"=none)(ha:FP X a fa)(hg:Gl X "repr":=by rfl)(hs:starEach [a] X.env=[(false,eval a X.env)]:=by rfl):FP X (.Call (.Name "repr" p) [a] [] pos) (e1 Eh fa):=
 fp_1 Ux ha λta pa=>pK Yo hg hm boot_repr (dW pa fH hs) (he:=hs)
end
end L2.Ev
namespace K92
open PySem L2 L2.Ev
local macro_rules | `(tactic| walk_at "s")=>`(tactic| exact ⟨⟨rfl,rfl,rfl,by decide +kernel,rfl,by decide +kernel,by decide +kernel⟩,rfl,rfl,by decide⟩)
set_option hygiene false
local macro_rules | `(tactic| exists 1,$a)=>`(tactic| exact Z.oF (by walk_at "s") fun _ _ _ _ _ _ _ _ hr nd=>by exact $a)
local macro_rules | `(tactic| exists 2,$a)=>`(tactic| exact Z.oM (by walk_at "s") rfl fun _ _ _ _ _ _ _ hr nd=>by exact $a)
local macro_rules | `(tactic| exists 6,$j,$x,$a)=>`(tactic| exact Z.oJ $j $x (by walk_at "s") rfl (by decide) fun _ _ _ _ _ _ _ hr nd=>by exact $a)
set_option hygiene true
theorem fU{z:Z}(E:En L z):ClsAt z.K "Changes" (cA z.K "Changes"):=E.c _ rfl
theorem aF{z:Z}(E:En L z):ClsAt z.K "Gate" (cA z.K "Gate"):=E.c _ rfl
theorem jz{z:Z}(E:En L z):ClsAt z.K "Tally" (cA z.K "Tally"):=E.c _ rfl
def HH:=λ(z:Z) (E:En L z)=>(by exists 1,(aP (bA 4 az nd) (aP (c8 (vz (fY (E.b rfl) (ah 0)) az) (aK (bA 4 (cO (ah 0) (yF (ah 1) (fY (E.b rfl) (ah 0)))) nd)) dz) (aK (aZ (yF (yF (eX (pQ (eX (ah 4) (pQ (ah 1) (ah 1))) az) az) (ah 2)) (ah 3)))))):z.D 1 Str.empty (top 49) (bf · (bB 4 5 _)))
abbrev tH:=fF HH
def tF:=wF HH
def D0:=λ(z:Z) (E:En L z/\tF z)=>(by obtain⟨E,p⟩:=E;exists 1,(aP (bA 2 (eX az (bu p.G hr.m p.m p.kp p.b (ao (ah 0) (ao az (ao az (ao (ah 1) aG)))))) nd) (aP (bA 3 (eX az (bu p.G hr.m p.m p.kp p.b (ao (ah 0) (ao az (ao az (ao az aG)))))) nd) (aP (c8 (f7 (bu p.G hr.m p.m p.kp p.b (ao (ah 0) (ao az (ao az (ao az aG))))) az) (aK (bA 3 az nd)) dz) (aP (bA 4 (eX az (bu p.G hr.m p.m p.kp p.b (ao (ah 0) (ao az (ao az (ao az aG)))))) nd) (aK (aZ (jA (ao (ah 2) (ao (ah 3) (ao (ah 4) (ao (eX (ah 4) (bu p.G hr.m p.m p.kp p.b (ao (ah 0) (ao az (ao az (ao az aG)))))) aG))))))))))):z.D 2 Str.empty (top 50) (bf · (bB 2 5 _)))
abbrev Yt:=fF D0
def X8:=wF D0
def CN:=λ(z:Z) (E:En L z)=>(by exists 1,(aK (aZ (qM (NC abY (E.b rfl) (E.b rfl) (ah 0)) (qM (abw (NC Uw (E.b rfl) (E.b rfl) (ah 0))) (sV (VG (ah 1) (ah 0) (ah 2))))))):z.D 1 Str.empty (top 11) (bf · (bB 3 3 _)))
abbrev m9:=fF CN
def wM:=wF CN
def Hl:=λ(z:Z) (E:En L z/\wM z)=>(by obtain⟨E,p⟩:=E;exists 1,(aK (aZ (qM (bu p.G hr.m p.m p.kp p.b (ao (ah 1) (ao az (ao (o9 (E.i rfl)) aG)))) (sV (bu p.G hr.m p.m p.kp p.b (ao (ah 0) (ao az (ao (ah 1) aG)))))))):z.D 2 Str.empty (top 42) (bf · (bB 2 2 _)))
abbrev YX:=fF Hl
def Li:=wF Hl
def Mf:=λ(z:Z) (E:En L z)=>(by exists 2,(cH (a_ (fL 0 (fU E) (E.n rfl) (ig aG)))):z.D 1 "Changes" (inClass (top 25) 0) (dH · (runM 1 1 _)))
def ZF:=wI Mf
def HW:=λ(z:Z) (E:En L z/\Li z/\wM z/\ZF z)=>(by obtain⟨E,p,q,u⟩:=E;exists 2,(aY (f9 (kQ (FW.ft (qD (gK (bu q.G hr.m q.m q.kp q.b (ao (ah 1) (ao az (ao (o9 (E.i rfl)) aG))))) (qD (gK (bu q.G hr.m q.m q.kp q.b (ao (ah 2) (ao az (ao (o9 (E.i rfl)) aG))))) (sO (gK (bu p.G hr.m p.m p.kp p.b (ao (ah 3) (ao (ah 4) aG))))))))) (cH o7) jc) (aY (a_ (fL 0 (aF E) (E.n rfl) (jA (ao (ah 1) (ao (ah 2) (ao (ah 3) (ao (ah 4) aG))))))) (aY (a_ (fL 0 (aF E) (E.n rfl) (aa9 (fU E).ns u.M u.G hr.m (E.m rfl) u.b))) (aY (a_ (fL 0 (aF E) (E.n rfl) (ig aG))) (aY (a_ (fL 0 (aF E) (E.n rfl) (ig aG))) (aY (a_ (fL 0 (aF E) (E.n rfl) C9)) (aY (a_ (fL 0 (aF E) (E.n rfl) Fj)) (aY (a_ (fL 0 (aF E) (E.n rfl) (ig aG))) (aY (a_ (fL 0 (aF E) (E.n rfl) iQ)) (aY (a_ (fL 0 (aF E) (E.n rfl) (ig aG))) (aY (a_ (fL 0 (aF E) (E.n rfl) (ig aG))) (aY (a_ (fL 0 (aF E) (E.n rfl) az)) (cH (a_ (fL 0 (aF E) (E.n rfl) az))))))))))))))):z.D 3 "Gate" (inClass (top 47) 0) (dH · (runM 5 5 _)))
abbrev MW:=fO HW
def abi:=wI HW
def DM:=λ(z:Z) (E:En L z)=>(by exists 1,(aP (bA 1 (fY (E.b rfl) (bz (aF E) (E.n rfl) (ah 0))) nd) (aP (bA 2 (fY (E.b rfl) (WC (M:=["number","self"]) 0 (g7 rfl (by kernel_rfl)) rfl (aF E) (E.n rfl) λs3 H3 fp=>⟨Xm 0 (aaP rfl),Lx (Po DK (Iq LF (KG ((eZ hr)) (pS (pv 1) (by rfl)) (pv 0) (by exact λ_ _=>rfl)) HL (by exact λ_ _=>rfl)) MR (jo _)),pv 0⟩)) nd) (aK (aZ (jA (ao (ah 1) (ao (t_ (fY (E.b rfl) (bz (aF E) (E.n rfl) (ah 0))) (ah 1)) (ao (bz (aF E) (E.n rfl) (ah 0)) (ao (ah 2) (ao (bz (aF E) (E.n rfl) (ah 0)) aG)))))))))):z.D 1 "Gate" (inClass (top 47) 18) (bf · (bB 1 3 _)))
abbrev Uk:=fF DM
def X4:=wG DM
def Gw:=λ(z:Z) (E:En L z/\tF z)=>(by obtain⟨E,p⟩:=E;exists 1,(aP (bA 5 (bu p.G hr.m p.m p.kp p.b (ao (ah 0) (ao (ah 1) (ao az (ao az aG))))) nd) (aP (c8 (FW.ft (qD (gK (ah 2)) (sO (vz (ah 5) az)))) (aK (aZ cQ)) dz) (aP (c8 (FW.ft (pX (FW.ft (qD (qO (ah 5) az) (sO (qO (ah 1) az)))) (pX (FW.ft (qD (qO (ah 5) az) (sO (f7 (fY (E.b rfl) (ah 3)) az)))) (rG (FW.ft (qD (f7 (ah 5) az) (sO (f7 (fY (E.b rfl) (ah 4)) az)))))))) (aK (aZ cQ)) dz) (aP (c8 (qO (ah 5) az) (aK (aZ cQ)) dz) (aP (c8 (f7 (ah 5) az) (aK (aZ cQ)) dz) (aK (aZ cQ))))))):z.D 2 Str.empty (top 55) (bf · (bB 5 6 _)))
abbrev V7:=fF Gw
def aaD:=wF Gw
def Gy:=λ(z:Z) (E:En L z)=>(by exists 1,(aK (aZ (fY (E.b rfl) (bz (fU E) (E.n rfl) (ah 0))))):z.D 1 "Changes" (inClass (top 25) 2) (bf · (bB 1 1 _)))
abbrev Fp:=fF Gy
def D_:=wG Gy
def Ic:=λ(z:Z) (E:En L z)=>(by exists 1,(aK (aZ (qM (Js (ah 1) (bz (aF E) (E.n rfl) (ah 0))) (qM (Js (ah 1) (bz (aF E) (E.n rfl) (ah 0))) (sV (ab6 (eZ hr) (ah 1) (bz (aF E) (E.n rfl) (ah 0)))))))):z.D 1 "Gate" (inClass (top 47) 19) (bf · (bB 2 2 _)))
abbrev ZD:=fF Ic
def Zf:=wG Ic
def II:=λ(z:Z) (E:En L z/\D_ z/\Zf z)=>(by obtain⟨E,p,q⟩:=E;exists 1,(aK (aZ (jy (M:=["number","self"]) (js:=[none,some 0]) (g7 rfl (by kernel_rfl)) rfl (Ak (E.b rfl) az (eX (eS (fU E) p.t p.G hr.m p.b (bz (aF E) (E.n rfl) (ah 0))) az)) (by decide) λs3 H3 fp=>⟨(bX 0 (aaP rfl)),(n8 (gK (gb (aF E) q.t q.G hr.m q.b (ah 1) (ao (ah 0) aG)))),(ah 0)⟩))):z.D 2 "Gate" (inClass (top 47) 8) (bf · (bB 1 1 _)))
abbrev yg:=fF II
def wN:=wG II
def IQ:=λ(z:Z) (E:En L z)=>(by exists 1,(aK (aZ (kU (E.b rfl) (bz (aF E) (E.n rfl) (ah 0))))):z.D 1 "Gate" (inClass (top 47) 7) (bf · (bB 1 1 _)))
abbrev NR:=fF IQ
def PV:=wG IQ
def Ia:=λ(z:Z) (E:En L z)=>(by exists 1,(aK (aZ (kU (E.b rfl) (bz (aF E) (E.n rfl) (ah 0))))):z.D 1 "Gate" (inClass (top 47) 10) (bf · (bB 1 1 _)))
abbrev aci:=fF Ia
def PN:=wG Ia
def Ie:=λ(z:Z) (E:En L z)=>(by exists 1,(aK (aZ (bz (aF E) (E.n rfl) (ah 0)))):z.D 1 "Gate" (inClass (top 47) 12) (bf · (bB 1 1 _)))
abbrev Rq:=fF Ie
def ac6:=wG Ie
def Iz:=λ(z:Z) (E:En L z/\tF z)=>(by obtain⟨E,p⟩:=E;exists 1,(aP (bA 3 (ah 2) nd) (aP (jg rfl (fq (ah 1)) (bX 4 nd) (aK (bA 3 (yF (eX (pQ (ah 3) az) (ah 4)) az) nd))) (aP (bA 5 (bu p.G hr.m p.m p.kp p.b (ao (ah 0) (ao (yF (ah 3) az) (ao az (ao az aG))))) nd) (aP (c8 (qO (ah 5) (eX az (bu p.G hr.m p.m p.kp p.b (ao (ah 0) (ao az (ao az (ao az aG))))))) (aK (aZ cQ)) dz) (aP (c8 (f7 (ah 5) az) (aK (aZ cQ)) dz) (aK (aZ cQ))))))):z.D 2 Str.empty (top 53) (bf · (bB 3 6 _)))
abbrev adi:=fF Iz
def U9:=wF Iz
def Gg:=λ(z:Z) (E:En L z)=>(by exists 1,(aP (c8 (BG (CZ (bz (jz E) (E.n rfl) (ah 0)) cQ) (bz (jz E) (E.n rfl) (ah 0))) (aK (aZ cQ)) dz) (aP (c8 (BG (CZ (bz (jz E) (E.n rfl) (ah 0)) cQ) (bz (jz E) (E.n rfl) (ah 0))) (aK (aZ cQ)) dz) (aP (c8 (BG (fY (E.b rfl) (bz (jz E) (E.n rfl) (ah 0))) (bz (jz E) (E.n rfl) (ah 0))) (aK (aZ cQ)) dz) (aK (aZ cQ))))):z.D 1 "Tally" (inClass (top 41) 3) (bf · (bB 1 1 _)))
abbrev KD:=fF Gg
def Jj:=wG Gg
def E6:=λ(z:Z) (E:En L z/\Jj z)=>(by obtain⟨E,p⟩:=E;exists 2,(aY (f9 (VD (ah 1) (K4 (E.t rfl))) (cH o7) jc) (aY (f9 (qx (eS (jz E) p.t p.G hr.m p.b (ah 0)) cQ) (cH o7) jc) (aY (a_ (zZ 0 (jz E) (E.n rfl) (ah 1))) (cH (lJ (eS (jz E) p.t p.G hr.m p.b (ah 0))))))):z.D 2 "Tally" (inClass (top 41) 1) (dH · (runM 2 2 _)))
abbrev Mu:=fO E6
def RC:=wO E6
def HX:=λ(z:Z) (E:En L z/\Li z)=>(by obtain⟨E,p⟩:=E;exists 2,(aY (f9 (kQ (gK (bu p.G hr.m p.m p.kp p.b (ao (ah 1) (ao (ah 2) aG))))) (cH o7) jc) (aY (a_ (fL 0 (jz E) (E.n rfl) (ah 1))) (aY (a_ (fL 0 (jz E) (E.n rfl) (ah 2))) (cH (a_ (fL 0 (jz E) (E.n rfl) (ig aG))))))):z.D 3 "Tally" (inClass (top 41) 0) (dH · (runM 3 3 _)))
abbrev AX:=fO HX
def SH:=wI HX
def Ej:=λ(z:Z) (E:En L z)=>(by exists 2,(aY (a_ (fL 0 (aF E) (E.n rfl) (aan (bz (aF E) (E.n rfl) (ah 0)) (t_ (fY (E.b rfl) (ah 1)) (fY (E.b rfl) (bz (aF E) (E.n rfl) (ah 0))))))) (aY (a_ (fL 0 (aF E) (E.n rfl) (kU (E.b rfl) (ah 1)))) (cH (a_ (zZ 0 (aF E) (E.n rfl) (ah 1)))))):z.D 1 "Gate" (inClass (top 47) 22) (dH · (runM 2 2 _)))
abbrev rZ:=fO Ej
def aaj:=wO Ej
def CW:=λ(z:Z) (E:En L z/\wM z/\D_ z)=>(by obtain⟨E,p,q⟩:=E;exists 1,(aK (aZ (bu p.G hr.m p.m p.kp p.b (ao (ah 1) (ao az (ao (eS (fU E) q.t q.G hr.m q.b (ah 0)) aG)))))):z.D 2 "Changes" (inClass (top 25) 9) (bf · (bB 2 2 _)))
abbrev DA:=fF CW
def C0:=wG CW
def EU:=λ(z:Z) (E:En L z/\C0 z)=>(by obtain⟨E,p⟩:=E;exists 1,(aP (c8 (kQ (gK (gb (fU E) p.t p.G hr.m p.b (ah 0) (ao (ah 1) aG)))) (aK NV) dz) (aK (aZ (cO (bz (fU E) (E.n rfl) (ah 0)) (t_ (ah 1) az))))):z.D 3 "Changes" (inClass (top 25) 10) (bf · (bB 2 2 _)))
abbrev R9:=fF EU
def HK:=wG EU
def DB:=λ(z:Z) (E:En L z/\HK z)=>(by obtain⟨E,p⟩:=E;exists 1,(aK (aZ (kU (E.b rfl) (cO (gb (fU E) p.t p.G hr.m p.b (ah 0) (ao (ah 1) aG)) az)))):z.D 4 "Changes" (inClass (top 25) 4) (bf · (bB 2 2 _)))
abbrev CQ:=fF DB
def K0:=wG DB
def Gx:=λ(z:Z) (E:En L z/\wN z/\K0 z)=>(by obtain⟨E,p,q⟩:=E;exists 2,(cH (a_ (jg rfl (fq (eS (aF E) p.t p.G hr.m p.b (ah 0))) (bX 1 nd) (aP (AZ 2 (hN:=nd) (M:=["lean","self"]) (js:=[none,some 0]) (g7 rfl (by kernel_rfl)) rfl (fq (gb (fU E) q.t q.G hr.m q.b (bz (aF E) (E.n rfl) (ah 0)) (ao (ah 1) aG))) (by decide) λs3 H3 fp=>⟨(bX 0 (aaP rfl)),(n8 (Km (eZ hr) (ah 0) (bz (aF E) (E.n rfl) (ah 1)))),(ah 0)⟩) (aK (c8 (Nb (ah 2)) (aK (AR 0 (eZ hr) (aF E) (E.n rfl) (ah 1) (jA (ao cQ (ao (cO (ah 2) az) aG))))) dz)))))):z.D 5 "Gate" (inClass (top 47) 24) (dH · (runM 1 3 _)))
abbrev zE:=fO Gx
def ads:=wO Gx
def EG:=λ(z:Z) (E:En L z/\Jj z)=>(by obtain⟨E,p⟩:=E;exists 1,(aK (aZ (Dk (XG (eZ hr) (ah 1) (bz (aF E) (E.n rfl) (ah 0))) (eS (jz E) p.t p.G hr.m p.b (LB (eZ hr) (bz (aF E) (E.n rfl) (ah 0)) (ah 1) (by exact λ_ _=>rfl))) cQ))):z.D 2 "Gate" (inClass (top 47) 21) (bf · (bB 2 2 _)))
abbrev B5:=fF EG
def Dc:=wG EG
def DZ:=λ(z:Z) (E:En L z)=>(by exists 1,(aK (aZ (uc (E.b rfl) (qp (bz (aF E) (E.n rfl) (ah 0)) (QB (bz (aF E) (E.n rfl) (ah 0)) (ah 1)))))):z.D 1 "Gate" (inClass (top 47) 20) (bf · (bB 2 2 _)))
abbrev yO:=fF DZ
def FF:=wG DZ
def DY:=λ(z:Z) (E:En L z/\Dc z/\FF z)=>(by obtain⟨E,p,q⟩:=E;exists 1,(aP (jg rfl (Ak (E.b rfl) az (eX (fY (E.b rfl) (bz (aF E) (E.n rfl) (ah 0))) az)) (bX 1 nd) (aK (c8 (UU (gb (aF E) p.t p.G hr.m p.b (ah 0) (ao (gb (aF E) q.t q.G hr.m q.b (ah 0) (ao (ah 1) aG)) aG)) (K4 (E.t rfl))) (aK (sW 1)) dz))) (aK (aZ oR))):z.D 3 "Gate" (inClass (top 47) 11) (bf · (bB 1 2 _)))
abbrev B6:=fF DY
def Dj:=wG DY
def Hh:=λ(z:Z) (E:En L z)=>(by exists 1,(aK (aZ (Rt rfl (E.b rfl) (jy (M:=["slot","old","new","values"]) (js:=[none,none,none,some 0]) (g7 rfl (by kernel_rfl)) rfl (fq (ah 1)) (by decide) λs3 H3 fp=>⟨(rP rfl (ia (bX 0 (aaP rfl)) (ia (bX 1 (aaP rfl)) (ia (bX 2 (aaP rfl)) rH)))),(n8 (qx (LH (eZ hr) (ah 3) (ah 0) az) (ah 1))),(ah 0)⟩) oR))):z.D 1 Str.empty (top 19) (bf · (bB 2 2 _)))
abbrev E7:=fF Hh
def GI:=wF Hh
def CY:=λ(z:Z) (E:En L z)=>(by exists 1,(aK (aZ (jy (M:=["slot","values"]) (js:=[none,some 0]) (g7 rfl (by kernel_rfl)) rfl (fq (A5 rfl (E.b rfl) (ah 0))) (by decide) λs3 H3 fp=>⟨(bX 0 (aaP rfl)),(n8 (qx (Ao (eZ hr) (ah 1) (ah 0)) az)),(jA (ao (ah 0) (ao (Ao (eZ hr) (ah 1) (ah 0)) aG)))⟩))):z.D 1 Str.empty (top 20) (bf · (bB 1 1 _)))
abbrev U0:=fF CY
def ad1:=wF CY
def J8:=λ(z:Z) (E:En L z/\GI z/\ad1 z)=>(by obtain⟨E,p,q⟩:=E;exists 1,(aP (bA 2 (zR rfl (E.b rfl) (ah 0)) nd) (aP (jg rfl (fq (ah 1)) (bX 3 nd) (aP (bA 4 (bu p.G hr.m p.m p.kp p.b (ao (ah 2) (ao (ah 3) aG))) nd) (aP (c8 (R0 (ah 4) oR) (aK NV) dz) (aK (jg rfl (fq (ah 3)) (rP rfl (ia (bX 5 nd) (ia (bX 6 nd) (ia (bX 7 nd) rH)))) (aK (zo 2 (eZ hr) (ah 5) (ah 7)))))))) (aK (aZ (bu q.G hr.m q.m q.kp q.b (ao (ah 2) aG)))))):z.D 2 Str.empty (top 17) (bf · (bB 2 8 _)))
def RB:=wF J8
def Cs:=λ(z:Z) (E:En L z/\HK z)=>(by obtain⟨E,p⟩:=E;exists 1,(aK (aZ (kU (E.b rfl) (cO (gb (fU E) p.t p.G hr.m p.b (ah 0) (ao (ah 1) aG)) az)))):z.D 4 "Changes" (inClass (top 25) 5) (bf · (bB 2 2 _)))
abbrev zx:=fF Cs
def zT:=wG Cs
def CS:=λ(z:Z) (E:En L z/\RB z/\zT z)=>(by obtain⟨E,p,q⟩:=E;exists 1,(aK (aZ (bu p.G hr.m p.m p.kp p.b (ao (ig aG) (ao (jy (M:=["number","changes"]) (js:=[none,some 0]) (g7 rfl (by kernel_rfl)) rfl (fq (ah 1)) (by decide) λs3 H3 fp=>⟨(bX 0 (aaP rfl)),mY,(gb (fU E) q.t q.G hr.m q.b (ah 1) (ao (ah 0) aG))⟩) aG))))):z.D 5 Str.empty (top 26) (bf · (bB 2 2 _)))
abbrev Z0:=fF CS
def P0:=wF CS
def EM:=λ(z:Z) (E:En L z/\P0 z)=>(by obtain⟨E,p⟩:=E;exists 1,(aK (aZ (zR rfl (E.b rfl) (bu p.G hr.m p.m p.kp p.b (ao (ah 0) (ao (qp (kU (E.b rfl) (ah 1)) (kU (E.b rfl) (ah 2))) aG)))))):z.D 6 Str.empty (top 32) (bf · (bB 3 3 _)))
abbrev aaz:=fF EM
def Uc:=wF EM
def IY:=λ(z:Z) (E:En L z/\HK z)=>(by obtain⟨E,p⟩:=E;exists 1,(aK (aZ (cO (gb (fU E) p.t p.G hr.m p.b (ah 0) (ao (ah 1) aG)) az))):z.D 4 "Changes" (inClass (top 25) 3) (bf · (bB 2 2 _)))
abbrev Bj:=fF IY
def adY:=wG IY
def ack:SF:=(lU (G3 0 (ak 1) (kR (ay (e1 AQ (cK "Changes" "rank_of" Bj (ak 1) (ay (ak 0) aJ))) (ay (ak 0) aJ)))))
def Im:=λ(z:Z) (E:En L z/\adY z)=>(by obtain⟨E,p⟩:=E;intro f fd F;obtain⟨oc,od,kV,doc,pm,an,cd0,ct,oV,rfl,lk,_⟩:=id F.ex;exact Mc (N:=["changes","numbers"]) F ⟨rfl,rfl,rfl,by decide +kernel,rfl,by decide +kernel,by decide +kernel⟩ λaR A outer s H E' hr=>by exact(aK (aZ (aeF (x:="number") (y:="changes") 0 (E.b rfl) (ah 1) ⟨rfl,rfl,rfl,by decide +kernel,rfl,rfl,by decide +kernel,λ_ _ _ _ _ _ _=>rfl⟩ lk (congrArg (λc=>some (c,_,_)) aR.2.symm) (bh.depth (k:=0) (bh.in1 (bh.in1 hr.m))) (λf c' s H=>(jA (ao (aew (gb (fU E) p.t p.G (bh.deeper (bh.in1 (bh.in1 hr.m)) _) p.b (ah 1) (ao (ah 0) aG))) (ao (ah 0) aG))))))):z.D 8 Str.empty (top 31) (bf · (bB 2 2 ack)))
abbrev QE:=fF Im
def aaZ:=wF Im
def Gk:=λ(z:Z) (E:En L z/\GI z/\zT z)=>(by obtain⟨E,p,q⟩:=E;exists 1,(aK (aZ (SA (bu p.G hr.m p.m p.kp p.b (ao (ah 1) (ao (gb (fU E) q.t q.G hr.m q.b (ah 0) (ao (ah 2) aG)) aG))) oR))):z.D 5 Str.empty (top 33) (bf · (bB 3 3 _)))
abbrev HZ:=fF Gk
def YM:=wF Gk
def GO:=λ(z:Z) (E:En L z/\aaZ z/\YM z)=>(by obtain⟨E,p,q⟩:=E;exists 1,(aP (jg rfl (fq (bu p.G hr.m p.m p.kp p.b (ao (ah 0) (ao (ah 2) aG)))) (bX 3 nd) (aK (c8 (gK (bu q.G hr.m q.m q.kp q.b (ao (ah 0) (ao (ah 1) (ao (ah 3) aG))))) (aK (sW 3)) dz))) (aK (aZ oR))):z.D 9 Str.empty (top 30) (bf · (bB 3 4 _)))
abbrev Ah:=fF GO
def Ry:=wF GO
def HQ:=λ(z:Z) (E:En L z/\K0 z)=>(by obtain⟨E,p⟩:=E;exists 1,(aP (bA 4 (zR rfl (E.b rfl) (jy (M:=["number"]) (js:=[none]) (g7 rfl (by kernel_rfl)) rfl (fq (qp (kU (E.b rfl) (ah 1)) (kU (E.b rfl) (ah 2)))) (by decide) λs3 H3 fp=>⟨(bX 0 (aaP rfl)),mY,(jA (ao (ah 0) (ao iQ aG)))⟩)) nd) (aK (aZ (jy (M:=["number","changes","here"]) (js:=[none,some 0,some 4]) (g7 rfl (by kernel_rfl)) rfl (fq (ah 3)) (by decide) λs3 H3 fp=>⟨(bX 0 (aaP rfl)),(n8 (gK (Cw rfl (E.b rfl) (jy (M:=["lean","here"]) (js:=[none,some 2]) (Yy (by decide +kernel)) rfl (fq (gb (fU E) p.t p.G hr.m p.b (ah 1) (ao (ah 0) aG))) (by decide) λs3 H3 fp=>⟨(bX 0 (aaP rfl)),mY,(ZA (eZ hr) (ah 0) (ah 1))⟩)))),(ah 0)⟩)))):z.D 5 Str.empty (top 28) (bf · (bB 4 5 _)))
abbrev yZ:=fF HQ
def JN:=wF HQ
def DC:=λ(z:Z) (E:En L z/\Uc z/\Ry z/\JN z/\zT z)=>(by obtain⟨E,p,q,u,v⟩:=E;exists 1,(aP (bA 5 (kU (E.b rfl) (ah 2)) nd) (aP (bA 6 (kU (E.b rfl) (ah 3)) nd) (aP (bA 7 (bu p.G hr.m p.m p.kp p.b (ao (ah 0) (ao (ah 1) (ao (ah 2) aG)))) nd) (aP (IW 4000 (qO (fY (E.b rfl) (ah 5)) (ah 4)) (aP (bA 8 (bu q.G hr.m q.m q.kp q.b (ao (ah 0) (ao (ah 7) (ao (bu u.G hr.m u.m u.kp u.b (ao (ah 0) (ao (ah 1) (ao (ah 5) (ao (ah 6) aG))))) aG)))) nd) (aP (c8 (A_ (ah 8) oR) (aK (sW 5)) dz) (aP (H_ 5 (ah 8)) (aP (abJ 6 (ah 8)) (aK (jg rfl (fq (gb (fU E) v.t v.G hr.m v.b (ah 0) (ao (ah 8) aG))) (rP rfl (ia (bX 9 nd) (ia (bX 10 nd) (ia (bX 11 nd) rH)))) (aK (zo 7 (eZ hr) (ah 9) (ah 11)))))))))) (aK (sW 5)))))):z.D 10 Str.empty (top 29) (bf · (bB 5 12 _)))
abbrev GS:=fF DC
def VY:=wF DC
def Ht:=λ(z:Z) (E:En L z/\Dj z/\FF z/\Dc z)=>(by obtain⟨E,p,q,u⟩:=E;exists 2,(aY (f9 (aeL hr.units (eS (aF E) p.t p.G hr.m p.b (ah 0)) az) (cH (lJ iQ)) jc) (aY (a_ (bA 1 (gb (aF E) q.t q.G hr.m q.b (ah 0) (ao az aG)) nd)) (aY (a_ (AR 0 (eZ hr) (aF E) (E.n rfl) (cO (bz (aF E) (E.n rfl) (ah 0)) az) (jA (ao cQ (ao (uc (E.b rfl) (bz (aF E) (E.n rfl) (ah 0))) (ao (ah 1) (ao (gb (aF E) u.t u.G hr.m u.b (ah 0) (ao (ah 1) aG)) aG))))))) (aY (a_ (fL 0 (aF E) (E.n rfl) (ig aG))) (cH (lJ iQ)))))):z.D 4 "Gate" (inClass (top 47) 26) (dH · (runM 1 2 _)))
abbrev OP:=fO Ht
def adx:=wO Ht
def HU:=λ(z:Z) (E:En L z/\P0 z)=>(by obtain⟨E,p⟩:=E;exists 1,(aK (aZ (bu p.G hr.m p.m p.kp p.b (ao (bz (aF E) (E.n rfl) (ah 0)) (ao (bz (aF E) (E.n rfl) (ah 0)) aG))))):z.D 6 "Gate" (inClass (top 47) 13) (bf · (bB 1 1 _)))
abbrev UW:=fF HU
def Xy:=wG HU
def FD:=λ(z:Z) (E:En L z/\GI z)=>(by obtain⟨E,p⟩:=E;exists 1,(aK (aZ (bu p.G hr.m p.m p.kp p.b (ao (zR rfl (E.b rfl) (ah 0)) (ao (ah 1) aG))))):z.D 2 Str.empty (top 16) (bf · (bB 2 2 _)))
abbrev MD:=fF FD
def abj:=wF FD
def Cz:=λ(z:Z) (E:En L z/\JN z/\wN z/\Xy z/\abj z/\zT z)=>(by obtain⟨E,p,q,u,v,y⟩:=E;exists 2,(aY (f9 (Nb (bz (aF E) (E.n rfl) (ah 0))) (cH (lJ iQ)) jc) (aY (a_ (bA 1 (bu p.G hr.m p.m p.kp p.b (ao (bz (aF E) (E.n rfl) (ah 0)) (ao (bz (aF E) (E.n rfl) (ah 0)) (ao (ig aG) (ao (eS (aF E) q.t q.G hr.m q.b (ah 0)) aG))))) nd)) (aY (a_ (bA 2 (eS (aF E) u.t u.G hr.m u.b (ah 0)) nd)) (aY (a_ (jg rfl (fq (ah 1)) (bX 3 nd) (aK (AR 0 (eZ hr) (aF E) (E.n rfl) (ah 3) (jA (ao cQ (ao (bu v.G hr.m v.m v.kp v.b (ao (ah 2) (ao (gb (fU E) y.t y.G hr.m y.b (bz (aF E) (E.n rfl) (ah 0)) (ao (ah 3) aG)) aG))) aG))))))) (cH (lJ (adf hr.units (ah 1) (ig aG)))))))):z.D 7 "Gate" (inClass (top 47) 27) (dH · (runM 1 4 _)))
abbrev Df:=fO Cz
def Vs:=wO Cz
def EH:=λ(z:Z) (E:En L z/\Dj z/\VY z/\wN z/\adx z/\Vs z)=>(by obtain⟨E,p,q,u,v,y⟩:=E;exists 2,(aY (f9 (A_ (eS (aF E) p.t p.G hr.m p.b (ah 0)) oR) (cH (a_ (fL 0 (aF E) (E.n rfl) (bu q.G hr.m q.m q.kp q.b (ao (bz (aF E) (E.n rfl) (ah 0)) (ao (bz (aF E) (E.n rfl) (ah 0)) (ao (bz (aF E) (E.n rfl) (ah 0)) (ao (eS (aF E) u.t u.G hr.m u.b (ah 0)) (ao (cO (bz (aF E) (E.n rfl) (ah 0)) az) aG))))))))) jc) (cH (aac (Yg (j0 0 (aF E) v.t v.G hr.m v.b) (j0 0 (aF E) y.t y.G hr.m y.b))))):z.D 11 "Gate" (inClass (top 47) 25) (dH · (runM 1 1 _)))
abbrev Al:=fO EH
def WH:=wO EH
def F_:=λ(z:Z) (E:En L z/\Dc z)=>(by obtain⟨E,p⟩:=E;exists 1,(aK (aZ (qM (RH hr.units (ah 1) (bz (aF E) (E.n rfl) (ah 0))) (sV (AO (gb (aF E) p.t p.G hr.m p.b (ah 0) (ao (ah 1) aG)) cQ))))):z.D 3 "Gate" (inClass (top 47) 29) (bf · (bB 2 2 _)))
abbrev YG:=fF F_
def Wb:=wG F_
def D6:SF:=(cC (dQ 1 (e2 eK (ak 0) (eC (.int 0)))) (cC (dQ 2 (ak 1)) (cC (jw (qw (ak 0) (e1 (n6 (some 1) none) (ak 0))) (gT (eW (gN 3) (eW (gN 4) m_))) (fP (tV (e2 vn (e2 kG (ak 4) (ak 3)) (e2 kG (ak 2) (ak 1)))) (cC (dQ 1 (ak 3)) (dQ 2 (ak 4))) g9)) (lU (e2 oDiv (e2 iU (ak 1) (ak 2)) (eC (.int 2)))))))
def Dh:=λ(z:Z) (E:En L z)=>(by exists 1,(aP (bA 1 (cO (ah 0) az) nd) (aP (bA 2 (ah 1) nd) (aP (jg rfl (Nq (E.b rfl) (ah 0) (PZ QJ MC (ah 0))) (rP rfl (ia (bX 3 nd) (ia (bX 4 nd) rH))) (aK (c8 (vz (t_ (ah 4) (ah 3)) (t_ (ah 2) (ah 1))) (aP (bA 1 (ah 3) nd) (aK (bA 2 (ah 4) nd))) dz))) (aK (aZ (KL (eX (ah 1) (ah 2)) az)))))):z.D 1 Str.empty (top 37) (bf · (bB 1 5 D6)))
abbrev yG:=fF Dh
def Zi:=wF Dh
def G9:SF:=(cC (dQ 4 (m6 (tV (e2 ja (ak 1) (eC .aD))) (e2 iU (ak 0) (eC (.int 1))) (ak 1))) (cC (dQ 5 (iK [none,some 4] (gZ (ak 2)) (gN 0) (tV (e2 oLt (ak 0) (ak 1))) (ak 0))) (cC (iu (tV (e2 oLt (e1 fN (ak 5)) (e2 yJ (ak 3) (e2 kG (ak 4) (eC (.int 1)))))) (cC (fP (jC (tV (e2 ja (ak 1) (eC .aD))) (tV (e2 (jM true) (ak 0) (ak 5)))) (mE 5 (ak 0)) (mE 5 (cP yG (ay (e2 fX (e2 fX (jq (ay (eC (.int 0)) aJ)) (ak 5)) (jq (ay (ak 4) aJ))) aJ)))) (dQ 5 (e1 lV (ak 5)))) 4000) (pF 5))))
def Gu:=λ(z:Z) (E:En L z/\Zi z)=>(by obtain⟨E,p⟩:=E;exists 1,(aP (bA 4 (Dk (A_ (ah 1) oR) (eX (ah 0) az) (ah 1)) nd) (aP (AZ 5 (hN:=nd) (M:=["place","end"]) (js:=[none,some 4]) (g7 rfl (by kernel_rfl)) rfl (fq (ah 2)) (by decide) λs3 H3 fp=>⟨(bX 0 (aaP rfl)),(n8 (qO (ah 0) (ah 1))),(ah 0)⟩) (aP (IW 4000 (qO (fY (E.b rfl) (ah 5)) (LM rfl (E.b rfl) (ah 3) (t_ (ah 4) az))) (aP (c8 (FW.ft (qD (A_ (ah 1) oR) (sO (Vn (ah 0) (ah 5))))) (aK (H_ 5 (ah 0))) (aK (H_ 5 (bu p.G hr.m p.m p.kp p.b (ao (qp (qp (ig (ao az aG)) (ah 5)) (ig (ao (ah 4) aG))) aG))))) (aK (bA 5 (A5 rfl (E.b rfl) (ah 5)) nd)))) (aK (sW 5))))):z.D 2 Str.empty (top 35) (bf · (bB 4 6 G9)))
abbrev IP:=fF Gu
def ad4:=wF Gu
def IL:=λ(z:Z) (E:En L z/\Wb z/\FF z/\ad4 z/\Dj z)=>(by obtain⟨E,p,q,u,v⟩:=E;exists 1,(aP (bA 1 (fY (E.b rfl) (bz (aF E) (E.n rfl) (ah 0))) nd) (aP (AZ 2 (hN:=nd) (M:=["place","self"]) (js:=[none,some 0]) (g7 rfl (by kernel_rfl)) rfl (Ak (E.b rfl) az (eX (ah 1) az)) (by decide) λs3 H3 fp=>⟨(bX 0 (aaP rfl)),(n8 (gK (gb (aF E) p.t p.G hr.m p.b (ah 1) (ao (gb (aF E) q.t q.G hr.m q.b (ah 1) (ao (ah 0) aG)) aG)))),(ah 0)⟩) (aK (aZ (jy (M:=["place","self"]) (js:=[none,some 0]) (g7 rfl (by kernel_rfl)) rfl (fq (bu u.G hr.m u.m u.kp u.b (ao (ah 1) (ao (eS (aF E) v.t v.G hr.m v.b (ah 0)) (ao (ah 2) (ao (cO (bz (aF E) (E.n rfl) (ah 0)) az) aG)))))) (by decide) λs3 H3 fp=>⟨(bX 0 (aaP rfl)),mY,(gb (aF E) q.t q.G hr.m q.b (ah 1) (ao (ah 0) aG))⟩))))):z.D 4 "Gate" (inClass (top 47) 28) (bf · (bB 1 3 _)))
abbrev VU:=fF IL
def acI:=wG IL
def GW:=λ(z:Z) (E:En L z/\ads z/\WH z/\acI z)=>(by obtain⟨E,p,q,u⟩:=E;exists 2,(aY (a_ (jS (j0 0 (aF E) p.t p.G hr.m p.b))) (aY (a_ (Y4 4000 (XM (kQ (gK (bz (aF E) (E.n rfl) (ah 0)))) (Vl (j0 0 (aF E) q.t q.G hr.m q.b))) (aK (jS (j0 0 (aF E) p.t p.G hr.m p.b))))) (cH (a_ (fL 0 (aF E) (E.n rfl) (eS (aF E) u.t u.G hr.m u.b (ah 0))))))):z.D 12 "Gate" (inClass (top 47) 23) (dH · (runM 1 1 _)))
abbrev mJ:=fO GW
def yQ:=wO GW
def Io:=λ(z:Z) (E:En L z/\RC z/\SH z/\aaj z/\yQ z)=>(by obtain⟨E,p,q,u,v⟩:=E;exists 2,(aY (f9 (Va hr.units (ah 1) (bz (aF E) (E.n rfl) (ah 0))) (cH o7) jc) (acX (eZ hr) (E.ni rfl) (aF E) (E.n rfl) (jz E) p.t p.G hr.m p.b (MA (jz E).ns q.M q.G hr.m (E.m rfl) q.b (ao (cO (bz (aF E) (E.n rfl) (ah 0)) az) (ao (cO (bz (aF E) (E.n rfl) (ah 0)) az) aG))) (aY (a_ (CB 0 (aF E) (E.n rfl) az)) (aY (f9 (qx (ah 4) cQ) (cH (a_ (zZ 0 (aF E) (E.n rfl) (jA (ao (ah 1) (ao (ah 4) aG)))))) jc) (aY (f9 (f7 (ah 4) cQ) (cH (a_ (jS (FY.fz (AA 0 (aF E) u.t u.G hr.m u.b (ao (ah 1) aG)))))) jc) (aY (a_ (jS (j0 0 (aF E) v.t v.G hr.m v.b))) (cH (lJ (ah 4))))))) nd)):z.D 13 "Gate" (inClass (top 47) 3) (dH · (runM 3 5 _)))
abbrev KO:=fO Io
def adt:=wO Io
def GX:=λ(z:Z) (E:En L z)=>(by exists 1,(aP (jg rfl (fq (ig (ao cQ (ao cQ aG)))) (bX 2 nd) (aK (c8 (f7 (CZ (ah 0) (ah 2)) (cO (ah 1) az)) (aK (sW 2)) dz))) (aP (c8 (f7 (fY (E.b rfl) (ah 0)) (cO (ah 1) az)) (aK (aZ cQ)) dz) (aK (aZ cQ)))):z.D 1 Str.empty (top 54) (bf · (bB 2 3 _)))
abbrev OJ:=fF GX
def YF:=wF GX
def G5:=λ(z:Z) (E:En L z/\PN z/\tF z/\U9 z/\adt z/\YF z)=>(by obtain⟨E,p,q,u,v,y⟩:=E;exists 6,[2,3],["_law_gate","_law_record"],(aY (a_ (bA 5 (eS (aF E) p.t p.G hr.m p.b (ah 2)) nd)) (aY (a_ (bA 6 (cO (ah 5) (bu q.G hr.m q.m q.kp q.b (ao (ah 0) (ao (ah 1) (ao az (ao (fY (E.b rfl) (ah 5)) aG)))))) nd)) (aY (a_ (bA 7 (Vr (eZ hr) (E.ni rfl) (ah 3) (ah 6) (ig aG)) nd)) (aY (a_ (bA 8 (bu u.G hr.m u.m u.kp u.b (ao (ah 0) (ao (ah 6) (ao (fY (E.b rfl) (ah 7)) aG)))) nd)) (aY (a_ (PK 3 (eZ hr) (E.ni rfl) (ah 6) (qp (ah 7) (ig (ao (ah 8) aG))))) (aY (a_ (jS (FY.fz (AA 2 (aF E) v.t v.G hr.m v.b (ao (ah 6) (ao (ah 8) aG)))))) (cH (lJ (bu y.G hr.m y.m y.kp y.b (ao (LB (eZ hr) (ah 3) (ah 6) (by exact λ_ _=>rfl)) (ao (ah 4) aG))))))))))):z.D 14 Str.empty (top 57) (nI [2,3] · (mT [2,3] 5 9 _)))
abbrev Z4:=fJ G5
def U4:=wJ G5
def Gn:=λ(z:Z) (E:En L z/\tF z)=>(by obtain⟨E,p⟩:=E;exists 1,(aP (bA 3 C9 nd) (aP (jg rfl (Lb (E.b rfl) (bu p.G hr.m p.m p.kp p.b (ao (ah 0) (ao (ah 1) (ao az (ao az aG)))))) (bX 4 nd) (aP (bA 5 (bu p.G hr.m p.m p.kp p.b (ao (ah 0) (ao (eX (ah 1) (pQ az (ah 4))) (ao az (ao az aG))))) nd) (aP (bA 6 (LH (eZ hr) (ah 2) (ah 5) az) nd) (aP (c8 (f7 (bu p.G hr.m p.m p.kp p.b (ao (ah 0) (ao (eX (ah 1) (ah 4)) (ao az (ao az aG))))) az) (aK (bA 6 (bu p.G hr.m p.m p.kp p.b (ao (ah 0) (ao (eX (ah 1) (ah 4)) (ao az (ao az aG))))) nd)) dz) (aP (bA 7 (bu p.G hr.m p.m p.kp p.b (ao (ah 0) (ao (eX (ah 1) (pQ az (ah 4))) (ao az (ao az aG))))) nd) (aP (c8 (f7 (ah 7) (ah 6)) (aK (bA 7 (eX (ah 6) az) nd)) dz) (aK (zo 3 (eZ hr) (ah 5) (jA (ao (ah 5) (ao (ah 6) (ao (ah 7) aG)))))))))))) (aK (aZ (jy (M:=["_law_slot","_law_news"]) (js:=[none,some 3]) (g7 rfl (by kernel_rfl)) rfl (fq (A5 rfl (E.b rfl) (ah 3))) (by decide) λs3 H3 fp=>⟨(bX 0 (aaP rfl)),mY,(Ao (eZ hr) (ah 1) (ah 0))⟩))))):z.D 2 Str.empty (top 51) (bf · (bB 3 8 _)))
abbrev MQ:=fF Gn
def T_:=wF Gn
def IT:=λ(z:Z) (E:En L z/\tF z/\T_ z)=>(by obtain⟨E,p,q⟩:=E;exists 6,[2],["_law_values"],(aY (a_ (bA 4 (ig aG) nd)) (aY (a_ (c8 (f7 (bu p.G hr.m p.m p.kp p.b (ao (ah 0) (ao (ah 1) (ao az (ao az aG))))) az) (aK (AZ 4 (hN:=nd) (M:=["_law_number","_law_script","_law_k"]) (js:=[none,some 0,some 1]) (g7 rfl (by kernel_rfl)) rfl (Ak (E.b rfl) az (eX (ah 3) az)) (by decide) λs3 H3 fp=>⟨(bX 0 (aaP rfl)),(n8 (f7 (bu p.G hr.m p.m p.kp p.b (ao (ah 1) (ao (eX (ah 2) (pQ az (ah 0))) (ao az (ao az aG))))) az)),(ah 0)⟩)) dz)) (aY (a_ (IX 5 (adb 4 (bu p.G hr.m p.m p.kp p.b (ao (ah 0) (ao (ah 1) (ao az (ao az aG))))) (bu q.G hr.m q.m q.kp q.b (ao (ah 0) (ao (ah 1) (ao (ah 2) aG))))) nd)) (aY (a_ (jg rfl (fq (BI (ah 5) az)) (rP rfl (ia (bX 6 nd) (ia (bX 7 nd) (ia (bX 8 nd) rH)))) (aK (zo 2 (eZ hr) (ah 6) (ah 8))))) (cH (SW 5)))))):z.D 3 Str.empty (top 52) (nI [2] · (mT [2] 4 9 _)))
abbrev QU:=fJ IT
def aag:=wJ IT
def CP:=λ(z:Z) (E:En L z)=>(by exists 1,(aK (aZ (Cw rfl (E.b rfl) (jy (M:=["low","high"]) (js:=[none,none]) (g7 rfl (by kernel_rfl)) rfl (Nq (E.b rfl) (ah 0) (PZ QJ MC (ah 0))) (by decide) λs3 H3 fp=>⟨(rP rfl (ia (bX 0 (aaP rfl)) (ia (bX 1 (aaP rfl)) rH))),mY,(TM (ah 0) (ah 1))⟩)))):z.D 1 Str.empty (top 12) (bf · (bB 1 1 _)))
abbrev S6:=fF CP
def Ly:=wF CP
def EK:=λ(z:Z) (E:En L z/\wM z/\Ly z)=>(by obtain⟨E,p,q⟩:=E;exists 1,(aP (jg rfl (fq (ah 0)) (rP rfl (ia (bX 1 nd) (ia (bX 2 nd) (ia (bX 3 nd) rH)))) (aP (c8 (kQ (FW.ft (qD (gK (bu p.G hr.m p.m p.kp p.b (ao (ah 1) (ao az (ao (o9 (E.i rfl)) aG))))) (sO (gK (bu p.G hr.m p.m p.kp p.b (ao (ah 2) (ao az (ao (o9 (E.i rfl)) aG))))))))) (aK (aZ iQ)) dz) (aK (c8 (FW.ft (pX (kQ (gK (bu p.G hr.m p.m p.kp p.b (ao (ah 3) (ao az (ao (o9 (E.i rfl)) aG)))))) (rG (f7 (ah 2) (ah 3))))) (aK (aZ iQ)) dz)))) (aK (aZ (bu q.G hr.m q.m q.kp q.b (ao (jy (M:=["edit"]) (js:=[none]) (g7 rfl (by kernel_rfl)) rfl (fq (ah 0)) (by decide) λs3 H3 fp=>⟨(bX 0 (aaP rfl)),mY,(cO (ah 0) az)⟩) aG))))):z.D 2 Str.empty (top 18) (bf · (bB 1 4 _)))
abbrev T9:=fF EK
def Xu:=wF EK
def Iu:=λ(z:Z) (E:En L z/\wM z/\Ly z/\C0 z/\Xu z)=>(by obtain⟨E,p,q,u,v⟩:=E;exists 1,(aP (c8 (kQ (gK (bu p.G hr.m p.m p.kp p.b (ao (ah 1) (ao az (ao (o9 (E.i rfl)) aG)))))) (aK (aZ iQ)) dz) (aP (c8 (FW.ft (pX (kQ (gK (Cw rfl (E.b rfl) (jy (M:=["lean","self"]) (js:=[none,some 0]) (g7 rfl (by kernel_rfl)) rfl (fq (ah 2)) (by decide) λs3 H3 fp=>⟨(bX 0 (aaP rfl)),mY,(gb (fU E) u.t u.G hr.m u.b (ah 1) (ao (ah 0) aG))⟩)))) (rG (kQ (gK (bu q.G hr.m q.m q.kp q.b (ao (ah 2) aG))))))) (aK (aZ iQ)) dz) (aK (aZ (qM (NS (fY (E.b rfl) (ah 3)) (o9 (E.i rfl))) (sV (bu v.G hr.m v.m v.kp v.b (ao (ah 3) aG)))))))):z.D 3 "Changes" (inClass (top 25) 11) (bf · (bB 4 4 _)))
abbrev adl:=fF Iu
def aen:=wG Iu
def EI:=λ(z:Z) (E:En L z/\aen z/\D_ z)=>(by obtain⟨E,p,q⟩:=E;exists 2,(aY (f9 (kQ (gK (gb (fU E) p.t p.G hr.m p.b (ah 0) (ao (ah 1) (ao (ah 2) (ao (ah 3) aG)))))) (cH o7) jc) (aY (f9 (BG (eS (fU E) q.t q.G hr.m q.b (ah 0)) (o9 (E.i rfl))) (cH o7) jc) (aY (a_ (zZ 0 (fU E) (E.n rfl) (jA (ao (ah 1) (ao (uc (E.b rfl) (ah 2)) (ao (uc (E.b rfl) (jy (M:=["edit"]) (js:=[none]) (g7 rfl (by kernel_rfl)) rfl (fq (ah 3)) (by decide) λs3 H3 fp=>⟨(bX 0 (aaP rfl)),mY,(uc (E.b rfl) (ah 0))⟩)) aG)))))) (cH (lJ (eS (fU E) q.t q.G hr.m q.b (ah 0))))))):z.D 4 "Changes" (inClass (top 25) 1) (dH · (runM 4 4 _)))
abbrev Bc:=fO EI
def YE:=wO EI
def FQ:=λ(z:Z) (E:En L z/\YE z/\yQ z)=>(by obtain⟨E,p,q⟩:=E;exists 2,(aY (a_ (ZY 4 (FY.fz (aby 0 (aF E) (E.n rfl) (fU E) p.t p.G hr.m p.b (ao (ah 1) (ao (ah 2) (ao (ah 3) aG))))) nd)) (aY (a_ (jS (j0 0 (aF E) q.t q.G hr.m q.b))) (cH (lJ (ah 4))))):z.D 13 "Gate" (inClass (top 47) 1) (dH · (runM 4 5 _)))
abbrev Qw:=fO FQ
def Xw:=wO FQ
def IS:=λ(z:Z) (E:En L z/\C0 z/\yQ z)=>(by obtain⟨E,p,q⟩:=E;exists 2,(aY (f9 (kQ (gK (gb (fU E) p.t p.G hr.m p.b (bz (aF E) (E.n rfl) (ah 0)) (ao (ah 1) aG)))) (cH o7) jc) (aY (f9 (FW.ft (pX (Oq (ah 1) (bz (aF E) (E.n rfl) (ah 0))) (rG (Km (eZ hr) (ah 1) (bz (aF E) (E.n rfl) (ah 0)))))) (cH o7) jc) (aY (f9 (Oq (ah 1) (bz (aF E) (E.n rfl) (ah 0))) (cH (a_ (fL 0 (aF E) (E.n rfl) (QB (bz (aF E) (E.n rfl) (ah 0)) (UI (bz (aF E) (E.n rfl) (ah 0)) (ah 1)))))) jc) (aY (a_ (AR 0 (eZ hr) (aF E) (E.n rfl) (ah 1) (jA (ao cQ aG)))) (aY (a_ (CB 0 (aF E) (E.n rfl) az)) (cH (a_ (jS (j0 0 (aF E) q.t q.G hr.m q.b))))))))):z.D 13 "Gate" (inClass (top 47) 2) (dH · (runM 2 2 _)))
abbrev MY:=fO IS
def Vb:=wO IS
def Hx:=λ(z:Z) (E:En L z/\yQ z)=>(by obtain⟨E,p⟩:=E;exists 2,(aY (a_ (fL 0 (aF E) (E.n rfl) (ig aG))) (aY (a_ (fL 0 (aF E) (E.n rfl) iQ)) (aY (a_ (CB 0 (aF E) (E.n rfl) az)) (cH (a_ (jS (j0 0 (aF E) p.t p.G hr.m p.b))))))):z.D 13 "Gate" (inClass (top 47) 4) (dH · (runM 1 1 _)))
abbrev AG:=fO Hx
def WO:=wO Hx
def DN:=λ(z:Z) (E:En L z/\yQ z)=>(by obtain⟨E,p⟩:=E;exists 2,(aY (a_ (fL 0 (aF E) (E.n rfl) iQ)) (cH (a_ (jS (j0 0 (aF E) p.t p.G hr.m p.b))))):z.D 13 "Gate" (inClass (top 47) 5) (dH · (runM 1 1 _)))
abbrev Cg:=fO DN
def acD:=wO DN
def Gh:=λ(z:Z) (E:En L z/\aag z/\Xw z/\wN z/\PV z/\Vb z/\tF z/\WO z/\acD z)=>(by obtain⟨E,p,q,u,v,y,g,h,j⟩:=E;exists 6,[3,4],["_law_gate","_law_values"],(aY (f9 (f7 (ah 2) cQ) (aY (a_ (IX 6 (JA [4] [none,none,some 4,none] p.G hr.m p.m p.kp p.b (nH (ah 0) (nH (ah 1) (vU 4 (nH (ah 5) DR))))) nd)) (cH (a_ (jS (FY.fz (AA 3 (aF E) q.t q.G hr.m q.b (ao (BI (ah 6) az) (ao (BI (ah 6) az) (ao (BI (ah 6) az) aG))))))))) (cH (f9 (f7 (ah 2) cQ) (aY (a_ (bA 7 (qp (eS (aF E) u.t u.G hr.m u.b (ah 3)) (eS (aF E) v.t v.G hr.m v.b (ah 3))) nd)) (cH (a_ (jS (FY.fz (AA 3 (aF E) y.t y.G hr.m y.b (ao (cO (ah 7) (bu g.G hr.m g.m g.kp g.b (ao (ah 0) (ao (ah 1) (ao az (ao (fY (E.b rfl) (ah 7)) aG)))))) aG))))))) (cH (f9 (f7 (ah 2) cQ) (aY (a_ (jS (j0 3 (aF E) h.t h.G hr.m h.b))) (cH (f9 (f7 (bu g.G hr.m g.m g.kp g.b (ao (ah 0) (ao (ah 1) (ao az (ao az aG))))) az) (aY (a_ (jS (j0 3 (aF E) h.t h.G hr.m h.b))) (cH (lJ az))) jc))) (cH (a_ (jS (j0 3 (aF E) j.t j.G hr.m j.b))))))))) (cH (lJ (Hu (E.b rfl) (qM (JS (ah 2) cQ) (sV (JS (ah 2) cQ))))))):z.D 14 Str.empty (top 58) (nI [3,4] · (mT [3,4] 6 8 _)))
abbrev Ys:=fJ Gh
def Xr:=wJ Gh
def E9:=λ(z:Z) (E:En L z)=>(by exists 1,(aK (aZ (jy (M:=["number","self"]) (js:=[none,some 0]) (g7 rfl (by kernel_rfl)) rfl (fq (A5 rfl (E.b rfl) (bz (aF E) (E.n rfl) (ah 0)))) (by decide) λs3 H3 fp=>⟨(bX 0 (aaP rfl)),mY,(jA (ao (ah 0) (ao (Ao (eZ hr) (bz (aF E) (E.n rfl) (ah 1)) (ah 0)) aG)))⟩))):z.D 1 "Gate" (inClass (top 47) 9) (bf · (bB 1 1 _)))
abbrev acp:=fF E9
def adh:=wG E9
def GC:=λ(z:Z) (E:En L z)=>(by exists 1,(aP (bA 1 az nd) (aP (IW 4000 (vz (ah 0) az) (aP (bA 0 (KL (ah 0) az) nd) (aK (bA 1 (eX (ah 1) az) nd)))) (aK (sW 1)))):z.D 1 Str.empty (top 56) (bf · (bB 1 2 _)))
abbrev abT:=fF GC
def ad5:=wF GC
def QL:=λ(z:Z) (E:En L z)=>(by exists 1,(aK (aZ (bz (aF E) (E.n rfl) (ah 0)))):z.D 1 "Gate" (inClass (top 47) 16) (bf · (bB 1 1 _)))
def aaw:=wG QL
def IJ:=λ(z:Z) (E:En L z)=>(by exists 1,(aK (aZ (Dk (f7 (ah 1) az) (acY (ah 0)) (ah 0)))):z.D 1 Str.empty (top 36) (bf · (bB 2 2 _)))
abbrev abR:=fF IJ
def Uh:=wF IJ
def F1:=λ(z:Z) (E:En L z)=>(by exists 1,(aK (aZ (kU (E.b rfl) (bz (aF E) (E.n rfl) (ah 0))))):z.D 1 "Gate" (inClass (top 47) 6) (bf · (bB 1 1 _)))
abbrev abc:=fF F1
def acw:=wG F1
def Ff:=λ(z:Z) (E:En L z/\ad5 z/\aaw z/\Uh z/\acw z)=>(by obtain⟨E,p,q,u,v⟩:=E;exists 1,(aP (bA 4 (cO (ah 2) az) nd) (aP (c8 (f7 (cO (ah 2) az) az) (aK (bA 4 (bu p.G hr.m p.m p.kp p.b (ao (cO (ah 2) az) aG)) nd)) dz) (aP (c8 (FW.ft (pX (qx (K_ (E.b rfl) (bu u.G hr.m u.m u.kp u.b (ao (cO (ah 2) az) (ao (cO (ah 2) az) aG)))) (K_ (E.b rfl) (ah 4))) (rG (qx (vf hr (E.b rfl) (eS (aF E) q.t q.G hr.m q.b (ah 0))) (vf hr (E.b rfl) (ah 2)))))) (aK (aZ iQ)) dz) (aP (c8 (FW.ft (pX (vz (cO (ah 1) az) (fY (E.b rfl) (eS (aF E) v.t v.G hr.m v.b (ah 0)))) (rG (vz (cO (ah 1) az) (pQ (ah 4) (eX (eX az (cO (ah 1) az)) (cO (ah 1) az))))))) (aK (aZ iQ)) dz) (aK (aZ (NS (cO (ah 1) az) (pQ (cO (ah 2) az) (Yn (E.b rfl) (ah 3)))))))))):z.D 2 Str.empty (top 59) (bf · (bB 4 5 _)))
abbrev LN:=fF Ff
def ZV:=wF Ff
def o_law:=λ(z:Z) (E:En L z/\X8 z/\abi z/\X4 z/\aaD z/\wN z/\PV z/\PN z/\ac6 z/\U4 z/\Xr z/\adh z/\ZV z)=>(by obtain⟨E,p,q,u,v,y,g,h,j,l,m,a0,a1⟩:=E;exists 1,(aP (bA 1 (bu p.G hr.m p.m p.kp p.b (ao (ah 0) (ao az aG))) nd) (aP (bA 2 (MA (aF E).ns q.M q.G hr.m (E.m rfl) q.b (ao (cO (ah 1) az) (ao (cO (ah 1) az) (ao (cO (ah 1) az) (ao (cO (ah 1) az) aG))))) nd) (aP (c8 (qx (vf hr (E.b rfl) (eS (aF E) u.t u.G hr.m u.b (ah 2))) (vf hr (E.b rfl) (jA (ao az (ao az (ao az (ao az (ao az aG)))))))) (aK (aZ iQ)) dz) (aP (bA 3 C9 nd) (aP (bA 4 Fj nd) (aP (bA 5 Fj nd) (aP (bA 6 az nd) (aP (bA 7 (ig (ao az (ao az (ao az (ao az (ao az aG)))))) nd) (aP (jg rfl (Lb (E.b rfl) (LM rfl (E.b rfl) az (fY (E.b rfl) (ah 0)))) (bX 8 nd) (aP (bA 9 (bu v.G hr.m v.m v.kp v.b (ao (ah 0) (ao (ah 8) (ao (eS (aF E) j.t j.G hr.m j.b (ah 2)) (ao (eS (aF E) h.t h.G hr.m h.b (ah 2)) (ao (qp (eS (aF E) y.t y.G hr.m y.b (ah 2)) (eS (aF E) g.t g.G hr.m g.b (ah 2))) aG)))))) nd) (aP (c8 (f7 (ah 9) cQ) (aP (IX 10 (JA [2,4] [none,none,some 2,some 4,none] l.G hr.m l.m l.kp l.b (nH (ah 0) (nH (ah 8) (vU 2 (vU 4 (nH (ah 1) DR)))))) nd) (aP (zg 7 az (eX (cO (ah 7) az) az)) (aP (zg 7 az (eX (cO (ah 7) az) (Hu (E.b rfl) (AO (ah 10) cQ)))) (aK (zg 7 az (eX (cO (ah 7) az) (Hu (E.b rfl) (Vy (AO (ah 10) cQ) (sV (AO (ah 10) cQ)))))))))) (aK (Wc 7 az (aam (cO (ah 7) az) (FK.fz (K8 [2,3] [none,none,none,some 2,some 3,none] m.G hr.m m.m m.kp m.b (nH (ah 0) (nH (ah 8) (nH (ah 9) (vU 2 (vU 3 (nH (ah 6) DR)))))))))))) (aP (c8 (f7 (ah 9) cQ) (aK (bA 6 (eX (ah 6) az) nd)) dz) (aP (zg 7 az (fY (E.b rfl) (jy (M:=["_law_one"]) (js:=[none]) (g7 rfl (by kernel_rfl)) rfl (fq (eS (aF E) a0.t a0.G hr.m a0.b (ah 2))) (by decide) λs3 H3 fp=>⟨(bX 0 (aaP rfl)),(n8 (f7 (cO (cO (ah 0) az) az) cQ)),(ah 0)⟩))) (aP (jg rfl (fq (eS (aF E) h.t h.G hr.m h.b (ah 2))) (bX 11 nd) (aK (PK 5 (eZ hr) (E.ni rfl) (ah 11) iQ))) (aP (bA 12 (eS (aF E) u.t u.G hr.m u.b (ah 2)) nd) (aK (c8 (FW.ft (pX (qx (vf hr (E.b rfl) (ah 12)) (vf hr (E.b rfl) (uc (E.b rfl) (ah 7)))) (rG (kQ (gK (bu a1.G hr.m a1.m a1.kp a1.b (ao (ah 2) (ao (ah 12) (ao (ah 1) (ao (ah 5) aG)))))))))) (aK (aZ iQ)) dz))))))))) (aK (aZ iQ))))))))))):z.D 15 Str.empty (top 60) (bf · (bB 1 13 _)))
abbrev yu:=fF o_law
end K92
namespace K92
open PySem L2 L2.Ev
theorem cZ(h:f ρ=some (d,.own)):lU f ρ=some (.rt d):=by rw[r6,h];rfl
theorem AY:m9 [.int v,.int a,.int b]=some (.bl (decide (a<=v)&&decide (v<=b))):=by
 refine cz rfl (cZ ?_);show(match some (D.bl (decide (a<=v))) with|some (.bl true)=>some (D.bl (decide (v<=b)),Tag.own)|some (.bl false)=>some (.bl false,.own)|_=>none)=_;cases decide (a<=v)<;>rfl
noncomputable def iL(l:List Int):D:=.lst (l.map D.int)
noncomputable abbrev Ed:=Int×Int×Int
noncomputable def dT(p:Ed):D:=.tup [.int p.1,.int p.2.1,.int p.2.2]
def eL(E:List Ed):D:=.lst (E.map dT)
theorem yx:∀E:List Ed,aN (E.map dT)=true
 |[]=>rfl
 |p::r=>by rw[aax];unfold aN;rw[yx r];rfl
theorem Jr:∀bs:List Bool,mG (bs.map D.bl)=some bs
 |[]=>rfl
 |b::r=>by rw[aax];unfold mG;rw[Jr r];rfl
theorem L1{bs:List Bool}:wL (.lst (bs.map D.bl))=some (.bl (bs.all id)):=by
 show(mG (bs.map D.bl)).map (λbs=>D.bl (bs.all id))=_;rw[Jr];rfl
theorem o8{α β:Type}(f:α->β):∀l:List α,l.filterMap (λx=>some (f x))=l.map f
 |[]=>rfl
 |a::l=>by rw[aef,aax];show _::_=_;rw[o8 f l]
abbrev g2:GF:=gT (eW (gN 0) (eW (gN 1) m_))
theorem size_le{n:Nat}(h:n<=10000):n<sizeLine:=by unfold sizeLine;lia
theorem L8{k:Nat}(hk:k<=ds.length):cutD ds (some (k:Int)) none=ds.drop k:=by
 unfold cutD;rw[HT.D5,HT.CT,Nat.min_eq_left hk,List.take_of_length_le (by rw[List.length_drop];exact abH _)]
theorem QV{k:Nat}(hk:k<=ds.length):cutD ds none (some (k:Int))=ds.take k:=by
 unfold cutD;rw[HT.D5,HT.CT,Nat.min_eq_left hk];rfl
theorem Ug{ds:List D}:cutD ds (some 1) none=ds.drop 1:=by
 cases ds with
 |nil=>rfl
 |cons a r=>exact L8 (by simp)
noncomputable def pL:List Int->Bool
 |x::y::r=>decide (x<y)&&pL (y::r)
 |_=>true
theorem OM:∀l:List Int,((l.zip (l.drop 1)).map λp=>decide (p.1<p.2)).all id=pL l
 |[]=>rfl
 |[_]=>rfl
 |x::y::r=>by
  have ih:=OM (y::r);show(decide (x<y)&&(((y::r).zip ((y::r).drop 1)).map λp=>decide (p.1<p.2)).all id)=_;rw[ih];rfl
theorem GN:∀{l:List Int},l.Pairwise (· < ·)->pL l=true
 |[],_=>rfl
 |[_],_=>rfl
 |x::y::r,h=>by
  obtain⟨h1,h2⟩:=adp.mp h;show(decide (x<y)&&pL (y::r))=true;rw[GN h2,aaN (h1 y aar)];rfl
theorem JT{l:List Int}(hl:l.length<=100):S6 [iL l]=some (.bl (pL l)):=by
 have q1:e1 (n6 (some 1) none) (ak 0) [some (iL l,.sh [])]=some (iL (l.drop 1),.own):=bC rfl (by
  show(if aN (l.map D.int)=true then some (D.lst (cutD (l.map D.int) (some 1) none)) else none)=_;rw[if_pos (fT l),Ug,<- List.map_drop];rfl)
 have hz:qw (ak 0) (e1 (n6 (some 1) none) (ak 0)) [some (iL l,.sh [])]=some (((l.zip (l.drop 1)).map λp=>D.tup [.int p.1,.int p.2]),jT [(iL l,.sh []),(iL (l.drop 1),.own)]):=by
  unfold qw;rw[q1];show(if(aN (l.map D.int)&&aN ((l.drop 1).map D.int))=true then some (((l.map D.int).zip ((l.drop 1).map D.int)).map λp=>D.tup [p.1,p.2],jT [(iL l,.sh []),(iL (l.drop 1),.own)]) else none)=_;rw[if_pos (by rw[fT,fT];rfl),List.zip_map,acT];rfl
 refine cz rfl (cZ (bC (jH (k:=λd=>match d with | .tup [.int a,.int b]=>some (.bl (decide (a < b))) | _=>none) hz (by rw[List.length_map,List.length_zip];exact size_le (by lia)) (λd m=>by
  obtain⟨⟨a,b⟩,mi,rfl⟩:=abG.mp m;exact qe rfl rfl (aO rfl rfl uS))) ?_))
 rw[aes,<- OM,<- L1,acT];exact congrArg (λz=>wL (.lst z)) (o8 (λp:Int×Int=>D.bl (decide (p.1<p.2))) _)
theorem Af(hi:it ρ=some (ds,.sh []))(h:dw g (.sh []) f ds ρ=some (.nx ρ')):jw it g f ρ=some (.nx ρ'):=xZ hi h
theorem XE(hi:it ρ=some (ds,.sh []))(h:dw g (.sh []) f ds ρ=some (.rt r)):jw it g f ρ=some (.rt r):=Kl hi h
noncomputable def inR(v a b:Int):Bool:=decide (a<=v)&&decide (v<=b)
def qQ(p:Ed):Bool:=inR p.1 0 999&&inR p.2.1 0 1000000000&&inR p.2.2 0 1000000000&&!(p.2.1==p.2.2)
def wR(E:List Ed):Bool:=E.all qQ&&pL (E.map (·.1))
abbrev gE:GF:=gT (eW (gN 1) (eW (gN 2) (eW (gN 3) m_)))
def bE:SF:=(cC (fP (mR (jC (tV (cP m9 (ay (ak 1) (ay (eC (.int 0)) (ay (eC (.int 999)) aJ))))) (tV (cP m9 (ay (ak 2) (ay (eC (.int 0)) (ay (eC (.int 1000000000)) aJ))))))) (lU (eC (.bl false))) g9) (fP (mQ (mR (tV (cP m9 (ay (ak 3) (ay (eC (.int 0)) (ay (eC (.int 1000000000)) aJ)))))) (tV (e2 oEq (ak 2) (ak 3)))) (lU (eC (.bl false))) g9))
theorem xH(h:ak i ρ=some (.int v,t)):tV (cP m9 (ay (ak i) (ay (eC (.int a)) (ay (eC (.int b)) aJ)))) ρ=some (inR v a b):=
 bO (c9 (ps:=[(.int v,t),(.int a,.own),(.int b,.own)]) (by rw[aW,h];rfl) AY)
def rE(L:D)(a b c:Int):aA:=[some (L,.sh []),some (.int a,.own),some (.int b,.own),some (.int c,.own)]
theorem ZX{L:D}{a b c:Int}:bE (rE L a b c)=some (if qQ (a,b,c)=true then .nx (rE L a b c) else .rt (.bl false)):=by
 have w1:tV (cP m9 (ay (ak 1) (ay (eC (.int 0)) (ay (eC (.int 999)) aJ)))) (rE L a b c)=some (inR a 0 999):=xH rfl;have w2:tV (cP m9 (ay (ak 2) (ay (eC (.int 0)) (ay (eC (.int 1000000000)) aJ)))) (rE L a b c)=some (inR b 0 1000000000):=xH rfl;have w3:tV (cP m9 (ay (ak 3) (ay (eC (.int 0)) (ay (eC (.int 1000000000)) aJ)))) (rE L a b c)=some (inR c 0 1000000000):=xH rfl;have w4:tV (e2 oEq (ak 2) (ak 3)) (rE L a b c)=some (b==c):=rfl;have c1:=uo w1 w2;have c2:=zK (show mR (tV (cP m9 (ay (ak 3) (ay (eC (.int 0)) (ay (eC (.int 1000000000)) aJ))))) (rE L a b c)=some (!inR c 0 1000000000) by rw[Ib,w3];rfl) w4;unfold bE qQ;rw[jG,je,Ib,c1];cases inR a 0 999<;>cases inR b 0 1000000000<;>try rfl
 show zy _ (g9 _)=_;rw[aap,nU,je,c2];cases inR c 0 1000000000<;>cases(b==c)<;>rfl
theorem Rn{L:D}:∀{E:List Ed}{s1 s2 s3:Slot},∃qB Fq wK,dw gE (.sh []) bE (E.map dT) [some (L,.sh []),s1,s2,s3]=some (if E.all qQ=true then .nx [some (L,.sh []),qB,Fq,wK] else .rt (.bl false))
 |[],s1,s2,s3=>⟨s1,s2,s3,rfl⟩
 |(a,b,c)::E,s1,s2,s3=>by
  obtain⟨t1,t2,t3,ih⟩:=Rn;refine⟨t1,t2,t3,?_⟩;rw[aax];show(match bE (rE L a b c) with|some (.nx bx)=>dw gE (.sh []) bE (E.map dT) bx|some (.ct bx)=>dw gE (.sh []) bE (E.map dT) bx|some (.bk bx)=>some (.nx bx)|some (.rt r)=>some (.rt r)|some (.er raw cn bx)=>some (.er raw cn bx)|none=>none)=_;rw[ZX,afW];cases qQ (a,b,c) with
  |true=>rw[if_pos rfl,Bool.true_and];exact ih
  |false=>rfl
theorem f_(h:sf ρ=some (.rt d)):cC sf sg ρ=some (.rt d):=by rw[jG,h];rfl
theorem Mp{js:List (Option Nat)}{it:IF}{g:GF}{te:EF}{ρ:aA}{t:Tag}{l:List Int}{p:Int->Bool}(hi:it ρ=some (l.map D.int,t))(hl:l.length<=10000)(h:∀x∈l,jl g rO te (jD js ρ) (.int x)=some (some (.bl (p x)))):
  e1 wL (iK js it g rO te) ρ=some (.bl (l.all p),.own):=by
 have hc:=jH (k:=λd=>match d with | .int x=>some (.bl (p x)) | _=>none) hi (by rw[List.length_map];exact size_le hl) (λd m=>by
  obtain⟨x,mx,rfl⟩:=abG.mp m;exact h x mx)
 rw[yp,hc,K3,aes];have e:l.filterMap ((λd=>match d with|D.int x=>some (D.bl (p x))|_=>none) ∘ D.int)=(l.map p).map D.bl:=by
  rw[acT];exact o8 (λx=>D.bl (p x)) _
 rw[e,L1,afT];rfl
theorem f_are{E:List Ed}(hl:E.length<=100):T9 [eL E]=some (.bl (wR E)):=by
 obtain⟨t1,t2,t3,u9⟩:=Rn;refine cz rfl ?_;unfold wR;cases ha:E.all qQ with
 |false=>
  rw[ha] at u9;exact f_ (XE rfl u9)
 |true=>
  rw[ha] at u9;refine sq (Af rfl u9) (cZ (c9 (ps:=[(iL (E.map λp:Ed=>p.1),.own)]) ?_ (JT (by rw[List.length_map];exact hl))));rw[aW,jH (k:=λd=>match d with | .tup [.int a,.int _,.int _]=>some (.int a) | _=>none) rfl (by rw[List.length_map];exact size_le (by lia)) (λd m=>by
   obtain⟨⟨a,b,c⟩,mi,rfl⟩:=abG.mp m;exact qe rfl rfl rfl),aes]
  unfold iL;rw[acT,show E.filterMap ((λd=>match d with|D.tup [.int a,.int _,.int _]=>some (D.int a)|_=>none) ∘ dT)=E.map (D.int ∘ (·.1)) from o8 (λp:Ed=>D.int p.1) _];rfl
abbrev Ch:=Int×List Int×List Ed
def ent(c:Ch):D:=.tup [.int c.1,.tup (c.2.1.map D.int),.tup (c.2.2.map dT)]
def obj(C:List Ch):D:=.ins "Changes" [("entries",.lst (C.map ent))]
theorem IK(c:Ch):aC (ent c)=true:=by
 unfold ent;show aN [.int c.1,.tup (c.2.1.map D.int),.tup (c.2.2.map dT)]=true;unfold aN;unfold aN;unfold aN;unfold aN;show(aC (.int c.1)&&(aN (c.2.1.map D.int)&&(aN (c.2.2.map dT)&&true)))=true;rw[fT,yx];rfl
theorem Jx:∀C:List Ch,aN (C.map ent)=true
 |[]=>rfl
 |c::r=>by rw[aax];unfold aN;rw[Jx r,IK];rfl
theorem nW{F:List D->Option D}{ps:List (D×Tag)}(h:fo ρ=some (.ins cn es,t))(hm:es.lookup m=none)(hg:g ρ=some ps)(hF:F (.ins cn es::ps.map (·.1))=some d):
  cK cn m F fo g ρ=some (d,.own):=by
 unfold cK;rw[h];dsimp only;rw[if_pos ⟨rfl,hm⟩,hg,acR,hF];rfl
theorem Am(h:(mm==("entries":Str))=false):([("entries",d)]:List (Str×D)).lookup mm=none:=by simp only[List.lookup,h]
theorem LY(C:List Ch):Fp [obj C]=some (.int C.length):=cz rfl (cZ (bC rfl (by rw[sY,List.length_map])))
theorem G0(h:ak i ρ=some (obj C,t)):cK "Changes" "many" Fp (ak i) aJ ρ=some (.int C.length,.own):=
 nW h (Am (by decide)) wZ (LY C)
theorem mV{F:List D->Option D}(h:ak i ρ=some (obj C,t))(ha:fa ρ=some (x,t2))(hF:F [obj C,x]=some d)(hm:(mm==("entries":Str))=false:=by decide):
  cK "Changes" mm F (ak i) (ay fa aJ) ρ=some (d,.own):=
 nW (ps:=[(x,t2)]) h (Am hm) (by rw[aW,ha,wZ,BQ]) hF
theorem Ew(C:List Ch)(m:Int):DA [obj C,.int m]=some (.bl (inR m 1 C.length)):=
 cz rfl (cZ (c9 (ps:=[(.int m,.sh []),(.int 1,.own),(.int C.length,.own)]) (by rw[aW,aW,aW,G0 rfl];rfl) AY))
def vd(n:Nat)(r:Int)(l:List Int)(E:List Ed):Bool:=inR r 0 9&&(l.all (λx=>inR x 1 n)&&pL l)&&(decide ((E.length:Int)<=20)&&wR E)
theorem yj(h1:fa ρ=some (.bl b,t))(h2:fb ρ=some (.bl c,.own)):xV fa fb ρ=some (.bl (b&&c),.own):=by
 rw[WR,h1];cases b
 .rfl
 .exact h2
theorem aas{C:List Ch}{r:Int}{l:List Int}{E:List Ed}(hl:l.length<=100)(hE:E.length<=100):adl [obj C,.int r,iL l,eL E]=some (.bl (vd C.length r l E)):=by
 have q1:=kN (xH (ρ:=[some (obj C,.sh []),some (.int r,.sh []),some (iL l,.sh []),some (eL E,.sh [])]) (i:=1) (a:=0) (b:=9) rfl);have q2:=zK (kN (bO (Mp (js:=[none,some 0]) (it:=gZ (ak 2)) (g:=gN 0) (te:=cK "Changes" "has" DA (ak 1) (ay (ak 0) aJ)) (ρ:=[some (obj C,.sh []),some (.int r,.sh []),some (iL l,.sh []),some (eL E,.sh [])]) (gQ rfl) (by lia) (λx mx=>qe rfl rfl (mV rfl rfl (Ew C x)))))) (kN (bO (c9 (g:=ay (ak 2) aJ) rfl (JT hl))));refine cz rfl ?_;unfold vd;cases h0:inR r 0 9 with
 |false=>rw[h0] at q1;exact pP q1 (f_ rfl)
 |true=>
  rw[h0] at q1;refine dg q1 ?_;cases h1:l.all λx=>inR x 1 C.length with
  |false=>rw[h1] at q2;exact pP q2 (f_ rfl)
  |true=>
   cases h2:pL l with
   |false=>rw[h1,h2] at q2;exact pP q2 (f_ rfl)
   |true=>
    rw[h1,h2] at q2;exact dg q2 (cZ (yj (c:=wR E) (aO (bC rfl (by unfold eL;rw[sY,List.length_map])) rfl Ye) (c9 rfl (f_are hE))))
theorem Ar(h1:fv ρ=some (d,t))(h2:ρ[i]? = some (some (.ins cn es,.own)))(hl:es.lookup f=some (.lst ds))(hc:(aC d&&aN ds&&decide (ds.length<sizeLine))=true):
  A7 i cn f fv ρ=some (.nx (bP ρ i (.ins cn (dZ f (.lst (ds++[d])) es)))):=by
 unfold A7;rw[h1,h2];dsimp only;rw[if_pos rfl,hl];dsimp only;rw[if_pos hc]
theorem fQ(h:f ρ=some (.nx ρ')):jk f ρ=some (.nx ρ'):=by unfold jk;rw[h]
theorem k7(hl:ds.length+1=n)(h:b (Bv N d0 ds)=some (.rt (.tup [r,d1]))):runM n N b d0 ds=some (r,d1):=by unfold runM;rw[if_pos hl,h]
theorem abU{C:List Ch}{r:Int}{l:List Int}{E:List Ed}(hl:l.length<=100)(hE:E.length<=100)(hm:vd C.length r l E=true)(hC:C.length<60):Bc (obj C) [.int r,iL l,eL E]=some (.int (C.length+1),obj (C++[(r,l,E)])):=by
 refine k7 rfl ?_;refine dg (kN (b:=true) (bO (nW rfl (Am (by decide)) rfl ((aas hl hE).trans (by rw[hm]))))) ?_;refine dg (bO (aO (G0 rfl) rfl (by rw[Wz,abN (by lia)]))) ?_;refine sq (ρ':=[some (obj (C++[(r,l,E)]),.own),some (.int r,.sh []),some (iL l,.sh []),some (eL E,.sh [])]) ((fQ (Ar (d:=ent (r,l,E)) (t:=.sh []) ?_ rfl rfl (by rw[IK,Jx,aaN (by rw[List.length_map];exact size_le (by lia))];rfl))).trans ?_) ?_
 .rw[ou,aW,aW,aW,bC rfl De,bC (d:=eL E) (t:=.own) ?_ (if_pos (yx E))]
  .rfl
  .refine(jH (gQ rfl) (by rw[List.length_map];exact size_le (by lia)) (λd m=>by
    obtain⟨⟨a,b,c⟩,mx,rfl⟩:=abG.mp m;exact qe rfl rfl rfl)).trans ?_
   rw[o8 (λd:D=>d),List.map_id'];rfl
 .unfold obj;rw[acZ];rfl
 .show oX _ _ _=_;unfold oX;rw[G0 rfl,abb];rfl
theorem oW{i:Int}(h1:-1000<=i)(h2:i<=1000):small i=true:=by
 unfold small;rw[aaN (show -(2 ^ 62)<=i by lia),aaN (show i<2 ^ 62 by lia)];rfl
noncomputable def bZ(a:Int)(n:Nat):List Int:=(List.range n).map λi:Nat=>a+(i:Int)
theorem iG{a x:Int}{n:Nat}:x∈bZ a n↔a<=x/\x<a+n:=by
 unfold bZ;rw[abG];constructor
 .rintro⟨i,m,rfl⟩
  have:=af4.mp m
  lia
 .intro h;exact⟨(x-a).toNat,af4.mpr (by lia),by lia⟩
theorem AL(a:Int)(n:Nat):(bZ a n).Pairwise (· < ·):=by
 unfold bZ;rw[aeX];exact List.pairwise_lt_range.imp (λh=>by lia)
theorem B_(h:f ρ=some (.int i,t))(h2:g ρ=some (.int j,t2))(hi:small i=true)(hj:small j=true):qg f g ρ=some ((bZ i (j-i).toNat).map D.int,.own):=by
 unfold qg;rw[h,h2];dsimp only;rw[if_pos (by rw[hi,hj];rfl)];unfold bZ;rw[acT];rfl
theorem f9(p:Int->Bool)(f:Int->Int):∀l:List Int,l.filterMap (λx=>if p x=true then some (D.int (f x)) else none)=((l.filter p).map f).map D.int
 |[]=>rfl
 |a::r=>by
  rw[aef]
  by_cases hp:p a=true
  .rw[afd hp,if_pos hp,f9 p f r];rfl
  .rw[afe hp,if_neg hp,f9 p f r]
theorem WU{js:List (Option Nat)}{it:IF}{g:GF}{tt:TF}{te:EF}{ρ:aA}{t:Tag}{l:List Int}{p:Int->Bool}{f:Int->Int}(hi:it ρ=some (l.map D.int,t))(hl:l.length<=10000)(h:∀x∈l,jl g tt te (jD js ρ) (.int x)=some (if p x=true then some (.int (f x)) else none)):
  iK js it g tt te ρ=some (iL ((l.filter p).map f),.own):=by
 have hc:=jH (k:=λd=>match d with | .int x=>if p x=true then some (.int (f x)) else none | _=>none) hi (by rw[List.length_map];exact size_le hl) (λd m=>by
  obtain⟨x,mx,rfl⟩:=abG.mp m;exact h x mx)
 rw[hc]
 congr 3
 clear hc h hi hl;rw[aes];exact f9 p f l
def lean(L:List (List Int))(m:Int):List Int:=if 1<=m then(L[(m-1).toNat]?).getD [] else[]
noncomputable abbrev sec(C:List Ch):List (List Int):=C.map (·.2.1)
theorem Wx{α:Type}{f:α->D}{L:List α}{m:Int}{l:α}(h1:1<=m)(h2:m<=L.length)(h:L[(m-1).toNat]? = some l):dM (L.map f) (m-1)=some (f l):=by
 unfold dM gJ;rw[List.length_map];rw[if_pos (by omega),if_pos (by omega),acR,ab3,h];rfl
def ch(L:List Ch)(m:Int):Ch:=(L[(m-1).toNat]?).getD (0,[],[])
theorem acf{L:List Ch}{m:Int}(h1:1<=m)(h2:m<=L.length):L[(m-1).toNat]? = some (ch L m):=by
 unfold ch;rw[aaR (by lia)];rfl
theorem uD{L:List Ch}{m:Int}(h1:1<=m)(h2:m<=L.length):(ch L m).2.1=lean (sec L) m:=by
 unfold ch lean sec;rw[if_pos h1,ab3,aaR (by lia)];rfl
theorem G_{L:List Ch}{m:Int}(h1:1<=m)(h2:m<=L.length):R9 [obj L,.int m]=some (ent (ch L m)):=
 cz rfl (dg (kN (b:=true) (bO (mV rfl rfl ((Ew L m).trans (by unfold inR;rw[aaN h1,aaN h2];rfl))))) (cZ (aO rfl rfl (uI (Wx h1 h2 (acf h1 h2)) (IK _)))))
theorem Pn{L:List Ch}{m:Int}(h1:1<=m)(h2:m<=L.length):CQ [obj L,.int m]=some (iL (lean (sec L) m)):=
 cz rfl (cZ (bC (aO (mV rfl rfl (G_ h1 h2)) rfl (if_pos (show aC (D.tup _)=true by simp only[aC,fT]))) (by rw[Qq,uD h1 h2];rfl)))
def dJ(L:List Ch)(m:Int):List Ed:=(ch L m).2.2
theorem yW{L:List Ch}{m:Int}(h1:1<=m)(h2:m<=L.length):zx [obj L,.int m]=some (eL (dJ L m)):=
 cz rfl (cZ (bC (aO (mV rfl rfl (G_ h1 h2)) rfl (if_pos (show aC (D.tup _)=true from yx _))) (if_pos (yx _))))
theorem Og{e:EF}{ρ:aA}{n:Nat}{t:Tag}(h:e ρ=some (.int n,t))(hs:n<=1000):vV e ρ=some ((bZ 0 n).map D.int,.own):=by
 rw[YD h (oW (by lia) (by lia)),Int.toNat_natCast];unfold bZ;rw[acT];rfl
theorem Ez{l:List Int}:l.any (· == m)=decide (m∈l):=by
 by_cases h:m∈l
 .rw[aaN h];exact adn.mpr ⟨m,h,by simp⟩
 .rw[abN h,ae7];intro e;obtain⟨y,my,ey⟩:=adn.mp e;exact h (by rw[<- (afG.mp ey)];exact my)
theorem xj:x∈cB l↔x∈l:=(qK l).mem_iff
structure F9(E:List Ed)(n:Nat):Prop where
 so:(E.map (·.1)).Pairwise (·<=·)
 ln:E.length<=n
theorem Ek(h:n<4096):n<sizeLine:=by unfold sizeLine;lia
def qv(es:List (Int×Int))(p:Int×Int×Int):Bool:=!((bR es p.1).getD 0==p.2.1)
def bad(es:List (Int×Int))(E:List (Int×Int×Int)):List Int:=(E.filter (qv es)).map (·.1)
noncomputable def wQ:List Int->D
 |[]=>.aD
 |x::_=>.int x
theorem aa7:∀{x:Int}{l:List Int},(x::l).Pairwise (·<=·)->kc (x::l)=x
 |x,l,h=>by
  obtain⟨h1,h2⟩:=IC (l:=x::l) (by simp);have h3:=h2 x aar;rcases aa3.mp h1 with e|m
  .exact e
  .have:=(adp.mp h).1 _ m;lia
def kW(es:List (Int×Int)):D->Option D
 |.tup [.int a,.int b,.int c]=>if qv es (a,b,c)=true then some (.int a) else none
 |_=>none
theorem abx:∀p,kW es (dT p)=if qv es p=true then some (D.int p.1) else none
 |(_,_,_)=>rfl
theorem GV{es:List (Int×Int)}{E:List (Int×Int×Int)}{n:Nat}(hE:F9 E n)(hn:n<64)(w:List D->D)(hw:gZ (ak 1) [some (bH es,.sh []),some (w (E.map dT),.sh [])]=some (E.map dT,.sh [])):E7 [bH es,w (E.map dT)]=some (wQ (bad es E)):=by
 have hc:=jH (js:=[none,none,none,some 0]) (g:=gT (eW (gN 0) (eW (gN 1) (eW (gN 2) m_)))) (tt:=tV (e2 kT (e3 sI (ak 3) (ak 0) (eC (.int 0))) (ak 1))) (te:=ak 0) (k:=kW es) hw (by rw[List.length_map];exact Ek (by have:=hE.ln;lia)) (λd m=>by
  obtain⟨⟨a,b,c⟩,mi,rfl⟩:=abG.mp m;show _=some (if qv es (a,b,c)=true then some (D.int a) else none);have ht:(tV (e2 kT (e3 sI (ak 3) (ak 0) (eC (.int 0))) (ak 1))) [some (.int a,.own),some (.int b,.own),some (.int c,.own),some (bH es,.sh [])]=some (qv es (a,b,c)):=by
   rw[yh,j_,OG];show Ev.kV (k2 kT ((sI (bH es) (.int a) (.int 0)).map _) _)=_;rw[PY];rfl
  by_cases h:qv es (a,b,c)=true
  .rw[if_pos h];exact rB (aS:=[some (.int a,.own),some (.int b,.own),some (.int c,.own),some (bH es,.sh [])]) rfl (by rw[ht,h]) rfl rfl
  .rw[if_neg h];exact vZ (aS:=[some (.int a,.own),some (.int b,.own),some (.int c,.own),some (bH es,.sh [])]) rfl (by rw[ht,ae7.mpr h]))
 have hb:(E.map dT).filterMap (kW es)=(bad es E).map D.int:=by
  clear hc hw hE;unfold bad
  induction E with
  |nil=>rfl
  |cons p r ih=>
   rw[aax,aef,afQ,abx]
   by_cases h:qv es p=true
   .rw[if_pos h,if_pos h];dsimp only;rw[ih];rfl
   .rw[if_neg h,if_neg h];exact ih
 rw[hb] at hc;have hs:(bad es E).Pairwise (·<=·):=by
  unfold bad;have:=hE.so;rw[aeX] at this ⊢;exact this.filter _
 refine cz rfl (cZ (aO hc rfl ?_));show(match eE ((bad es E).map D.int) with|some []=>if aC .aD=true then some D.aD else none|some (n::r)=>some (D.int (kc (n::r)))|none=>none)=_;rw[ux];cases e:bad es E with
 |nil=>rfl
 |cons x l=>
  dsimp only;rw[aa7 (by rw[<- e];exact hs)];rfl
def tL(es:List (Int×Int)):List Int:=(cB (es.map (·.1))).filter λk=>!((bR es k).getD 0==0)
def nz(es:List (Int×Int)):List (Int×Int):=(tL es).map λk=>(k,(bR es k).getD 0)
def kS(es:List (Int×Int)):D->Option D
 |.int i=>if(!((bR es i).getD 0==0))=true then some (dP (i,(bR es i).getD 0)) else none
 |_=>none
theorem Xe{es:List (Int×Int)}(hl:es.length<64):U0 [bH es]=some (.lst ((nz es).map dP)):=by
 have hs:(e1 lV (ak 0)) [some (bH es,.sh [])]=some (.lst ((cB (es.map (·.1))).map D.int),.own):=by
  rw[yp];show(lV (bH es)).map _=_;rw[V1 (by omega)];rfl
 have hc:=jH (js:=[none,some 0]) (g:=gN 0) (tt:=tV (e2 kT (e2 lX (ak 1) (ak 0)) (eC (.int 0)))) (te:=kR (ay (ak 0) (ay (e2 lX (ak 1) (ak 0)) aJ))) (k:=kS es)
   (gQ hs) (by rw[List.length_map,uJ,List.length_map];exact Ek (by omega)) (λd m=>by
  obtain⟨i,mi,rfl⟩:=abG.mp m;obtain⟨w,hw⟩:=tG.mpr (xj.mp mi);have hg:=acN hw;show _=some (if(!((bR es i).getD 0==0))=true then some (dP (i,(bR es i).getD 0)) else none);have ht:(tV (e2 kT (e2 lX (ak 1) (ak 0)) (eC (.int 0)))) [some (.int i,.sh []),some (bH es,.sh [])]=some (!((bR es i).getD 0==0)):=by
   rw[yh,j_,j_];show Ev.kV (k2 kT ((lX (bH es) (.int i)).map _) _)=_;rw[hg,hw];rfl
  by_cases h:(!((bR es i).getD 0==0))=true
  .rw[if_pos h];refine rB (aS:=[some (.int i,.sh []),some (bH es,.sh [])]) (tg:=.sh []) rfl (by rw[ht,h]) ?_ rfl;rw[ou,aW,aW,j_];show Option.map _ (lH _ (lH ((lX (bH es) (.int i)).map _) _))=_;rw[hg,hw];rfl
  .rw[if_neg h];exact vZ (aS:=[some (.int i,.sh []),some (bH es,.sh [])]) rfl (by rw[ht,ae7.mpr h]))
 refine(cz rfl (cZ hc)).trans ?_
 congr 2
 unfold nz tL;generalize cB (es.map (·.1))=l;clear hs hc
 induction l with
 |nil=>rfl
 |cons x r ih=>
  rw[aax,aef,afQ]
  by_cases h:(!((bR es x).getD 0==0))=true
  .rw[if_pos h,show kS es (.int x)=some (dP (x,(bR es x).getD 0)) from if_pos h];dsimp only;rw[ih];rfl
  .rw[if_neg h,show kS es (.int x)=none from if_neg h];exact ih
def eT(es:List (Int×Int))(E:List (Int×Int×Int)):List (Int×Int):=E.foldl (λm p=>gG m p.1 p.2.2) es
theorem Ot:∀(E:List (Int×Int×Int)) (es:List (Int×Int)),(es.map (·.1)).Nodup->((eT es E).map (·.1)).Nodup
 |[],_,h=>h
 |p::r,es,h=>Ot r _ (Qd h)
theorem Ba:∀(E:List (Int×Int×Int)) (es:List (Int×Int)) (k:Int),(E.map (·.1)).Nodup->(∀p∈E,p.1=k->bR (eT es E) k=some p.2.2)/\(k∉E.map (·.1)->bR (eT es E) k=bR es k)
 |[],es,k,_=>⟨λp m=>(nomatch m),λ_=>rfl⟩
 |q::r,es,k,h=>by
  obtain⟨h1,h2⟩:=abv.mp h;obtain⟨a,b⟩:=Ba r (gG es q.1 q.2.2) k h2;refine⟨λp m e=>?_,λm=>?_⟩
  .rcases aa3.mp m with rfl|m
   .show bR (eT (gG es p.1 p.2.2) r) k=_;rw[b (by rw[<- e];exact h1),BB,if_pos e.symm]
   .exact a p m e
  .show bR (eT (gG es q.1 q.2.2) r) k=_;rw[aax] at m;rw[b λx=>m (aaa _ x),BB,if_neg λx=>m (by rw[x];exact aar)]
noncomputable abbrev gh:=List (Int×Int)
theorem Ca(S:gh->Slot->Slot->Slot->aA)(hg:∀v x y z (p:Ed),g (dT p) t (S v x y z)=some (S v (some (.int p.1,.own)) (some (.int p.2.1,.own)) (some (.int p.2.2,.own))))(hf:∀v (p:Ed),v.length<sizeLine->f (S v (some (.int p.1,.own)) (some (.int p.2.1,.own)) (some (.int p.2.2,.own)))=some (.nx (S (gG v p.1 p.2.2) (some (.int p.1,.own)) (some (.int p.2.1,.own)) (some (.int p.2.2,.own))))):
  ∀{E:List Ed}{v:gh}{x y z:Slot},v.length+E.length<4096->∃x' y' z',dw g t f (E.map dT) (S v x y z)=some (.nx (S (eT v E) x' y' z'))
 |[],_,x,y,z,_=>⟨x,y,z,rfl⟩
 |p::E,v,x,y,z,hl=>by
  rw[abP] at hl;obtain⟨x',y',z',ih⟩:=Ca S hg hf (E:=E) (v:=gG v p.1 p.2.2) (by have:=Su (es:=v) (k:=p.1) (v:=p.2.2);lia);exact⟨x',y',z',(lB (hg ..) (hf _ _ (Ek (by lia)))).trans ih⟩
def ye(S L:D)(es:List (Int×Int))(s3 s4 s5 s6 s7:Slot):aA:=[some (S,.sh []),some (L,.sh []),some (bH es,.own),s3,s4,s5,s6,s7]
abbrev NU:GF:=gT (eW (gN 5) (eW (gN 6) (eW (gN 7) m_)))
abbrev Ka:SF:=qz 2 (ak 5) (ak 7)
theorem Ro{es:List (Int×Int)}:k∈tL es↔(bR es k).getD 0≠0:=by
 unfold tL;rw[acy];refine⟨λh=>by simpa using h.2,λh=>⟨xj.mpr (tG.mp ?_),by simpa using h⟩⟩;cases e:bR es k with
 |none=>rw[e] at h;exact absurd rfl h
 |some v=>exact⟨v,rfl⟩
theorem QI(h:(es.map (·.1)).Nodup):(tL es).Nodup:=((qK _).nodup_iff.mpr h).sublist aeE
theorem Mj:(nz es).map (·.1)=tL es:=by
 unfold nz;rw[acT];exact List.map_id' _
theorem EZ(f:Int->Int)(k:Int):∀l:List Int,bR (l.map λk=>(k,f k)) k=if k∈l then some (f k) else none
 |[]=>rfl
 |x::r=>by
  have ih:=EZ f k r;rw[aax];unfold bR at ih ⊢;rw[ac9]
  by_cases hx:x=k
  .rw[aaN hx,if_pos (by rw[hx];exact aar),hx];rfl
  .rw[abN hx];dsimp only;rw[ih];have:(k∈x::r)↔k∈r:=⟨λm=>(aa3.mp m).elim (λe=>absurd e.symm hx) id,aaa _⟩
   simp only[this]
theorem ac0(k:Int):(bR (nz es) k).getD 0=(bR es k).getD 0:=by
 unfold nz;rw[EZ]
 by_cases h:k∈tL es
 .rw[if_pos h];rfl
 .rw[if_neg h];have:=mt Ro.mpr h;simp only[ne_eq,Decidable.not_not] at this;rw[this];rfl
theorem V5(h:(es.map (·.1)).Nodup)(k:Int):(bR (jN (nz es)) k).getD 0=(bR es k).getD 0:=by
 rw[O0 (by rw[Mj];exact QI h),ac0]
theorem Zs(ps:List (Int×Int)):((jN ps).map (·.1)).Nodup:=by
 have go:∀(ps m:List (Int×Int)),(m.map (·.1)).Nodup->((ps.foldl (λm p=>gG m p.1 p.2) m).map (·.1)).Nodup:=by
  intro ps
  induction ps with
  |nil=>intro m h;exact h
  |cons p r ih=>intro m h;exact ih _ (Qd h)
 exact go ps [] ace
theorem sub_len[DecidableEq α]:∀{l m:List α},l.Nodup->(∀x∈l,x∈m)->l.length<=m.length
 |[],m,_,_=>ad0 _
 |a::l,m,h,s=>by
  obtain⟨ha,hl⟩:=abv.mp h;have ma:=s a aar;have:=sub_len (m:=m.erase a) hl λx mx=>(List.mem_erase_of_ne λe=>ha (by rw[<- e];exact mx)).mpr (s x (aaa _ mx))
  rw[List.length_erase_of_mem ma] at this;have:=List.length_pos_of_mem ma;rw[abP];omega
theorem Zg{es:List (Int×Int)}(h:k∈(gG es a c).map (·.1)):k=a\/k∈es.map (·.1):=by
 obtain⟨w,e⟩:=tG.mpr h;rw[BB] at e
 split at e
 .rename_i q;exact .inl q
 .exact .inr (tG.mp ⟨w,e⟩)
theorem Pq{S:List Int}:∀{E:List Ed}{es:List (Int×Int)},(∀p∈E,p.1∈S)->(∀k∈es.map (·.1),k∈S)->∀k∈(eT es E).map (·.1),k∈S
 |[],es,_,h=>h
 |p::E,es,hE,h=>Pq (es:=gG es p.1 p.2.2) (λq m=>hE q (aaa _ m)) λk m=>(Zg m).elim (λe=>by rw[e];exact hE p aar) (h k)
def fW:gh->List (List Ed)->Option gh
 |v,[]=>some v
 |v,E::r=>if bad v E=[] then fW (eT v E) r else none
structure Kb(v:gh):Prop where
 nd:(v.map (·.1)).Nodup
 ks:∀k∈v.map (·.1),k∈bZ 0 60
theorem Kb.len{v:gh}(h:Kb v):v.length<=60:=by
 have:=sub_len h.nd h.ks;rw[List.length_map] at this;unfold bZ at this
 rwa [List.length_map,af3] at this
theorem Kb.nil:Kb []:=⟨.nil,λk m=>nomatch m⟩
structure Ee(E:List Ed):Prop where
 ed:F9 E 20
 nd:(E.map (·.1)).Nodup
 sl:∀p∈E,p.1∈bZ 0 60
theorem Kb.eT{v:gh}(h:Kb v)(e:Ee E):Kb (eT v E):=⟨Ot E v h.nd,Pq e.sl h.ks⟩
abbrev LW(Z:SF):SF:=cC (dQ 4 (cP E7 (ay (ak 2) (ay (ak 3) aJ)))) (cC (fP (tV (e2 zI (ak 4) (eC .aD))) Z g9) (jw (gZ (ak 3)) NU Ka))
theorem aeJ{Z:SF}{S L:D}(hE:F9 E 20)(hb:bad v E=[])(hl:v.length<=3000):∃t5 t6 t7,LW Z (ye S L v (some (eL E,.sh [])) s4 s5 s6 s7)=some (.nx (ye S L (eT v E) (some (eL E,.sh [])) (some (.aD,.own)) t5 t6 t7)):=by
 have hle:=hE.ln;obtain⟨t5,t6,t7,lp⟩:=Ca (g:=NU) (f:=Ka) (λv x y z=>ye S L v (some (eL E,.sh [])) (some (.aD,.own)) x y z) (λ_ _ _ _ _=>rfl) (λv p h=>DX rfl rfl rfl h) (E:=E) (v:=v) (by lia);exact⟨t5,t6,t7,jP (d:=.aD) (c9 rfl (by show E7 [bH v,.lst (E.map dT)]=_;rw[GV hE (by lia) D.lst rfl,hb];rfl)) (sq rfl (Af rfl lp))⟩
theorem J6{Z:SF}{S L:D}:∀{Es:List (List Ed)}{v v':gh}{s3 s4 s5 s6 s7:Slot},(∀E∈Es,Ee E)->fW v Es=some v'->Kb v->
  ∃t3 t4 t5 t6 t7,dw (gN 3) (.sh []) (LW Z) (Es.map eL) (ye S L v s3 s4 s5 s6 s7)=some (.nx (ye S L v' t3 t4 t5 t6 t7))/\Kb v'
 |[],v,v',s3,s4,s5,s6,s7,_,h,k=>by
  cases h;exact⟨s3,s4,s5,s6,s7,rfl,k⟩
 |E::Es,v,v',s3,s4,s5,s6,s7,hE,h,k=>by
  unfold fW at h
  by_cases hb:bad v E=[]
  .rw[if_pos hb] at h;have JQ:=hE E aar;obtain⟨t5,t6,t7,hs⟩:=aeJ JQ.ed hb (by have:=k.len;lia);obtain⟨u3,u4,u5,u6,u7,ih,k'⟩:=J6 (λE' m=>hE E' (aaa _ m)) h (k.eT JQ);exact⟨u3,u4,u5,u6,u7,(lB rfl hs).trans ih,k'⟩
  .rw[if_neg hb] at h;cases h
def dS(ps:gh):D:=.lst (ps.map dP)
def fV(C:List Ch)(row:List Int):List (List Ed):=row.map (dJ C)
noncomputable abbrev Row(C:List Ch)(ns:List Int):Prop:=∀x∈ns,1<=x/\x<=(C.length:Int)
structure GoodC(C:List Ch):Prop where
 ln:C.length<=60
 ed:∀m,Ee (dJ C m)
 bd:∀m x,1<=m->m<=(C.length:Int)->x∈lean (sec C) m->1<=x/\x<m
 few:∀m,(lean (sec C) m).length<=60
theorem C7{C:List Ch}{row:List Int}(g:GoodC C)(hb:Row C row)(hl:row.length<=100)(h:fW [] (fV C row)=some v):Z0 [obj C,iL row]=some (dS (nz v))/\Kb v:=by
 have hE:∀E∈fV C row,Ee E:=λE m=>by
  obtain⟨x,_,rfl⟩:=abG.mp m;exact g.ed x
 obtain⟨t3,t4,t5,t6,t7,u9,kv⟩:=J6 hE h Kb.nil;have hc:=jH (js:=[none,some 0]) (it:=gZ (ak 1)) (ρ:=[some (obj C,.sh []),some (iL row,.sh [])]) (g:=gN 0) (tt:=rO) (te:=cK "Changes" "edits_of" zx (ak 1) (ay (ak 0) aJ)) (k:=λd=>match d with | .int x=>some (eL (dJ C x)) | _=>none) (gQ rfl) (by rw[List.length_map];exact size_le (by lia)) (λd m=>by
  obtain⟨x,mx,rfl⟩:=abG.mp m;obtain⟨h1,h2⟩:=hb x mx;exact qe rfl rfl (mV rfl rfl (yW h1 h2)))
 rw[aes,show(row.filterMap ((λd=>match d with|D.int x=>some (eL (dJ C x))|_=>none) ∘ D.int))=(fV C row).map eL from(o8 _ _).trans (by unfold fV;rw[acT];rfl)] at hc;exact⟨cz rfl (cZ (c9 (by rw[aW,aW];show lH _ (lH (iK _ _ _ _ _ [some (obj C,.sh []),some (iL row,.sh [])]) _)=_;rw[hc];rfl) (cz rfl (jP rfl (sq (Af rfl u9) (cZ (c9 (ps:=[(bH v,.sh [2])]) rfl (Xe (by have:=kv.len;lia))))))))),kv⟩
abbrev gV(es:gh)(k:Int):Int:=(bR es k).getD 0
def jv(C:List Ch)(v:gh)(m:Int):Bool:=(bad v (dJ C m)).isEmpty
theorem Sj:jv C v m=true↔bad v (dJ C m)=[]:=List.isEmpty_iff
theorem Yq:ja (wQ l) .aD=some (.bl l.isEmpty):=by cases l<;>rfl
theorem xS{js:List (Option Nat)}{l:List Int}(hi:it ρ=some (l.map D.int,t))(hl:l.length<=10000)(hr:∀x,gN 0 (.int x) (.sh []) (jD js ρ)=some (some (.int x,.sh [])::r))(h:∀x∈l,tt (some (.int x,.sh [])::r)=some (p x)):
  iK js it (gN 0) tt (ak 0) ρ=some (iL (l.filter p),.own):=by
 have:=WU (tt:=tt) (te:=ak 0) hi hl (λx mx=>by
  by_cases hp:p x=true
  .rw[if_pos hp];exact rB (hr x) (by rw[h x mx,hp]) rfl rfl
  .rw[if_neg hp];exact vZ (hr x) (by rw[h x mx,ae7.mpr hp]))
 rw[List.map_id'] at this;exact this
theorem aeQ(h1:fv ρ=some (.int n,t))(h2:ρ[i]? = some (some (iL ns,.own)))(hm:n∈ns):v9 i fv ρ=some (.nx (bP ρ i (iL (ns.erase n)))):=by
 unfold v9;rw[h1,h2];unfold iL;dsimp only;rw[ux];dsimp only;rw[if_pos hm]
noncomputable def kB(k:Int):Key×D:=(Sum.inl k,.bl true)
def dB(ks:List Int):D:=.bK (ks.map kB)
noncomputable def add(ks:List Int)(k:Int):List Int:=if k∈ks then ks else ks++[k]
theorem UP:x∈add ks k↔x∈ks\/x=k:=by
 unfold add
 by_cases h:k∈ks
 .rw[if_pos h];exact⟨.inl,λe=>e.elim id λe=>by rw[e];exact h⟩
 .rw[if_neg h,abD,aa1]
theorem ON{ks:List Int}:((ks.map kB).any λkv=>decide (kv.1=(Sum.inl k:Key)))=decide (k∈ks):=by
 induction ks with
 |nil=>simp
 |cons a r ih=>
  rw[aax,aeZ,ih];have:decide ((kB a).1=(Sum.inl k:Key))=decide (a=k):=by
   exact afC.mpr vK
  rw[this]
  by_cases h:a=k
  .subst h;simp
  .simp[h,aeV h]
theorem aat{ks:List Int}:qq false (.int x) (dB ks)=some (.bl (decide (x∈ks))):=by
 show some (D.bl (if false=true then _ else(aV (ks.map kB) (Sum.inl x:Key)).isSome))=_;rw[if_neg aa6,<- ON];unfold aV;rw[afh]
 congr 2
 rw[afV,List.find?_isSome,adn]
theorem Xa{ks:List Int}:putD (ks.map kB) (Sum.inl k:Key) (.bl true)=(add ks k).map kB:=by
 unfold putD add;rw[ON]
 by_cases h:k∈ks
 .rw[if_pos (aaN h),if_pos h,acT];refine ae5 λa _=>?_
  show(if(Sum.inl a:Key)=Sum.inl k then((Sum.inl a:Key),D.bl true) else kB a)=kB a
  split<;>rfl
 .rw[if_neg (by simpa using h),if_neg h,acZ];rfl
def adds(m l:List Int):List Int:=l.foldl add m
theorem Mz:∀{l m:List Int}{x:Int},x∈adds m l↔x∈m\/x∈l
 |[],m,x=>by simp[adds]
 |a::l,m,x=>by
  have:=Mz (l:=l) (m:=add m a) (x:=x);show x∈adds (add m a) l↔_;rw[this,UP,aa3,or_assoc]
noncomputable def pM(x:Int):D:=.tup [.int x,.bl true]
theorem Ke:∀l:List Int,jK (l.map pM)=some (l.map kB)
 |[]=>rfl
 |p::r=>by
  rw[aax];show(match iB (.int p),jK (r.map pM) with|some k,some ps=>if aC (.bl true)=true then some ((k,D.bl true)::ps) else none|_,_=>none)=_;rw[Ke r];rfl
theorem NI:∀(l m:List Int),(l.map kB).foldl (λm p=>putD m p.1 p.2) (m.map kB)=(adds m l).map kB
 |[],_=>rfl
 |p::r,m=>by rw[aax,aeh];show(r.map kB).foldl _ (putD (m.map kB) (Sum.inl p:Key) (.bl true))=_;rw[Xa];exact NI r _
theorem aeB:BS (.lst (l.map pM))=some (dB (adds [] l)):=by
 show(jK (l.map pM)).map _=_;rw[Ke];show some (D.bK ((l.map kB).foldl (λm p=>putD m p.1 p.2) []))=_;rw[show([]:List (Key×D))=([]:List Int).map kB from rfl,NI];rfl
def n9(C:List Ch)(there:List Int)(m:Int):Bool:=(lean (sec C) m).all λx=>decide (x∈there)
theorem tw{g:SF}(ρ':aA)(h:g ρ'=r)(e:ρ=ρ':=by rfl):g ρ=r:=by rw[e,h]
theorem OA(h:f ρ=some (iL a,t))(h2:g ρ=some (iL b,t2))(hl:a.length+b.length<=1000):e2 fX (e1 tY f) (e1 tY g) ρ=some (iL (a++b),.own):=
 aO (bC h uy) (bC h2 uy) (uO (by rw[aeI];lia))
theorem Ov{C:List Ch}(g:GoodC C){a b wt:List Int}(hl:a.length+b.length<=1000)(hw:Row C wt)(B0:wt.length<=1000):yZ [obj C,iL a,iL b,iL wt]=some (iL (wt.filter (n9 C (a++b)))):=by
 refine cz rfl (jP (bC (t:=.own) ?_ aeB) (tw [some (obj C,.sh []),some (iL a,.sh []),some (iL b,.sh []),some (iL wt,.sh []),some (dB (adds [] (a++b)),.own)] (cZ (xS (gQ rfl) (by lia) (λx=>rfl) (λx uB=>?_)))))
 .refine(jH (k:=λd=>match d with | .int x=>some (pM x) | _=>none) (gQ (OA rfl rfl hl)) (by rw[List.length_map,abb];exact size_le (by lia)) (λd m=>by
   obtain⟨x,uB,rfl⟩:=abG.mp m;exact rB rfl rfl rfl rfl)).trans ?_
  rw[aes,show((a++b).filterMap ((λd=>match d with|D.int x=>some (pM x)|_=>none) ∘ D.int))=(a++b).map pM from o8 pM _]
 .obtain⟨h1,h2⟩:=hw x uB;refine bO (Mp (gQ (mV rfl rfl (Pn h1 h2))) (by have:=g.few x;lia) (λy my=>qe rfl rfl (aO rfl rfl ?_)));rw[aat,show decide (y∈adds [] (a++b))=decide (y∈a++b) from afC.mpr (by rw[Mz];simp)]
theorem abk(g:GoodC C)(hl:a.length+b.length<=100)(hb:Row C (a++b))(h:fW [] (fV C (a++b))=some v):aaz [obj C,iL a,iL b]=some (bH (jN (nz v))):=
 cz rfl (cZ (bC (c9 (ps:=[(obj C,.sh []),(iL (a++b),.own)]) (by rw[aW,aW];show lH _ (lH (e2 fX _ _ [some (obj C,.sh []),some (iL a,.sh []),some (iL b,.sh [])]) _)=_;rw[OA rfl rfl (by lia)];rfl) (C7 g hb (by rw[abb];lia) h).1) Nc))
theorem We(h:∀k,gV u k=gV v k)(E:List Ed):bad u E=bad v E:=by
 unfold bad
 congr 1
 refine List.filter_congr λp _=>?_
 unfold qv;have:=h p.1;unfold gV at this;rw[this]
theorem YA(g:GoodC C)(h1:1<=m)(h2:m<=(C.length:Int)):HZ [obj C,bH v,.int m]=some (.bl (jv C v m)):=
 cz rfl (cZ (aO (c9 (ps:=[(bH v,.sh []),(eL (dJ C m),.own)]) (by rw[aW,aW];show lH _ (lH (cK _ _ _ _ _ [some (obj C,.sh []),some (bH v,.sh []),some (.int m,.sh [])]) _)=_;rw[mV rfl rfl (yW h1 h2)];rfl) (GV (g.ed m).ed (by lia) D.lst rfl)) rfl Yq))
theorem ZJ{L:List Ch}{m:Int}(h1:1<=m)(h2:m<=L.length):Bj [obj L,.int m]=some (.int (ch L m).1):=
 cz rfl (cZ (aO (mV rfl rfl (G_ h1 h2)) rfl rfl))
abbrev kf:EF:=kR (ay (e1 AQ (cK "Changes" "rank_of" Bj (ak 1) (ay (ak 0) aJ))) (ay (ak 0) aJ))
abbrev pr(C:List Ch):Int->Int×Int:=uN kf (obj C)
theorem OW{C:List Ch}{x:Int}(h1:1<=x)(h2:x<=C.length):sA kf (obj C) x=some (-(ch C x).1,x):=by
 unfold sA;have e:e1 AQ (cK "Changes" "rank_of" Bj (ak 1) (ay (ak 0) aJ)) [some (.int x,.own),some (obj C,.sh [])]=some (.int (-(ch C x).1),.own):=bC (mV rfl rfl (ZJ h1 h2)) rfl;show(match kR _ _ with|some (.tup [.int a,.int b],_)=>some (a,b)|_=>none)=_;rw[ou,aW,e];rfl
theorem WL(h:Row C ns)(hn:ns.Nodup):(ns.map (pr C)).Nodup:=by
 have JX:∀x∈ns,pr C x=(-(ch C x).1,x):=λx m=>by
  show(sA kf (obj C) x).getD _=_;rw[OW (h x m).1 (h x m).2];rfl
 unfold List.Nodup;rw[aeX];refine hn.imp_of_mem λ{a b} ma mb ne e=>ne ?_
 rw[JX a ma,JX b mb] at e;exact(Prod.mk.injEq .. ▸ e).2
theorem ab1(h:Row C ns)(hn:ns.Nodup)(hl:ns.length<64):QE [obj C,iL ns]=some (iL (jr (pr C) ns)):=by
 refine cz rfl (cZ ?_);show(match eE (ns.map D.int) with|some ns=>if ns.length<64/\(ns.map (pr C)).Nodup/\∀n∈ns,(sA kf (obj C) n).isSome=true then some (D.lst ((jr (pr C) ns).map D.int),Tag.own) else none|none=>none)=_;rw[ux];dsimp only;rw[if_pos ⟨hl,WL h hn,λx m=>by rw[OW (h x m).1 (h x m).2];rfl⟩];rfl
noncomputable def M8:Option Int->D
 |none=>.aD
 |some x=>.int x
def wm:SF:=fP (tV (cP HZ (ay (ak 0) (ay (ak 1) (ay (ak 3) aJ))))) (pF 3) g9
theorem MG(g:GoodC C):∀{l:List Int}{s3:Slot},Row C l->match l.find? (jv C v) with
  |some x=>dw (gN 3) (.sh []) wm (l.map D.int) [some (obj C,.sh []),some (bH v,.sh []),some (N,.sh []),s3]=some (.rt (.int x))
  |none=>∃t3,dw (gN 3) (.sh []) wm (l.map D.int) [some (obj C,.sh []),some (bH v,.sh []),some (N,.sh []),s3]=some (.nx [some (obj C,.sh []),some (bH v,.sh []),some (N,.sh []),t3])
 |[],s3,_=>⟨s3,rfl⟩
 |x::l,s3,h=>by
  obtain⟨h1,h2⟩:=h x aar;have q:tV (cP HZ (ay (ak 0) (ay (ak 1) (ay (ak 3) aJ)))) [some (obj C,.sh []),some (bH v,.sh []),some (N,.sh []),some (.int x,.sh [])]=some (jv C v x):=bO (c9 rfl (YA g h1 h2));have ih:=MG g (v:=v) (N:=N) (s3:=some (.int x,.sh [])) λy m=>h y (aaa _ m)
  rw[ac9];cases hf:jv C v x with
  |true=>
   rw[hf] at q;exact AB (aS:=[some (obj C,.sh []),some (bH v,.sh []),some (N,.sh []),some (.int x,.sh [])]) rfl (by unfold wm;rw[je,q];rfl)
  |false=>
   rw[hf] at q;have e:=lB (g:=gN 3) (t:=.sh []) (f:=wm) (ds:=l.map D.int) (ρ:=[some (obj C,.sh []),some (bH v,.sh []),some (N,.sh []),s3]) (aS:=[some (obj C,.sh []),some (bH v,.sh []),some (N,.sh []),some (.int x,.sh [])]) rfl (by unfold wm;rw[je,q];rfl);dsimp only;rw[aax,e];exact ih
theorem UA(g:GoodC C)(h:Row C ns)(hn:ns.Nodup)(hl:ns.length<64):Ah [obj C,bH v,iL ns]=some (M8 ((jr (pr C) ns).find? (jv C v))):=by
 have hi:gZ (cP QE (ay (ak 0) (ay (ak 2) aJ))) [some (obj C,.sh []),some (bH v,.sh []),some (iL ns,.sh []),none]=some ((jr (pr C) ns).map D.int,.own):=gQ (c9 rfl (ab1 h hn hl));have lp:=MG g (v:=v) (N:=iL ns) (l:=jr (pr C) ns) (s3:=none) λx m=>h x ((vY ns).mem_iff.mp m)
 refine cz rfl ?_;cases e:(jr (pr C) ns).find? (jv C v) with
 |none=>
  rw[e] at lp;obtain⟨t3,lp⟩:=lp;exact sq (sF hi lp) rfl
 |some x=>
  rw[e] at lp;exact f_ (zh hi lp)
theorem Kw:∀{row:List Int}{v v':gh}{m:Int},fW v (fV C row)=some v'->bad v' (dJ C m)=[]->fW v (fV C (row++[m]))=some (eT v' (dJ C m))
 |[],v,v',m,h,hb=>by
  cases h;show(if bad v (dJ C m)=[] then fW (eT v (dJ C m)) [] else none)=_;rw[if_pos hb];rfl
 |x::r,v,v',m,h,hb=>by
  have h:(if bad v (dJ C x)=[] then fW (eT v (dJ C x)) (fV C r) else none)=some v':=h;show(if bad v (dJ C x)=[] then fW (eT v (dJ C x)) (fV C (r++[m])) else none)=_
  by_cases Nu:bad v (dJ C x)=[]
  .rw[if_pos Nu] at h ⊢;exact Kw h hb
  .rw[if_neg Nu] at h;cases h
theorem aaH(h1:c ρ=some true)(h2:b ρ=some (.nx ρ')):iu c b (n+1) ρ=iu c b n ρ':=by rw[iu,h1];dsimp only;rw[h2]
theorem abB(h1:c ρ=some false):iu c b (n+1) ρ=some (.nx ρ):=by rw[iu,h1]
theorem aeC(h1:c ρ=some true)(h2:b ρ=some (.rt d)):iu c b (n+1) ρ=some (.rt d):=by rw[iu,h1];dsimp only;rw[h2]
abbrev cF:TF:=tV (e2 oLt (e1 fN (ak 5)) (ak 4))
abbrev bF:SF:=(cC (dQ 8 (cP Ah (ay (ak 0) (ay (ak 7) (ay (cP yZ (ay (ak 0) (ay (ak 1) (ay (ak 5) (ay (ak 6) aJ))))) aJ))))) (cC (fP (tV (e2 ja (ak 8) (eC .aD))) (pF 5) g9) (cC (mE 5 (ak 8)) (cC (v9 6 (ak 8)) (jw (gZ (cK "Changes" "edits_of" zx (ak 0) (ay (ak 8) aJ))) (gT (eW (gN 9) (eW (gN 10) (eW (gN 11) m_)))) (qz 7 (ak 9) (ak 11)))))))
def rF(C:List Ch)(ln ld wt:List Int)(w:Int)(told left:List Int)(u:gh)(s8 s9 ez eF:Slot):aA:=[some (obj C,.sh []),some (iL ln,.sh []),some (iL ld,.sh []),some (iL wt,.sh []),some (.int w,.sh []),some (iL told,.own),some (iL left,.own),some (bH u,.own),s8,s9,ez,eF]
structure Fl(C:List Ch)(ln told left:List Int)(w:Int)(ex:List Int):Prop where
 nd:ex.Nodup
 sub:∀x∈ex,x∈left
 le:((told++ex).length:Int)<=w\/ex=[]
 fst:∀x r,ex=x::r->∃v,fW [] (fV C (ln++told))=some v/\n9 C (ln++told) x=true/\jv C v x=true
 run:∃v,fW [] (fV C (ln++(told++ex)))=some v/\(w<=((told++ex).length:Int)\/∀x∈left,x∉ex->n9 C (ln++(told++ex)) x=true->jv C v x=false)
theorem YC(g:GoodC C):∀{n:Nat}{told left:List Int}{u v:gh}{s8 s9 ez eF:Slot},Row C left->left.Nodup->left.length<64->ln.length+told.length+left.length<=1000->fW [] (fV C (ln++told))=some v->(∀k,gV u k=gV v k)->Kb u->left.length<n->
  ∃ex,cC (iu cF bF n) (pF 5) (rF C ln ld wt w told left u s8 s9 ez eF)=some (.rt (iL (told++ex)))/\Fl C ln told left w ex:=by
 intro n
 induction n with
 |zero=>intros;omega
 |succ n ih=>
  intro told left u v s8 s9 ez eF hr nd hl hs hv hu ku hn;have c1:cF (rF C ln ld wt w told left u s8 s9 ez eF)=some (decide ((told.length:Int)<w)):=bO (aO (bC rfl (by show some (D.int (told.map D.int).length)=_;rw[List.length_map])) rfl rfl)
  by_cases hw:(told.length:Int)<w
  .rw[aaN hw] at c1;have ef:jv C u=jv C v:=funext λx=>by unfold jv;rw[We hu]
   have q1:cP Ah (ay (ak 0) (ay (ak 7) (ay (cP yZ (ay (ak 0) (ay (ak 1) (ay (ak 5) (ay (ak 6) aJ))))) aJ))) (rF C ln ld wt w told left u s8 s9 ez eF)=some (M8 ((jr (pr C) (left.filter (n9 C (ln++told)))).find? (jv C v)),.own):=by
    refine c9 (ps:=[(obj C,.sh []),(bH u,.sh [7]),(iL (left.filter (n9 C (ln++told))),.own)]) ?_ ?_
    .rw[aW,aW,aW,c9 rfl (Ov g (by lia) hr (by lia))];rfl
    .show Ah [obj C,bH u,_]=_;rw[UA g (λx m=>hr x (acy.mp m).1) (nd.sublist aeE) (ae0 (aeb _ _) hl),ef]
   have pm:=λx=>(vY (pr:=pr C) (left.filter (n9 C (ln++told)))).mem_iff (a:=x)
   cases hb:(jr (pr C) (left.filter (n9 C (ln++told)))).find? (jv C v) with
   |none=>
    rw[hb] at q1;refine⟨[],f_ ((aeC c1 (jP q1 (f_ rfl))).trans (by rw[acm])),.nil,(λx m=>nomatch m),.inr rfl,(λx r e=>nomatch e),v,by rw[acm];exact hv,.inr λx m _ hf=>?_⟩;rw[acm] at hf;have:=aeP.mp hb x ((pm x).mpr (acy.mpr ⟨m,hf⟩));simpa using this
   |some x=>
    rw[hb] at q1;have mf:=(pm x).mp (aeT hb);have m:=(acy.mp mf).1;have f:=Sj.mp (afZ hb);obtain⟨h1,h2⟩:=hr x m;have hE:=(g.ed x).ed.ln;have hel:=List.length_erase_of_mem m;have hp:=List.length_pos_of_mem m;obtain⟨t9,qI,qR,lp⟩:=Ca (g:=gT (eW (gN 9) (eW (gN 10) (eW (gN 11) m_)))) (f:=qz 7 (ak 9) (ak 11)) (λv x' y z=>rF C ln ld wt w (told++[x]) (left.erase x) v (some (.int x,.own)) x' y z) (λ_ _ _ _ _=>rfl) (λv p h=>DX rfl rfl rfl h) (E:=dJ C x) (v:=u) (by have:=ku.len;lia);have st:bF (rF C ln ld wt w told left u s8 s9 ez eF)=some (.nx (rF C ln ld wt w (told++[x]) (left.erase x) (eT u (dJ C x)) (some (.int x,.own)) t9 qI qR)):=by
     refine jP q1 (dg rfl ?_);refine sq ((C3 rfl rfl (size_le (by lia))).trans rfl) ?_;refine sq ((aeQ rfl rfl m).trans rfl) ?_;exact sF (gQ (mV rfl rfl (yW h1 h2))) lp
    obtain⟨ex,e,F⟩:=ih (told:=told++[x]) (λy my=>hr y (List.mem_of_mem_erase my)) (nd.erase x) (by lia) (by rw[abb,adH];lia) (by rw[<- aej];exact Kw hv f) (λk=>by
     obtain⟨a1,a2⟩:=Ba (dJ C x) u k (g.ed x).nd;obtain⟨b1,b2⟩:=Ba (dJ C x) v k (g.ed x).nd;unfold gV
     by_cases mk:k∈(dJ C x).map (·.1)
     .obtain⟨p,mp,rfl⟩:=abG.mp mk;rw[a1 p mp rfl,b1 p mp rfl]
     .rw[a2 mk,b2 mk];exact hu k) (ku.eT (g.ed x)) (by lia)
    have ea:told++x::ex=told++[x]++ex:=by rw[aej];rfl
    refine⟨x::ex,?_,abv.mpr ⟨λmx=>(nd.mem_erase_iff.mp (F.sub x mx)).1 rfl,F.nd⟩,λy my=>(aa3.mp my).elim (λe=>e ▸ m) λmy=>List.mem_of_mem_erase (F.sub y my),.inl ?_,(λy r e=>by cases e;exact⟨v,hv,(acy.mp mf).2,afZ hb⟩),?_⟩
    .rw[jG,aaH c1 st,<- jG,ea];exact e
    .rw[ea];rcases F.le with h|h
     .exact h
     .rw[h,acm,abb,adH];lia
    .rw[ea];obtain⟨v',r1,r2⟩:=F.run;refine⟨v',r1,r2.imp id λr y my ny=>?_⟩;exact r y (nd.mem_erase_iff.mpr ⟨λe=>ny (e ▸ aar),my⟩) λq=>ny (aaa _ q)
  .rw[abN hw] at c1;exact⟨[],(sq (abB c1) rfl).trans (by rw[acm];rfl),.nil,(λx m=>nomatch m),.inr rfl,(λx r e=>nomatch e),v,by rw[acm];exact hv,.inl (by rw[acm];lia)⟩
theorem YS(g:GoodC C)(hb:Row C (ln++ld))(hr:Row C wt)(nd:wt.Nodup)(hw:wt.length<64)(hl:ln.length+ld.length<=100)(hv:fW [] (fV C (ln++ld))=some v):∃ex,GS [obj C,iL ln,iL ld,iL wt,.int w]=some (iL (ld++ex))/\Fl C ln ld wt w ex:=by
 have kv:=(C7 g hb (by rw[abb];lia) hv).2;have kd:Kb (jN (nz v)):=⟨Zs _,λk m=>kv.ks k (tG.mp (by
  obtain⟨w,e⟩:=tG.mpr m;rw[O0 (by rw[Mj];exact QI kv.nd)] at e;unfold nz at e;rw[EZ] at e
  split at e
  .rename_i mk;have:=Ro.mp mk;cases h:bR v k with
   |none=>rw[h] at this;exact absurd rfl this
   |some y=>exact⟨y,rfl⟩
  .cases e))⟩
 obtain⟨ex,e,F⟩:=YC g (n:=4000) hr nd hw (by lia) hv (V5 kv.nd) kd (by lia);exact⟨ex,cz rfl (jP (bC rfl uy) (jP (bC rfl uy) (jP (c9 rfl (abk g hl hb hv)) e))),F⟩
noncomputable def best:Int×Int->List (Int×Int)->Int×Int
 |p,[]=>p
 |p,q::r=>best (if p.2-p.1<q.2-q.1 then q else p) r
noncomputable def pairs(f:List Int):List (Int×Int):=f.zip f.tail
def mid(f:List Int):Int:=let p:=best (f.headD 0,f.headD 0) (pairs f);(p.1+p.2) / 2
theorem Aw:∀(l:List (Int×Int)) (p:Int×Int),best p l=p\/best p l∈l
 |[],p=>.inl rfl
 |q::r,p=>by
  unfold best
  by_cases h:p.2-p.1<q.2-q.1
  .rw[if_pos h];rcases Aw r q with e|e
   .rw[e];exact .inr aar
   .exact .inr (aaa _ e)
  .rw[if_neg h];rcases Aw r p with e|e
   .exact .inl e
   .exact .inr (aaa _ e)
theorem Bd:∀(l:List (Int×Int)) (p:Int×Int),p.2-p.1<=(best p l).2-(best p l).1/\∀q∈l,q.2-q.1<=(best p l).2-(best p l).1
 |[],p=>⟨Int.le_refl _,λq m=>nomatch m⟩
 |x::r,p=>by
  unfold best
  by_cases h:p.2-p.1<x.2-x.1
  .rw[if_pos h];obtain⟨h1,h2⟩:=Bd r x;refine⟨by lia,λq m=>?_⟩;rcases aa3.mp m with rfl|m
   .exact h1
   .exact h2 q m
  .rw[if_neg h];obtain⟨h1,h2⟩:=Bd r p;refine⟨h1,λq m=>?_⟩;rcases aa3.mp m with rfl|m
   .lia
   .exact h2 q m
theorem E8:∀(r:List Int) (a:Int),(∀q∈pairs (a::r),q.2-q.1<=1)->(a::r).getLastD 0<=a+r.length
 |[],a,_=>by simp
 |b::r,a,h=>by
  have h1:b-a<=1:=h (a,b) (by unfold pairs;exact aar);have h2:=E8 r b λq m=>h q (by unfold pairs at m ⊢;exact aaa _ m)
  have e:(a::b::r).getLastD 0=(b::r).getLastD 0:=by simp[List.getLastD]
  rw[e,abP]
  lia
noncomputable abbrev fence(ws:List Int)(e:Int):List Int:=0::(ws++[e])
theorem GY(m:q∈pairs f):q.1∈f/\q.2∈f:=by
 unfold pairs at m;obtain⟨h1,h2⟩:=List.of_mem_zip m;exact⟨h1,List.mem_of_mem_tail h2⟩
theorem adu(hw:∀x∈ws,1<=x)(hl:(ws.length:Int)<e-1):1<=mid (fence ws e):=by
 have hf:∀x∈fence ws e,0<=x:=λx m=>by
  rcases aa3.mp m with rfl|m
  .exact Int.le_refl _
  .rcases abD.mp m with m|m
   .have:=hw x m;lia
   .cases aa1.mp m;lia
 obtain⟨q,m,hq⟩:∃q∈pairs (fence ws e),2<=q.2-q.1:=by
  refine ae8 λhn=>?_
  have:=E8 (ws++[e]) 0 λq m=>by
   refine ae8 λh=>hn ⟨q,m,by lia⟩
  have q1:(0::(ws++[e])).getLastD 0=e:=by rw[show(0::(ws++[e]))=(0::ws)++[e] from rfl,List.getLastD_concat]
  rw[q1,abb,adH] at this
  lia
 have hb:=(Bd (pairs (fence ws e)) ((fence ws e).headD 0,(fence ws e).headD 0)).2 q m;unfold mid;dsimp only;rcases Aw (pairs (fence ws e)) ((fence ws e).headD 0,(fence ws e).headD 0) with h|h
 .rw[h] at hb;dsimp only at hb
  lia
 .obtain⟨h1,h2⟩:=GY h;have:=hf _ h1
  lia
noncomputable def Qh(p:Int×Int):D:=.tup [.int p.1,.int p.2]
noncomputable def rM(f:List Int)(l h:Int)(t1 t2:Tag)(s3 s4:Slot):aA:=[some (.lst (f.map D.int),.sh []),some (.int l,t1),some (.int h,t2),s3,s4]
abbrev bM:SF:=fP (tV (e2 vn (e2 kG (ak 4) (ak 3)) (e2 kG (ak 2) (ak 1)))) (cC (dQ 1 (ak 3)) (dQ 2 (ak 4))) g9
abbrev gM:GF:=gT (eW (gN 3) (eW (gN 4) m_))
theorem Fw:∀(ps:List (Int×Int)) (p:Int×Int) (t1 t2:Tag) (s3 s4:Slot),∃YH t2' wK s4',dw gM (.sh []) bM (ps.map Qh) (rM f p.1 p.2 t1 t2 s3 s4)=some (.nx (rM f (best p ps).1 (best p ps).2 YH t2' wK s4'))
 |[],p,t1,t2,s3,s4=>⟨t1,t2,s3,s4,rfl⟩
 |q::r,p,t1,t2,s3,s4=>by
  have hc:tV (e2 vn (e2 kG (ak 4) (ak 3)) (e2 kG (ak 2) (ak 1))) (rM f p.1 p.2 t1 t2 (some (.int q.1,.own)) (some (.int q.2,.own)))=some (decide (p.2-p.1<q.2-q.1)):=rfl
  by_cases h:p.2-p.1<q.2-q.1
  .have hb:bM (rM f p.1 p.2 t1 t2 (some (.int q.1,.own)) (some (.int q.2,.own)))=some (.nx (rM f q.1 q.2 (.sh [3]) (.sh [4]) (some (.int q.1,.own)) (some (.int q.2,.own)))):=by
    unfold bM;rw[je,hc,aaN h,LC];rfl
   obtain⟨a,b,c,d,hh⟩:=Fw r q (.sh [3]) (.sh [4]) (some (.int q.1,.own)) (some (.int q.2,.own));refine⟨a,b,c,d,(lB rfl hb).trans ?_⟩;unfold best;rw[if_pos h];exact hh
  .have hb:bM (rM f p.1 p.2 t1 t2 (some (.int q.1,.own)) (some (.int q.2,.own)))=some (.nx (rM f p.1 p.2 t1 t2 (some (.int q.1,.own)) (some (.int q.2,.own)))):=by
    unfold bM;rw[je,hc,abN h,Jc];rfl
   obtain⟨a,b,c,d,hh⟩:=Fw r p t1 t2 (some (.int q.1,.own)) (some (.int q.2,.own));refine⟨a,b,c,d,(lB rfl hb).trans ?_⟩;unfold best;rw[if_neg h];exact hh
theorem abm(a:Int)(r:List Int):n6 (some 1) none (.lst ((a::r).map D.int))=some (.lst (r.map D.int)):=by
 show(if aN ((a::r).map D.int)=true then some (D.lst (cutD ((a::r).map D.int) (some 1) none)) else none)=_;rw[if_pos (fT _)];have:cutD ((a::r).map D.int) (some 1) none=r.map D.int:=by
  unfold cutD;have e:HT.gI ((a::r).map D.int).length 0 (some 1)=1:=by
   have q:=HT.D5 ((a::r).map D.int).length 0 1;rw[show((1:Nat):Int)=1 from rfl] at q;rw[q,List.length_map,abP];lia
  rw[HT.CT,e,aax,List.drop_succ_cons,List.drop_zero,abP,Nat.add_sub_cancel,List.take_length]
 rw[this]
theorem abu(a:Int)(r:List Int):yG [.lst ((a::r).map D.int)]=some (.int (mid (a::r))):=by
 refine cz rfl ?_;show D6 [some (.lst ((a::r).map D.int),.sh []),none,none,none,none]=_;unfold D6;have q1:dQ 1 (e2 eK (ak 0) (eC (.int 0))) [some (.lst ((a::r).map D.int),.sh []),none,none,none,none]=some (.nx [some (.lst ((a::r).map D.int),.sh []),some (.int a,.own),none,none,none]):=by
  have hx:eK (.lst ((a::r).map D.int)) (.int 0)=some (.int a):=uI (by rw[NK (by lia) (by rw[abP];lia)];rfl) rfl;rw[kY,j_];show zY 1 _ ((eK (.lst ((a::r).map D.int)) (.int 0)).map _)=_;rw[hx];rfl
 have q2:dQ 2 (ak 1) [some (.lst ((a::r).map D.int),.sh []),some (.int a,.own),none,none,none]=some (.nx (rM (a::r) a a .own (.sh [1]) none none)):=rfl;have hz:qw (ak 0) (e1 (n6 (some 1) none) (ak 0)) (rM (a::r) a a .own (.sh [1]) none none)=some ((pairs (a::r)).map Qh,.sh []):=by
  unfold qw;have v0:ak 0 (rM (a::r) a a .own (.sh [1]) none none)=some (.lst ((a::r).map D.int),.sh []):=rfl;have v1:e1 (n6 (some 1) none) (ak 0) (rM (a::r) a a .own (.sh [1]) none none)=some (.lst (r.map D.int),.own):=by
   rw[yp,v0];show(n6 (some 1) none (.lst ((a::r).map D.int))).map _=_;rw[abm];rfl
  rw[v0,v1];dsimp only;rw[if_pos (by rw[fT,fT];rfl)];refine congrArg some (Prod.ext ?_ rfl);rw[List.zip_map,acT];rfl
 obtain⟨t1,t2,s3,s4,hl⟩:=Fw (pairs (a::r)) (a,a) .own (.sh [1]) none none;have hf:jw (qw (ak 0) (e1 (n6 (some 1) none) (ak 0))) gM bM (rM (a::r) a a .own (.sh [1]) none none)=some (.nx (rM (a::r) (best (a,a) (pairs (a::r))).1 (best (a,a) (pairs (a::r))).2 t1 t2 s3 s4)):=xZ hz hl;rw[jG,q1,nU,jG,q2,nU,jG];rw[hf,nU];unfold mid;rw[show((a::r).headD 0,(a::r).headD 0)=(a,a) from rfl];generalize best (a,a) (pairs (a::r))=p;have v1:ak 1 (rM (a::r) p.1 p.2 t1 t2 s3 s4)=some (.int p.1,F3 1 t1):=rfl;have v2:ak 2 (rM (a::r) p.1 p.2 t1 t2 s3 s4)=some (.int p.2,F3 2 t2):=rfl;rw[r6,j_,j_,v1,v2,xw,kH,MZ,C4,xw,XO (by lia) (by lia)];rfl
noncomputable def jF:Option Int->D
 |none=>.aD
 |some b=>.int b
noncomputable def endOf(size:Int):Option Int->Int
 |none=>size+1
 |some b=>b
def pick(size:Int)(bad:Option Int)(e:Int)(ws:List Int):Int:=if(bad.isNone&&!(ws.any (· == size)))=true then size else mid (fence ws e)
def jY(size:Int)(bad:Option Int)(e:Int)(ws:List Int):List Int:=cB (ws++[pick size bad e ws])
noncomputable def lim(e aU:Int):Int:=if e-1<aU then e-1 else aU
def iy(size:Int)(bad:Option Int)(e aU:Int):Nat->List Int->List Int
 |0,ws=>ws
 |n+1,ws=>if(ws.length:Int)<lim e aU then iy size bad e aU n (jY size bad e ws) else ws
theorem AH{bad:Option Int}:(jY size bad e ws).length=ws.length+1:=by unfold jY;rw[uJ,abb];rfl
theorem Nz(b:Option Int):n_ (jF b)=b.isNone:=by cases b<;>rfl
abbrev cW:TF:=tV (e2 oLt (e1 fN (ak 5)) (e2 yJ (ak 3) (e2 kG (ak 4) (eC (.int 1)))))
abbrev bW:SF:=cC (fP (jC (tV (e2 ja (ak 1) (eC .aD))) (tV (e2 (jM true) (ak 0) (ak 5)))) (mE 5 (ak 0)) (mE 5 (cP yG (ay (e2 fX (e2 fX (jq (ay (eC (.int 0)) aJ)) (ak 5)) (jq (ay (ak 4) aJ))) aJ)))) (dQ 5 (e1 lV (ak 5)))
def As(t:Tag):Prop:=t=.own\/t=.sh []
def rW(size:Int)(bad:Option Int)(kd:D)(aU e:Int)(t4:Tag)(ws:List Int):aA:=[some (.int size,.sh []),some (jF bad,.sh []),some (kd,.sh []),some (.int aU,.sh []),some (.int e,t4),some (.lst (ws.map D.int),.own)]
section
variable{size aU e:Int}{bad:Option Int}{kd:D}{t4:Tag}{ws:List Int}
theorem NW:cW (rW size bad kd aU e t4 ws)=some (decide ((ws.length:Int)<lim e aU)):=by
 show some (decide (((ws.map D.int).length:Int)<(if e-1<aU then e-1 else aU)))=_;rw[List.length_map];rfl
theorem adJ:(tV (e2 (jM true) (ak 0) (ak 5))) (rW size bad kd aU e t4 ws)=some (!(ws.any (· == size))):=by
 rw[yh,j_];show Ev.kV ((jM true (.int size) (.lst (ws.map D.int))).map _)=_;rw[Bt];rfl
theorem T6:(jC (tV (e2 ja (ak 1) (eC .aD))) (tV (e2 (jM true) (ak 0) (ak 5)))) (rW size bad kd aU e t4 ws)=some (bad.isNone&&!(ws.any (· == size))):=by
 refine uo ?_ adJ;show some (n_ (jF bad))=_;rw[Nz]
theorem PJ(h:As t4)(x:Int):bP (rW size bad kd aU e t4 ws) 5 (.lst ((ws++[x]).map D.int))=rW size bad kd aU e t4 (ws++[x]):=by
 rcases h with rfl|rfl<;>rfl
theorem YJ(hl:ws.length<63):(e2 fX (e2 fX (jq (ay (eC (.int 0)) aJ)) (ak 5)) (jq (ay (ak 4) aJ))) (rW size bad kd aU e t4 ws)=some (.lst ((fence ws e).map D.int),.own):=by
 have h1:fX (.lst (([0]:List Int).map D.int)) (.lst (ws.map D.int))=some (.lst (([0]++ws).map D.int)):=uO (by unfold PySem.sizeLine;show 1+ws.length<=_;lia);have h2:fX (.lst (([0]++ws).map D.int)) (.lst (([e]:List Int).map D.int))=some (.lst (([0]++ws++[e]).map D.int)):=uO (by unfold PySem.sizeLine;rw[abb];show 1+ws.length+1<=_;lia);rw[j_,j_];show k2 fX ((fX (.lst (([0]:List Int).map D.int)) (.lst (ws.map D.int))).map _) _=_;rw[h1,MZ];show(fX (.lst (([0]++ws).map D.int)) (.lst (([e]:List Int).map D.int))).map _=_;rw[h2];rfl
theorem Yl(ht:As t4)(hl:ws.length<63):bW (rW size bad kd aU e t4 ws)=some (.nx (rW size bad kd aU e t4 (jY size bad e ws))):=by
 have hz:ws.length<PySem.sizeLine:=by unfold PySem.sizeLine;lia
 have h1:fP (jC (tV (e2 ja (ak 1) (eC .aD))) (tV (e2 (jM true) (ak 0) (ak 5)))) (mE 5 (ak 0)) (mE 5 (cP yG (ay (e2 fX (e2 fX (jq (ay (eC (.int 0)) aJ)) (ak 5)) (jq (ay (ak 4) aJ))) aJ))) (rW size bad kd aU e t4 ws)=some (.nx (rW size bad kd aU e t4 (ws++[pick size bad e ws]))):=by
  rw[je,T6];unfold pick
  by_cases hb:(bad.isNone&&!(ws.any (· == size)))=true
  .rw[hb,LC,if_pos rfl,C3 rfl rfl hz,PJ ht]
  .have v8:(bad.isNone&&!(ws.any (· == size)))=false:=by simpa using hb
   have hm:cP yG (ay (e2 fX (e2 fX (jq (ay (eC (.int 0)) aJ)) (ak 5)) (jq (ay (ak 4) aJ))) aJ) (rW size bad kd aU e t4 ws)=some (.int (mid (fence ws e)),.own):=by
    rw[s_call,aW,YJ hl,wZ,BQ,O9];simp only[aax,af5];have:=abu 0 (ws++[e]);rw[aax] at this;rw[this];rfl
   rw[v8,Jc,if_neg aa6,C3 hm rfl hz,PJ ht]
 unfold bW;rw[jG,h1,nU,kY,yp];show zY 5 _ ((lV (.lst ((ws++[pick size bad e ws]).map D.int))).map _)=_;rw[abz (by rw[abb];show ws.length+1<64;lia)];rfl
theorem OY(ht:As t4)(hh:aU<=60):∀(n:Nat) (ws:List Int) (m:Nat),aU-ws.length<=n->n<m->iu cW bW m (rW size bad kd aU e t4 ws)=some (.nx (rW size bad kd aU e t4 (iy size bad e aU n ws)))
 |_,_,0,_,h=>absurd h (Nat.not_lt_zero _)
 |0,ws,m+1,h,_=>by
  have:¬((ws.length:Int)<lim e aU):=by unfold lim;split<;>lia
  rw[iu,NW,abN this];rfl
 |n+1,ws,m+1,h,hm=>by
  rw[iu,NW];unfold iy
  by_cases hc:(ws.length:Int)<lim e aU
  .have h1:(ws.length:Int)<aU:=by unfold lim at hc;split at hc<;>lia
   rw[aaN hc,if_pos hc];dsimp only;rw[Yl ht (by lia)];exact OY ht hh n (jY size bad e ws) m (by rw[AH];lia) (by lia)
  .rw[abN hc,if_neg hc]
end
noncomputable def jW(e:Int)(ks:List Int):List Int:=ks.filter λk=>decide (k<e)
noncomputable def kI(e:Int):D->Option D
 |.int i=>if decide (i<e)=true then some (.int i) else none
 |_=>none
theorem Ga(e:Int):∀ks:List Int,(ks.map D.int).filterMap (kI e)=(jW e ks).map D.int
 |[]=>rfl
 |k::r=>by
  unfold jW;rw[aax,aef,afQ];have hk:kI e (D.int k)=if decide (k<e)=true then some (D.int k) else none:=rfl
  by_cases h:decide (k<e)=true
  .rw[hk,if_pos h,if_pos h,aax];dsimp only;rw[Ga e r];rfl
  .rw[hk,if_neg h,if_neg h];exact Ga e r
theorem aao{js:List (Option Nat)}(hi:it ρ=some (ks.map D.int,t))(hj:jD js ρ=[none,some (.int e,.sh [])])(hl:ks.length<64):
  iK js it (gN 0) (tV (e2 oLt (ak 0) (ak 1))) (ak 0) ρ=some (.lst ((jW e ks).map D.int),.own):=by
 have hc:=jH (g:=gN 0) (tt:=tV (e2 oLt (ak 0) (ak 1))) (te:=ak 0) (k:=kI e) hi (by rw[List.length_map];unfold PySem.sizeLine;lia) (λd m=>by
  obtain⟨i,mi,rfl⟩:=abG.mp m;rw[hj];show _=some (if decide (i<e)=true then some (D.int i) else none)
  by_cases h:decide (i<e)=true
  .rw[if_pos h];refine rB rfl ?_ rfl rfl;show some (decide (i<e))=_;rw[h]
  .rw[if_neg h];refine vZ rfl ?_;show some (decide (i<e))=_;rw[ae7.mpr h])
 rw[hc,Ga]
theorem aa5{bad:Option Int}(h0:ak 0 ρ=some (.int size,.sh []))(h1:ak 1 ρ=some (jF bad,.sh [])):∃t,As t/\m6 (tV (e2 ja (ak 1) (eC .aD))) (e2 iU (ak 0) (eC (.int 1))) (ak 1) ρ=some (.int (endOf size bad),t):=by
 have hc:tV (e2 ja (ak 1) (eC .aD)) ρ=some bad.isNone:=by
  rw[yh,j_,h1,C4,xw,aaf,Nz];rfl
 cases bad with
 |none=>exact⟨.own,.inl rfl,by rw[Fz (by rw[hc];rfl),j_,h0,C4,xw,kH];rfl⟩
 |some b=>exact⟨.sh [],.inr rfl,by rw[G8 (by rw[hc];rfl),h1];rfl⟩
def W(size:Int)(bad:Option Int)(ks:List Int)(aU:Int):List Int:=iy size bad (endOf size bad) aU 100 (jW (endOf size bad) ks)
theorem UQ{bad:Option Int}(hh:aU<=60)(hl:ks.length<64)(kd:D)(hk:gZ (ak 2) [some (.int size,.sh []),some (jF bad,.sh []),some (kd,.sh []),some (.int aU,.sh []),none,none]=some (ks.map D.int,.sh []))
  (hk2:∀t,gZ (ak 2) [some (.int size,.sh []),some (jF bad,.sh []),some (kd,.sh []),some (.int aU,.sh []),some (.int (endOf size bad),t),none]=some (ks.map D.int,.sh [])) :
  IP [.int size,jF bad,kd,.int aU]=some (.lst ((W size bad ks aU).map D.int)):=by
 refine cz rfl ?_;show G9 [some (.int size,.sh []),some (jF bad,.sh []),some (kd,.sh []),some (.int aU,.sh []),none,none]=_;unfold G9;obtain⟨t4,ht,h1⟩:=aa5 (ρ:=[some (.int size,.sh []),some (jF bad,.sh []),some (kd,.sh []),some (.int aU,.sh []),none,none]) rfl rfl;have q1:dQ 4 (m6 (tV (e2 ja (ak 1) (eC .aD))) (e2 iU (ak 0) (eC (.int 1))) (ak 1)) [some (.int size,.sh []),some (jF bad,.sh []),some (kd,.sh []),some (.int aU,.sh []),none,none]=some (.nx [some (.int size,.sh []),some (jF bad,.sh []),some (kd,.sh []),some (.int aU,.sh []),some (.int (endOf size bad),t4),none]):=by
  rw[kY,h1];rcases ht with rfl|rfl<;>rfl
 have q2:dQ 5 (iK [none,some 4] (gZ (ak 2)) (gN 0) (tV (e2 oLt (ak 0) (ak 1))) (ak 0)) [some (.int size,.sh []),some (jF bad,.sh []),some (kd,.sh []),some (.int aU,.sh []),some (.int (endOf size bad),t4),none]=some (.nx (rW size bad kd aU (endOf size bad) t4 (jW (endOf size bad) ks))):=by
  rw[kY,aao (hk2 t4) rfl hl];rfl
 have q3:=OY (size:=size) (bad:=bad) (kd:=kd) (e:=endOf size bad) ht hh 100 (jW (endOf size bad) ks) 4000 (by lia) (by lia);rw[jG,q1,nU,jG,q2,nU,jG,q3,nU];rfl
theorem Wr{bad:Option Int}(hh:aU<=60)(hl:ks.length<64):IP [.int size,jF bad,.lst (ks.map D.int),.int aU]=some (.lst ((W size bad ks aU).map D.int)):=UQ hh hl _ rfl λ_=>rfl
theorem KW{bad:Option Int}(hh:aU<=60):∀(n:Nat) (ws:List Int),ws.length<64->(iy size bad e aU n ws).length<64
 |0,ws,h=>h
 |n+1,ws,h=>by
  unfold iy
  split
  .rename_i hc;refine KW hh n _ ?_;rw[AH];unfold lim at hc
   split at hc<;>lia
  .exact h
theorem abL{bad:Option Int}(hh:aU<=60)(hl:ks.length<64):(W size bad ks aU).length<64:=KW hh _ _ (ae0 (aeb _ _) hl)
structure l6(e:Int)(ws:List Int):Prop where
 so:ws.Pairwise (· < ·)
 bd:∀x∈ws,1<=x/\x<e
theorem between:∀{f:List Int}{q:Int×Int}{x:Int},f.Pairwise (· < ·)->q∈pairs f->x∈f->x<=q.1\/q.2<=x
 |[],q,x,_,m,_=>by cases m
 |[a],q,x,_,m,_=>by cases m
 |a::b::r,q,x,hp,m,mx=>by
  obtain⟨h1,h2⟩:=adp.mp hp;have hs:pairs (a::b::r)=(a,b)::pairs (b::r):=rfl;rw[hs] at m;rcases aa3.mp m with hq|m'
  .subst hq;rcases aa3.mp mx with hx|uB
   .exact .inl (by show x<=a;lia)
   .rcases aa3.mp uB with hx|Si
    .exact .inr (by show b<=x;lia)
    .have:=(adp.mp h2).1 x Si;exact .inr (by show b<=x;lia)
  .rcases aa3.mp mx with hx|uB
   .have:=h1 q.1 (GY m').1;exact .inl (by lia)
   .exact between h2 m' uB
theorem adM(h:l6 e ws)(he:1<=e):(fence ws e).Pairwise (· < ·):=by
 refine adp.mpr ⟨λx m=>?_,List.pairwise_append.mpr ⟨h.so,List.pairwise_singleton _ _,λx m y my=>?_⟩⟩
 .rcases abD.mp m with m|m
  .have:=h.bd x m;lia
  .cases aa1.mp m;lia
 .cases aa1.mp my;exact(h.bd x m).2
theorem W_(h:l6 e ws)(hl:(ws.length:Int)<e-1):mid (fence ws e)<e/\mid (fence ws e)∉ws:=by
 have hf:=adM h (by lia);obtain⟨q,m,hq⟩:∃q∈pairs (fence ws e),2<=q.2-q.1:=by
  refine ae8 λhn=>?_
  have:=E8 (ws++[e]) 0 λq m=>by
   refine ae8 λh=>hn ⟨q,m,by lia⟩
  have q1:(0::(ws++[e])).getLastD 0=e:=by rw[show(0::(ws++[e]))=(0::ws)++[e] from rfl,List.getLastD_concat]
  rw[q1,abb,adH] at this
  lia
 have hb:=(Bd (pairs (fence ws e)) ((fence ws e).headD 0,(fence ws e).headD 0)).2 q m;unfold mid;dsimp only;rcases Aw (pairs (fence ws e)) ((fence ws e).headD 0,(fence ws e).headD 0) with h'|h'
 .rw[h'] at hb;dsimp only at hb
  lia
 .generalize best ((fence ws e).headD 0,(fence ws e).headD 0) (pairs (fence ws e))=p at hb h';have h2:p.2<=e:=by
   have:=(GY h').2;rcases aa3.mp this with z|z
   .lia
   .rcases abD.mp z with z|z
    .have:=(h.bd _ z).2;lia
    .rw[aa1.mp z];exact Int.le_refl _
  refine⟨by lia,λmx=>?_⟩;rcases between hf h' (aaa _ (abn _ mx)) with z|z<;>lia
section
variable{size aU e:Int}{bad:Option Int}{ws:List Int}
theorem ZP(h:l6 e ws)(he:e=endOf size bad)(hl:(ws.length:Int)<e-1):1<=pick size bad e ws/\pick size bad e ws<e/\pick size bad e ws∉ws:=by
 unfold pick
 split
 .rename_i hc;cases bad with
  |none=>
   have he:e=size+1:=he;refine⟨by lia,by lia,λm=>?_⟩;have:ws.any (· == size)=true:=adn.mpr ⟨size,m,afp size⟩;rw[this] at hc;cases hc
  |some b=>cases hc
 .obtain⟨h1,h2⟩:=W_ h hl;exact⟨adu (λx m=>(h.bd x m).1) hl,h1,h2⟩
theorem X7(h:l6 e ws)(he:e=endOf size bad)(hl:(ws.length:Int)<e-1):l6 e (jY size bad e ws)/\∀x∈ws,x∈jY size bad e ws:=by
 obtain⟨p1,p2,p3⟩:=ZP h he hl;have hp:(jY size bad e ws).Perm (ws++[pick size bad e ws]):=qK _;have hn:(jY size bad e ws).Nodup:=by
  refine hp.nodup_iff.mpr (acB.mpr ⟨h.so.imp λcj=>Int.ne_of_lt cj,abv.mpr ⟨(λm=>by cases m),ace⟩,λa ma b mb e=>?_⟩);cases aa1.mp mb;exact p3 (e ▸ ma)
 refine⟨⟨?_,λx m=>?_⟩,λx m=>hp.mem_iff.mpr (abn _ m)⟩
 .have hs:(jY size bad e ws).Pairwise (·<=·):=z9 _;exact(List.pairwise_and_iff.mpr ⟨hs,hn⟩).imp λh=>by have h1:=h.1;have h2:=h.2;lia
 .rcases abD.mp (hp.mem_iff.mp m) with m|m
  .exact h.bd x m
  .rw[aa1.mp m];exact⟨p1,p2⟩
theorem OR(he:e=endOf size bad):∀(n:Nat) (ws:List Int),l6 e ws->l6 e (iy size bad e aU n ws)/\∀x∈ws,x∈iy size bad e aU n ws
 |0,ws,h=>⟨h,λx m=>m⟩
 |n+1,ws,h=>by
  unfold iy
  split
  .rename_i hc;have hl:(ws.length:Int)<e-1:=by unfold lim at hc;split at hc<;>lia
   obtain⟨a,b⟩:=X7 h he hl;obtain⟨c,d⟩:=OR he n (jY size bad e ws) a;exact⟨c,λx m=>d x (b x m)⟩
  .exact⟨h,λx m=>m⟩
end
theorem aaT{bad:Option Int}(h:ks.Pairwise (· < ·))(h1:∀x∈ks,1<=x):l6 (endOf size bad) (W size bad ks aU)/\∀x∈ks,x<endOf size bad->x∈W size bad ks aU:=by
 have hi:l6 (endOf size bad) (jW (endOf size bad) ks):=⟨h.sublist aeE,λx m=>let q:=acy.mp m;⟨h1 x q.1,aaP q.2⟩⟩
 obtain⟨a,b⟩:=OR rfl 100 _ hi;exact⟨a,λx m hx=>b x (acy.mpr ⟨m,aaN hx⟩)⟩
theorem LQ{size e aU:Int}{bad:Option Int}:∀(n:Nat) (ws:List Int),aU-ws.length<=n->lim e aU<=(iy size bad e aU n ws).length/\((ws.length:Int)<=aU->((iy size bad e aU n ws).length:Int)<=aU)
 |0,ws,h=>⟨by unfold iy lim;split<;>lia,id⟩
 |n+1,ws,h=>by
  unfold iy
  by_cases hc:(ws.length:Int)<lim e aU
  .rw[if_pos hc];have h2:lim e aU<=aU:=by unfold lim;split<;>lia
   obtain⟨a,b⟩:=LQ (aU:=aU) n (jY size bad e ws) (by rw[AH];lia);exact⟨a,λ_=>b (by rw[AH];lia)⟩
  .rw[if_neg hc];exact⟨by lia,id⟩
theorem Qj{bad:Option Int}(h:lim e aU<=ws.length):iy size bad e aU n ws=ws:=by
 cases n with
 |zero=>rfl
 |succ n=>unfold iy;rw[if_neg (by lia)]
theorem qG(hl:ds.length+1=n)(h:b (Bv N d0 ds)=some (.nx ρ))(h0:ρ[0]? = some (some (d1,.own))):runM n N b d0 ds=some (.aD,d1):=by unfold runM;rw[if_pos hl,h];dsimp only;rw[h0]
noncomputable def hs(h:List Str):D:=.lst (h.map D.str)
def tob(n t:Int)(h:List Str):D:=.ins "Tally" [("need",.int n),("tries",.int t),("heard",hs h)]
theorem Oj(h:1<=n/\n<=t/\t<=20):YX [.int n,.int t]=some (.bl true):=
 cz rfl (cZ (yj (b:=true) (c9 rfl (AY.trans (by rw[aaN (show(1:Int)<=t by omega),aaN h.2.2];rfl))) (c9 rfl (AY.trans (by rw[aaN h.1,aaN h.2.1];rfl)))))
theorem ac1(h:1<=n/\n<=t/\t<=20):AX (.ins "Tally" []) [.int n,.int t]=some (.aD,tob n t []):=
 qG rfl (dg (kN (bO (c9 (ps:=[(.int n,.sh []),(.int t,.sh [])]) rfl (Oj h)))) rfl) rfl
theorem Na:uT (hs h) (.str w)=some (.int (dG w h)):=by
 show(kr (h.map D.str)).map (λys=>D.int (dG w ys))=_;rw[Rh];rfl
theorem Mi:dG w (h++[v])=dG w h+(if(v==w)=true then 1 else 0):=by
 unfold dG;rw[List.countP_append,List.countP_cons,List.countP_nil,afR]
theorem Dg:fN (hs h)=some (.int h.length):=by unfold hs;rw[sY,List.length_map]
def word(n t:Int)(h:List Str):Str:=if(dG "yes" h:Int) >= n then "yes" else if(dG "no" h:Int) >= n then "no" else if(h.length:Int) >= t then "unsure" else "more"
theorem Q9:KD [tob n t h]=some (.str (word n t h)):=by
 have c1:∀w:Str,tV (e2 BV (e2 uT (bJ "Tally" "heard" (ak 0)) (eC (.str w))) (bJ "Tally" "need" (ak 0))) [some (tob n t h,.sh [])]=some (decide ((dG w h:Int) >= n)):=λw=>bO (aO (aO rfl rfl Na) rfl rfl)
 have c2:tV (e2 BV (e1 fN (bJ "Tally" "heard" (ak 0))) (bJ "Tally" "tries" (ak 0))) [some (tob n t h,.sh [])]=some (decide ((h.length:Int) >= t)):=bO (aO (bC rfl Dg) rfl rfl);refine cz rfl ?_;unfold word
 by_cases a1:(dG "yes" h:Int) >= n
 .rw[if_pos a1];exact pP ((c1 _).trans (by rw[aaN a1])) (f_ rfl)
 .rw[if_neg a1];refine dg ((c1 _).trans (by rw[abN a1])) ?_
  by_cases a2:(dG "no" h:Int) >= n
  .rw[if_pos a2];exact pP ((c1 _).trans (by rw[aaN a2])) (f_ rfl)
  .rw[if_neg a2];refine dg ((c1 _).trans (by rw[abN a2])) ?_
   by_cases a3:(h.length:Int) >= t
   .rw[if_pos a3];exact pP (c2.trans (by rw[aaN a3])) (f_ rfl)
   .rw[if_neg a3];exact dg (c2.trans (by rw[abN a3])) rfl
theorem Bo:∀h:List Str,aN (h.map D.str)=true
 |[]=>rfl
 |x::h=>by rw[aax];unfold aN;rw[Bo h];rfl
theorem V3(hw:w∈(["yes","no","unsure"]:List Str))(hm:word n t h="more")(hl:h.length<=100):Mu (tob n t h) [.str w]=some (.str (word n t (h++[w])),tob n t (h++[w])):=by
 have m1:∀h:List Str,cK "Tally" "word" KD (ak 0) aJ [some (tob n t h,.own),some (.str w,.sh [])]=some (.str (word n t h),.own):=λh=>nW rfl rfl rfl Q9
 refine k7 rfl (dg ?_ (dg (bO (aO (m1 h) rfl (by rw[hm];rfl))) (sq (ρ':=[some (tob n t (h++[w]),.own),some (.str w,.sh [])]) (fQ ?_) ?_)))
 .simp only[aa3,adX,afY] at hw;rcases hw with rfl|rfl|rfl<;>rfl
 .refine(Ar rfl rfl rfl (by rw[Bo,List.length_map,aaN (size_le (by lia))];rfl)).trans ?_;unfold tob hs;rw[acZ];rfl
 .unfold oX;rw[m1 (h++[w])];rfl
theorem CG(hm:word n t h="more"):(h.length:Int)<t:=by
 unfold word at hm
 split at hm
 .exact absurd hm (by decide +kernel)
 .split at hm
  .exact absurd hm (by decide +kernel)
  .split at hm
   .exact absurd hm (by decide +kernel)
   .omega
noncomputable abbrev Ta:=List (List Int×List Str)
structure G where
 w:Int
 h:Int
 n:Int
 t:Int
 C:List Ch
 ln:List Int
 ld:List Int
 gr:List (Key×D)
 ta:Ta
 lk:List (List Int)
 ht:Bool
 gw:List (List Int)
 en:List D
 an:Int
 br:Int
noncomputable def tD(l:List Int):D:=.tup (l.map D.int)
noncomputable def kL(l:List Int):List Key:=l.map Sum.inl
def nQ(n t:Int)(ta:Ta):List (List Key×D):=ta.map λp=>(kL p.1,tob n t p.2)
def gF(g:G):List (Str×D):=[("numbers",.tup [.int g.w,.int g.h,.int g.n,.int g.t]),("known",obj g.C),("on_line",iL g.ln),("laid_ones",iL g.ld),("grounds",.bK g.gr),("tallies",.cM (nQ g.n g.t g.ta)),("looks",.lst (dD g.lk)),("halted",.bl g.ht),("grown",.lst (dD g.gw)),("ended",.lst g.en),("answers",.int g.an),("breaks",.int g.br)]
def gD(g:G):D:=.ins "Gate" (gF g)
section
variable{g:G}{C:List Ch}{ρ:aA}{t t2:Tag}{fo fa:EF}{f mm:Str}{d x:D}
theorem Gq(h:fo ρ=some (obj C,t))(ha:fa ρ=some (x,t2))(hF:F [obj C,x]=some d)(hm:(mm==("entries":Str))=false:=by decide):cK "Changes" mm F fo (ay fa aJ) ρ=some (d,.own):=
 nW (ps:=[(x,t2)]) h (Am hm) (by rw[aW,ha,wZ,BQ]) hF
theorem fl(h:fo ρ=some (gD g,t))(e:(gF g).lookup f=some d:=by rfl):bJ "Gate" f fo ρ=some (d,k_ t):=by
 unfold bJ;rw[h];show(if("Gate":Str)="Gate" then((gF g).lookup f).map _ else none)=_;rw[if_pos rfl,e];rfl
theorem gA(h:fo ρ=some (gD g,t))(hF:F [gD g]=some d)(hm:(gF g).lookup mm=none:=by rfl):cK "Gate" mm F fo aJ ρ=some (d,.own):=nW h hm rfl hF
theorem qj(h:fo ρ=some (gD g,t))(ha:fa ρ=some (x,t2))(hF:F [gD g,x]=some d)(hm:(gF g).lookup mm=none:=by rfl):cK "Gate" mm F fo (ay fa aJ) ρ=some (d,.own):=
 nW (ps:=[(x,t2)]) h hm (by rw[aW,ha,wZ,BQ]) hF
end
def bS(gr:List (Key×D))(x:Int):Bool:=(aV gr (Sum.inl x:Key)).isSome
abbrev gS(g:G)(x:Int):Bool:=bS g.gr x
def Av(g:G)(x:Int):Bool:=!decide (x∈g.ln)&&(!decide (x∈g.ld)&&!gS g x)
theorem PD(h:f ρ=some (.int x,t))(h2:f2 ρ=some (iL l,t2)):e2 (jM true) f f2 ρ=some (.bl (!decide (x∈l)),.own):=
 aO h h2 (by rw[<- Ez];exact Bt)
theorem XC:ZD [gD g,.int x]=some (.bl (Av g x)):=
 cz rfl (cZ (yj (PD rfl (fl rfl)) (yj (PD rfl (fl rfl)) (aO rfl (fl rfl) rfl))))
def wl(g:G):List Int:=(bZ 1 g.C.length).filter (Av g)
theorem nJ:(bZ a n).length=n:=by unfold bZ;rw[List.length_map,af3]
theorem wD(hR:g.C.length<=100):yg [gD g]=some (iL (wl g)):=by
 have hi:qg (eC (.int 1)) (e2 iU (cK "Changes" "many" Fp (bJ "Gate" "known" (ak 0)) aJ) (eC (.int 1))) [some (gD g,.sh [])]=some ((bZ 1 g.C.length).map D.int,.own):=by
  rw[B_ rfl (aO (nW (fl rfl) rfl rfl (LY g.C)) rfl rfl) (oW (by lia) (by lia)) (oW (by lia) (by lia)),show((g.C.length:Int)+1-1).toNat=g.C.length by lia]
 exact cz rfl (cZ (xS hi (by rw[nJ];lia) (λx=>rfl) (λx mx=>bO (qj rfl rfl XC))))
theorem iR:x∈wl g↔(1<=x/\x<=(g.C.length:Int))/\x∉g.ln/\x∉g.ld/\gS g x=false:=by
 unfold wl;rw[acy,iG];unfold Av;simp only[aaY,Bool.not_eq_true',decide_eq_false_iff_not];exact and_congr_left λ_=>by lia
theorem qP:Row g.C (wl g):=λx m=>(iR.mp m).1
theorem Be:(wl g).Pairwise (· < ·):=(AL 1 _).sublist aeE
theorem Iw:(wl g).Nodup:=Be.imp (λh=>by lia)
theorem BK:(wl g).length<=g.C.length:=by
 have:=aeb (Av g) (bZ 1 g.C.length)
 rwa [nJ] at this
noncomputable def gv{κ α:Type}[DecidableEq κ](es:List (κ×α))(k:κ):Option α:=(es.find? λkv=>decide (kv.1=k)).map (·.2)
noncomputable def gp{κ α:Type}[DecidableEq κ](es:List (κ×α))(k:κ)(d:α):List (κ×α):=if(es.any λkv=>decide (kv.1=k))=true then es.map (λkv=>if kv.1=k then(kv.1,d) else kv) else es++[(k,d)]
theorem Ef[DecidableEq κ]{es:List (κ×α)}:gv (gp es k d) k=some d:=by
 unfold gv gp
 by_cases h:(es.any λkv=>decide (kv.1=k))=true
 .rw[if_pos h]
  induction es with
  |nil=>cases h
  |cons a r ih=>
   rw[aax]
   by_cases z:a.1=k
   .rw[if_pos z,ae3 (by simpa using z)];rfl
   .rw[if_neg z,adU (by simpa using z)];exact ih (by rw[aeZ,abN z,Bool.false_or] at h;exact h)
 .rw[if_neg h,List.find?_append];have:es.find? (λkv=>decide (kv.1=k))=none:=by
   rw[aeP];intro x m e;exact h (adn.mpr ⟨x,m,e⟩)
  rw[this];simp
theorem Mr[DecidableEq κ]{es:List (κ×α)}(h:j≠k):gv (gp es k d) j=gv es j:=by
 unfold gv gp
 congr 1
 split
 .rename_i hh;clear hh
  induction es with
  |nil=>rfl
  |cons a r ih=>
   rw[aax]
   by_cases z:a.1=k
   .rw[if_pos z];have:¬a.1=j:=λe=>h (e.symm.trans z)
    rw[adU (by simpa using this),adU (by simpa using this)];exact ih
   .rw[if_neg z]
    by_cases y:a.1=j
    .rw[ae3 (by simpa using y),ae3 (by simpa using y)]
    .rw[adU (by simpa using y),adU (by simpa using y)];exact ih
 .rw[List.find?_append,adU (by simpa using λe:k=j=>h e.symm)];simp
theorem Wu[DecidableEq κ]{es:List (κ×D)}:(aV (putD es k d) k)=some d:=Ef
theorem Zj[DecidableEq κ]{es:List (κ×D)}(h:j≠k):aV (putD es k d) j=aV es j:=Mr h
theorem m5{gr:List (Key×D)}:bS (putD gr (Sum.inl x) d) y=(decide (y=x)||bS gr y):=by
 unfold bS
 by_cases h:y=x
 .rw[h,Wu,aaN rfl];rfl
 .rw[Zj (λe=>by injection e with e;exact h e),abN h];rfl
theorem sJ:aN ds=true↔∀d∈ds,aC d=true:=by
 induction ds with
 |nil=>exact⟨λ_ d m=>(nomatch m),λ_=>rfl⟩
 |cons a r ih=>
  unfold aN;rw[aaY,ih];exact⟨λh d m=>(aa3.mp m).elim (λe=>e ▸ h.1) (h.2 d),λh=>⟨h a aar,λd m=>h d (aaa _ m)⟩⟩
theorem abV[DecidableEq κ]{es:List (κ×D)}(h:aN (es.map (·.2))=true)(hd:aC d=true):aN ((putD es k d).map (·.2))=true:=by
 rw[sJ] at h ⊢;intro y m;obtain⟨kv,mk,rfl⟩:=abG.mp m;unfold putD at mk
 split at mk
 .obtain⟨x,mx,rfl⟩:=abG.mp mk
  split
  .exact hd
  .exact h _ (abG.mpr ⟨x,mx,rfl⟩)
 .rcases abD.mp mk with mk|mk
  .exact h _ (abG.mpr ⟨kv,mk,rfl⟩)
  .cases aa1.mp mk;exact hd
theorem GJ[DecidableEq κ]{es:List (κ×α)}:(gp es k d).map (·.1)=if k∈es.map (·.1) then es.map (·.1) else es.map (·.1)++[k]:=by
 unfold gp
 by_cases h:(es.any λkv=>decide (kv.1=k))=true
 .rw[if_pos h,if_pos (by obtain⟨x,m,e⟩:=adn.mp h;exact abG.mpr ⟨x,m,aaP e⟩),acT];refine ae5 λa _=>?_
  show(if a.1=k then(a.1,d) else a).1=a.1
  split<;>rfl
 .rw[if_neg h,if_neg (λm=>by obtain⟨x,m,e⟩:=abG.mp m;exact h (adn.mpr ⟨x,m,aaN e⟩)),acZ];rfl
theorem Ay[DecidableEq κ]{es:List (κ×α)}(h:(es.map (·.1)).Nodup):((gp es k d).map (·.1)).Nodup:=by
 rw[GJ]
 split
 .exact h
 .rename_i hk;exact acB.mpr ⟨h,by simp,λa ma b mb e=>by cases aa1.mp mb;exact hk (e ▸ ma)⟩
structure Gr(n:Nat)(gr:List (Key×D)):Prop where
 im:aN (gr.map (·.2))=true
 nd:(gr.map (·.1)).Nodup
 ks:∀k∈gr.map (·.1),∃x:Int,k=Sum.inl x/\x∈bZ 1 n
 tp:∀p∈gr,(lu p.2).isSome=true
theorem zc[DecidableEq κ]{es:List (κ×α)}(m:q∈gp es k d):q∈es\/q=(k,d):=by
 unfold gp at m
 split at m
 .obtain⟨p,mp,rfl⟩:=abG.mp m
  split
  .rename_i e;exact .inr (by rw[e])
  .exact .inl mp
 .exact(abD.mp m).imp id aa1.mp
theorem Gr.put{gr:List (Key×D)}(h:Gr n gr)(hx:x∈bZ 1 n)(hd:aC d=true)(ht:(lu d).isSome=true:=by rfl):Gr n (putD gr (Sum.inl x) d):=⟨abV h.im hd,Ay h.nd,λk m=>by
 have m:k∈(gp gr (Sum.inl x) d).map (·.1):=m;rw[GJ] at m
 split at m
 .exact h.ks k m
 .rcases abD.mp m with m|m
  .exact h.ks k m
  .exact⟨x,aa1.mp m,hx⟩,λp m=>(zc m).elim (h.tp p) λe=>by rw[e];exact ht⟩
theorem Bs{gr:List (Key×D)}(h:bS gr x=false):putD gr (Sum.inl x) d=gr++[(Sum.inl x,d)]:=by
 unfold putD;rw[if_neg];intro q;obtain⟨kv,m,e⟩:=adn.mp q;unfold bS aV at h;rw[afh] at h;have:=(List.find?_isSome (p:=λkv:Key×D=>decide (kv.1=Sum.inl x))).mpr ⟨kv,m,e⟩;rw[h] at this;cases this
def cnt(gr:List (Key×D)):Nat:=(qd "look" gr).length
theorem PR{a b:List (Key×D)}:cnt (a++b)=cnt a+cnt b:=by
 unfold cnt qd;rw[List.filter_append,acZ,abb]
theorem Bg{a b:List (Key×D)}(h:a <+: b):cnt a<=cnt b:=by
 obtain⟨r,rfl⟩:=h;rw[PR];lia
theorem Qo{a:List (Key×D)}:cnt a<=a.length:=by
 unfold cnt qd;rw[List.length_map];exact aeb _ _
noncomputable def gR:List (Key×D)->List Int
 |[]=>[]
 |(.inl x,_)::r=>x::gR r
 |_::r=>gR r
theorem sQ:∀{gr:List (Key×D)},(∀k∈gr.map (·.1),∃x:Int,k=Sum.inl x/\x∈bZ 1 n)->gr.map (·.1)=(gR gr).map Sum.inl/\iZ gr=some (gR gr)
 |[],_=>⟨rfl,rfl⟩
 |(k,d)::r,h=>by
  obtain⟨x,e,_⟩:=h k aar;obtain⟨a,b⟩:=sQ λk m=>h k (aaa _ m)
  have e:=e;subst e;refine⟨by rw[aax,a];rfl,?_⟩;show(iZ r).map _=_;rw[b];rfl
theorem ZM{l:List Int}:(l.map (Sum.inl:Int->Key)).Nodup↔l.Nodup:=by
 unfold List.Nodup;rw[aeX];exact⟨λh=>h.imp λq e=>q (by rw[e]),λh=>h.imp λq e=>q (af1 e)⟩
theorem Gr.nK{gr:List (Key×D)}(h:Gr n gr):(gR gr).Nodup:=ZM.mp ((sQ h.ks).1 ▸ h.nd)
theorem Gr.mem{gr:List (Key×D)}(h:Gr n gr):x∈gR gr↔bS gr x=true:=by
 have e:=(sQ h.ks).1;unfold bS aV;rw[afh,List.find?_isSome];constructor
 .intro m;have:(Sum.inl x:Key)∈gr.map (·.1):=e ▸ abG.mpr ⟨x,m,rfl⟩;obtain⟨kv,mk,q⟩:=abG.mp this;exact⟨kv,mk,aaN q⟩
 .rintro⟨kv,mk,q⟩
  have:(Sum.inl x:Key)∈gr.map (·.1):=abG.mpr ⟨kv,mk,aaP q⟩;rw[e] at this;obtain⟨y,my,q⟩:=abG.mp this;exact af1 q ▸ my
theorem Gr.bd{gr:List (Key×D)}(h:Gr n gr)(m:bS gr x=true):x∈bZ 1 n:=by
 have:(Sum.inl x:Key)∈gr.map (·.1):=(sQ h.ks).1 ▸ abG.mpr ⟨x,h.mem.mpr m,rfl⟩;obtain⟨y,e,q⟩:=h.ks _ this;exact af1 e ▸ q
theorem Gr.len{gr:List (Key×D)}(h:Gr n gr):gr.length<=n:=by
 have:=sub_len h.nK λx m=>h.bd (h.mem.mp m)
 rw[nJ] at this;have e:=congrArg List.length (sQ h.ks).1;rw[List.length_map,List.length_map] at e
 lia
abbrev qA(ta:Ta)(l:List Int):Option (List Str):=gv ta l
def wd(g:G)(l:List Int):Str:=match qA g.ta l with
 |none=>"more"
 |some h=>word g.n g.t h
theorem vD:∀l:List Int,iA (l.map D.int)=some (kL l)
 |[]=>rfl
 |x::l=>by
  rw[aax];unfold iA;rw[vD l];rfl
theorem mX:∀{a b:List Int},kL a=kL b->a=b
 |[],[],_=>rfl
 |[],_::_,e=>by cases e
 |_::_,[],e=>by cases e
 |x::a,y::b,e=>by
  injection e with e1 e2;cases e1;rw[mX e2]
section
variable{κ Cy α:Type}[DecidableEq κ][DecidableEq Cy]{φ:κ->Cy}{ψ:α->D}{k:κ}
theorem xA(yL:∀a b,φ a=φ b->a=b):∀es:List (κ×α),aV (es.map λp=>(φ p.1,ψ p.2)) (φ k)=(gv es k).map ψ
 |[]=>rfl
 |p::r=>by
  have ih:=xA yL r;unfold aV gv at ih ⊢;rw[aax,ac9,ac9,show decide ((φ p.1,ψ p.2).1=φ k)=decide (p.1=k) from afC.mpr ⟨yL _ _,λe=>by rw[<- e]⟩];cases decide (p.1=k) with
  |true=>rfl
  |false=>exact ih
theorem BJ(yL:∀a b,φ a=φ b->a=b){es:List (κ×α)}:putD (es.map λp=>(φ p.1,ψ p.2)) (φ k) (ψ d)=(gp es k d).map λp=>(φ p.1,ψ p.2):=by
 unfold putD gp;rw[afv,show es.any ((λkv:Cy×D=>decide (kv.1=φ k)) ∘ λp=>(φ p.1,ψ p.2))=es.any λp=>decide (p.1=k) from congrArg es.any (funext λp=>afC.mpr ⟨yL _ _,λe=>by rw[<- e]⟩)]
 split
 .rw[acT,acT];refine ae5 λp _=>?_
  simp only[Function.comp]
  by_cases z:p.1=k
  .rw[if_pos (by rw[z]),if_pos z]
  .rw[if_neg λq=>z (yL _ _ q),if_neg z]
 .rw[acZ];rfl
end
theorem Q4(ta:Ta):aV (nQ n t ta) (kL l)=(qA ta l).map (tob n t):=xA (λ_ _=>mX) ta
theorem IA:B5 [gD g,tD l]=some (.str (wd g l)):=by
 have v:=Q4 (n:=g.n) (t:=g.t) (l:=l) g.ta;have uq:tV (e2 (Fb false) (ak 1) (bJ "Gate" "tallies" (ak 0))) [some (gD g,.sh []),some (tD l,.sh [])]=some (aV (nQ g.n g.t g.ta) (kL l)).isSome:=bO (aO rfl (fl rfl) (by
  show(iA (l.map D.int)).map _=_;rw[vD];rfl))
 refine cz rfl (cZ ?_);unfold wd;rw[v] at uq;cases e:qA g.ta l with
 |none=>rw[e] at uq;exact G8 uq
 |some h=>
  rw[e] at uq v;refine(Fz uq).trans (nW (t:=.sh []) ?_ rfl rfl Q9);unfold yN;rw[fl rfl,show ak 1 [some (gD g,.sh []),some (tD l,.sh [])]=some (tD l,.sh []) from rfl];show(iA (l.map D.int)).bind _=_;rw[vD,acR,v];rfl
noncomputable def cY(g:G)(p:Nat):List Int:=g.ln++g.ld.take p
theorem f_look{p:Nat}(hp:p<=g.ld.length)(hl:g.ln.length+g.ld.length<=1000):yO [gD g,.int p]=some (tD (cY g p)):=by
 have hc:uU (bJ "Gate" "laid_ones" (ak 0)) (ak 1) [some (gD g,.sh []),some (.int p,.sh [])]=some (iL (g.ld.take p),.own):=by
  unfold uU;rw[fl rfl,show ak 1 [some (gD g,.sh []),some (.int p,.sh [])]=some (.int p,.sh []) from rfl];show(if aN (g.ld.map D.int)=true then some (D.lst (cutD (g.ld.map D.int) none (some (p:Int))),Tag.own) else none)=_;rw[if_pos (fT _),QV (by rw[List.length_map];exact hp),<- List.map_take];rfl
 have h1:=afz (i:=p) (l:=g.ld);exact cz rfl (cZ (bC (aO (fl rfl) hc (uO (by rw[aeI];lia))) De))
noncomputable def bw(s:Str):Bool:=(["no","unsure"]:List Str).any (· == s)
def gk(g:G)(p:Nat):Bool:=bw (wd g (cY g p))
def b_(g:G):Option Nat:=((List.range g.ld.length).map (· + 1)).find? (gk g)
noncomputable def bD:Option Nat->D
 |none=>.aD
 |some p=>.int p
theorem N6(hl:g.ln.length+g.ld.length<=1000):∀{ps:List Nat}{s1:Slot},(∀p∈ps,p<=g.ld.length)->∃qB,
  dw (gN 1) (.sh []) (fP (tV (e2 (vo false) (cK "Gate" "word_of" B5 (ak 0) (ay (cK "Gate" "look_of" yO (ak 0) (ay (ak 1) aJ)) aJ)) (eC (.tup ((["no","unsure"]:List Str).map D.str))))) (pF 1) g9) (ps.map λp:Nat=>D.int p) [some (gD g,.sh []),s1]=some (match ps.find? (gk g) with|none=>.nx [some (gD g,.sh []),qB]|some p=>.rt (.int p))
 |[],s1,_=>⟨s1,rfl⟩
 |p::ps,s1,h=>by
  obtain⟨a,e⟩:=N6 hl (λq m=>h q (aaa _ m));have ht:tV (e2 (vo false) (cK "Gate" "word_of" B5 (ak 0) (ay (cK "Gate" "look_of" yO (ak 0) (ay (ak 1) aJ)) aJ)) (eC (.tup ((["no","unsure"]:List Str).map D.str)))) [some (gD g,.sh []),some (.int p,.sh [])]=some (gk g p):=
   bO (aO (qj rfl (qj rfl rfl (f_look (h p aar) hl)) IA) rfl rfl)
  refine⟨a,?_⟩;rw[ac9];cases eb:gk g p with
  |true=>
   rw[eb] at ht;exact AB (aS:=[some (gD g,.sh []),some (.int p,.sh [])]) rfl (by rw[je,ht];rfl)
  |false=>
   rw[eb] at ht;exact(lB (aS:=[some (gD g,.sh []),some (.int p,.sh [])]) rfl (by rw[je,ht];rfl)).trans e
theorem Sf(n:Nat):(bZ 1 n).map D.int=((List.range n).map (· + 1)).map λp:Nat=>D.int p:=by
 unfold bZ;rw[acT,acT];refine ae5 λi _=>?_
 show D.int (1+(i:Int))=D.int ((i+1:Nat):Int);rw[show(1+(i:Int))=((i+1:Nat):Int) by lia]
theorem vE:p∈(List.range n).map (· + 1)↔1<=p/\p<=n:=by
 rw[abG];exact⟨λ⟨i,m,e⟩=>by have:=af4.mp m;lia,λh=>⟨p-1,af4.mpr (by lia),by lia⟩⟩
theorem HB{g:G}(hl:g.ln.length+g.ld.length<=900):B6 [gD g]=some (bD (b_ g)):=by
 obtain⟨a,e⟩:=N6 (by lia) (ps:=(List.range g.ld.length).map (· + 1)) (λp m=>(vE.mp m).2);have hi:qg (eC (.int 1)) (e2 iU (e1 fN (bJ "Gate" "laid_ones" (ak 0))) (eC (.int 1))) [some (gD g,.sh []),none]=some (((List.range g.ld.length).map (· + 1)).map λp:Nat=>D.int p,.own):=by
  rw[B_ rfl (aO (bC (fl rfl) (by show some (D.int (g.ld.map D.int).length)=_;rw[List.length_map])) rfl rfl) (oW (by lia) (by lia)) (oW (by lia) (by lia)),show((g.ld.length:Int)+1-1).toNat=g.ld.length by lia,Sf]
 refine cz rfl ?_;unfold b_;cases eb:((List.range g.ld.length).map (· + 1)).find? (gk g) with
 |none=>rw[eb] at e;exact sq (sF hi e) rfl
 |some p=>rw[eb] at e;exact f_ (zh hi e)
theorem mK(h:b_ g=some p):1<=p/\p<=g.ld.length/\gk g p=true/\∀q,1<=q->q<p->gk g q=false:=by
 obtain⟨h1,as,bs,e,h2⟩:=List.find?_eq_some_iff_append.mp h;have hp:=vE.mp (show p∈(List.range g.ld.length).map (· + 1) from e ▸ aaM _ aar);refine⟨hp.1,hp.2,h1,λq q1 q2=>?_⟩;have so:((List.range g.ld.length).map (· + 1)).Pairwise (· < ·):=aeX.mpr (List.pairwise_lt_range.imp λh=>by lia);have mq:q∈(List.range g.ld.length).map (· + 1):=vE.mpr (by lia);rw[e] at so mq;rcases abD.mp mq with m|m
 .simpa using h2 q m
 .rcases aa3.mp m with m|m
  .lia
  .have:=(adp.mp (List.pairwise_append.mp so).2.1).1 q m;lia
theorem EV:b_ g=none↔∀p,1<=p->p<=g.ld.length->gk g p=false:=by
 unfold b_;rw[aeP];exact⟨λh p h1 h2=>by simpa using h p (vE.mpr ⟨h1,h2⟩),λh p m=>by simpa using h p (vE.mp m).1 (vE.mp m).2⟩
theorem Ex:∀a b:List Int,PyData.eqvAll (a.map PyData.int) (b.map PyData.int)=decide (a=b)
 |[],[]=>rfl
 |[],_::_=>rfl
 |_::_,[]=>rfl
 |x::a,y::b=>by
  simp only[aax,PyData.eqvAll,PyData.eqv,Ex a b]
  by_cases h:x=y<;>by_cases k:a=b<;>simp[h,k]
theorem Oz(l:List Int):py (tD l)=.tuple (l.map PyData.int):=by unfold tD;unfold py;rw[yc]
theorem Te(l:List Int):dX (tD l)=true:=by
 unfold dX;have c1:f6 (tD l)=true:=by unfold tD;unfold f6;exact vP _
 rw[c1,Oz];have c2:(PyData.tuple (l.map PyData.int)).canLay0=true:=by simp only[PyData.canLay0];exact Ai l
 have c3:(PyData.tuple (l.map PyData.int)).depth<=40:=by simp only[PyData.depth,depthAll_ints];lia
 rw[c2,aaN c3];rfl
theorem any_rows(l:List Int)(L:List (List Int)):((fB (dD L)).any λy=>PyData.eqv y (py (tD l)))=decide (l∈L):=by
 rw[GZ,Oz,afv];have:((λy=>PyData.eqv y (PyData.tuple (l.map PyData.int))) ∘ gx)=λr=>decide (r=l):=funext λr=>by
  simp only[Function.comp,gx,PyData.eqv,Ex]
 rw[this]
 by_cases h:l∈L
 .rw[aaN h];exact adn.mpr ⟨l,h,by simp⟩
 .rw[abN h,ae7];intro e;obtain⟨y,my,ey⟩:=adn.mp e;exact h ((aaP ey) ▸ my)
theorem JZ(neg:Bool)(l:List Int)(L:List (List Int)):BF neg (tD l) (.lst (dD L))=some (.bl (if neg=true then !decide (l∈L) else decide (l∈L))):=by
 show(if(dX (tD l)&&dX (.lst (dD L)))=true then some (D.bl (if neg=true then !(fB (dD L)).any λy=>PyData.eqv y (py (tD l)) else(fB (dD L)).any λy=>PyData.eqv y (py (tD l)))) else none)=_;rw[Te,U1,any_rows];rfl
def kp(g:G)(l:List Int):Bool:=decide (l∈g.lk)&&(wd g l == "more")
theorem adj:YG [gD g,tD l]=some (.bl (kp g l)):=
 cz rfl (cZ (yj (aO rfl (fl rfl) (JZ false l g.lk)) (aO (qj rfl rfl IA) rfl rfl)))
def iV(g:G):List Int:=(bZ 1 g.ld.length).filter λx=>kp g (cY g x.toNat)
def lG(g:G):Option Int:=(b_ g).map λp:Nat=>(p:Int)
def nh(g:G):List Int:=W g.ld.length (lG g) (iV g) g.h
def ly(g:G):List (List Int):=(nh g).map λp=>cY g p.toNat
theorem ade(o:Option Nat):bD o=jF (o.map λp:Nat=>(p:Int)):=by cases o<;>rfl
theorem qk:(iV g).Pairwise (· < ·)/\(∀x∈iV g,1<=x/\x<=g.ld.length)/\(iV g).length<=g.ld.length:=by
 refine⟨(AL 1 _).sublist aeE,λx m=>by have:=iG.mp (acy.mp m).1;lia,?_⟩;have:=aeb (λx=>kp g (cY g x.toNat)) (bZ 1 g.ld.length)
 rwa [nJ] at this
def eo(g:G):Int:=endOf g.ld.length (lG g)
theorem N7:l6 (eo g) (nh g)/\(∀p∈iV g,p<eo g->p∈nh g):=
 aaT qk.1 (λx m=>(qk.2.1 x m).1)
theorem EJ:1<=eo g/\eo g<=g.ld.length+1:=by
 unfold eo lG;cases e:b_ g with
 |none=>show 1<=(g.ld.length:Int)+1/\(g.ld.length:Int)+1<=_;lia
 |some p=>have:=mK e;show 1<=(p:Int)/\(p:Int)<=_;lia
theorem Xk(hl:g.ln.length+g.ld.length<=900)(h6:g.ld.length<64)(hh:g.h<=60):VU [gD g]=some (.lst (dD (ly g))):=by
 have hi:qg (eC (.int 1)) (e2 iU (ak 1) (eC (.int 1))) [some (gD g,.sh []),some (.int g.ld.length,.own),none]=some ((bZ 1 g.ld.length).map D.int,.own):=by
  rw[B_ rfl rfl (oW (by lia) (by lia)) (oW (by lia) (by lia)),show((g.ld.length:Int)+1-1).toNat=g.ld.length by lia]
 have look:∀{x:Int},1<=x->x<=g.ld.length->cK "Gate" "look_of" yO (ak 1) (ay (ak 0) aJ) [some (.int x,.sh []),some (gD g,.sh [])]=some (tD (cY g x.toNat),.own):=λ{x} h1 h2=>
  qj rfl rfl (by
   have:=f_look (g:=g) (p:=x.toNat) (by lia) (by lia)
   rwa [show((x.toNat:Nat):Int)=x by lia] at this)
 refine cz rfl (jP (bC (fl rfl) (by show some (D.int (g.ld.map D.int).length)=_;rw[List.length_map])) (jP (xS hi (by rw[nJ];lia) (λx=>rfl) (λx mx=>by
  have hx:=iG.mp mx;exact bO (qj rfl (look (by lia) (by lia)) adj))) (cZ ?_)))
 have hw:cP IP (ay (ak 1) (ay (cK "Gate" "bad" B6 (ak 0) aJ) (ay (ak 2) (ay (e2 eK (bJ "Gate" "numbers" (ak 0)) (eC (.int 1))) aJ)))) [some (gD g,.sh []),some (.int g.ld.length,.own),some (iL (iV g),.own)]=some (iL (nh g),.own):=
  c9 (by
   rw[aW,aW,gA rfl (HB hl)];rfl) (by
   have:=Wr (size:=g.ld.length) (bad:=lG g) (ks:=iV g) hh (by have:=qk (g:=g).2.2;lia);simp only[aax,af5];rw[ade];exact this)
 have hc:=jH (js:=[none,some 0]) (g:=gN 0) (tt:=rO) (k:=λd=>match d with | .int p=>some (tD (cY g p.toNat)) | _=>none) (gQ hw) (by rw[List.length_map];exact size_le (by have:=abL (size:=g.ld.length) (bad:=lG g) (ks:=iV g) hh (by have:=qk (g:=g).2.2;lia);show(W _ _ _ _).length<=_;lia)) (λd m=>by
  obtain⟨x,mx,rfl⟩:=abG.mp m;have:=(N7).1.bd x mx;have:=EJ (g:=g);exact qe rfl rfl (look (by lia) (by lia)))
 rw[aes] at hc;have e:(nh g).filterMap ((λd=>match d with|.int p=>some (tD (cY g p.toNat))|_=>none) ∘ D.int)=dD (ly g):=by
  unfold ly dD;rw[acT];exact o8 (λp:Int=>tD (cY g p.toNat)) _
 rw[e] at hc;exact hc
section
variable{g g':G}{ρ:aA}{d r:D}{t:Tag}{f m:Str}{fv:EF}{F:MF}
theorem oB(h:fv ρ=some (d,t))(h0:ρ[0]? = some (some (gD g,.own)))(ho:(jR t||aC d)=true)(e:dZ f d (gF g)=gF g'):jk (wo 0 "Gate" f fv) ρ=some (.nx (bP ρ 0 (gD g'))):=by
 refine fQ ?_;unfold wo;rw[h,h0];show(if("Gate":Str)="Gate"/\(gF g).length<1000/\(jR t||aC d)=true then some (Out.nx (bP ρ 0 (.ins "Gate" (dZ f d (gF g))))) else none)=_;rw[if_pos ⟨rfl,by show 12<1000;decide,ho⟩,e];rfl
theorem xo(h0:ρ[0]? = some (some (gD g,.own)))(h:F (gD g) []=some (r,gD g'))(hm:(gF g).lookup m=none:=by rfl):xO 0 "Gate" m F aJ ρ=some (r,bP ρ 0 (gD g')):=by
 unfold xO;rw[h0];show(if("Gate":Str)="Gate"/\(gF g).lookup m=none/\apart 0 []=true then(F (gD g) []).map _ else none)=_;rw[if_pos ⟨rfl,hm,rfl⟩,h];rfl
theorem zG(h:fv ρ=some (d,t))(hk:fk ρ=some (.int x,t2))(h0:ρ[0]? = some (some (gD g,.own)))(hi:aC d=true)(hG:aN (g.gr.map (·.2))=true)(hl:g.gr.length<=100):uC 0 "Gate" "grounds" fk fv ρ=some (.nx (bP ρ 0 (gD { g with gr:=putD g.gr (Sum.inl x) d }))):=by
 unfold uC;rw[h,h0,hk];show(if("Gate":Str)="Gate" then(if(aC d&&aN (g.gr.map (·.2))&&decide (g.gr.length<sizeLine))=true then some (Out.nx (bP ρ 0 (.ins "Gate" (dZ "grounds" (.bK (putD g.gr (Sum.inl x) d)) (gF g))))) else none) else none)=_;rw[if_pos rfl,hi,hG,aaN (size_le (by lia)),if_pos (show(true&&true&&true)=true from rfl)];rfl
end
theorem GU(h:f ρ=some (d,t)):jk (dQ i f) ρ=some (.nx (iw ρ i d t)):=fQ (by unfold dQ;rw[h])
theorem gH(h:tf ρ=some true)(h2:sf ρ=r):fP tf sf sg ρ=r:=by rw[je,h];exact h2
theorem iO(h:tf ρ=some false)(h2:sg ρ=r):fP tf sf sg ρ=r:=by rw[je,h];exact h2
theorem NT:dM ((x::r).map D.int) 0=some (.int x):=by
 unfold dM gJ;rw[if_pos (by omega),if_pos (by rw[List.length_map,abP];omega)];rfl
def gone(C:List Ch)(gr:List (Key×D))(x:Int):List Int:=(lean (sec C) x).filter (bS gr)
def dR(C:List Ch)(gr:List (Key×D))(x:Int):List (Key×D):=match gone C gr x with
 |[]=>gr
 |y::_=>putD gr (Sum.inl x) (.tup [.str "leans",.int y])
theorem CD{g:G}(gc:GoodC g.C):∀{l:List Int}{gr:List (Key×D)}{s1 s2:Slot},Row g.C l->Gr g.C.length gr->∃qB Fq,dw (gN 1) (.sh []) (cC (dQ 2 (iK [none,some 0] (gZ (cK "Changes" "leans_of" CQ (bJ "Gate" "known" (ak 0)) (ay (ak 1) aJ))) (gN 0) (tV (e2 (qq false) (ak 0) (bJ "Gate" "grounds" (ak 1)))) (ak 0))) (fP (sR (ak 2)) (uC 0 "Gate" "grounds" (ak 1) (kR (ay (eC (.str "leans")) (ay (e2 eK (ak 2) (eC (.int 0))) aJ)))) g9)) (l.map D.int) [some (gD { g with gr:=gr },.own),s1,s2]=some (.nx [some (gD { g with gr:=l.foldl (dR g.C) gr },.own),qB,Fq])
 |[],gr,s1,s2,_,_=>⟨s1,s2,rfl⟩
 |x::l,gr,s1,s2,h,k=>by
  have hx:=h x aar;have hc:iK [none,some 0] (gZ (cK "Changes" "leans_of" CQ (bJ "Gate" "known" (ak 0)) (ay (ak 1) aJ))) (gN 0) (tV (e2 (qq false) (ak 0) (bJ "Gate" "grounds" (ak 1)))) (ak 0) [some (gD { g with gr:=gr },.own),some (.int x,.sh []),s2]=some (iL (gone g.C gr x),.own):=
   xS (gQ (Gq (fl rfl) rfl (Pn hx.1 hx.2))) (by have:=gc.few x;lia) (λy=>rfl) (λy _=>bO (aO rfl (fl rfl) rfl))
  cases e:gone g.C gr x with
  |nil=>
   obtain⟨a,b,ih⟩:=CD gc (λy m=>h y (aaa _ m)) k;refine⟨a,b,(lB rfl (jP (e ▸ hc) rfl)).trans (ih.trans ?_)⟩;rw[aeh,show dR g.C gr x=gr by unfold dR;rw[e]]
  |cons y r=>
   have k':Gr g.C.length (dR g.C gr x):=by unfold dR;rw[e];exact k.put (iG.mpr (by lia)) rfl
   obtain⟨a,b,ih⟩:=CD gc (λy m=>h y (aaa _ m)) k';refine⟨a,b,(lB rfl (jP (e ▸ hc) (gH rfl ((zG (d:=.tup [.str "leans",.int y]) (t:=.own) ?_ rfl rfl rfl k.im (by have:=k.len;have:=gc.ln;show gr.length<=100;lia)).trans ?_)))).trans ih⟩
   .rw[ou,aW,aW,aO rfl rfl (uI NT rfl)];rfl
   .unfold dR;rw[e];rfl
def gW(g:G):G:={ g with gr:=(wl g).foldl (dR g.C) g.gr }
theorem Sz(gc:GoodC g.C)(k:Gr g.C.length g.gr):zE (gD g) []=some (.aD,gD (gW g)):=by
 obtain⟨a,b,e⟩:=CD gc qP k;exact qG rfl (fQ (sF (gQ (gA rfl (wD (by have:=gc.ln;lia)))) e)) rfl
theorem Ax:∀{l:List Int}{gr:List (Key×D)},Gr n gr->(∀x∈l,x∈bZ 1 n)->Gr n (l.foldl (dR C) gr)/\(∀x,bS gr x=true->bS (l.foldl (dR C) gr) x=true)/\(∀x,bS (l.foldl (dR C) gr) x=true->bS gr x=true\/x∈l)
 |[],gr,k,_=>⟨k,λ_ h=>h,λ_ h=>.inl h⟩
 |x::l,gr,k,h=>by
  have k1:Gr n (dR C gr x)/\(∀y,bS gr y=true->bS (dR C gr x) y=true)/\∀y,bS (dR C gr x) y=true->bS gr y=true\/y=x:=by
   unfold dR
   split
   .exact⟨k,λ_ h=>h,λ_ h=>.inl h⟩
   .refine⟨k.put (h x aar) rfl,λy q=>by rw[m5,q,Bool.or_true],λy q=>?_⟩;rw[m5,Bool.or_eq_true,afH] at q;exact q.symm
  obtain⟨a,b,c⟩:=Ax k1.1 λy m=>h y (aaa _ m)
  refine⟨a,λy q=>b y (k1.2.1 y q),λy q=>?_⟩;rcases c y q with q|q
  .exact(k1.2.2 y q).imp id λe=>by rw[e];exact aar
  .exact .inr (aaa _ q)
theorem O1:∀{l:List Int}{gr:List (Key×D)},l.Nodup->(∀x∈l,bS gr x=false)->gr <+: l.foldl (dR C) gr
 |[],gr,_,_=>afc _
 |x::l,gr,nd,h=>by
  obtain⟨n1,n2⟩:=abv.mp nd;have h1:gr <+: dR C gr x/\∀y∈l,bS (dR C gr x) y=false:=by
   unfold dR
   split
   .exact⟨afc _,λy m=>h y (aaa _ m)⟩
   .refine⟨by rw[Bs (h x aar)];exact af0 _ _,λy m=>?_⟩;rw[m5,h y (aaa _ m),abN (show ¬y=x from λe=>n1 (e ▸ m))];rfl
  exact h1.1.trans (O1 n2 h1.2)
theorem Fc(bd:∀m x,1<=m->m<=(C.length:Int)->x∈lean (sec C) m->1<=x/\x<m):∀{l:List Int}{gr:List (Key×D)},l.Pairwise (· < ·)->Row C l->Gr C.length gr->∀x∈l,bS (l.foldl (dR C) gr) x=false->∀y∈lean (sec C) x,bS (l.foldl (dR C) gr) y=false
 |[],gr,_,_,_,x,m,_=>nomatch m
 |z::l,gr,hp,hr,k,x,m,hx=>λy my=>by
  obtain⟨T5,xg⟩:=adp.mp hp;have hz:=hr z aar;have kz:Gr C.length (dR C gr z):=(Ax (l:=[z]) k λx m=>by rw[aa1.mp m];exact iG.mpr (by lia)).1;have rl:∀x∈l,x∈bZ 1 C.length:=λx m=>by have:=hr x (aaa _ m);exact iG.mpr (by lia)
  obtain⟨_,b,c⟩:=Ax kz rl;rcases aa3.mp m with rfl|m
  .cases e:bS ((x::l).foldl (dR C) gr) y with
   |false=>rfl
   |true=>
    have yz:=(bd x y hz.1 hz.2 my).2;have i8:bS (dR C gr x) x=false:=by
     cases q:bS (dR C gr x) x with
     |false=>rfl
     |true=>rw[show bS ((x::l).foldl (dR C) gr) x=true from b x q] at hx;cases hx
    have e0:bS (dR C gr x) y=true:=by
     rcases c y e with q|q
     .exact q
     .have:=T5 y q;lia
    unfold dR at i8 e0
    split at i8
    .rename_i q;rw[q] at e0;have:=afE.mp q y my;exact absurd e0 this
    .rw[m5,aaN rfl] at i8;cases i8
  .exact Fc bd xg (λx m=>hr x (aaa _ m)) kz x m hx y my
theorem lay_ints(l:List Int):dX (iL l)=true:=by
 unfold dX;have c1:f6 (iL l)=true:=by unfold iL;unfold f6;exact vP _
 have c0:py (iL l)=.list (l.map PyData.int):=by unfold iL;unfold py;rw[yc]
 rw[c1,c0];have c2:(PyData.list (l.map PyData.int)).canLay0=true:=by simp only[PyData.canLay0];exact Ai l
 have c3:(PyData.list (l.map PyData.int)).depth<=40:=by simp only[PyData.depth,depthAll_ints];lia
 rw[c2,aaN c3];rfl
theorem Xv(a b:List Int):PyData.eqv (py (iL a)) (py (iL b))=decide (a=b):=by
 have c:∀l,py (iL l)=.list (l.map PyData.int):=λl=>by unfold iL;unfold py;rw[yc]
 rw[c,c];simp only[PyData.eqv,Ex]
theorem neI(a b:List Int):nZ (iL a) (iL b)=some (.bl (!decide (a=b))):=by
 unfold nZ;rw[lay_ints,lay_ints,Xv];rfl
structure Gd(g:G):Prop where
 w1:1<=g.w/\g.w<=16
 h1:1<=g.h/\g.h<=8
 nt:1<=g.n/\g.n<=g.t/\g.t<=20
 gc:GoodC g.C
 row:Row g.C (g.ln++g.ld)
 nd:(g.ln++g.ld).Nodup
 ow:(g.ld.length:Int)<=g.w
 kg:∀x∈g.ln++g.ld,gS g x=false
 gr:Gr g.C.length g.gr
 run:∃v,fW [] (fV g.C (g.ln++g.ld))=some v
theorem Gd.len(k:Gd g):g.ln.length+g.ld.length<=60:=by
 have:=sub_len k.nd λx m=>iG.mpr (show 1<=x/\x<1+(g.C.length:Int) by have:=k.row x m;lia)
 rw[nJ,abb] at this;have:=k.gc.ln
 lia
theorem KQ:∀{a b:List Int}{v:gh},(∃w,fW v (fV C (a++b))=some w)->∃w,fW v (fV C a)=some w
 |[],b,v,_=>⟨v,rfl⟩
 |x::a,b,v,⟨w,h⟩=>by
  have h:(if bad v (dJ C x)=[] then fW (eT v (dJ C x)) (fV C (a++b)) else none)=some w:=h;show ∃w,(if bad v (dJ C x)=[] then fW (eT v (dJ C x)) (fV C a) else none)=some w
  by_cases hb:bad v (dJ C x)=[]
  .rw[if_pos hb] at h ⊢;exact KQ ⟨w,h⟩
  .rw[if_neg hb] at h;cases h
theorem Gd.cut(k:Gd g){ld:List Int}{gr:List (Key×D)}(hp:ld <+: g.ld)(hg:Gr g.C.length gr)(hd:∀x∈g.ln++ld,bS gr x=false):Gd { g with ld:=ld,gr:=gr }:=by
 obtain⟨r,e⟩:=hp;have ea:g.ln++g.ld=(g.ln++ld)++r:=by rw[<- e,aej]
 refine⟨k.w1,k.h1,k.nt,k.gc,λx m=>k.row x (by rw[ea];exact abn _ m),?_,?_,hd,hg,KQ (by rw[<- ea];exact k.run)⟩
 .have:=k.nd;rw[ea] at this;exact(acB.mp this).1
 .have:=k.ow;rw[<- e,abb] at this
  lia
theorem ne1:nZ (bD o) (.int 1)=some (.bl (!decide (o=some 1))):=by
 cases o with
 |none=>kernel_rfl
 |some p=>
  show(if(dX (.int p)&&dX (.int 1))=true then some (D.bl (!PyData.eqv (py (.int p)) (py (.int 1)))) else none)=_;have e:dX (.int (p:Int))=true:=by unfold dX;simp[f6,py,PyData.canLay0,PyData.depth]
  have e1:dX (.int 1)=true:=by unfold dX;simp[f6,py,PyData.canLay0,PyData.depth]
  rw[e,e1];simp only[py,PyData.eqv,afs,if_true]
  by_cases h:p=1
  .subst h;rfl
  .rw[abN (λz=>h (abS z)),show(((p:Int)==1)=false) from adg.mpr (by lia)]
theorem Qe(hl:g.ln.length+g.ld.length<=900):tV (e2 nZ (cK "Gate" "bad" B6 (ak 0) aJ) (eC (.int 1))) (some (gD g,.own)::s)=some (!decide (b_ g=some 1)):=
 bO (aO (gA rfl (HB hl)) rfl ne1)
theorem KJ(hl:g.ln.length+g.ld.length<=900)(h:b_ g≠some 1):OP (gD g) []=some (.bl false,gD g):=by
 have ht:=Qe hl (s:=[none]);rw[abN h] at ht;exact k7 rfl (pP ht (f_ rfl))
def nu(g:G):D:=.tup [.str "look",tD g.ln,tD (cY g 1),.str (wd g (cY g 1))]
theorem LI:aC (nu g)=true:=by
 unfold nu tD;simp only[aC,aN,fT,afs]
def ac2(g:G)(x:Int):G:={ g with ld:=[],gr:=putD g.gr (Sum.inl x) (nu g) }
theorem Jt(k:Gd g)(h:b_ g=some 1)(hx:g.ld=x::r):OP (gD g) []=some (.bl true,gD (ac2 g x)):=by
 have hl:=k.len;have ht:=Qe (g:=g) (by lia) (s:=[none]);rw[aaN h] at ht;have h1:cK "Gate" "look_of" yO (ak 0) (ay (eC (.int 1)) aJ) [some (gD g,.own),none]=some (tD (cY g 1),.own):=qj rfl rfl (f_look (by rw[hx,abP];lia) (by lia));have e1:∃t,kR (ay (eC (.str "look")) (ay (e1 uu (bJ "Gate" "on_line" (ak 0))) (ay (ak 1) (ay (cK "Gate" "word_of" B5 (ak 0) (ay (ak 1) aJ)) aJ)))) [some (gD g,.own),some (tD (cY g 1),.own)]=some (nu g,t):=by
  rw[ou,aW,aW,aW,aW,bC (fl rfl) De,qj rfl rfl IA];exact⟨_,rfl⟩
 obtain⟨t,e1⟩:=e1;exact k7 rfl (dg ht (sq (GU h1) (sq (fQ (zG e1 (aO (fl rfl) rfl (uI (by rw[hx];exact NT) rfl)) rfl LI k.gr.im (by have:=k.gr.len;have:=k.gc.ln;lia))) (sq (oB rfl rfl rfl rfl) rfl))))
theorem LP:Ev.sR (bJ "Gate" "laid_ones" (ak 0)) (some (gD g,.own)::s)=some (!g.ld.isEmpty):=by
 unfold Ev.sR;rw[fl rfl];cases g.ld<;>rfl
theorem ME(h:g.ld≠[]):Df (gD g) []=some (.bl false,gD g):=by
 have ht:=LP (g:=g) (s:=[none,none,none]);rw[show g.ld.isEmpty=false from List.isEmpty_eq_false_iff.mpr h] at ht;exact k7 rfl (pP ht (f_ rfl))
theorem EL(l:List Int):aC (wQ l)=true:=by cases l<;>rfl
def kh(C:List Ch)(u:gh)(gr:List (Key×D))(x:Int):List (Key×D):=putD gr (Sum.inl x) (.tup [.str "unfit",wQ (bad u (dJ C x))])
theorem acP(g:GoodC C)(x:Int):MD [dS (nz v),eL (dJ C x)]=some (wQ (bad (jN (nz v)) (dJ C x))):=
 cz rfl (cZ (c9 (ps:=[(bH (jN (nz v)),.own),(eL (dJ C x),.sh [])]) (by rw[aW,aW,bC rfl Nc];rfl) (GV (g.ed x).ed (by lia) D.lst rfl)))
theorem O8{g:G}(gc:GoodC g.C):∀{l:List Int}{gr:List (Key×D)}{s3:Slot},Row g.C l->Gr g.C.length gr->∃wK,dw (gN 3) (.sh [1]) (uC 0 "Gate" "grounds" (ak 3) (kR (ay (eC (.str "unfit")) (ay (cP MD (ay (ak 2) (ay (cK "Changes" "edits_of" zx (bJ "Gate" "known" (ak 0)) (ay (ak 3) aJ)) aJ))) aJ)))) (l.map D.int) [some (gD { g with gr:=gr },.own),some (iL N,.lk),some (dS (nz v),.own),s3]=some (.nx [some (gD { g with gr:=l.foldl (kh g.C (jN (nz v))) gr },.own),some (iL N,.lk),some (dS (nz v),.own),wK])
 |[],gr,s3,_,_=>⟨s3,rfl⟩
 |x::l,gr,s3,h,k=>by
  have hx:=h x aar;obtain⟨a,ih⟩:=O8 gc (gr:=kh g.C (jN (nz v)) gr x) (λy m=>h y (aaa _ m)) (k.put (iG.mpr (by lia)) (by simp only[aC,aN,EL,afs]));refine⟨a,(lB (aS:=[some (gD { g with gr:=gr },.own),some (iL N,.lk),some (dS (nz v),.own),some (.int x,.sh [1])]) rfl ((zG (g:={ g with gr:=gr }) (t:=.own) ?_ rfl rfl (by simp only[aC,aN,EL,afs]) k.im (by have:=k.len;have:=gc.ln;show gr.length<=100;lia)).trans rfl)).trans ih⟩;rw[ou,aW,aW,c9 (by rw[aW,aW,Gq (fl rfl) rfl (yW hx.1 hx.2)];rfl) (acP gc x)];rfl
def d_(g:G):List Int:=(wl g).filter (n9 g.C g.ln)
theorem aaF(k:Gd g)(h:g.ld=[]):∃u,Df (gD g) []=some (.bl (!decide (d_ g=[])),gD { g with gr:=(d_ g).foldl (kh g.C u) g.gr }):=by
 have hl:=k.len;have gl:=k.gc.ln;have ht:=LP (g:=g) (s:=[none,none,none]);rw[h] at ht;obtain⟨v,hv⟩:=k.run;rw[h,acm] at hv;have hw:=BK (g:=g);have h1:cP yZ (ay (bJ "Gate" "known" (ak 0)) (ay (bJ "Gate" "on_line" (ak 0)) (ay (jq aJ) (ay (cK "Gate" "waiting" yg (ak 0) aJ) aJ)))) [some (gD g,.own),none,none,none]=some (iL (d_ g),.own):=
  c9 (by rw[aW,aW,aW,aW,gA rfl (wD (by lia))];rfl) (by
   have:=Ov k.gc (a:=g.ln) (b:=[]) (by simp;lia) qP (by lia);rw[acm] at this;exact this)
 have h2:cK "Gate" "sheet" UW (ak 0) aJ [some (gD g,.own),some (iL (d_ g),.own),none,none]=some (dS (nz v),.own):=gA rfl (cz rfl (cZ (c9 rfl (C7 k.gc (λx m=>k.row x (abn _ m)) (by lia) hv).1)));obtain⟨s3,lp⟩:=O8 k.gc (λx m=>qP x (acy.mp m).1) k.gr;refine⟨jN (nz v),k7 rfl (dg ht (sq (GU h1) (sq (GU h2) (sq (ρ':=[some (gD { g with gr:=(d_ g).foldl (kh g.C (jN (nz v))) g.gr },.own),some (iL (d_ g),.own),some (dS (nz v),.own),s3]) (fQ ((xZ (gQ rfl) lp).trans rfl)) ?_))))⟩;unfold oX;have:e2 nZ (ak 1) (jq aJ) [some (gD { g with gr:=(d_ g).foldl (kh g.C (jN (nz v))) g.gr },.own),some (iL (d_ g),.own),some (dS (nz v),.own),s3]=some (.bl (!decide (d_ g=[])),.own):=aO (d2:=iL []) rfl rfl (neI _ _);rw[this];rfl
theorem Wh(hl:g.ln.length+g.ld.length<=900):tV (e2 ja (cK "Gate" "bad" B6 (ak 0) aJ) (eC .aD)) (some (gD g,.own)::s)=some (b_ g).isNone:=
 bO (aO (gA rfl (HB hl)) rfl (by cases b_ g<;>rfl))
theorem BE(h:f ρ=some (r,[some (gD g',.own)])):BX f [0] ρ=some (.rt (.tup [r,gD g'])):=by
 unfold BX;rw[h];rfl
theorem P1(h:f ρ=some (.bl false,ρ'))(h2:f2 ρ'=some (.bl b,bx)):vt f f2 ρ=some (.bl b,bx):=by
 unfold vt;rw[h];dsimp only;rw[h2]
theorem Jl(h:f ρ=some (.bl true,ρ')):vt f f2 ρ=some (.bl true,ρ'):=by
 unfold vt;rw[h]
def Lf(g:G):Prop:=∀x∈wl g,∀y∈lean (sec g.C) x,gS g y=false
def Full(g:G):Prop:=g.w<=(g.ld.length:Int)\/∀x∈wl g,∀v,fW [] (fV g.C (g.ln++g.ld))=some v->n9 g.C (g.ln++g.ld) x=true->jv g.C v x=false
structure Fin(g:G):Prop where
 lf:Lf g
 go:g.ht=false->b_ g≠some 1/\(g.ld=[]->wl g=[])/\(b_ g=none->Full g)
theorem acQ(k:Gd g)(lf:Lf g)(hd:g.ld=[])(h:d_ g=[]):wl g=[]:=by
 cases e:wl g with
 |nil=>rfl
 |cons x r=>
  have mx:=e ▸ aar;have hx:=iR.mp mx;have:=afE.mp h x mx;refine absurd (ac4.mpr λy my=>aaN ?_) this;have hy:=k.gc.bd x y hx.1.1 hx.1.2 my;refine ae8 λn=>?_
  have PM:=iR.mpr ⟨⟨hy.1,by omega⟩,n,(by rw[hd];exact adX),lf x mx y my⟩;rw[e] at PM;have:=Be (g:=g);rw[e] at this;rcases aa3.mp PM with q|q
  .omega
  .have:=(adp.mp this).1 y q;omega
theorem OX:∀{l:List Int}{gr:List (Key×D)},Gr n gr->(∀x∈l,x∈bZ 1 n)->Gr n (l.foldl (kh C u) gr)/\∀y,bS (l.foldl (kh C u) gr) y=(decide (y∈l)||bS gr y)
 |[],gr,k,_=>⟨k,λy=>rfl⟩
 |x::l,gr,k,h=>by
  obtain⟨a,b⟩:=OX (gr:=kh C u gr x) (k.put (h x aar) (by simp only[aC,aN,EL,afs])) λy m=>h y (aaa _ m)
  refine⟨a,λy=>?_⟩;rw[aeh,b];unfold kh;rw[m5,<- Bool.or_assoc]
  congr 1
  rw[<- Bool.decide_or];exact afC.mpr (by rw[aa3];exact or_comm)
theorem Lh:∀{l:List Int}{gr:List (Key×D)},l.Nodup->(∀x∈l,bS gr x=false)->gr <+: l.foldl (kh C u) gr
 |[],gr,_,_=>afc _
 |x::l,gr,nd,h=>by
  obtain⟨n1,n2⟩:=abv.mp nd;have h1:gr <+: kh C u gr x/\∀y∈l,bS (kh C u gr x) y=false:=by
   unfold kh;refine⟨by rw[Bs (h x aar)];exact af0 _ _,λy m=>?_⟩;rw[m5,h y (aaa _ m),abN (show ¬y=x from λe=>n1 (e ▸ m))];rfl
  exact h1.1.trans (Lh n2 h1.2)
noncomputable def gY(g:G)(ex:List Int):G:={ g with ld:=g.ld++ex }
structure Up(g:G)(ld:List Int)(gr:List (Key×D)):Prop where
 gd:Gd { g with ld:=ld,gr:=gr }
 mo:∀x,bS g.gr x=true->bS gr x=true
 pf:g.gr <+: gr
abbrev oY(g:G)(gr:List (Key×D)):Prop:=∃x,bS gr x=true/\gS g x=false
theorem JW(k:Gd g)(hx:g.ld=x::r):Up g [] (putD g.gr (Sum.inl x) (nu g))/\oY g (putD g.gr (Sum.inl x) (nu g))/\cnt g.gr+1<=cnt (putD g.gr (Sum.inl x) (nu g)):=by
 have mx:=hx ▸ aar;have rx:=k.row x (aaM _ mx);have nw:putD g.gr (Sum.inl x) (nu g)=g.gr++[(Sum.inl x,nu g)]:=Bs (k.kg x (aaM _ mx));refine⟨⟨k.cut List.nil_prefix (k.gr.put (iG.mpr (by lia)) LI) λy m=>?_,(λy q=>by rw[m5,q,Bool.or_true]),by rw[nw];exact af0 _ _⟩,⟨x,by rw[m5,aaN rfl];rfl,k.kg x (aaM _ mx)⟩,by rw[nw,PR];exact abH _⟩;rw[acm] at m;rw[m5,show bS g.gr y=false from k.kg y (abn _ m),abN λe=>(acB.mp k.nd).2.2 y m x mx e];rfl
theorem YR{g:G}(k:Gd g)(lf:Lf g):∃b ld gr,Al (gD g) []=some (.bl b,gD { g with ld:=ld,gr:=gr })/\Up g ld gr/\(b=true->oY g gr)/\(b=false->gr=g.gr/\(g.ht=false->Fin { g with ld:=ld,gr:=gr })/\(b_ g≠none->ld=g.ld)/\(Full g->ld=g.ld))/\(Fin g->g.ht=false->b=false)/\(∀p,b_ g=some p->p≠1->b=false)/\(b_ g=some 1->cnt g.gr+1<=cnt gr):=by
 have hl:=k.len;have gl:=k.gc.ln;have ht:=Wh (g:=g) (by lia) (s:=[]);cases hb:b_ g with
 |some p=>
  rw[hb] at ht;have hm:=mK hb;have j9:g.ld≠[]:=λe=>by rw[e] at hm;simp at hm;lia
  by_cases hp:p=1
  .subst hp;obtain⟨x,r,ex⟩:=afI j9;obtain⟨u,n,cn⟩:=JW k ex;exact⟨true,[],_,k7 rfl (dg ht (BE (Jl (xo rfl (Jt k hb ex))))),u,(λ_=>n),(λe=>nomatch e),(λf h=>absurd hb (f.go h).1),(λp e np=>absurd (abS e).symm np),λ_=>cn⟩
  .have hn:b_ g≠some 1:=by rw[hb];exact λz=>hp (abS z)
   exact⟨false,g.ld,g.gr,k7 rfl (dg ht (BE (P1 (xo rfl (KJ (by lia) hn)) (xo rfl (ME j9))))),⟨k,λ_ q=>q,afc _⟩,(λe=>nomatch e),(λ_=>⟨rfl,λ_=>⟨lf,λ_=>⟨hn,λe=>absurd e j9,λe=>by rw[show b_ g=none from e] at hb;cases hb⟩⟩,λ_=>rfl,λ_=>rfl⟩),(λ_ _=>rfl),(λ_ _ _=>rfl),λe=>absurd (abS e) hp⟩
 |none=>
  rw[hb] at ht;obtain⟨v,hv⟩:=k.run;have Yb:=BK (g:=g);obtain⟨ex,hf,F⟩:=YS k.gc k.row qP Iw (by lia) (by lia) hv;have hf:cP GS (ay (bJ "Gate" "known" (ak 0)) (ay (bJ "Gate" "on_line" (ak 0)) (ay (bJ "Gate" "laid_ones" (ak 0)) (ay (cK "Gate" "waiting" yg (ak 0) aJ) (ay (e2 eK (bJ "Gate" "numbers" (ak 0)) (eC (.int 0))) aJ))))) [some (gD g,.own)]=some (iL (g.ld++ex),.own):=
   c9 (ps:=[(obj g.C,.sh [0]),(iL g.ln,.sh [0]),(iL g.ld,.sh [0]),(iL (wl g),.own),(.int g.w,.own)]) (by rw[aW,aW,aW,aW,gA rfl (wD (by lia))];rfl) hf
  have VP:Full g->ex=[]:=λfu=>by
    rcases fu with h|h
    .rcases F.le with q|q
     .have:=k.ow;rw[abb] at q;exact afB (by lia)
     .exact q
    .cases ee:ex with
     |nil=>rfl
     |cons x r=>
      exact absurd (F.fst x r ee) λ⟨v,h1,h2,h3⟩=>by
       rw[h x (F.sub x (ee ▸ aar)) v h1 h2] at h3;cases h3
  have same:Full g->g.ld++ex=g.ld:=λfu=>by rw[VP fu,acm]
  have fg:Fin g->g.ht=false->gY g ex=g:=λf h=>by
   unfold gY;rw[same ((f.go h).2.2 hb)]
  have k1:Gd (gY g ex):=by
   refine⟨k.w1,k.h1,k.nt,k.gc,λx m=>?_,?_,?_,λx m=>?_,k.gr,let⟨v,h,_⟩:=F.run;⟨v,h⟩⟩
   .have m:x∈g.ln++(g.ld++ex):=m;rw[<- aej] at m;exact(abD.mp m).elim (k.row x) λm=>qP (g:=g) x (F.sub x m)
   .show(g.ln++(g.ld++ex)).Nodup;rw[<- aej];refine acB.mpr ⟨k.nd,F.nd,λa ma b mb e=>?_⟩;have:=iR.mp (F.sub b mb);exact(abD.mp ma).elim (λm=>this.2.1 (e ▸ m)) λm=>this.2.2.1 (e ▸ m)
   .show(((g.ld++ex).length:Nat):Int)<=g.w;rcases F.le with q|q
    .exact q
    .rw[q,acm];exact k.ow
   .have m:x∈g.ln++(g.ld++ex):=m;rw[<- aej] at m;exact(abD.mp m).elim (k.kg x) λm=>(iR.mp (F.sub x m)).2.2.2
  have Gz:∀x∈wl (gY g ex),x∈wl g/\x∉ex:=λx m=>by
   have h:=iR.mp m;have h3:=h.2.2.1;exact⟨iR.mpr ⟨h.1,h.2.1,λq=>h3 (abn _ q),h.2.2.2⟩,λq=>h3 (aaM _ q)⟩
  have IE:Lf (gY g ex):=λx m y my=>lf x (Gz x m).1 y my
  have Q6:Full (gY g ex):=by
   obtain⟨v',r1,r2⟩:=F.run;rcases r2 with q|q
   .exact .inl q
   .refine .inr λx m v jQ hf'=>?_
    obtain⟨m1,m2⟩:=Gz x m;have jQ:fW [] (fV g.C (g.ln++(g.ld++ex)))=some v:=jQ;rw[r1] at jQ;cases jQ;exact q x m1 m2 hf'
  have HM:=k1.len;have st:jk (wo 0 "Gate" "laid_ones" (cP GS (ay (bJ "Gate" "known" (ak 0)) (ay (bJ "Gate" "on_line" (ak 0)) (ay (bJ "Gate" "laid_ones" (ak 0)) (ay (cK "Gate" "waiting" yg (ak 0) aJ) (ay (e2 eK (bJ "Gate" "numbers" (ak 0)) (eC (.int 0))) aJ))))))) [some (gD g,.own)]=some (.nx [some (gD (gY g ex),.own)]):=oB hf rfl rfl rfl
  by_cases h1:b_ (gY g ex)=some 1
  .have hm:=mK h1;obtain⟨x,r,e1⟩:=afI (λe:(gY g ex).ld=[]=>by rw[e] at hm;simp at hm);obtain⟨u,n,_⟩:=JW k1 e1;exact⟨true,[],putD g.gr (Sum.inl x) (nu (gY g ex)),k7 rfl (sq (gH ht st) (BE (Jl (xo rfl (Jt k1 h1 e1))))),⟨u.gd,u.mo,u.pf⟩,(λ_=>n),(λe=>nomatch e),(λf h=>by rw[fg f h,hb] at h1;cases h1),(λp e=>nomatch e),λe=>nomatch e⟩
  .have Rm:∀b gr,Df (gD (gY g ex)) []=some (.bl b,gD { gY g ex with gr:=gr })->Al (gD g) []=some (.bl b,gD { g with ld:=g.ld++ex,gr:=gr }):=λb gr h=>k7 rfl (sq (gH ht st) (BE (P1 (xo rfl (KJ (by lia) h1)) (xo rfl h))))
   by_cases he:(gY g ex).ld=[]
   .obtain⟨u,h⟩:=aaF k1 he;obtain⟨a,b⟩:=OX (l:=d_ (gY g ex)) k1.gr λx m=>by have:=qP x (acy.mp m).1;exact iG.mpr (show 1<=x/\x<1+((gY g ex).C.length:Int) by lia)
    refine⟨_,g.ld++ex,_,Rm _ _ h,⟨k1.cut (afc _) a λx m=>?_,(λx q=>(b x).trans (by rw[show bS (gY g ex).gr x=true from q,Bool.or_true])),Lh (Iw.sublist aeE) λx m=>(iR.mp (acy.mp m).1).2.2.2⟩,λe=>?_,λe=>?_,λf h=>?_,(λp e=>nomatch e),(λe=>nomatch e)⟩
    .rw[b,show bS (gY g ex).gr x=false from k1.kg x m,abN λq=>?_]
     .rfl
     .have:=iR.mp (acy.mp q).1;exact(abD.mp m).elim this.2.1 this.2.2.1
    .obtain⟨x,r,e1⟩:=afI (λz:d_ (gY g ex)=[]=>by rw[z] at e;cases e);have mx:=e1 ▸ aar;exact⟨x,(b x).trans (by rw[aaN mx];rfl),(iR.mp (Gz x (acy.mp mx).1).1).2.2.2⟩
    .have e2:d_ (gY g ex)=[]:=by simpa using e
     rw[e2];exact⟨rfl,λhh=>⟨IE,λ_=>⟨h1,λ_=>acQ k1 IE he e2,λ_=>Q6⟩⟩,λz=>absurd rfl z,same⟩
    .have e3:=fg f h;rw[e3] at he;rw[e3,show d_ g=[] from(by unfold d_;rw[(f.go h).2.1 he];rfl)];rfl
   .exact⟨false,g.ld++ex,g.gr,Rm _ _ (ME he),⟨k1,λx q=>q,afc _⟩,(λe=>nomatch e),(λ_=>⟨rfl,λhh=>⟨IE,λ_=>⟨h1,λe=>absurd e he,λ_=>Q6⟩⟩,λz=>absurd rfl z,same⟩),(λ_ _=>rfl),(λp e=>nomatch e),λe=>nomatch e⟩
def bV(g:G):G:={ g with lk:=ly g }
section
variable{g g1 g2:G}
abbrev cS:aA->Option (Bool×aA):=wB (mR (tV (bJ "Gate" "halted" (ak 0)))) (tZ (xO 0 "Gate" "put_out_more" Al aJ))
theorem Lg:mR (tV (bJ "Gate" "halted" (ak 0))) [some (gD g,.own)]=some (!g.ht):=kN (bO (fl rfl))
theorem ad2(h:g.ht=true):cS [some (gD g,.own)]=some (false,[some (gD g,.own)]):=by
 have:=Lg (g:=g);rw[h] at this;unfold cS wB;rw[this];rfl
theorem WQ(h:f ρ=some (.bl b,ρ')):tZ f ρ=some (b,ρ'):=by unfold tZ;rw[h]
theorem LZ(h:g.ht=false)(hm:Al (gD g) []=some (.bl b,gD g1)):cS [some (gD g,.own)]=some (b,[some (gD g1,.own)]):=by
 have:=Lg (g:=g);rw[h] at this;refine Eq.trans ?_ (WQ (xo (ρ:=[some (gD g,.own)]) (m:="put_out_more") rfl hm));unfold cS wB;rw[this];rfl
theorem Q0{c:aA->Option (Bool×aA)}(h:c ρ=some (false,aS)):lA c f (n+1) ρ=some (.nx aS):=by rw[lA,h]
theorem RP{c:aA->Option (Bool×aA)}(h:c ρ=some (true,aS))(h2:f aS=some (.nx bx)):lA c f (n+1) ρ=lA c f n bx:=by
 rw[lA,h];dsimp only;rw[h2]
theorem Le(k:Gd g):sZ (xO 0 "Gate" "put_out_leaning" zE aJ) [some (gD g,.own)]=some (.nx [some (gD (gW g),.own)]):=by
 unfold sZ;rw[xo rfl (Sz k.gc k.gr)];rfl
theorem aad(m:x∈wl g):x∈bZ 1 g.C.length:=(acy.mp m).1
theorem Ip(k:Gd g):Up g g.ld (gW g).gr/\Lf (gW g):=by
 obtain⟨a,b,c⟩:=Ax k.gr λx m=>aad m
 have sub:∀x∈wl (gW g),x∈wl g:=λx m=>by
  have h:=iR.mp m;refine iR.mpr ⟨h.1,h.2.1,h.2.2.1,?_⟩;cases q:gS g x with
  |false=>rfl
  |true=>rw[show gS (gW g) x=true from b x q] at h;cases h.2.2.2
 refine⟨⟨k.cut (afc _) a λx m=>?_,b,O1 Iw λx m=>(iR.mp m).2.2.2⟩,λx m y my=>Fc k.gc.bd Be qP k.gr x (sub x m) (iR.mp m).2.2.2 y my⟩;cases q:bS (gW g).gr x with
 |false=>rfl
 |true=>
  rcases c x q with q|q
  .rw[show bS g.gr x=false from k.kg x m] at q;cases q
  .have:=iR.mp q;exact((abD.mp m).elim this.2.1 this.2.2.1).elim
theorem Aq(k:Gd g)(lf:Lf g):gW g=g:=by
 have:∀l:List Int,(∀x∈l,x∈wl g)->l.foldl (dR g.C) g.gr=g.gr:=λl=>by
  induction l with
  |nil=>intro _;rfl
  |cons x l ih=>
   intro h;have e:dR g.C g.gr x=g.gr:=by
    unfold dR;rw[show gone g.C g.gr x=[] from afE.mpr λy my=>by rw[show bS g.gr y=false from lf x (h x aar) y my];exact aa6]
   rw[aeh,e];exact ih λy m=>h y (aaa _ m)
 unfold gW;rw[this (wl g) λx m=>m]
theorem Px(k:Gd g)(h:¬Lf g):oY g (gW g).gr:=by
 have⟨x,hx⟩:=afM.mp h;have⟨mx,hx⟩:=afM.mp hx;have⟨y,hy⟩:=afM.mp hx;have⟨my,hy⟩:=afM.mp hy;obtain⟨u,_⟩:=Ip k;refine⟨x,?_,(iR.mp mx).2.2.2⟩;cases q:bS (gW g).gr x with
 |true=>rfl
 |false=>
  have h1:=Fc k.gc.bd Be qP k.gr x mx q y my;rw[show bS ((wl g).foldl (dR g.C) g.gr) y=true from u.mo y (by simpa using hy)] at h1;cases h1
theorem Up.trans{gr zH:List (Key×D)}(a:Up g ld gr)(b:Up { g with ld:=ld,gr:=gr } HR zH):Up g HR zH:=⟨b.gd,λx q=>b.mo x (a.mo x q),a.pf.trans b.pf⟩
def rT(g:G):Nat:=((bZ 1 g.C.length).filter λx=>!gS g x).length
theorem Oh:(bZ a n).Nodup:=(AL a n).imp λh=>by lia
theorem UR{gr:List (Key×D)}(mo:∀x,bS g.gr x=true->bS gr x=true):rT { g with ld:=ld,gr:=gr }<=rT g:=sub_len (Oh.sublist aeE) λx m=>by
 obtain⟨m1,m2⟩:=acy.mp m;refine acy.mpr ⟨m1,?_⟩;cases q:gS g x with
 |false=>rfl
 |true=>rw[show gS ({ g with ld:=ld,gr:=gr }:G) x=true from mo x q] at m2;cases m2
theorem aal{gr:List (Key×D)}(u:Up g ld gr)(n:oY g gr):rT { g with ld:=ld,gr:=gr } < rT g:=by
 obtain⟨x,h1,h2⟩:=n;have:=sub_len (l:=x::(bZ 1 g.C.length).filter λx=>!bS gr x) (m:=(bZ 1 g.C.length).filter λx=>!gS g x) (abv.mpr ⟨(λm=>by have:=(acy.mp m).2;rw[h1] at this;cases this),Oh.sublist aeE⟩) λy m=>by
  rcases aa3.mp m with rfl|m
  .exact acy.mpr ⟨u.gd.gr.bd h1,by rw[h2];rfl⟩
  .obtain⟨m1,m2⟩:=acy.mp m;refine acy.mpr ⟨m1,?_⟩;cases q:gS g y with
   |false=>rfl
   |true=>rw[u.mo y q] at m2;cases m2
 exact this
theorem adN(m n:Nat)(g:G)(hm:rT g<=m)(hn:m<n)(k:Gd g)(lf:Lf g)(hh:g.ht=false):∃ld gr,lA cS (sZ (xO 0 "Gate" "put_out_leaning" zE aJ)) n [some (gD g,.own)]=some (.nx [some (gD { g with ld:=ld,gr:=gr },.own)])/\Up g ld gr/\Fin { g with ld:=ld,gr:=gr }/\(oY g gr\/gr=g.gr/\(b_ g≠none->ld=g.ld)/\(Full g->ld=g.ld))/\(Fin g->gr=g.gr/\ld=g.ld)/\(∀p,b_ g=some p->p≠1->ld=g.ld)/\(b_ g=some 1->cnt g.gr+1<=cnt gr):=by
 induction n generalizing m g with
 |zero=>omega
 |succ n ih=>
  obtain⟨b,ld,gr,e,u,ht,hf,hs,E_,sD⟩:=YR k lf;cases b with
  |false=>
   obtain⟨f1,f2,f3,f4⟩:=hf rfl;refine⟨ld,gr,Q0 (LZ hh e),u,f2 hh,.inr ⟨f1,f3,f4⟩,λf=>⟨f1,?_⟩,(λp e _=>f3 (by rw[e];exact λz=>by cases z)),λe=>by have:=sD e;rw[f1] at this;omega⟩;cases hb:b_ g with
   |none=>exact f4 ((f.go hh).2.2 hb)
   |some p=>exact f3 (by rw[hb];exact λz=>by cases z)
  |true=>
   have nw:=ht rfl;have l1:=aal u nw;obtain⟨u2,lf2⟩:=Ip u.gd;cases m with
   |zero=>omega
   |succ m=>
    have l2:=UR (ld:=ld) u2.mo;obtain⟨Wm,gr3,e3,u3,f3,_⟩:=ih m (gW { g with ld:=ld,gr:=gr }) (adw l2 (by omega)) (by omega) u2.gd lf2 hh;have u4:=(u.trans u2).trans u3;refine⟨Wm,gr3,(RP (LZ hh e) (Le u.gd)).trans e3,u4,f3,.inl ?_,(λf=>absurd (hs f hh) (by decide)),(λp e np=>absurd (E_ p e np) (by decide)),λe=>adw (sD e) (Bg (u2.pf.trans u3.pf))⟩;obtain⟨x,h1,h2⟩:=nw;exact⟨x,u3.mo x (u2.mo x h1),h2⟩
theorem ael(k:Gd g):∃ld gr,mJ (gD g) []=some (.aD,gD (bV { g with ld:=ld,gr:=gr }))/\Up g ld gr/\Fin { g with ld:=ld,gr:=gr }/\(g.ht=true->ld=g.ld)/\(oY g gr\/gr=g.gr/\(b_ g≠none->ld=g.ld)/\(Full g->ld=g.ld))/\(Fin g->gr=g.gr/\ld=g.ld)/\(∀p,b_ g=some p->p≠1->ld=g.ld)/\(b_ g=some 1->g.ht=false->cnt g.gr+1<=cnt gr):=by
 obtain⟨u,lf⟩:=Ip k;have fin:∀{ld:List Int}{gr:List (Key×D)},Up g ld gr->lA cS (sZ (xO 0 "Gate" "put_out_leaning" zE aJ)) 4000 [some (gD (gW g),.own)]=some (.nx [some (gD { g with ld:=ld,gr:=gr },.own)])->mJ (gD g) []=some (.aD,gD (bV { g with ld:=ld,gr:=gr })):=λ{ld gr} u e=>by
  have hl:=u.gd.len;have hl:=hl;exact qG rfl (sq (fQ (Le k)) (sq (fQ e) (oB (gA rfl (Xk (by show g.ln.length+ld.length<=900;lia) (by show ld.length<64;lia) (by have:=k.h1;show g.h<=60;lia))) rfl rfl rfl))) rfl
 have old:(∀z,oY (gW g) z->oY g z):=λz ⟨x,h1,h2⟩=>⟨x,h1,by
  cases q:gS g x with
  |false=>rfl
  |true=>rw[show gS (gW g) x=true from u.mo x q] at h2;cases h2⟩
 by_cases hh:g.ht=true
 .refine⟨g.ld,(gW g).gr,fin u (Q0 (ad2 hh)),u,⟨lf,λh=>by rw[show g.ht=true from hh] at h;cases h⟩,λ_=>rfl,?_,λf=>?_,λ_ _ _=>rfl,λ_ h=>by rw[hh] at h;cases h⟩
  .by_cases l:Lf g
   .exact .inr ⟨by rw[Aq k l],λ_=>rfl,λ_=>rfl⟩
   .exact .inl (Px k l)
  .rw[Aq k f.lf];exact⟨rfl,rfl⟩
 .have hh:g.ht=false:=by simpa using hh
  have nl:rT (gW g)<=60:=by
   have:=aeb (λx=>!gS (gW g) x) (bZ 1 g.C.length);rw[nJ] at this;have:=k.gc.ln;unfold rT;show((bZ 1 g.C.length).filter λx=>!gS (gW g) x).length<=60
   lia
  obtain⟨ld,gr,e,u3,f3,d,s,n1,n2⟩:=adN 60 4000 (gW g) nl (by lia) u.gd lf hh;refine⟨ld,gr,fin (u.trans u3) e,u.trans u3,f3,(λh=>by rw[hh] at h;cases h),?_,λf=>?_,n1,λe _=>adw (Nat.add_le_add_right (Bg u.pf) 1) (n2 e)⟩
  .by_cases l:Lf g
   .rw[Aq k l] at d;exact d
   .obtain⟨x,h1,h2⟩:=Px k l;exact .inl ⟨x,u3.mo x h1,h2⟩
  .rw[Aq k f.lf] at s;exact s f
end
section
variable{g g' g3:G}{ρ:aA}{d r:D}{t:Tag}{f m:Str}{fv:EF}{F:MF}
theorem Ci(h:fv ρ=some (.int j,t))(h0:ρ[0]? = some (some (gD g,.own)))(hl:(gF g).lookup f=some (.int i))(e:dZ f (.int (i+j)) (gF g)=gF g'):jk (yU 0 "Gate" f fv) ρ=some (.nx (bP ρ 0 (gD g'))):=by
 refine fQ ?_;unfold yU;rw[h,h0];show(if("Gate":Str)="Gate"/\(gF g).length<1000 then(match(gF g).lookup f with|some (.int k)=>some (Out.nx (bP ρ 0 (.ins "Gate" (dZ f (.int (k+j)) (gF g)))))|_=>none) else none)=_;rw[if_pos ⟨rfl,by show 12<1000;decide⟩,hl];dsimp only;rw[e];rfl
theorem yo(h0:ρ[0]? = some (some (gD g,.own)))(h:F (gD g) []=some (r,gD g'))(hm:(gF g).lookup m=none:=by rfl):jk (sZ (xO 0 "Gate" m F aJ)) ρ=some (.nx (bP ρ 0 (gD g'))):=fQ (by
 unfold sZ;rw[xo h0 h hm];rfl)
noncomputable def oG(g:G):G:={ g with ld:=[],ht:=true,br:=g.br+1 }
theorem abA(h:mJ (gD (oG g)) []=some (.aD,gD g3)):AG (gD g) []=some (.aD,gD g3):=
 qG rfl (sq (oB rfl rfl rfl rfl) (sq (oB (g:={ g with ld:=[] }) rfl rfl rfl rfl)
  (sq (Ci (g:={ g with ld:=[],ht:=true }) rfl rfl rfl rfl) (yo rfl h)))) rfl
theorem aaU(h:mJ (gD { g with ht:=false }) []=some (.aD,gD g3)):Cg (gD g) []=some (.aD,gD g3):=
 qG rfl (sq (oB rfl rfl rfl rfl) (yo rfl h)) rfl
noncomputable def pG(g:G)(c:Ch):G:={ g with C:=g.C++[c] }
theorem WT(hl:l.length<=100)(hE:E.length<=100)(hm:vd g.C.length q l E=true)(hC:g.C.length<60)(h:mJ (gD (pG g (q,l,E))) []=some (.aD,gD g3)):Qw (gD g) [.int q,iL l,eL E]=some (.int (g.C.length+1),gD g3):=by
 have h1:zU 0 "Gate" "known" "Changes" "added" Bc (ay (ak 1) (ay (ak 2) (ay (ak 3) aJ))) [some (gD g,.own),some (.int q,.sh []),some (iL l,.sh []),some (eL E,.sh []),none]=some (.int (g.C.length+1),[some (gD (pG g (q,l,E)),.own),some (.int q,.sh []),some (iL l,.sh []),some (eL E,.sh []),none]):=by
  show(if("Gate":Str)="Gate"/\("Changes":Str)="Changes"/\([("entries",D.lst (g.C.map ent))]:List (Str×D)).lookup ("added":Str)=none/\apart 0 [(.int q,.sh []),(iL l,.sh []),(eL E,.sh [])]=true then(Bc (obj g.C) [.int q,iL l,eL E]).map _ else none)=_;rw[if_pos ⟨rfl,rfl,rfl,rfl⟩,abU hl hE hm hC];rfl
 refine k7 rfl (sq (ρ':=[some (gD (pG g (q,l,E)),.own),some (.int q,.sh []),some (iL l,.sh []),some (eL E,.sh []),some (.int (g.C.length + 1),.own)]) (fQ (by
  show(match zU 0 "Gate" "known" "Changes" "added" Bc (ay (ak 1) (ay (ak 2) (ay (ak 3) aJ))) [some (gD g,.own),some (.int q,.sh []),some (iL l,.sh []),some (eL E,.sh []),none] with|some (d,ρ')=>some (Out.nx (iw ρ' 4 d .own))|none=>none)=_;rw[h1];rfl)) (sq (yo rfl h) rfl))
def kM(g:G)(x:Int):G:={ g with ld:=if x∈g.ld then g.ld.takeWhile (λy=>!(y==x)) else g.ld,gr:=putD g.gr (Sum.inl x) (.tup [.str "withdrawn"]),br:=g.br+1 }
theorem M1:∀{l:List Int}{x:Int},x∈l->l.findIdx? (· == x)=some (l.takeWhile λy=>!(y==x)).length
 |[],x,m=>nomatch m
 |a::l,x,m=>by
  rw[List.findIdx?_cons,List.takeWhile_cons];cases e:(a==x) with
  |true=>rfl
  |false=>
   rw[M1 ((aa3.mp m).resolve_left λq=>by rw[q] at e;simp at e)];rfl
theorem AM{x:Int}:l.takeWhile (λy=>!(y==x)) <+: l:=List.takeWhile_prefix _
theorem Y3{l:List Int}{x:Int}:l.take (l.takeWhile λy=>!(y==x)).length=l.takeWhile λy=>!(y==x):=by
 obtain⟨r,e⟩:=AM (l:=l) (x:=x)
 conv=>lhs;rw[<- e]
 rw[e];exact(List.prefix_iff_eq_take.mp (AM)).symm
theorem N1:∀{l:List Int}{x:Int},x∉l.takeWhile (λy=>!(y==x))
 |[],x,m=>nomatch m
 |a::l,x,m=>by
  rw[List.takeWhile_cons] at m;cases e:(a==x) with
  |true=>rw[e] at m;cases m
  |false=>
   rw[e] at m;rcases aa3.mp m with q|q
   .rw[<- q] at e;simp at e
   .exact N1 q
theorem UX{x:Int}(k:Gd g)(hx:1<=x/\x<=(g.C.length:Int))(nl:x∉g.ln)(no:gS g x=false)(h:mJ (gD (kM g x)) []=some (.aD,gD g3)):MY (gD g) [.int x]=some (.aD,gD g3):=by
 have t1:mR (tV (cK "Changes" "has" DA (bJ "Gate" "known" (ak 0)) (ay (ak 1) aJ))) [some (gD g,.own),some (.int x,.sh [])]=some false:=kN (b:=true) (bO (Gq (fl rfl) rfl ((Ew g.C x).trans (by unfold inR;rw[aaN hx.1,aaN hx.2];rfl))));have t2:mQ (tV (e2 (jM false) (ak 1) (bJ "Gate" "on_line" (ak 0)))) (tV (e2 (qq false) (ak 1) (bJ "Gate" "grounds" (ak 0)))) [some (gD g,.own),some (.int x,.sh [])]=some false:=
  (BN ((bO (aO rfl (fl rfl) (by unfold iL;rw[Bt,if_neg aa6,Ez]))).trans (by rw[abN nl]))).trans (bO (aO rfl (fl rfl) (by show some (D.bl (gS g x))=_;rw[no])))
 have t3:tV (e2 (jM false) (ak 1) (bJ "Gate" "laid_ones" (ak 0))) [some (gD g,.own),some (.int x,.sh [])]=some (decide (x∈g.ld)):=bO (aO rfl (fl rfl) (by unfold iL;rw[Bt,if_neg aa6,Ez]));refine qG rfl (dg t1 (dg t2 (sq (ρ':=[some (gD { g with ld:=(kM g x).ld },.own),some (.int x,.sh [])]) ?_ (sq (fQ (zG rfl rfl rfl rfl k.gr.im (by have:=k.gr.len;have:=k.gc.ln;show g.gr.length<=100;lia)))
  (sq (Ci rfl rfl rfl rfl) (yo rfl h)))))) rfl
 by_cases mx:x∈g.ld
 .rw[aaN mx] at t3;have e1:e2 FO (bJ "Gate" "laid_ones" (ak 0)) (ak 1) [some (gD g,.own),some (.int x,.sh [])]=some (.int (g.ld.takeWhile λy=>!(y == x)).length,.own):=aO (fl rfl) rfl (by
   show(match eE (g.ld.map D.int) with|some ts=>(ts.findIdx? (· == x)).map λj:Nat=>D.int j|none=>none)=_;rw[ux];dsimp only;rw[M1 mx];rfl)
  have c:uU (bJ "Gate" "laid_ones" (ak 0)) (e2 FO (bJ "Gate" "laid_ones" (ak 0)) (ak 1)) [some (gD g,.own),some (.int x,.sh [])]=some (iL (kM g x).ld,.own):=by
   unfold uU;rw[fl rfl,e1];show(if aN (g.ld.map D.int)=true then some (D.lst (cutD (g.ld.map D.int) none (some ((g.ld.takeWhile λy=>!(y==x)).length:Int))),Tag.own) else none)=_;rw[if_pos (fT _),QV (by rw[List.length_map];exact List.IsPrefix.length_le AM),<- List.map_take,Y3];unfold kM;rw[if_pos mx];rfl
  exact gH t3 (oB c rfl rfl rfl)
 .rw[abN mx] at t3;refine iO t3 ?_;unfold kM;rw[if_neg mx];rfl
abbrev hd(ta:Ta)(L:List Int):List Str:=(qA ta L).getD []
theorem S8{n t:Int}{L:List Int}:(aV (nQ n t ta) (kL L)).getD (tob n t [])=tob n t (hd ta L):=by
 rw[Q4];unfold hd;cases qA ta L<;>rfl
theorem Xd{n t:Int}{L:List Int}:putD (nQ n t ta) (kL L) (tob n t h)=nQ n t (gp ta L h):=BJ (λ_ _=>mX)
theorem aba{L:List Int}(hL:L≠[])(k:Gd g)(tn:(g.ta.map (·.1)).Nodup)(tl:g.ta.length<=5000)(hw:w∈(["yes","no","unsure"]:List Str))(hm:word g.n g.t (hd g.ta L)="more"):
  vA "Gate" "tallies" "Tally" "tell" (vJ "Tally" AX (ay (e2 eK (bJ "Gate" "numbers" (ak 0)) (eC (.int 2))) (ay (e2 eK (bJ "Gate" "numbers" (ak 0)) (eC (.int 3))) aJ))) Mu [some (gD g,.own),some (tD L,.sh []),some (.str w,.sh []),none,none] =
   some (.nx [some (gD { g with ta:=gp g.ta L (hd g.ta L++[w]) },.own),some (tD L,.sh []),some (.str w,.sh []),none,some (.str (word g.n g.t (hd g.ta L++[w])),.own)]):=by
 have e1:vJ "Tally" AX (ay (e2 eK (bJ "Gate" "numbers" (ak 0)) (eC (.int 2))) (ay (e2 eK (bJ "Gate" "numbers" (ak 0)) (eC (.int 3))) aJ)) [some (gD g,.own),some (tD L,.sh []),some (.str w,.sh []),none,none]=some (tob g.n g.t [],.own):=by
  show(match AX (.ins "Tally" []) [.int g.n,.int g.t] with|some (.aD,d)=>some (d,Tag.own)|_=>none)=_;rw[ac1 k.nt]
 have n1:((nQ g.n g.t g.ta).map (·.1)).Nodup:=by
  unfold nQ;rw[acT,show((λkv:List Key×D=>kv.1) ∘ λp:List Int×List Str=>(kL p.1,tob g.n g.t p.2))=kL ∘ (·.1) from rfl,<- acT];unfold List.Nodup at tn ⊢;rw[aeX];exact tn.imp λq e=>q (mX e)
 refine(Yj rfl rfl rfl rfl rfl (vD _) e1 S8 (V3 hw hm (by have:=CG hm;have:=k.nt;lia)) ⟨rfl,by unfold kL;rw[afT];exact ac4.mpr λ_ _=>rfl,λz=>hL (List.map_eq_nil_iff.mp z),n1,size_le (by unfold nQ;rw[List.length_map];lia),rfl⟩).trans ?_;rw[Xd];rfl
def bT(g:G)(L:List Int)(w:Str):G:={ g with ta:=gp g.ta L (hd g.ta L++[w]),an:=g.an+1,en:=if(word g.n g.t (hd g.ta L++[w]) == "more")=true then g.en else g.en++[.tup [tD L,.str (word g.n g.t (hd g.ta L++[w]))]] }
def mC(g:G)(L:List Int):G:={ g with ld:=g.ld.drop (L.length-g.ln.length),ln:=L,gw:=g.gw++[L] }
theorem Qv(L:List (List Int)):aN (dD L)=true:=sJ.mpr λd m=>by
 obtain⟨l,_,rfl⟩:=abG.mp m;exact fT l
theorem Yz{L:List Int}(h1:g.ln.length<=L.length)(h2:L.length<=g.ln.length+g.ld.length)(hg:g.gw.length<=5000):rZ (gD g) [tD L]=some (.aD,gD (mC g L)):=by
 have c:yV (bJ "Gate" "laid_ones" (ak 0)) (e2 kG (e1 fN (ak 1)) (e1 fN (bJ "Gate" "on_line" (ak 0)))) [some (gD g,.own),some (tD L,.sh [])]=some (iL (g.ld.drop (L.length-g.ln.length)),.own):=by
  have e1:e2 kG (e1 fN (ak 1)) (e1 fN (bJ "Gate" "on_line" (ak 0))) [some (gD g,.own),some (tD L,.sh [])]=some (.int ((L.length-g.ln.length:Nat):Int),.own):=aO (bC rfl (by show some (D.int (L.map D.int).length)=_;rw[List.length_map])) (bC (fl rfl) (by show some (D.int (g.ln.map D.int).length)=_;rw[List.length_map])) (by show some (D.int (_-_))=_;rw[Int.natCast_sub h1]);unfold yV;rw[fl rfl,e1];show(if aN (g.ld.map D.int)=true then some (D.lst (cutD (g.ld.map D.int) (some ((L.length-g.ln.length:Nat):Int)) none),Tag.own) else none)=_;rw[if_pos (fT _),L8 (by rw[List.length_map];lia),<- List.map_drop];rfl
 refine qG rfl (sq (oB c rfl rfl rfl) (sq (oB (g:={ g with ld:=g.ld.drop (L.length - g.ln.length) }) (bC rfl Qq) rfl rfl rfl) (fQ ((Ar (es:=gF { g with ld:=g.ld.drop (L.length - g.ln.length),ln:=L }) rfl rfl rfl ?_).trans (by
  have:gD (mC g L)=.ins "Gate" (dZ "grown" (.lst (dD g.gw++[tD L])) (gF { g with ld:=g.ld.drop (L.length-g.ln.length),ln:=L })):=by
   unfold gD gF mC dD;rw[acZ];rfl
  rw[<- this]))))) rfl
 rw[Qv,show aC (tD L)=true from fT L,aaN (size_le (by unfold dD;rw[List.length_map];lia))];rfl
def bI(g:G)(L:List Int)(w:Str):G:=if(word g.n g.t (hd g.ta L++[w]) == "yes")=true then mC (bT g L w) L else bT g L w
theorem acJ{L:List Int}(hk:L∈g.lk)(hL:L≠[])(k:Gd g)(tn:(g.ta.map (·.1)).Nodup)(tl:g.ta.length<=5000)(hw:w∈(["yes","no","unsure"]:List Str))(hm:word g.n g.t (hd g.ta L)="more")(em:aN g.en=true)(el:g.en.length<=5000)(gl:g.gw.length<=5000)(h1:g.ln.length<=L.length)(h2:L.length<=g.ln.length+g.ld.length)
  (hs:mJ (gD (bI g L w)) []=some (.aD,gD g3)):KO (gD g) [tD L,.str w]=some (.str (word g.n g.t (hd g.ta L++[w])),gD g3):=by
 generalize ew:word g.n g.t (hd g.ta L++[w])=u;have ft:=aba hL k tn tl hw hm;rw[ew] at ft;have hu:∀g':G,jk (sZ (xO 0 "Gate" "grow" rZ (ay (ak 1) aJ))) [some (gD g',.own),some (tD L,.sh []),some (.str w,.sh []),none,some (.str u,.own)]=(rZ (gD g') [tD L]).map λv=>.nx [some (v.2,.own),some (tD L,.sh []),some (.str w,.sh []),none,some (.str u,.own)]:=λg'=>by
  show jk (λρ=>(xO 0 "Gate" "grow" rZ (ay (ak 1) aJ) ρ).map λw=>.nx w.2) _=_;have:xO 0 "Gate" "grow" rZ (ay (ak 1) aJ) [some (gD g',.own),some (tD L,.sh []),some (.str w,.sh []),none,some (.str u,.own)]=(rZ (gD g') [tD L]).map λv=>(v.1,bP [some (gD g',.own),some (tD L,.sh []),some (.str w,.sh []),none,some (.str u,.own)] 0 v.2):=by
   show(if("Gate":Str)="Gate"/\(gF g').lookup ("grow":Str)=none/\apart 0 [(tD L,.sh [])]=true then _ else none)=_;rw[if_pos ⟨rfl,rfl,rfl⟩];rfl
  unfold jk;dsimp only;rw[this];cases rZ (gD g') [tD L]<;>rfl
 refine k7 rfl (dg (bO (aO rfl (fl rfl) ((JZ true L g.lk).trans (by rw[aaN hk];rfl)))) (sq ft (sq (ρ':=[some (gD { g with ta:=gp g.ta L (hd g.ta L++[w]),an:=g.an+1 },.own),some (tD L,.sh []),some (.str w,.sh []),none,some (.str u,.own)]) (Ci rfl rfl rfl rfl) (sq (ρ':=[some (gD (bT g L w),.own),some (tD L,.sh []),some (.str w,.sh []),none,some (.str u,.own)]) ?_ (sq (ρ':=[some (gD (bI g L w),.own),some (tD L,.sh []),some (.str w,.sh []),none,some (.str u,.own)]) ?_ (sq (yo rfl hs) rfl))))))
 .have ht:tV (e2 kT (ak 4) (eC (.str "more"))) [some (gD { g with ta:=gp g.ta L (hd g.ta L++[w]),an:=g.an+1 },.own),some (tD L,.sh []),some (.str w,.sh []),none,some (.str u,.own)]=some (!(u == "more")):=rfl;unfold bT;rw[ew];cases e:(u==("more":Str)) with
  |true=>rw[e] at ht;rw[je,ht];rfl
  |false=>
   rw[e] at ht;refine gH ht (fQ ((Ar (d:=.tup [tD L,.str u]) rfl rfl rfl ?_).trans ?_))
   .have:aC (.tup [tD L,.str u])=true:=by unfold tD;simp only[aC,aN,fT,afs]
    rw[this,em,aaN (size_le (by lia))];rfl
   .rfl
 .have ht:tV (e2 oEq (ak 4) (eC (.str "yes"))) [some (gD (bT g L w),.own),some (tD L,.sh []),some (.str w,.sh []),none,some (.str u,.own)]=some (u == "yes"):=rfl;unfold bI;rw[ew];cases e:(u==("yes":Str)) with
  |true=>
   rw[e] at ht;refine gH ht ((hu (bT g L w)).trans ?_);rw[Yz (g:=bT g L w) h1 h2 gl];rfl
  |false=>rw[e] at ht;rw[je,ht];rfl
end
theorem Ou(n t:Int)(h:List Str):word n t h="yes"\/bw (word n t h)=true\/word n t h="more":=by
 unfold word
 split
 .exact .inl rfl
 .split
  .exact .inr (.inl rfl)
  .split
   .exact .inr (.inl rfl)
   .exact .inr (.inr rfl)
theorem QG(h:1<=n/\n<=t/\t<=20):word n t []="more":=by
 unfold word;rw[if_neg (by show ¬((0:Nat):Int) >= n;omega),if_neg (by show ¬((0:Nat):Int) >= n;omega),if_neg (by show ¬((0:Nat):Int) >= t;omega)]
theorem q_(k:Gd g)(l:List Int):wd g l=word g.n g.t (hd g.ta l):=by
 unfold wd hd;cases qA g.ta l with
 |none=>exact(QG k.nt).symm
 |some h=>rfl
structure Gt(k:Nat)(g:G):Prop where
 tn:(g.ta.map (·.1)).Nodup
 tl:g.ta.length<=k
 yl:∀l,word g.n g.t (hd g.ta l)="yes"->l.length<=g.ln.length
 em:aN g.en=true
 el:g.en.length<=k
 gl:g.gw.length<=k
 lg:g.gw.getLastD []=g.ln
 st:g.ht=true->g.ld=[]
 ll:(g.lk.length:Int)<=g.h
structure Lk(g:G)(ps:List Int):Prop where
 ri:l6 (eo g) ps
 ge:lim (eo g) g.h<=ps.length
 le:(ps.length:Int)<=g.h
 eq:g.lk=ps.map λp=>cY g p.toNat
structure Gi(k:Nat)(g:G):Prop where
 gd:Gd g
 gt:Gt k g
 fin:Fin g
 ym:∃ps,Lk g ps
theorem mS(h:p<=g.ld.length):(cY g p).length=g.ln.length+p:=by
 unfold cY;rw[abb,afz];lia
theorem abq(k:Gd g)(hl:(g.lk.length:Int)<=g.h):Lk (bV g) (nh g):=by
 have hk:(iV g).length<=g.lk.length:=by
  have:=sub_len (l:=(iV g).map λp=>cY g p.toNat) (m:=g.lk) ?_ λl m=>?_
  .rwa [List.length_map] at this
  .unfold List.Nodup;rw[aeX];refine qk.1.imp_of_mem λ{a b} ma mb lt e=>?_
   have:=congrArg List.length e;have ha:=(qk).2.1 a ma;have hb:=(qk).2.1 b mb;rw[mS (by lia),mS (by lia)] at this
   lia
  .obtain⟨p,mp,rfl⟩:=abG.mp m;exact aaP ((aaY _ _).mp (acy.mp mp).2).1
 have hi:(jW (eo g) (iV g)).length<=(iV g).length:=aeb _ _;have hh:=k.h1;obtain⟨a,b⟩:=LQ (aU:=g.h) 100 (jW (eo g) (iV g)) (by lia);exact⟨(N7 (g:=g)).1,a,b (by lia),rfl⟩
theorem settled(gd:Gd g)(gt:Gt k g):∃ld gr,mJ (gD g) []=some (.aD,gD (bV { g with ld:=ld,gr:=gr }))/\Gi k (bV { g with ld:=ld,gr:=gr })/\Up g ld gr/\(oY g gr\/gr=g.gr/\(b_ g≠none->ld=g.ld)/\(Full g->ld=g.ld))/\(Fin g->gr=g.gr/\ld=g.ld)/\(∀p,b_ g=some p->p≠1->ld=g.ld)/\(b_ g=some 1->g.ht=false->cnt g.gr+1<=cnt gr):=by
 obtain⟨ld,gr,e,u,f,h,d,s⟩:=ael gd;have L:=abq (g:={ g with ld:=ld,gr:=gr }) u.gd gt.ll;have v:=u.gd;refine⟨ld,gr,e,⟨⟨v.w1,v.h1,v.nt,v.gc,v.row,v.nd,v.ow,v.kg,v.gr,v.run⟩,⟨gt.tn,gt.tl,gt.yl,gt.em,gt.el,gt.gl,gt.lg,λq=>(h q).trans (gt.st q),?_⟩,⟨f.lf,f.go⟩,_,L⟩,u,d,s⟩;rw[L.eq,List.length_map];exact L.le
theorem Gi.mem(i:Gi k g)(m:l∈g.lk):∃p:Nat,1<=p/\(p:Int)<eo g/\p<=g.ld.length/\l=cY g p/\word g.n g.t (hd g.ta l)="more":=by
 obtain⟨ps,L⟩:=i.ym;rw[L.eq] at m;obtain⟨x,mx,rfl⟩:=abG.mp m;have hx:=L.ri.bd x mx;have he:=EJ (g:=g);have hp:x.toNat<=g.ld.length:=by omega
 refine⟨x.toNat,by omega,by omega,hp,rfl,?_⟩;have nb:gk g x.toNat=false:=by
  cases e:b_ g with
  |none=>exact EV.mp e _ (by omega) hp
  |some q=>
   refine(mK e).2.2.2 _ (by omega) ?_;unfold eo lG at hx;rw[e] at hx;have:x<(q:Int):=hx.2;omega
 unfold gk at nb;rw[q_ i.gd] at nb;rcases Ou g.n g.t (hd g.ta (cY g x.toNat)) with h|h|h
 .have:=i.gt.yl _ h;rw[mS hp] at this;omega
 .rw[h] at nb;cases nb
 .exact h
theorem Gd.re(k:Gd g)(ta:Ta)(lk:List (List Int))(ht:Bool)(gw:List (List Int))(en:List D)(an br:Int):Gd { g with ta:=ta,lk:=lk,ht:=ht,gw:=gw,en:=en,an:=an,br:=br }:=⟨k.w1,k.h1,k.nt,k.gc,k.row,k.nd,k.ow,k.kg,k.gr,k.run⟩
theorem IV{L l:List Int}:hd (gp ta L h) l=if l=L then h else hd ta l:=by
 unfold hd qA
 by_cases e:l=L
 .rw[if_pos e,e,Ef];rfl
 .rw[if_neg e,Mr e]
theorem DF[DecidableEq κ]{es:List (κ×α)}:(gp es q d).length<=es.length+1:=by
 unfold gp
 split
 .rw[List.length_map];lia
 .rw[abb];exact abH _
theorem SK{a b:List Int}(ha:a.Pairwise (· < ·))(hb:b.Pairwise (· < ·))(h:∀x,x∈a↔x∈b):a=b:=by
 have p:=(List.perm_ext_iff_of_nodup (ha.imp λh=>by lia) (hb.imp λh=>by lia)).mpr h;exact(HG p (ha.imp λh=>by lia)).trans (HG (List.Perm.refl _) (hb.imp λh=>by lia)).symm
noncomputable def bl(q:Nat):Nat:=if q=0 then 0 else if q<2 then 1 else if q<4 then 2 else if q<8 then 3 else if q<16 then 4 else 5
def vv(h:Int)(q:Nat):Nat:=if h=1 then bl q else q
theorem Xi(h:a<=b):bl a<=bl b:=by
 unfold bl
 repeat' split
 all_goals lia
theorem aet(h:2<=q)(h2:q<=16):bl (q / 2)+1=bl q:=by
 unfold bl
 repeat' split
 all_goals lia
theorem z_(e:a<=b):vv h a<=vv h b:=by
 unfold vv
 split
 .exact Xi e
 .exact e
theorem JC:vv h 1=1:=by unfold vv;split<;>rfl
theorem Rj(e:1<=q):1<=vv h q:=JC ▸ z_ e
def dU(g:G):Int:=vv g.h g.w.toNat
noncomputable def cu(g:G):Int:=(g.en.length:Int)-g.gw.length
def kX(g:G):Int:=dU g*((cnt g.gr:Int)+g.br)
theorem xF(k:Gd g):1<=dU g:=by
 have h1:=k.w1;have:=Rj (h:=g.h) (q:=g.w.toNat) (by lia);unfold dU;lia
noncomputable def tot(ta:Ta):Nat:=(ta.map λp=>p.2.length).sum
def Di(g:G)(lk:List (List Int)):Prop:=cu g<=kX g\/∃q,b_ g=some q/\cu g<=kX g+(dU g-vv g.h q+1)/\(g.h=1->q≠1->lk=[cY g (q / 2)])
structure Cc(g:G):Prop where
 gw:g.gw.length<=g.ln.length
 an:g.an=(tot g.ta:Int)
 tt:∀q∈g.ta,(q.2.length:Int)<=g.t
structure Cn(g:G):Prop where
 cc:Cc g
 di:Di g g.lk
theorem Ft{m a b:Int}(hm:0<=m)(h:a<=b):m*a<=m*b:=Int.mul_le_mul_of_nonneg_left h hm
theorem Cn.w(c:Cn g)(k:Gd g):cu g<=kX g+dU g:=by
 have:=xF k;rcases c.di with h|⟨q,hb,h,_⟩
 .lia
 .have:=Rj (h:=g.h) (mK hb).1;lia
theorem ue(v:Gd g)(t:Gt k g)(c:Cc g)(hd:Di g (ly g)):∃ld gr,mJ (gD g) []=some (.aD,gD (bV { g with ld:=ld,gr:=gr }))/\Gi k (bV { g with ld:=ld,gr:=gr })/\Cn (bV { g with ld:=ld,gr:=gr }):=by
 obtain⟨ld,gr,e,i',u,_,_,n1,n2⟩:=settled v t;refine⟨ld,gr,e,i',⟨c.gw,c.an,c.tt⟩,?_⟩;have mp:=xF v;have cm:=Bg u.pf;have up:kX g<=kX (bV { g with ld:=ld,gr:=gr }):=Ft (by lia) (by show(cnt g.gr:Int)+g.br<=(cnt gr:Int)+g.br;lia);rcases hd with h|⟨q,hb,h,hk⟩
 .exact .inl (afS h up)
 .by_cases h1:q=1
  .subst h1;have hh:g.ht=false:=by
    cases hh:g.ht with
    |false=>rfl
    |true=>have:=mK hb;rw[t.st hh] at this;simp at this
   have n2:=n2 hb hh;rw[JC] at h;refine .inl (afS h ?_);have:dU g*((cnt g.gr:Int)+g.br+1)<=dU g*((cnt gr:Int)+g.br):=Ft (by lia) (by lia);rw[Int.mul_add,Int.mul_one] at this;show kX g+(dU g-((1:Nat):Int)+1)<=dU g*((cnt gr:Int)+g.br);have:kX g=dU g*((cnt g.gr:Int)+g.br):=rfl
   lia
  .have el:=n1 q hb h1;subst el;exact .inr ⟨q,hb,afS h (Int.add_le_add_right up _),hk⟩
theorem Gs{g:G}(K:Lk g ps)(hm:∀l∈g.lk,wd g l="more"):ly g=g.lk:=by
 have ek:=SK qk.1 K.ri.so λx=>by
  have hx:kp g (cY g x.toNat)=decide (cY g x.toNat∈g.lk/\wd g (cY g x.toNat)="more"):=by
   unfold kp;rw[Bool.decide_and]
   congr 1
  unfold iV;rw[acy,hx,afH,iG];have ae6:=EJ (g:=g);constructor
  .rintro⟨h1,h2,_⟩
   rw[K.eq] at h2;obtain⟨y,my,ey⟩:=abG.mp h2;have hy:=K.ri.bd y my;have:=congrArg List.length ey;rw[mS (by lia),mS (by lia)] at this;have:x=y:=by lia
   exact this ▸ my
  .intro mx;have hx:=K.ri.bd x mx;have ml:cY g x.toNat∈g.lk:=by rw[K.eq];exact abG.mpr ⟨x,mx,rfl⟩
   exact⟨⟨hx.1,by lia⟩,ml,hm _ ml⟩
 unfold ly;have:nh g=ps:=by
  unfold nh W;show iy _ _ (eo g) g.h 100 (jW (eo g) (iV g))=ps;rw[ek,show jW (eo g) ps=ps from List.filter_eq_self.mpr λx m=>aaN (K.ri.bd x m).2];exact Qj K.ge
 rw[this];exact K.eq.symm
theorem MB(hb:b_ g=some q)(hq:2<=q)(h1:g.h=1)(hk:∀l∈g.lk,wd g l≠"more"):ly g=[cY g (q / 2)]:=by
 have ek:iV g=[]:=afE.mpr λx _ z=>by
  obtain⟨a,b⟩:=(aaY _ _).mp z;exact hk _ (aaP a) (eq_of_beq b)
 have ep:nh g=[(q:Int) / 2]:=by
  unfold nh W lG;rw[ek,hb,h1];show iy g.ld.length (some (q:Int)) (q:Int) 1 100 []=_;have hl:lim (q:Int) 1=1:=by unfold lim;split<;>lia
  have hn:jY (g.ld.length:Int) (some (q:Int)) (q:Int) []=[(q:Int) / 2]:=by
   have hb:best (0,0) (pairs (fence [] (q:Int)))=(0,(q:Int)):=by
    show best (if(0:Int)-0<(q:Int)-0 then(0,(q:Int)) else(0,0)) []=_;rw[if_pos (by lia)];rfl
   have hm:mid (fence [] (q:Int))=(q:Int) / 2:=by
    show((best (0,0) (pairs (fence [] (q:Int)))).1+(best (0,0) (pairs (fence [] (q:Int)))).2) / 2=_;rw[hb];rw[Int.zero_add]
   show cB [mid (fence [] (q:Int))]=_;rw[hm];rfl
  unfold iy;rw[hl,if_pos (by show((0:Nat):Int)<1;lia),hn];exact Qj (by rw[hl];show(1:Int)<=((1:Nat):Int);lia)
 unfold ly;rw[ep];show[cY g ((q:Int) / 2).toNat]=_;rw[show((q:Int) / 2).toNat=q / 2 by lia]
theorem M5(h1:1<=p)(h2:p<=g.ld.length)(h3:gk g p=true)(h4:∀q,1<=q->q<p->gk g q=false):b_ g=some p:=by
 cases e:b_ g with
 |none=>rw[EV.mp e p h1 h2] at h3;cases h3
 |some q=>
  obtain⟨a,b,c,d⟩:=mK e;rcases Nat.lt_trichotomy q p with h|h|h
  .rw[h4 q a h] at c;cases c
  .rw[h]
  .rw[d p h1 h] at h3;cases h3
theorem ado{L:List Int}:∀{ta:Ta},(ta.map (·.1)).Nodup->tot (gp ta L h)+((gv ta L).getD []).length=tot ta+h.length:=by
 intro ta nd
 by_cases m:L∈ta.map (·.1)
 .have e:gp ta L h=ta.map λkv=>if kv.1=L then(kv.1,h) else kv:=by
   unfold gp;rw[if_pos];obtain⟨q,mq,e⟩:=abG.mp m;exact adn.mpr ⟨q,mq,aaN e⟩
  rw[e];clear e
  induction ta with
  |nil=>cases m
  |cons p ta ih=>
   obtain⟨n1,n2⟩:=abv.mp nd
   by_cases hp:p.1=L
   .rw[aax,if_pos hp,u_ (hp ▸ n1)];unfold gv tot;rw[ae3 (by simpa using hp),aax,aax,List.sum_cons,List.sum_cons];show h.length+_+p.2.length=p.2.length+_+h.length
    lia
   .have ih:=ih n2 ((aa3.mp m).resolve_left λz=>hp z.symm);rw[aax,if_neg hp];unfold gv tot at ih ⊢;rw[adU (by simpa using hp),aax,aax,List.sum_cons,List.sum_cons]
    lia
 .have hn:(ta.any λkv=>decide (kv.1=L))=false:=by
   rw[ae7];intro z;obtain⟨q,mq,e⟩:=adn.mp z;exact m (abG.mpr ⟨q,mq,aaP e⟩)
  have e1:gp ta L h=ta++[(L,h)]:=by unfold gp;rw[hn];rfl
  have e2:gv ta L=none:=by
   unfold gv;rw[aeP.mpr λq mq z=>m (abG.mpr ⟨q,mq,aaP z⟩)];rfl
  rw[e1,e2];unfold tot;rw[acZ,List.sum_append];show _+(h.length+0)+0=_
  lia
theorem L6(i:Gi k g)(c:Cn g):∃ld gr,AG (gD g) []=some (.aD,gD (bV { oG g with ld:=ld,gr:=gr }))/\Gi k (bV { oG g with ld:=ld,gr:=gr })/\Cn (bV { oG g with ld:=ld,gr:=gr }):=by
 have v:=(i.gd.cut List.nil_prefix i.gd.gr λx m=>i.gd.kg x (abn _ (by rwa [acm] at m))).re g.ta g.lk true g.gw g.en g.an (g.br + 1);have t:=i.gt;obtain⟨ld,gr,e,i',c'⟩:=ue v ⟨t.tn,t.tl,t.yl,t.em,t.el,t.gl,t.lg,λ_=>rfl,t.ll⟩ ⟨c.cc.gw,c.cc.an,c.cc.tt⟩ (.inl (by
  have h:=c.w i.gd;show cu g<=dU g*((cnt g.gr:Int)+(g.br+1));rw[<- Int.add_assoc,Int.mul_add,Int.mul_one];exact h))
 exact⟨ld,gr,abA e,i',c'⟩
theorem Di.keep(i:Gi k g)(c:Cn g)(h1:cu g1=cu g)(h2:kX g1=kX g)(h3:dU g1=dU g)(h4:g1.h=g.h)(h5:b_ g1=b_ g)(h6:cY g1=cY g)(h7:g.h=1->ly g1=g.lk):Di g1 (ly g1):=by
 unfold Di;rw[h1,h2,h3,h4,h5,h6];rcases c.di with h|⟨q,a,b,d⟩
 .exact .inl h
 .exact .inr ⟨q,a,b,λe n=>(h7 e).trans (d e n)⟩
theorem ad7(i:Gi k g)(c:Cn g):∃ld gr,Cg (gD g) []=some (.aD,gD (bV { g with ht:=false,ld:=ld,gr:=gr }))/\Gi k (bV { g with ht:=false,ld:=ld,gr:=gr })/\Cn (bV { g with ht:=false,ld:=ld,gr:=gr }):=by
 have v:=i.gd.re g.ta g.lk false g.gw g.en g.an g.br;have t:=i.gt;obtain⟨ps,K⟩:=i.ym;obtain⟨ld,gr,e,i',c'⟩:=ue v ⟨t.tn,t.tl,t.yl,t.em,t.el,t.gl,t.lg,(λq=>by cases q),t.ll⟩ ⟨c.cc.gw,c.cc.an,c.cc.tt⟩ (Di.keep i c rfl rfl rfl rfl rfl rfl λ_=>Gs ⟨K.ri,K.ge,K.le,K.eq⟩ λl m=>by
  obtain⟨_,_,_,_,_,h⟩:=i.mem m;exact(q_ i.gd l).trans h)
 exact⟨ld,gr,aaU e,i',c'⟩
theorem Ua(i:Gi k g)(c:Cn g)(hx:x∈wl g\/x∈g.ld):∃ld gr,MY (gD g) [.int x]=some (.aD,gD (bV { kM g x with ld:=ld,gr:=gr }))/\Gi k (bV { kM g x with ld:=ld,gr:=gr })/\Cn (bV { kM g x with ld:=ld,gr:=gr }):=by
 have kd:=i.gd;have i8:(1<=x/\x<=(g.C.length:Int))/\x∉g.ln/\gS g x=false:=by
  rcases hx with h|h
  .have:=iR.mp h;exact⟨this.1,this.2.1,this.2.2.2⟩
  .exact⟨kd.row x (aaM _ h),λm=>(acB.mp kd.nd).2.2 x m x h rfl,kd.kg x (aaM _ h)⟩
 have pre:(kM g x).ld <+: g.ld/\x∉(kM g x).ld:=by
  unfold kM
  by_cases m:x∈g.ld
  .dsimp only;rw[if_pos m];exact⟨AM,N1⟩
  .dsimp only;rw[if_neg m];exact⟨afc _,m⟩
 have v:=(kd.cut (gr:=putD g.gr (Sum.inl x) (.tup [.str "withdrawn"])) pre.1 (kd.gr.put (iG.mpr (by lia)) rfl) λy m=>by
  have ny:y≠x:=λe=>(abD.mp m).elim (λq=>i8.2.1 (e ▸ q)) λq=>pre.2 (e ▸ q)
  rw[m5,abN ny,Bool.false_or];exact kd.kg y ((abD.mp m).elim (abn _) λq=>aaM _ (pre.1.subset q))).re g.ta g.lk g.ht g.gw g.en g.an (g.br+1)
 have t:=i.gt;obtain⟨ld,gr,e,i',c'⟩:=ue v ⟨t.tn,t.tl,t.yl,t.em,t.el,t.gl,t.lg,(λq=>by
  have:=pre.1;rw[t.st q] at this;exact List.prefix_nil.mp this),t.ll⟩ ⟨c.cc.gw,c.cc.an,c.cc.tt⟩ (.inl (by
  have h:=c.w i.gd;have mp:=xF i.gd;refine afS h ?_;have:cnt g.gr<=cnt (putD g.gr (Sum.inl x) (.tup [.str "withdrawn"])):=by
   rw[Bs i8.2.2];exact Bg (af0 _ _)
  have:=Ft (m:=dU g) (a:=(cnt g.gr:Int)+g.br+1) (b:=(cnt (putD g.gr (Sum.inl x) (.tup [.str "withdrawn"])):Int)+(g.br+1)) (by lia) (by lia);rw[Int.mul_add,Int.mul_one] at this;exact this))
 exact⟨ld,gr,UX kd i8.1 i8.2.1 i8.2.2 e,i',c'⟩
structure Gc(n:Nat)(c:Ch):Prop where
 ee:Ee c.2.2
 bd:∀x∈c.2.1,1<=x/\x<=(n:Int)
 few:c.2.1.length<=60
 ok:vd n c.1 c.2.1 c.2.2=true
section
variable{C:List Ch}{c:Ch}{m:Int}
theorem Jm(h1:1<=m)(h2:m<=(C.length:Int)):ch (C++[c]) m=ch C m:=by
 unfold ch;rw[adz (by omega)]
theorem aaJ(h1:1<=m)(h2:m<=(C.length:Int)):lean (sec (C++[c])) m=lean (sec C) m:=by
 rw[<- uD h1 (by rw[abb,adH];lia),Jm h1 h2,uD h1 h2]
theorem Ee.nil:Ee []:=⟨⟨.nil,ad0 _⟩,.nil,λp m=>nomatch m⟩
theorem Za(g:GoodC C)(k:Gc C.length c)(hl:C.length<60):GoodC (C++[c]):=by
 have at_:∀(Q:Ch->Prop),Q (0,[],[])->Q c->(∀m,Q (ch C m))->∀m,Q (ch (C++[c]) m):=λQ q0 qc h m=>by
  unfold ch;rw[List.getElem?_append]
  split
  .exact h m
  .cases e:([c]:List Ch)[(m-1).toNat-C.length]? with
   |none=>exact q0
   |some x=>
    have:=adD e;rw[aa1.mp this];exact qc
 refine⟨by rw[abb,adH];lia,λm=>at_ (λc=>Ee c.2.2) Ee.nil k.ee (λm=>g.ed m) m,λm x h1 h2 mx=>?_,λm=>?_⟩
 .rw[abb,adH] at h2
  by_cases h3:m<=(C.length:Int)
  .rw[aaJ h1 h3] at mx;exact g.bd m x h1 h3 mx
  .have e:(ch (C++[c]) m)=c:=by
    unfold ch;rw[show(m-1).toNat=C.length by lia,aed (abH _),Nat.sub_self];rfl
   rw[<- uD h1 (by rw[abb,adH];lia),e] at mx;have:=k.bd x mx
   lia
 .by_cases h1:1<=m
  .by_cases h2:m<=((C++[c]).length:Int)
   .rw[<- uD h1 h2];refine at_ (λc=>c.2.1.length<=60) (ad0 _) k.few (λm=>?_) m;unfold ch;cases e:C[(m-1).toNat]? with
    |none=>exact ad0 _
    |some x=>
     have cj:=(abh.mp e).1;have:=g.few (((m-1).toNat:Int)+1);rw[<- uD (by lia) (by lia)] at this;unfold ch at this;rw[show((((m-1).toNat:Int)+1-1).toNat)=(m-1).toNat by lia,e] at this;exact this
   .unfold lean;rw[if_pos h1,List.getElem?_eq_none (by rw[List.length_map];lia)];exact ad0 _
  .unfold lean;rw[if_neg h1];exact ad0 _
theorem abF(h:Row C row):fV (C++[c]) row=fV C row:=ae5 λx m=>by
 unfold dJ;rw[Jm (h x m).1 (h x m).2]
end
theorem UB(i:Gi k g)(cn:Cn g)(hc:Gc g.C.length c)(hl:g.C.length<60):∃ld gr,Qw (gD g) [.int c.1,iL c.2.1,eL c.2.2]=some (.int (g.C.length+1),gD (bV { pG g c with ld:=ld,gr:=gr }))/\Gi k (bV { pG g c with ld:=ld,gr:=gr })/\Cn (bV { pG g c with ld:=ld,gr:=gr }):=by
 have v:=i.gd;have lc:(g.C++[c]).length=g.C.length+1:=by rw[abb];rfl
 have v':Gd (pG g c):=⟨v.w1,v.h1,v.nt,Za v.gc hc hl,(λx m=>by have:=v.row x m;show 1<=x/\x<=(((g.C++[c]).length:Nat):Int);rw[lc];lia),v.nd,v.ow,v.kg,⟨v.gr.im,v.gr.nd,(λq m=>by
  obtain⟨x,e,mx⟩:=v.gr.ks q m;have:=iG.mp mx;exact⟨x,e,iG.mpr (show 1<=x/\x<1+(((g.C++[c]).length:Nat):Int) by rw[lc];lia)⟩),v.gr.tp⟩,by
  obtain⟨w,h⟩:=v.run;exact⟨w,(congrArg (fW []) (abF v.row)).trans h⟩⟩
 have t:=i.gt;obtain⟨ps,K⟩:=i.ym;obtain⟨ld,gr,e,i',c'⟩:=ue v' ⟨t.tn,t.tl,t.yl,t.em,t.el,t.gl,t.lg,t.st,t.ll⟩ ⟨cn.cc.gw,cn.cc.an,cn.cc.tt⟩ (Di.keep i cn rfl rfl rfl rfl rfl rfl λ_=>Gs ⟨K.ri,K.ge,K.le,K.eq⟩ λl m=>by
  obtain⟨_,_,_,_,_,h⟩:=i.mem m;exact(q_ i.gd l).trans h)
 exact⟨ld,gr,WT (by have:=hc.few;lia) (by have:=hc.ee.ed.ln;lia) hc.ok hl e,i',c'⟩
theorem len_one{l:List (List Int)}{L:List Int}(m:L∈l)(h:(l.length:Int)<=1):l=[L]:=by
 cases l with
 |nil=>cases m
 |cons a r=>
  cases r with
  |nil=>rw[aa1.mp m]
  |cons b r=>simp only[abP] at h;lia
theorem ZH(i:Gi k g)(c:Cn g)(hk:k<=4000){L:List Int}(hL:L∈g.lk)(hw:w∈(["yes","no","unsure"]:List Str)):∃ld gr,KO (gD g) [tD L,.str w]=some (.str (word g.n g.t (hd g.ta L++[w])),gD (bV { bI g L w with ld:=ld,gr:=gr }))/\Gi (k+1) (bV { bI g L w with ld:=ld,gr:=gr })/\Cn (bV { bI g L w with ld:=ld,gr:=gr }):=by
 obtain⟨p,p1,p2,p3,eL,hm⟩:=i.mem hL;have Pg:L.length=g.ln.length+p:=by rw[eL,mS p3]
 have nL:L≠[]:=λe=>by rw[e] at Pg;simp at Pg;lia
 have t:=i.gt;have v:=i.gd;have mp:=xF v;have fa:=λ(g3:G) (hs:mJ (gD (bI g L w)) []=some (.aD,gD g3))=>acJ hL nL v t.tn (adw t.tl (by lia)) hw hm t.em (adw t.el (by lia)) (adw t.gl (by lia)) (by lia) (by lia) hs
 have B3:aN (bT g L w).en=true/\(bT g L w).en.length<=k+1:=by
  unfold bT;dsimp only
  split
  .exact⟨t.em,by have:=t.el;lia⟩
  .refine⟨sJ.mpr λd m=>?_,by rw[abb];have:=t.el;simp;lia⟩;rcases abD.mp m with m|m
   .exact sJ.mp t.em d m
   .rw[aa1.mp m];unfold tD;simp only[aC,aN,fT,afs]
 have QF:(bT g L w).ta.length<=k+1:=adw DF (by have:=t.tl;lia);have Nm:((bT g L w).ta.map (·.1)).Nodup:=Ay t.tn;have v1:Gd (bT g L w):=v.re _ g.lk g.ht g.gw _ _ g.br;have Pd:(bT g L w).an=(tot (bT g L w).ta:Int):=by
  have h1:=ado (L:=L) (h:=hd g.ta L++[w]) t.tn;have h2:=c.cc.an;rw[abb] at h1;have h1:tot (gp g.ta L (hd g.ta L++[w]))+(hd g.ta L).length=tot g.ta+((hd g.ta L).length+1):=h1;show g.an+1=(tot (gp g.ta L (hd g.ta L++[w])):Int)
  lia
 have KE:∀q∈(bT g L w).ta,(q.2.length:Int)<=g.t:=λq m=>by
  rcases zc m with m|rfl
  .exact c.cc.tt q m
  .have:=CG hm;rw[abb];show(((hd g.ta L).length+1:Nat):Int)<=_
   lia
 have uZ:∀l,wd (bT g L w) l=if l=L then word g.n g.t (hd g.ta L++[w]) else wd g l:=λl=>by
  rw[q_ v1,q_ v];show word g.n g.t (hd (gp g.ta L (hd g.ta L++[w])) l)=_;rw[IV]
  split<;>rfl
 have ne:∀r:Nat,r<=g.ld.length->r≠p->cY g r≠L:=λr hr hn e=>by
  have:=congrArg List.length e;rw[mS hr] at this
  lia
 have one:g.h=1->g.lk=[L]:=λe=>len_one hL (e ▸ t.ll)
 by_cases hy:word g.n g.t (hd g.ta L++[w])="yes"
 .have e2:bI g L w=mC (bT g L w) L:=by unfold bI;rw[hy];rfl
  have dp:L.length-g.ln.length=p:=by lia
  have ea:L++g.ld.drop p=g.ln++g.ld:=by rw[eL];unfold cY;rw[aej,List.take_append_drop]
  have v2:Gd (mC (bT g L w) L):=by
   refine⟨v.w1,v.h1,v.nt,v.gc,?_,?_,?_,?_,v.gr,?_⟩
   .show Row g.C (L++g.ld.drop (L.length-g.ln.length));rw[dp,ea];exact v.row
   .show(L++g.ld.drop (L.length-g.ln.length)).Nodup;rw[dp,ea];exact v.nd
   .show((g.ld.drop (L.length-g.ln.length)).length:Int)<=g.w;rw[List.length_drop];have:=v.ow;lia
   .show ∀x∈L++g.ld.drop (L.length-g.ln.length),gS g x=false;rw[dp,ea];exact v.kg
   .show ∃v,fW [] (fV g.C (L++g.ld.drop (L.length-g.ln.length)))=some v;rw[dp,ea];exact v.run
  have WG:(bT g L w).en.length=g.en.length+1:=by
   unfold bT;dsimp only;rw[hy,if_neg (by decide +kernel),abb];rfl
  have no:cu (mC (bT g L w) L)=cu g:=by
   unfold cu;show((bT g L w).en.length:Int)-((g.gw++[L]).length:Nat)=_;rw[WG,abb];show((g.en.length+1:Nat):Int)-((g.gw.length+1:Nat):Int)=_
   lia
  obtain⟨ld,gr,e,i',c'⟩:=ue v2 ⟨Nm,QF,(λl hl=>by
   have hl:word g.n g.t (hd (gp g.ta L (hd g.ta L++[w])) l)="yes":=hl;rw[IV] at hl;show l.length<=L.length
   split at hl
   .rename_i q;rw[q];exact abH _
   .have:=t.yl l hl;lia),B3.1,B3.2,(by show(g.gw++[L]).length<=k+1;rw[abb];have:=t.gl;simp;lia),(by show(g.gw++[L]).getLastD []=L;rw[List.getLastD_concat]),(λq=>by
   show g.ld.drop _=[];rw[t.st q,List.drop_nil]),t.ll⟩ ⟨by
    show(g.gw++[L]).length<=L.length;rw[abb];have:=c.cc.gw;show g.gw.length+1<=_
    lia,Pd,KE⟩ (by
   unfold Di;rw[no];rcases c.di with h|⟨q,a,b,d⟩
   .exact .inl h
   .obtain⟨b1,b2,b3,b4⟩:=mK a;have pq:p<q:=by
     unfold eo lG at p2;rw[a] at p2;have p2:(p:Int)<(q:Int):=p2
     lia
    have lk1:∀j:Nat,cY (mC (bT g L w) L) j=cY g (p+j):=λj=>by
     show L++(g.ld.drop (L.length-g.ln.length)).take j=g.ln++g.ld.take (p+j);rw[dp,List.take_add,<- aej];rw[eL];rfl
    have P6:∀j:Nat,1<=j->p+j<=g.ld.length->gk (mC (bT g L w) L) j=gk g (p+j):=λj h1 h2=>by
     unfold gk;rw[lk1];show bw (wd (bT g L w) (cY g (p+j)))=_;rw[uZ,if_neg (ne _ h2 (by lia))]
    have hb:b_ (mC (bT g L w) L)=some (q-p):=by
     refine M5 (by lia) ?_ ?_ λr r1 r2=>?_
     .show q-p<=(g.ld.drop (L.length-g.ln.length)).length;rw[List.length_drop];lia
     .rw[P6 _ (by lia) (by lia),show p+(q-p)=q by lia];exact b3
     .rw[P6 _ r1 (by lia)];exact b4 _ (by lia) (by lia)
    refine .inr ⟨q-p,hb,?_,λh1 n1=>MB hb (by lia) h1 λl m=>?_⟩
    .have:=z_ (h:=g.h) (show q-p<=q by lia);show cu g<=kX g+(dU g-vv g.h (q-p)+1)
     lia
    .have m:l∈g.lk:=m;rw[one h1] at m;rw[aa1.mp m];show wd (bT g L w) L≠"more";rw[uZ,if_pos rfl,hy]
     decide +kernel)
  exact⟨ld,gr,fa _ (by rw[e2];exact e),by rw[e2];exact i',by rw[e2];exact c'⟩
 .have e2:bI g L w=bT g L w:=by
   unfold bI;rw[if_neg (by simpa using hy)]
  have t1:Gt (k + 1) (bT g L w):=⟨Nm,QF,(λl hl=>by
   have hl:word g.n g.t (hd (gp g.ta L (hd g.ta L++[w])) l)="yes":=hl;rw[IV] at hl
   split at hl
   .exact absurd hl hy
   .exact t.yl l hl),B3.1,B3.2,(by have:=t.gl;show g.gw.length<=k+1;lia),t.lg,t.st,t.ll⟩
  have di:Di (bT g L w) (ly (bT g L w)):=by
   rcases Ou g.n g.t (hd g.ta L++[w]) with h|h|h
   .exact absurd h hy
   .have nm:word g.n g.t (hd g.ta L++[w])≠"more":=λz=>by rw[z] at h;revert h;decide +kernel
    have no:cu (bT g L w)=cu g+1:=by
     unfold cu bT;dsimp only;rw[if_neg (by simpa using nm),abb];show((g.en.length+1:Nat):Int)-_=_
     lia
    have nb:∀r:Nat,1<=r->r<p->gk g r=false:=λr r1 r2=>by
     cases e:b_ g with
     |none=>exact EV.mp e r r1 (by lia)
     |some q=>
      refine(mK e).2.2.2 r r1 ?_;unfold eo lG at p2;rw[e] at p2;have p2:(p:Int)<(q:Int):=p2
      lia
    have hb:b_ (bT g L w)=some p:=by
     refine M5 p1 p3 ?_ λr r1 r2=>?_
     .unfold gk;rw[uZ,if_pos (show cY (bT g L w) p=L from eL.symm)];exact h
     .unfold gk;show bw (wd (bT g L w) (cY g r))=false;rw[uZ,if_neg (ne r (by lia) (by lia))];exact nb r r1 r2
    have pw:p<=g.w.toNat:=by have:=v.ow;lia
    refine .inr ⟨p,hb,?_,λh1 n1=>MB hb (by lia) h1 λl m=>?_⟩
    .rw[no];show cu g+1<=kX g+(dU g-vv g.h p+1);rcases c.di with h|⟨q,a,b,d⟩
     .have:=z_ (h:=g.h) pw;have:(vv g.h p:Int)<=dU g:=by unfold dU;lia
      lia
     .have pq:p<q:=by
       unfold eo lG at p2;rw[a] at p2;have p2:(p:Int)<(q:Int):=p2
       lia
      have:vv g.h p+1<=vv g.h q:=by
       by_cases h1:g.h=1
       .have hl:=d h1 (by lia);rw[one h1] at hl;have hl:L=cY g (q / 2):=(List.cons.inj hl).1;have q2:=(mK a).2.1;have:=congrArg List.length hl;rw[mS (by lia)] at this;have ep:p=q / 2:=by lia
        unfold vv;rw[if_pos h1,if_pos h1,ep];have:=v.ow;have:=v.w1;rw[aet (by lia) (by lia)];exact abH _
       .unfold vv;rw[if_neg h1,if_neg h1];lia
      lia
    .have m:l∈g.lk:=m;rw[one h1] at m;rw[aa1.mp m,uZ,if_pos rfl];exact nm
   .have Jg:wd (bT g L w)=wd g:=funext λl=>by
     rw[uZ]
     split
     .rename_i q;rw[h,q,q_ v,hm]
     .rfl
    have be:b_ (bT g L w)=b_ g:=by
     unfold b_;show List.find? (gk (bT g L w)) _=_;rw[show gk (bT g L w)=gk g from funext λq=>by unfold gk;rw[Jg];rfl];rfl
    have Mh:eo (bT g L w)=eo g:=by unfold eo lG;rw[be];rfl
    obtain⟨ps,K⟩:=i.ym;refine Di.keep i c ?_ rfl rfl rfl be rfl λ_=>Gs (g:=bT g L w) (ps:=ps) ⟨by rw[Mh];exact K.ri,by rw[Mh];exact K.ge,K.le,K.eq⟩ λl m=>?_
    .unfold cu bT;dsimp only;rw[h];rw[if_pos (by decide +kernel)]
    .rw[Jg,q_ v];obtain⟨_,_,_,_,_,h⟩:=i.mem m;exact h
  obtain⟨ld,gr,e,i',c'⟩:=ue v1 t1 ⟨c.cc.gw,Pd,KE⟩ di;exact⟨ld,gr,fa _ (by rw[e2];exact e),by rw[e2];exact i',by rw[e2];exact c'⟩
def Wq(Q:Out->Prop)(o:Option Out):Prop:=∃r,o=some r/\Q r
section
variable{Q:Out->Prop}{ρ ρ':aA}{f:EF}{tf:TF}{sf sg:SF}{d:D}{t:Tag}{i j:Nat}{b:Bool}
theorem jb(h:sf ρ=some (.nx ρ'))(k:Wq Q (sg ρ')):Wq Q (cC sf sg ρ):=let⟨x,e,p⟩:=k;⟨x,sq h e,p⟩
theorem wn(h:sf ρ=some (.nx ρ'))(k:Wq Q (sg ρ')):Wq Q (cC (jk sf) sg ρ):=jb (fQ h) k
theorem gz(h:f ρ=some (d,t))(k:Wq Q (sg (iw ρ i d t))):Wq Q (cC (dQ i f) sg ρ):=jb (by rw[kY,h];rfl) k
theorem v7(h:f ρ=some (d,t))(k:Wq Q (sg (iw ρ i d t))):Wq Q (cC (jk (dQ i f)) sg ρ):=wn (by rw[kY,h];rfl) k
theorem fC(ρ':aA)(k:Wq Q (sg ρ'))(e:ρ=ρ':=by rfl):Wq Q (sg ρ):=e ▸ k
theorem tO(h:tf ρ=some b)(h1:b=true->Wq Q (sf ρ))(h2:b=false->Wq Q (sg ρ)):Wq Q (fP tf sf sg ρ):=by
 rw[je,h];cases b with
 |true=>exact h1 rfl
 |false=>exact h2 rfl
theorem J_(I:Nat->aA->Prop)(h0:I 0 ρ)(st:∀j ρ d,ds[j]? = some d->I j ρ->∃aS,g d t ρ=some aS/\Wq (λr=>∃bx,r=.nx bx/\I (j+1) bx) (sf aS)):∃ρ',dw g t sf ds ρ=some (.nx ρ')/\I ds.length ρ':=by
 obtain⟨ρ',lp,h⟩:=Jh I h0 (λj ρ d hd h=>by
  rw[afR] at h ⊢;obtain⟨aS,e1,_,e2,bx,rfl,h2⟩:=st j ρ d hd h;exact⟨aS,bx,e1,.inl e2,h2⟩)
 rw[afR] at h;exact⟨ρ',lp,h⟩
theorem QW(I:Nat->aA->Prop)(hi:it ρ=some ((bZ a n).map D.int,.own))(h0:I 0 ρ)(st:∀j ρ,j<n->I j ρ->∃aS,gN x (.int (a+j)) (.sh []) ρ=some aS/\Wq (λr=>∃bx,r=.nx bx/\I (j+1) bx) (sf aS))(k:∀ρ',I n ρ'->Wq Q (sg ρ')):Wq Q (cC (jw it (gN x) sf) sg ρ):=by
 obtain⟨ρ',e,h⟩:=J_ (ds:=(bZ a n).map D.int) I h0 (λj ρ d hd h=>by
  unfold bZ at hd;rw[acT,ab3] at hd;obtain⟨y,hy,rfl⟩:=ab9.mp hd;obtain⟨hj,e⟩:=abh.mp hy;rw[af3] at hj;rw[List.getElem_range] at e;subst e;exact st j ρ hj h)
 rw[List.length_map,nJ] at h;exact jb (sF hi e) (k ρ' h)
theorem uP{I:aA->Prop}(h:Wq (λr=>∃ρ',r=.nx ρ'/\I ρ') (sf ρ))(k:∀ρ',I ρ'->Wq Q (sg ρ')):Wq Q (cC sf sg ρ):=let⟨_,e,ρ',e2,p⟩:=h;jb (e.trans (by rw[e2])) (k ρ' p)
theorem So{I:aA->Prop}(h:Wq (λr=>∃ρ',r=.nx ρ'/\I ρ') (sf ρ))(k:∀ρ',I ρ'->Wq Q (sg ρ')):Wq Q (cC (jk sf) sg ρ):=let⟨_,e,ρ',e2,p⟩:=h;wn (e.trans (by rw[e2])) (k ρ' p)
theorem tQ{P:D->Prop}(hl:ds.length=n)(h:Wq (λr=>∃d,r=.rt d/\P d) (B (Ge N ds))):∃d,bB n N B ds=some d/\P d:=let⟨_,e,d,h,p⟩:=h;⟨d,cz hl (e.trans (by rw[h])),p⟩
theorem Eb{P:D->List D->Prop}(hl:ds.length=n)(h:Wq (λr=>(∃a es,r=.rt (.tup (a::es))/\P a es)\/∃ρ es,r=.nx ρ/\j6 J ρ=some es/\P .aD es) (B (mP J 0 ds++List.replicate (N-ds.length) none))):∃a es,mT J n N B ds=some (a,es)/\P a es:=by
 obtain⟨r,e,h⟩:=h;unfold mT;rw[if_pos hl,e];rcases h with⟨a,es,rfl,p⟩|⟨ρ,es,rfl,ho,p⟩
 .exact⟨a,es,rfl,p⟩
 .dsimp only;rw[ho];exact⟨.aD,es,rfl,p⟩
theorem O6{sl:List (Option Nat)}{ps:List (D×Tag)}(hg:g ρ=some ps)(hF:F (ps.map (·.1))=some (r,es))(ha:oA js sl ps=true:=by rfl):Aa js sl F g ρ=some (.ok r (lZ ρ js es)):=by
 unfold Aa xJ;rw[hg];dsimp only;rw[if_pos ha,hF];rfl
theorem adR{sl:List (Option Nat)}{ps:List (D×Tag)}(hg:g ρ=some ps)(hF:F (ps.map (·.1))=some (r,es))(ha:oA js sl ps=true:=by rfl):xJ js sl F g ρ=some (r,lZ ρ js es):=by
 unfold xJ;rw[hg];dsimp only;rw[if_pos ha,hF];rfl
theorem Ho{f:XR}(h:f ρ=some (.ok d ρ')):xN i f ρ=some (.nx (iw ρ' i d .own)):=by unfold xN;rw[h]
end
section
variable{g:G}
theorem TY:abc [gD g]=some (iL g.ln):=cz rfl (cZ (bC (fl rfl) uy))
theorem OV:NR [gD g]=some (iL g.ld):=cz rfl (cZ (bC (fl rfl) uy))
theorem E2:aci [gD g]=some (.lst (dD g.lk)):=cz rfl (cZ (bC (fl (d:=.lst (dD g.lk)) rfl) (if_pos (Qv _))))
theorem WZ:Rq [gD g]=some (.bl g.ht):=cz rfl (by rw[r6,fl rfl];rfl)
def outD(gr:List (Key×D))(x:Int):D:=.tup [.int x,(aV gr (Sum.inl x:Key)).getD .aD]
theorem Ud(k:Gd g):acp [gD g]=some (.lst ((cB (gR g.gr)).map (outD g.gr))):=by
 have hl:=k.gr.len;have gl:=k.gc.ln;obtain⟨ek,e⟩:=sQ k.gr.ks;have el:(gR g.gr).length=g.gr.length:=by have:=congrArg List.length ek;rw[List.length_map,List.length_map] at this;exact this.symm
 have hs:e1 lV (bJ "Gate" "grounds" (ak 0)) [some (gD g,.sh [])]=some (iL (cB (gR g.gr)),.own):=bC (fl rfl) (by
  show(match iZ g.gr with|some ns=>if ns.length<64 then some (D.lst ((cB ns).map D.int)) else none|none=>none)=_;rw[e];dsimp only;rw[if_pos (by lia)];rfl)
 have hc:=jH (js:=[none,some 0]) (g:=gN 0) (tt:=rO) (k:=λd=>match d with | .int x=>some (outD g.gr x) | _=>none) (gQ hs) (by rw[List.length_map,uJ];exact size_le (by lia)) (λd m=>by
  obtain⟨x,mx,rfl⟩:=abG.mp m;have mi:=k.gr.mem.mp (xj.mp mx);unfold bS at mi;obtain⟨v,hv⟩:=afa.mp mi;have iv:=sJ.mp k.gr.im v (by
   unfold aV at hv;obtain⟨kv,h1,rfl⟩:=ab9.mp hv;exact abG.mpr ⟨kv,aeT h1,rfl⟩)
  have hg:e2 lX (bJ "Gate" "grounds" (ak 1)) (ak 0) [some (.int x,.sh []),some (gD g,.sh [])]=some (v,.own):=aO (fl rfl) rfl (by
   show(aV g.gr (Sum.inl x:Key)).bind _=_;rw[hv,acR,if_pos iv])
  have ho:∃t,kR (ay (ak 0) (ay (e2 lX (bJ "Gate" "grounds" (ak 1)) (ak 0)) aJ)) [some (.int x,.sh []),some (gD g,.sh [])]=some (outD g.gr x,t):=by
   rw[ou,aW,aW,hg];unfold outD;rw[hv];exact⟨_,rfl⟩
  obtain⟨t,ho⟩:=ho;exact rB rfl rfl ho (by
   unfold outD;rw[hv];simp only[afA,aC,aN,iv,afs]))
 rw[aes,show((cB (gR g.gr)).filterMap ((λd=>match d with|D.int x=>some (outD g.gr x)|_=>none) ∘ D.int))=(cB (gR g.gr)).map (outD g.gr) from o8 (outD g.gr) _] at hc;exact cz rfl (cZ hc)
end
noncomputable def g0(w h n t:Int):G:=⟨w,h,n,t,[],[],[],[],[],[],false,[],[],0,0⟩
theorem adm(hw:1<=w/\w<=16)(hh:1<=h/\h<=8)(nt:1<=n/\n<=t/\t<=20):MW (.ins "Gate" []) [.int w,.int h,.int n,.int t]=some (.aD,gD (g0 w h n t)):=by
 have q:∀{i:Nat}{v b:Int},ak i [some (.ins "Gate" [],.own),some (.int w,.sh []),some (.int h,.sh []),some (.int n,.sh []),some (.int t,.sh [])]=some (.int v,.sh [])->1<=v/\v<=b->tV (cP m9 (ay (ak i) (ay (eC (.int 1)) (ay (eC (.int b)) aJ)))) [some (.ins "Gate" [],.own),some (.int w,.sh []),some (.int h,.sh []),some (.int n,.sh []),some (.int t,.sh [])]=some true:=λh hb=>(xH h).trans (by unfold inR;rw[aaN hb.1,aaN hb.2];rfl)
 refine qG (ρ:=[some (gD (g0 w h n t),.own),some (.int w,.sh []),some (.int h,.sh []),some (.int n,.sh []),some (.int t,.sh [])]) rfl (dg (kN ((Lz (q rfl hw)).trans ((Lz (q rfl hh)).trans (bO (c9 (ps:=[(.int n,.sh []),(.int t,.sh [])]) rfl (Oj nt)))))) ?_) rfl
 kernel_rfl
theorem ZQ(hw:1<=w/\w<=16)(hh:1<=h/\h<=8)(nt:1<=n/\n<=t/\t<=20):Gi 0 (g0 w h n t):=by
 refine⟨⟨hw,hh,nt,⟨ad0 _,λm=>Ee.nil,λm x h1 h2=>?_,λm=>?_⟩,(λx m=>nomatch m),.nil,?_,(λx m=>nomatch m),⟨rfl,.nil,(λk m=>nomatch m),λp m=>nomatch m⟩,[],rfl⟩,⟨.nil,abH _,λl hl=>?_,rfl,abH _,abH _,rfl,λ_=>rfl,?_⟩,⟨(λx m=>nomatch m),λ_=>⟨(λe=>nomatch e),λ_=>rfl,λ_=>.inr λx m=>nomatch m⟩⟩,[],⟨.nil,λx m=>nomatch m⟩,?_,?_,rfl⟩
 .have h2:m<=((0:Nat):Int):=h2
  lia
 .unfold lean;split<;>exact ad0 _
 .show((0:Nat):Int)<=w;lia
 .rw[show hd (g0 w h n t).ta l=[] from rfl,show word (g0 w h n t).n (g0 w h n t).t []="more" from QG nt] at hl;exact absurd hl (by decide +kernel)
 .show((0:Nat):Int)<=h;lia
 .show lim ((0:Nat)+1:Int) h<=((0:Nat):Int);unfold lim;split<;>lia
 .show((0:Nat):Int)<=h;lia
noncomputable def dI(ns:List Int):D:=.gO (ns.map D.int)
noncomputable def yk(ns:List Int)(k:Int):Int:=if 0<ns.length then ns.getD (k % ns.length).toNat 0 else 0
def iF(ns:List Int)(k p m:Int):Int:=((yk ns k+k*k)*48271+11) % p % m
theorem pB(hm:0<m):0<=iF ns k p m/\iF ns k p m<m:=⟨Int.emod_nonneg _ (by omega),Int.emod_lt_of_pos _ hm⟩
theorem qt(h:-(2 ^ 64)<j/\j<2 ^ 64):tu i j=true:=by unfold tu;rw[aaN h.1,aaN h.2];simp
theorem Dv:fN (dI ns)=some (.int ns.length):=by unfold dI;show some (D.int (ns.map D.int).length)=_;rw[List.length_map]
theorem VT(hk:0<=k/\k<=100000)(hp:0<p)(hm:0<m):tH [dI ns,.int k,.int p,.int m]=some (.int (iF ns k p m)):=by
 have e:∃d,tH [dI ns,.int k,.int p,.int m]=some d/\d=.int (iF ns k p m):=by
  refine tQ rfl (gz rfl (fC [some (dI ns,.sh []),some (.int k,.sh []),some (.int p,.sh []),some (.int m,.sh []),some (.int 0,.own)] ?_));refine uP (I:=λρ=>ρ=[some (dI ns,.sh []),some (.int k,.sh []),some (.int p,.sh []),some (.int m,.sh []),some (.int (yk ns k),.own)]) ?_ λρ e=>?_
  .refine tO (bO (aO (bC rfl Dv) rfl rfl)) (λh=>?_) λh=>?_
   .have h:=aaP h;have h0:=Int.emod_nonneg k (show(ns.length:Int)≠0 by omega);have h1:=Int.emod_lt_of_pos k h;have hx:e2 eK (ak 0) (e2 oMod (ak 1) (e1 fN (ak 0))) [some (dI ns,.sh []),some (.int k,.sh []),some (.int p,.sh []),some (.int m,.sh []),some (.int 0,.own)]=some (.int (yk ns k),.own):=aO rfl (aO rfl (bC rfl Dv) (xX h)) (Rr (by
     unfold yk;rw[if_pos (by omega)];exact NK h0 (by omega)) rfl)
    exact⟨_,by rw[kY,hx];rfl,_,rfl,rfl⟩
   .have h:=of_decide_eq_false h;refine⟨_,rfl,_,rfl,?_⟩;unfold yk;rw[if_neg (by omega)]
  .subst e;exact⟨_,cZ (aO (aO (aO (aO (aO rfl (aO rfl rfl (pH (qt (by omega)))) kH) rfl (pH (qt (by omega)))) rfl kH) rfl (xX hp)) rfl (xX hm)),_,rfl,rfl⟩
 obtain⟨_,e,rfl⟩:=e;exact e
theorem dr(h0:fs ρ=some (dI ns,t0))(h1:fk ρ=some (.int k,t1))(h2:fp ρ=some (.int p,t2))(h3:fm ρ=some (.int m,t3))(hk:0<=k/\k<=100000)(hp:0<p)(hm:0<m):cP tH (ay fs (ay fk (ay fp (ay fm aJ)))) ρ=some (.int (iF ns k p m),.own):=
 c9 (ps:=[(dI ns,t0),(.int k,t1),(.int p,t2),(.int m,t3)]) (by rw[aW,aW,aW,aW,h0,h1,h2,h3];rfl) (VT hk hp hm)
theorem zD(h:f ρ=some (.int x,t)):e2 iU (eC (.int a)) f ρ=some (.int (a+x),.own):=aO rfl h kH
noncomputable def cJ(w h n t:Int):D:=.tup [.int w,.int h,.int n,.int t]
theorem ac3(hm:1<=m):∃d,Yt [dI ns,.int m]=some d/\∃w h n t,d=cJ w h n t/\(1<=w/\w<=m)/\(1<=h/\h<=8)/\1<=n/\n<=t/\t<=4:=by
 have b1:=pB (ns:=ns) (k:=51) (p:=10499) (m:=m) (by omega);have b2:=pB (ns:=ns) (k:=52) (p:=10501) (m:=8) (by omega);have b4:=pB (ns:=ns) (k:=54) (p:=10529) (m:=2) (by omega);have b5:=pB (ns:=ns) (k:=55) (p:=10531) (m:=3) (by omega);refine tQ rfl (gz (zD (dr rfl rfl rfl rfl (by omega) (by omega) (by omega))) (gz (zD (dr rfl rfl rfl rfl (by omega) (by omega) (by omega))) ?_));generalize iF ns 51 10499 m=x1 at b1 ⊢;generalize iF ns 52 10501 8=x2 at b2 ⊢;refine fC [some (dI ns,.sh []),some (.int m,.sh []),some (.int (1+x1),.own),some (.int (1+x2),.own),none] ?_;refine uP (I:=λρ=>∃h,ρ=[some (dI ns,.sh []),some (.int m,.sh []),some (.int (1+x1),.own),some (.int h,.own),none]/\1<=h/\h<=8) (tO (bO (aO (dr rfl rfl rfl rfl (by omega) (by omega) (by omega)) rfl rfl)) (λ_=>⟨_,rfl,_,rfl,1,rfl,by omega⟩) λ_=>⟨_,rfl,_,rfl,1+x2,rfl,by omega⟩) λρ ⟨h,e,hh⟩=>?_
 subst e;refine gz (zD (dr rfl rfl rfl rfl (by omega) (by omega) (by omega))) ?_;generalize iF ns 54 10529 2=x4 at b4 ⊢;refine fC [some (dI ns,.sh []),some (.int m,.sh []),some (.int (1+x1),.own),some (.int h,.own),some (.int (1+x4),.own)] ?_;have q:=dr (ρ:=[some (dI ns,.sh []),some (.int m,.sh []),some (.int (1+x1),.own),some (.int h,.own),some (.int (1+x4),.own)]) (fs:=ak 0) (fk:=eC (.int 55)) (fp:=eC (.int 10531)) (fm:=eC (.int 3)) rfl rfl rfl rfl (by omega) (by omega) (by omega);generalize iF ns 55 10531 3=x5 at b5 q;refine⟨.rt (cJ (1+x1) h (1+x4) (1+x4+x5)),?_,_,rfl,_,_,_,_,rfl,by omega,hh,by omega⟩;have q2:e2 iU (ak 4) (cP tH (ay (ak 0) (ay (eC (.int 55)) (ay (eC (.int 10531)) (ay (eC (.int 3)) aJ))))) [some (dI ns,.sh []),some (.int m,.sh []),some (.int (1+x1),.own),some (.int h,.own),some (.int (1+x4),.own)]=some (.int (1+x4+x5),.own):=aO rfl q kH;rw[r6,ou,aW,aW,aW,aW,q2];rfl
abbrev N3:=List (Int×Ed)
def nD(N:N3):D:=.bK (N.map λp=>((Sum.inl p.1:Key),dT p.2))
structure Eo(p:Ed):Prop where
 s:0<=p.1/\p.1<=4
 o:0<=p.2.1/\p.2.1<=4
 n:0<=p.2.2/\p.2.2<=4
 d:p.2.1≠p.2.2
structure Nk(j:Nat)(N:N3):Prop where
 nd:(N.map (·.1)).Nodup
 ok:∀q∈N,q.2.1=q.1/\Eo q.2
 ln:N.length<=j
theorem Nk.put(h:Nk j N)(e:Eo p):Nk (j+1) (gp N p.1 p):=⟨Ay h.nd,λq m=>(zc m).elim (h.ok q) λz=>by rw[z];exact⟨rfl,e⟩,adw DF (by have:=h.ln;lia)⟩
structure Sv(es:gh):Prop where
 kb:Kb es
 bd:∀k,0<=gV es k/\gV es k<=4
structure Eg(E:List Ed):Prop where
 inc:(E.map (·.1)).Pairwise (· < ·)
 ok:∀p∈E,Eo p
 few:E.length<=3
theorem Eg.ee(g:Eg E):Ee E:=⟨⟨g.inc.imp λh=>by lia,by have:=g.few;lia⟩,g.inc.imp λh=>by lia,λp m=>iG.mpr (by have:=(g.ok p m).s;lia)⟩
theorem SD(N:N3):aN ((N.map λp=>((Sum.inl p.1:Key),dT p.2)).map (·.2))=true:=sJ.mpr λd m=>by
 rw[acT] at m;obtain⟨q,_,rfl⟩:=abG.mp m;rfl
theorem LD:∀N:N3,iZ (N.map λp=>((Sum.inl p.1:Key),dT p.2))=some (N.map (·.1))
 |[]=>rfl
 |q::r=>by
  rw[aax];show(iZ (r.map λp=>((Sum.inl p.1:Key),dT p.2))).map _=_;rw[LD r];rfl
theorem WM{N:N3}(m:s∈N.map (·.1)):∃p,gv N s=some p/\(s,p)∈N:=by
 unfold gv;obtain⟨q,mq,e⟩:=abG.mp m;cases h:N.find? λkv=>decide (kv.1=s) with
 |none=>exact absurd (aaN e) (aeP.mp h q mq)
 |some z=>
  have h1:=aaP (afZ (p:=λkv:Int×Ed=>decide (kv.1=s)) h);exact⟨z.2,rfl,h1 ▸ aeT h⟩
theorem C1(hk:0<=k/\k<=100000)(hp:0<p)(hm:0<m):∃v,(0<=v/\v<m)/\iF ns k p m=v:=⟨_,pB hm,rfl⟩
def rD(ns:List Int)(k:Int)(es:gh)(N:N3)(s4 s5 s6 s7:Slot):aA:=[some (dI ns,.sh []),some (.int k,.sh []),some (bH es,.sh []),some (nD N,.own),s4,s5,s6,s7]
theorem V_(hk:0<=k/\k<=100)(sv:Sv es):∃d,MQ [dI ns,.int k,bH es]=some d/\∃E,d=eL E/\Eg E:=by
 obtain⟨c,bc,ec⟩:=C1 (k:=k) (p:=10559) (m:=4) (by lia) (by lia) (by lia);have hc:=dr (ρ:=rD ns k es [] none none none none) (fs:=ak 0) (fk:=ak 1) (fp:=eC (.int 10559)) (fm:=eC (.int 4)) rfl rfl rfl rfl (by lia) (by lia) (by lia);rw[ec] at hc;obtain⟨n,rfl⟩:∃n:Nat,c=n:=⟨c.toNat,by lia⟩
 refine tQ rfl (gz rfl (fC (rD ns k es [] none none none none) ?_));refine QW (λj ρ=>∃N s4 s5 s6 s7,ρ=rD ns k es N s4 s5 s6 s7/\Nk j N) (Og hc (by lia)) ⟨[],_,_,_,_,rfl,.nil,(λq m=>nomatch m),abH _⟩ (λj ρ hj ⟨N,s4,s5,s6,s7,e,nk⟩=>?_) λρ ⟨N,s4,s5,s6,s7,e,nk⟩=>?_
 .subst e;rw[Int.zero_add];have hj:j<4:=by lia
  refine⟨rD ns k es N (some (.int j,.sh [])) s5 s6 s7,rfl,?_⟩;obtain⟨s,bs,e⟩:=C1 (k:=k+7*j) (p:=10567) (m:=5) (by lia) (by lia) (by lia);refine gz (dr rfl (aO rfl (aO rfl rfl (pH (qt (by lia)))) kH) rfl rfl (by lia) (by lia) (by lia)) ?_;rw[e];refine gz (by rw[OG];show(sI (bH es) (.int s) (.int 0)).map _=_;rw[PY];rfl) (fC (rD ns k es N (some (.int j,.sh [])) (some (.int s,.own)) (some (.int (gV es s),.own)) s7) ?_);have kj:∀s6 s7,e2 iU (ak 1) (ak 4) (rD ns k es N (some (.int j,.sh [])) (some (.int s,.own)) s6 s7)=some (.int (k+j),.own):=λ_ _=>aO rfl rfl kH
  refine uP (I:=λρ=>∃o,ρ=rD ns k es N (some (.int j,.sh [])) (some (.int s,.own)) (some (.int o,.own)) s7/\0<=o/\o<=4) (tO (bO (aO (dr rfl (kj _ _) rfl rfl (by lia) (by lia) (by lia)) rfl rfl)) (λ_=>?_) λ_=>⟨_,rfl,_,rfl,_,rfl,sv.bd s⟩) λρ ⟨o,e,ho⟩=>?_
  .have b:=pB (ns:=ns) (k:=k+j) (p:=10597) (m:=3) (by lia);exact⟨_,by rw[kY,dr rfl (kj _ _) rfl rfl (by lia) (by lia) (by lia)];rfl,_,rfl,_,rfl,b.1,by lia⟩
  subst e;obtain⟨v,bv,e⟩:=C1 (k:=k+3*j) (p:=10601) (m:=4) (by lia) (by lia) (by lia);refine gz (dr rfl (aO rfl (aO rfl rfl (pH (qt (by lia)))) kH) rfl rfl (by lia) (by lia) (by lia)) ?_;rw[e];refine fC (rD ns k es N (some (.int j,.sh [])) (some (.int s,.own)) (some (.int o,.own)) (some (.int v,.own))) ?_;refine uP (I:=λρ=>∃z,ρ=rD ns k es N (some (.int j,.sh [])) (some (.int s,.own)) (some (.int o,.own)) (some (.int z,.own))/\(0<=z/\z<=4)/\o≠z) (tO rfl (λh=>⟨_,rfl,_,rfl,o+1,rfl,by have:=eq_of_beq h;lia,by lia⟩) λh=>⟨_,rfl,_,rfl,v,rfl,by lia,λq=>by rw[q] at h;simp at h⟩) λρ ⟨z,e,hz,ne⟩=>?_
  subst e;have RV:=nk.put (p:=(s,o,z)) ⟨by show 0<=s/\s<=4;lia,ho,hz,ne⟩;refine⟨.nx (rD ns k es (gp N s (s,o,z)) (some (.int j,.sh [])) (some (.int s,.own)) (some (.int o,.own)) (some (.int z,.own))),?_,_,rfl,_,_,_,_,_,rfl,RV⟩;show(if(aC (dT (s,o,z))&&aN ((N.map λp=>((Sum.inl p.1:Key),dT p.2)).map (·.2))&&decide ((N.map λp=>((Sum.inl p.1:Key),dT p.2)).length<sizeLine))=true then some (Out.nx (bP _ 3 (.bK (putD (N.map λp=>((Sum.inl p.1:Key),dT p.2)) (Sum.inl s:Key) (dT (s,o,z)))))) else none)=_;rw[if_pos (by rw[SD,List.length_map,aaN (size_le (by have:=nk.ln;lia))];rfl),BJ (φ:=(Sum.inl:Int->Key)) (ψ:=dT) λa b=>af1];rfl
 .subst e;have hn:=nk.ln;have hs:e1 lV (ak 3) (rD ns k es N s4 s5 s6 s7)=some (iL (cB (N.map (·.1))),.own):=bC rfl (by
   show(match iZ (N.map λp=>((Sum.inl p.1:Key),dT p.2)) with|some ns=>if ns.length<64 then some (D.lst ((cB ns).map D.int)) else none|none=>none)=_;rw[LD];dsimp only;rw[if_pos (by rw[List.length_map];lia)];rfl)
  have hv:∀x∈cB (N.map (·.1)),∃p,gv N x=some p/\p.1=x/\Eo p:=λx mx=>by
   obtain⟨p,h1,h2⟩:=WM (xj.mp mx);exact⟨p,h1,nk.ok _ h2⟩
  have hc:=jH (js:=[none,some 3]) (g:=gN 0) (tt:=rO) (te:=e2 lX (ak 1) (ak 0)) (k:=λd=>match d with | .int x=>(gv N x).map dT | _=>none) (gQ hs) (by rw[List.length_map,uJ,List.length_map];exact size_le (by lia)) (λd m=>by
   obtain⟨x,mx,rfl⟩:=abG.mp m;obtain⟨p,h1,_⟩:=hv x mx;show _=some ((gv N x).map dT);rw[h1];exact qe rfl rfl (aO rfl rfl (by
    show(aV (N.map λp=>((Sum.inl p.1:Key),dT p.2)) (Sum.inl x:Key)).bind _=_;rw[xA (φ:=(Sum.inl:Int->Key)) (ψ:=dT) λa b=>af1,h1];rfl)))
  have he:((cB (N.map (·.1))).map D.int).filterMap (λd=>match d with|.int x=>(gv N x).map dT|_=>none)=((cB (N.map (·.1))).filterMap λx=>gv N x).map dT:=by
   rw[aes,List.map_filterMap];rfl
  rw[he] at hc;refine⟨_,cZ hc,_,rfl,_,rfl,?_,λp m=>?_,?_⟩
  .have e1:((cB (N.map (·.1))).filterMap λx=>gv N x).map (·.1)=cB (N.map (·.1)):=by
    have:∀l:List Int,(∀x∈l,∃p,gv N x=some p/\p.1=x/\Eo p)->(l.filterMap λx=>gv N x).map (·.1)=l:=λl=>by
     induction l with
     |nil=>intro _;rfl
     |cons x r ih=>
      intro h;obtain⟨p,h1,h2,_⟩:=h x aar;rw[aef,h1];dsimp only;rw[aax,h2,ih λy m=>h y (aaa _ m)]
    exact this _ hv
   rw[e1];exact abE nk.nd
  .obtain⟨x,mx,e⟩:=afU.mp m;obtain⟨q,h1,_,h3⟩:=hv x mx;rw[h1] at e;cases e;exact h3
  .have:=List.length_filterMap_le (λx=>gv N x) (cB (N.map (·.1)));rw[uJ,List.length_map] at this
   lia
def rS(ns:List Int)(k:Int)(es:gh)(m:Int)(s4 s5 s6 s7 s8:Slot):aA:=[some (dI ns,.sh []),some (.int k,.sh []),some (bH es,.own),some (.int m,.sh []),s4,s5,s6,s7,s8]
def s_(c:Ch):D:=.tup [.int c.1,iL c.2.1,eL c.2.2]
theorem Sv.eT(s:Sv es)(g:Eg E):Sv (eT es E):=by
 refine⟨s.kb.eT g.ee,λk=>?_⟩;obtain⟨g1,g2⟩:=Ba E es k g.ee.nd
 by_cases mj:k∈E.map (·.1)
 .obtain⟨p,mp,rfl⟩:=abG.mp mj;unfold gV;rw[g1 p mp rfl];exact(g.ok p mp).n
 .unfold gV;rw[g2 mj];exact s.bd k
theorem Zb(h:Eo p):qQ p=true:=by
 have h1:=h.s;have h2:=h.o;have h3:=h.n;unfold qQ inR;rw[aaN h1.1,aaN (show p.1<=999 by lia),aaN h2.1,aaN (show p.2.1<=1000000000 by lia),aaN h3.1,aaN (show p.2.2<=1000000000 by lia),show(p.2.1==p.2.2)=false from by simpa using h.d];rfl
theorem abl{m:Nat}(hk:0<=k/\k<=100)(sv:Sv es)(hm:m<=60):∃a e,QU [dI ns,.int k,bH es,.int m]=some (a,e)/\∃c,a=s_ c/\e=[bH (eT es c.2.2)]/\Gc m c/\Eg c.2.2:=by
 refine Eb rfl (v7 rfl (fC (rS ns k es m (some (iL [],.own)) none none none none) ?_));refine So (I:=λρ=>∃l:List Int,ρ=rS ns k es m (some (iL l,.own)) none none none none/\l.Pairwise (· < ·)/\(∀x∈l,1<=x/\x<=(m:Int))/\l.length<=60) (tO (bO (aO (dr rfl rfl rfl rfl (by lia) (by lia) (by lia)) rfl rfl)) (λ_=>?_) λ_=>⟨_,rfl,_,rfl,[],rfl,.nil,(λx m=>nomatch m),by simp⟩) λρ ⟨l,e,l1,l2,l3⟩=>?_
 .have hi:qg (eC (.int 1)) (e2 iU (ak 3) (eC (.int 1))) (rS ns k es m (some (iL [],.own)) none none none none)=some ((bZ 1 m).map D.int,.own):=by
   rw[B_ rfl rfl (oW (by lia) (by lia)) (oW (by lia) (by lia)),show((m:Int)+1-1).toNat=m by lia]
  have hc:=xS (js:=[none,some 0,some 1]) (tt:=tV (e2 oEq (cP tH (ay (ak 1) (ay (e2 iU (ak 2) (e2 xC (eC (.int 5)) (ak 0))) (ay (eC (.int 10613)) (ay (eC (.int 4)) aJ))))) (eC (.int 0)))) hi (by rw[nJ];lia) (λx=>rfl) (λx mx=>by
   have:=iG.mp mx;exact bO (aO (dr rfl (aO rfl (aO rfl rfl (pH (qt (by lia)))) kH) rfl rfl (by lia) (by lia) (by lia)) rfl rfl))
  refine⟨_,by rw[kY,hc];rfl,_,rfl,_,rfl,(AL 1 m).sublist aeE,λx mx=>by have:=iG.mp (acy.mp mx).1;lia,?_⟩;have:=aeb (λx=>iF ns (k+5*x) 10613 4==0) (bZ 1 m);rw[nJ] at this
  lia
 subst e;obtain⟨_,fE,E,rfl,gE⟩:=V_ hk sv;have b:=pB (ns:=ns) (k:=k) (p:=10627) (m:=10) (by lia);have hd:=dr (ρ:=rS ns k es m (some (iL l,.own)) none none none none) (fs:=ak 0) (fk:=ak 1) (fp:=eC (.int 10627)) (fm:=eC (.int 10)) rfl rfl rfl rfl (by lia) (by lia) (by lia);generalize iF ns k 10627 10=r at b hd;have ht:yT (cP tH (ay (ak 0) (ay (ak 1) (ay (eC (.int 10627)) (ay (eC (.int 10)) aJ))))) 4 (cP MQ (ay (ak 0) (ay (ak 1) (ay (ak 2) aJ)))) (rS ns k es m (some (iL l,.own)) none none none none)=some (.ok (s_ (r,l,E)) (rS ns k es m none none none none none)):=by
  unfold yT;rw[hd,c9 rfl fE];rfl
 refine wn (Ho ht) (fC (rS ns k es m none (some (s_ (r,l,E),.own)) none none none) ?_);have kl:=sv.kb.len;have el:=gE.few;obtain⟨t6,t7,t8,lp⟩:=Ca (g:=gT (eW (gN 6) (eW (gN 7) (eW (gN 8) m_)))) (f:=qz 2 (ak 6) (ak 8)) (λv x y z=>rS ns k v m none (some (s_ (r,l,E),.lk)) x y z) (λ_ _ _ _ _=>rfl) (λv p h=>DX rfl rfl rfl h) (E:=E) (v:=es) (by lia);refine wn (xZ rfl lp) (fC (rS ns k (eT es E) m none (some (s_ (r,l,E),.own)) t6 t7 t8) ?_);refine⟨_,rfl,.inl ⟨_,_,rfl,(r,l,E),rfl,rfl,⟨gE.ee,l2,l3,?_⟩,gE⟩⟩;unfold vd wR inR;rw[aaN b.1,aaN (show r<=9 by lia),GN l1,GN gE.inc,ac4.mpr (λp mp=>Zb (gE.ok p mp)),aaN (show(E.length:Int)<=20 by lia),ac4.mpr (λx mx=>by rw[aaN (l2 x mx).1,aaN (l2 x mx).2];rfl)];rfl
theorem aeH(ht:0<=t/\t<=100000):∃d,adi [dI ns,tD l,.int t]=some d/\∃w:Str,d=.str w/\w∈(["yes","no","unsure"]:List Str):=by
 refine tQ rfl (gz rfl ?_);obtain⟨ρ',lp,x,tg,s4,e,hx⟩:=J_ (g:=gN 4) (t:=.sh []) (ds:=l.map D.int) (sf:=dQ 3 (e2 oMod (e2 iU (e2 xC (ak 3) (eC (.int 67))) (ak 4)) (eC (.int 1000003)))) (λ_ ρ=>∃x tg s4,ρ=[some (dI ns,.sh []),some (tD l,.sh []),some (.int t,.sh []),some (.int x,tg),s4,none]/\0<=x) ⟨t,_,_,rfl,ht.1⟩ (λj ρ d hd ⟨x,tg,s4,e,hx⟩=>by
  subst e;rw[ab3] at hd;obtain⟨y,hy,rfl⟩:=ab9.mp hd;have hm:e2 oMod (e2 iU (e2 xC (ak 3) (eC (.int 67))) (ak 4)) (eC (.int 1000003)) [some (dI ns,.sh []),some (tD l,.sh []),some (.int t,.sh []),some (.int x,tg),some (.int y,.sh []),none]=some (.int ((x*67+y) % 1000003),.own):=aO (aO (aO rfl rfl (pH (qt (by lia)))) rfl kH) rfl (xX (by lia));exact⟨[some (dI ns,.sh []),some (tD l,.sh []),some (.int t,.sh []),some (.int x,tg),some (.int y,.sh []),none],rfl,.nx [some (dI ns,.sh []),some (tD l,.sh []),some (.int t,.sh []),some (.int ((x*67+y) % 1000003),.own),some (.int y,.sh []),none],by rw[kY,hm];rfl,_,rfl,_,_,_,rfl,Int.emod_nonneg _ (by lia)⟩)
 subst e;refine jb (Af (acS rfl) lp) ?_;have h0:=Int.emod_nonneg x (show(4001:Int)≠0 by lia);have h1:=Int.emod_lt_of_pos x (show(0:Int)<4001 by lia);refine gz (dr rfl (aO rfl rfl (xX (by lia))) rfl rfl (by lia) (by lia) (by lia)) ?_;generalize iF ns (x % 4001) 100057 12=v;refine fC [some (dI ns,.sh []),some (tD l,.sh []),some (.int t,.sh []),some (.int x,tg),s4,some (.int v,.own)] ?_;have q:=zD (a:=5) (dr (ρ:=[some (dI ns,.sh []),some (tD l,.sh []),some (.int t,.sh []),some (.int x,tg),s4,some (.int v,.own)]) (fs:=ak 0) (fk:=eC (.int 56)) (fp:=eC (.int 10631)) (fm:=eC (.int 6)) rfl rfl rfl rfl (by lia) (by lia) (by lia));have q1:=bO (aO (f:=ak 5) rfl q uS);have q2:tV (e2 oEq (ak 5) (eC (.int 11))) [some (dI ns,.sh []),some (tD l,.sh []),some (.int t,.sh []),some (.int x,tg),s4,some (.int v,.own)]=some (v==11):=rfl;have fin:∀w:Str,w∈(["yes","no","unsure"]:List Str)->∃d,Out.rt (D.str w)=.rt d/\∃w:Str,d=.str w/\w∈(["yes","no","unsure"]:List Str):=λw m=>⟨_,rfl,w,rfl,m⟩
 cases b1:decide (v<5+iF ns 56 10631 6) with
 |true=>rw[b1] at q1;exact⟨_,f_ (gH q1 rfl),fin "yes" (by decide +kernel)⟩
 |false=>
  rw[b1] at q1;cases b2:v==11 with
  |true=>rw[b2] at q2;exact⟨_,dg q1 (f_ (gH q2 rfl)),fin "unsure" (by decide +kernel)⟩
  |false=>rw[b2] at q2;exact⟨_,dg q1 (dg q2 rfl),fin "no" (by decide +kernel)⟩
theorem Kc(h:l≠[]):qy (tD l)=some (kL l):=by
 unfold qy tD;dsimp only;rw[vD];dsimp only;rw[if_pos ⟨by unfold kL;rw[afT];exact ac4.mpr λ_ _=>rfl,λz=>h (List.map_eq_nil_iff.mp z)⟩]
theorem uV{ps:List (D×Tag)}(h0:ρ[i]? = some (some (gD g,.own)))(ha:ga ρ=some ps)(h:F (gD g) (ps.map (·.1))=some (r,gD g'))(hp:apart i ps=true:=by rfl)(hm:(gF g).lookup m=none:=by rfl):sZ (xO i "Gate" m F ga) ρ=some (.nx (bP ρ i (gD g'))):=by
 unfold sZ xO;rw[h0,ha];show Option.map _ (if("Gate":Str)="Gate"/\(gF g).lookup m=none/\apart i ps=true then(F (gD g) (ps.map (·.1))).map _ else none)=_;rw[if_pos ⟨rfl,hm,hp⟩,h];rfl
theorem Y5{L:List (List Int)}{v:Int}(h:0<=v/\v<L.length):∃l∈L,eK (.lst (dD L)) (.int v)=some (tD l):=by
 have cj:v.toNat<L.length:=by lia
 refine⟨L[v.toNat],List.getElem_mem cj,uI ?_ (fT _)⟩;unfold dM gJ dD;rw[List.length_map,if_pos (by lia),if_pos (by lia),acR,ab3,aaR cj];rfl
theorem Xo(h:0<=i/\i<l.length):∃x∈l,eK (iL l) (.int i)=some (.int x):=by
 have cj:i.toNat<l.length:=by omega
 refine⟨l[i.toNat],List.getElem_mem cj,uI ?_ rfl⟩;unfold dM gJ;rw[List.length_map,if_pos (by omega),if_pos (by omega),acR,ab3,aaR cj];rfl
theorem Er:fN (iL l)=some (.int l.length):=by unfold iL;rw[sY,List.length_map]
theorem IU{L:List (List Int)}:fN (.lst (dD L))=some (.int L.length):=by show some (D.int (dD L).length)=_;unfold dD;rw[List.length_map]
def m7(R:Ta):List (List Key×D):=R.map λp=>(kL p.1,hs p.2)
def uL(R:Ta):D:=.cM (m7 R)
theorem acs(hm:word n t h="more"):(dG "yes" h:Int)<n/\(dG "no" h:Int)<n/\(h.length:Int)<t:=by
 unfold word at hm
 split at hm
 .exact absurd hm (by decide +kernel)
 .split at hm
  .exact absurd hm (by decide +kernel)
  .split at hm
   .exact absurd hm (by decide +kernel)
   .omega
theorem Wn(hm:word n t h="more"):OJ [hs (h++[u]),cJ w8 h8 n t]=some (.str (word n t (h++[u]))):=by
 obtain⟨l1,l2,l3⟩:=acs hm;have a1:=Mi (h:=h) (w:="yes") (v:=u);have a2:=Mi (h:=h) (w:="no") (v:=u);have b1:dG "yes" (h++[u])<=dG "yes" h+1:=by rw[a1];split<;>lia
 have b2:dG "no" (h++[u])<=dG "no" h+1:=by rw[a2];split<;>lia
 have b3:(h++[u]).length=h.length+1:=by rw[abb];rfl
 generalize h++[u]=x at b1 b2 b3 a1 a2;have c1:∀(v:Str) (s:Slot) (tg:Tag),ak 2 [some (hs x,.sh []),some (cJ w8 h8 n t,.sh []),s]=some (.str v,tg)->tV (e2 oEq (e2 uT (ak 0) (ak 2)) (e2 eK (ak 1) (eC (.int 2)))) [some (hs x,.sh []),some (cJ w8 h8 n t,.sh []),s]=some ((dG v x:Int)==n):=λv s tg e=>bO (aO (aO rfl e Na) rfl rfl)
 have c2:∀s,tV (e2 oEq (e1 fN (ak 0)) (e2 eK (ak 1) (eC (.int 3)))) [some (hs x,.sh []),some (cJ w8 h8 n t,.sh []),s]=some ((x.length:Int)==t):=λs=>bO (aO (bC rfl Dg) rfl rfl)
 have st:∀(v:Str) (s:Slot),gN 2 (.str v) (.sh []) [some (hs x,.sh []),some (cJ w8 h8 n t,.sh []),s]=some [some (hs x,.sh []),some (cJ w8 h8 n t,.sh []),some (.str v,.sh [])]:=λv s=>rfl
 refine cz rfl ?_;unfold word
 by_cases h1:(dG "yes" x:Int) >= n
 .rw[if_pos h1];exact f_ (zh (gQ rfl) (AB (st "yes" none) (gH ((c1 "yes" _ (.sh []) rfl).trans (by rw[show((dG "yes" x:Int)==n)=true from by simpa using(show(dG "yes" x:Int)=n by lia)])) rfl)))
 .rw[if_neg h1];have k1:=lB (ds:=[.str "no"]) (f:=fP (tV (e2 oEq (e2 uT (ak 0) (ak 2)) (e2 eK (ak 1) (eC (.int 2))))) (pF 2) g9) (st "yes" none) (iO ((c1 "yes" _ (.sh []) rfl).trans (by rw[show((dG "yes" x:Int)==n)=false from by simpa using(show(dG "yes" x:Int)≠n by lia)])) rfl)
  by_cases h2:(dG "no" x:Int) >= n
  .rw[if_pos h2];exact f_ (zh (gQ rfl) (k1.trans (AB (st "no" _) (gH ((c1 "no" _ (.sh []) rfl).trans (by rw[show((dG "no" x:Int)==n)=true from by simpa using(show(dG "no" x:Int)=n by lia)])) rfl))))
  .rw[if_neg h2];have k2:=k1.trans (lB (st "no" _) (iO ((c1 "no" _ (.sh []) rfl).trans (by rw[show((dG "no" x:Int)==n)=false from by simpa using(show(dG "no" x:Int)≠n by lia)])) rfl));refine sq (sF (gQ rfl) k2) ?_
   by_cases h3:(x.length:Int) >= t
   .rw[if_pos h3];exact f_ (gH ((c2 _).trans (by rw[show((x.length:Int)==t)=true from by simpa using(show(x.length:Int)=t by lia)])) rfl)
   .rw[if_neg h3];exact dg ((c2 _).trans (by rw[show((x.length:Int)==t)=false from by simpa using(show(x.length:Int)≠t by lia)])) rfl
theorem HP{L:List Int}:(bI g L w).ta=gp g.ta L (hd g.ta L++[w]):=by unfold bI;split<;>rfl
theorem ZS(h:a.length+b.length<=1000):fX (hs a) (hs b)=some (hs (a++b)):=by
 show(if(aN (a.map D.str)&&aN (b.map D.str)&&decide ((a.map D.str).length+(b.map D.str).length<=sizeLine))=true then some (D.lst (a.map D.str++b.map D.str)) else none)=_;rw[if_pos (by rw[Bo,Bo,List.length_map,List.length_map,aaN (by rw[aeI];lia)];rfl)];unfold hs;rw[acZ]
theorem JY{es:List (List Key×D)}(h1:fv ρ=some (d,t))(h2:ρ[i]? = some (some (.cM es,.own)))(h3:fk ρ=some (tD l,t'))(nl:l≠[])(hi:(jR t||aC d)=true)(nd:(es.map (·.1)).Nodup)(hl:es.length<sizeLine):vL i fk fv ρ=some (.nx (bP ρ i (.cM (putD es (kL l) d)))):=by
 unfold vL;rw[h1,h2,h3];dsimp only;rw[Kc nl];dsimp only;rw[if_pos ⟨hi,nd,hl⟩]
def rA(ns:List Int)(q:Int)(g:G)(T:Ta)(s:D)(l:List (List Int))(s6 s7 s8:Slot):aA:=[some (dI ns,.sh []),some (.int q,.sh []),some (gD g,.own),some (uL T,.own),some (s,.sh []),some (.lst (dD l),.own),s6,s7,s8]
theorem aek(hq:0<=q/\q<=100000)(i:Gi k g)(c:Cn g)(hk:k<=4000)(hl:g.lk≠[]):∃a e,Z4 [dI ns,.int q,gD g,uL g.ta,cJ w8 h8 g.n g.t]=some (a,e)/\∃L w ld gr,L∈g.lk/\a=.str (word g.n g.t (hd g.ta L++[w]))/\e=[gD (bV { bI g L w with ld:=ld,gr:=gr }),uL (bI g L w).ta]/\Gi (k+1) (bV { bI g L w with ld:=ld,gr:=gr })/\Cn (bV { bI g L w with ld:=ld,gr:=gr }):=by
 have ll:=List.length_pos_iff.mpr hl;have b:=pB (ns:=ns) (k:=q) (p:=100103) (m:=(g.lk.length:Int)) (by lia);obtain⟨l,ml,hx⟩:=Y5 b;obtain⟨p,p1,p2,p3,el,hm⟩:=i.mem ml;have nl:l≠[]:=λe=>by
  have:=mS p3;rw[<- el,e] at this;simp at this
  lia
 have cj:=CG hm;have nt:=i.gd.nt;refine Eb rfl (v7 (gA rfl E2) (fC (rA ns q g g.ta (cJ w8 h8 g.n g.t) g.lk none none none) ?_));refine v7 (aO rfl (dr rfl rfl rfl (bC rfl IU) hq (by lia) (by lia)) hx) (fC (rA ns q g g.ta (cJ w8 h8 g.n g.t) g.lk (some (tD l,.own)) none none) ?_);refine v7 (t:=.sh [3]) ?_ (fC (rA ns q g g.ta (cJ w8 h8 g.n g.t) g.lk (some (tD l,.own)) (some (hs (hd g.ta l),.sh [3])) none) ?_)
 .show(qy (tD l)).map (λk=>((aV (m7 g.ta) k).getD (.lst []),Tag.sh [3]))=_;rw[Kc nl,Option.map_some,show aV (m7 g.ta) (kL l)=_ from xA (φ:=kL) (ψ:=hs) (λ_ _=>mX) _];show some (((gv g.ta l).map hs).getD (.lst []),Tag.sh [3])=some (hs ((gv g.ta l).getD []),Tag.sh [3]);cases gv g.ta l<;>rfl
 obtain⟨_,fw,w,rfl,mw⟩:=aeH (t:=((hd g.ta l).length:Int)) (by lia);refine v7 (c9 (ps:=[(dI ns,.sh []),(tD l,.sh [6]),(.int (hd g.ta l).length,.own)]) (by rw[aW,aW,aW,bC rfl Dg];rfl) fw) (fC (rA ns q g g.ta (cJ w8 h8 g.n g.t) g.lk (some (tD l,.own)) (some (hs (hd g.ta l),.sh [3])) (some (.str w,.own))) ?_);have tl:=i.gt.tl;refine wn (ρ':=(rA ns q g ((bI g l w).ta) (cJ w8 h8 g.n g.t) g.lk (some (tD l,.own)) none (some (.str w,.own)))) ?_ ?_
 .have hv:e2 fX (ak 7) (jq (ay (ak 8) aJ)) (rA ns q g g.ta (cJ w8 h8 g.n g.t) g.lk (some (tD l,.own)) (some (hs (hd g.ta l),.sh [3])) (some (.str w,.own)))=some (hs (hd g.ta l++[w]),.own):=aO (d2:=hs [w]) rfl rfl (ZS (by show _+1<=_;lia));have nd:((m7 g.ta).map (·.1)).Nodup:=by
   unfold m7;rw[acT,show((λkv:List Key×D=>kv.1) ∘ λp:List Int×List Str=>(kL p.1,hs p.2))=kL ∘ (·.1) from rfl,<- acT];have tn:=i.gt.tn;unfold List.Nodup at tn ⊢;rw[aeX];exact tn.imp λq e=>q (mX e)
  rw[JY (es:=m7 g.ta) hv rfl rfl nl rfl nd (size_le (by unfold m7;rw[List.length_map];lia)),show putD (m7 g.ta) (kL l) (hs (hd g.ta l++[w]))=m7 (gp g.ta l (hd g.ta l++[w])) from BJ (φ:=kL) (ψ:=hs) λ_ _=>mX,<- HP];rfl
 obtain⟨ld,gr,fa,i',c'⟩:=ZH i c hk ml mw;refine wn (uV rfl rfl fa) (fC (rA ns q (bV { bI g l w with ld:=ld,gr:=gr }) ((bI g l w).ta) (cJ w8 h8 g.n g.t) g.lk (some (tD l,.own)) none (some (.str w,.own))) ?_);have hi:yN (ak 3) (ak 6) (rA ns q (bV { bI g l w with ld:=ld,gr:=gr }) ((bI g l w).ta) (cJ w8 h8 g.n g.t) g.lk (some (tD l,.own)) none (some (.str w,.own)))=some (hs (hd g.ta l++[w]),.sh [3]):=by
  show(iA (l.map D.int)).bind _=_;rw[vD,acR,show aV (m7 (bI g l w).ta) (kL l)=_ from xA (φ:=kL) (ψ:=hs) (λ_ _=>mX) _,HP,Ef];rfl
 have hr:cP OJ (ay (yN (ak 3) (ak 6)) (ay (ak 4) aJ)) (rA ns q (bV { bI g l w with ld:=ld,gr:=gr }) ((bI g l w).ta) (cJ w8 h8 g.n g.t) g.lk (some (tD l,.own)) none (some (.str w,.own)))=some (.str (word g.n g.t (hd g.ta l++[w])),.own):=c9 (ps:=[(hs (hd g.ta l++[w]),.sh [3]),(cJ w8 h8 g.n g.t,.sh [])]) (by rw[aW,aW,hi];rfl) (Wn hm);refine⟨.rt (.tup [.str (word g.n g.t (hd g.ta l++[w])),gD (bV { bI g l w with ld:=ld,gr:=gr }),uL (bI g l w).ta]),?_,.inl ⟨_,_,rfl,l,w,ld,gr,ml,rfl,rfl,i',c'⟩⟩;unfold oX;rw[hr];rfl
def rY(ns:List Int)(q:Int)(b:Bool)(L:List (List Int))(O:List Int)(v:Int):aA:=[some (dI ns,.sh []),some (.int q,.sh []),some (.bl b,.sh []),some (.lst (dD L),.sh []),some (iL O,.sh []),some (.int v,.own)]
theorem aaK{L:List (List Int)}(hq:0<=q/\q<=100000):∃d,V7 [dI ns,.int q,.bl b,.lst (dD L),iL O]=some d/\∃s:Str,d=.str s/\(s="answer"->L≠[])/\(s="withdraw"->O≠[])/\(s="go"\/s="ask"\/s="answer"\/s="withdraw"\/s="stop"):=by
 refine tQ rfl (gz (dr rfl rfl rfl rfl hq (by lia) (by lia)) ?_);generalize iF ns q 100069 10=v;refine fC (rY ns q b L O v) ?_;have fin:∀s:Str,(s="answer"->L≠[])->(s="withdraw"->O≠[])->(s="go"\/s="ask"\/s="answer"\/s="withdraw"\/s="stop")->∃d,Out.rt (D.str s)=.rt d/\∃s:Str,d=.str s/\(s="answer"->L≠[])/\(s="withdraw"->O≠[])/\(s="go"\/s="ask"\/s="answer"\/s="withdraw"\/s="stop"):=λs h1 h2 h3=>⟨_,rfl,s,rfl,h1,h2,h3⟩
 have t1:jC (tV (ak 2)) (tV (e2 vn (ak 5) (eC (.int 2)))) (rY ns q b L O v)=some (b&&decide (2<v)):=uo rfl (bO (aO rfl rfl Hi));cases c1:b&&decide (2<v) with
 |true=>rw[c1] at t1;exact⟨_,f_ (gH t1 rfl),fin "go" (λh=>absurd h (by decide +kernel)) (λh=>absurd h (by decide +kernel)) (.inl rfl)⟩
 |false=>
  rw[c1] at t1;have t2:mQ (jC (tV (e2 oLt (ak 5) (eC (.int 4)))) (tV (e2 oLt (ak 1) (eC (.int 40))))) (mQ (jC (tV (e2 oLt (ak 5) (eC (.int 8)))) (tV (e2 oEq (e1 fN (ak 3)) (eC (.int 0))))) (jC (tV (e2 oEq (ak 5) (eC (.int 8)))) (tV (e2 oEq (e1 fN (ak 4)) (eC (.int 0)))))) (rY ns q b L O v)=some (decide (v<4)&&decide (q<40)||(decide (v<8)&&((L.length:Int)==0)||(v==8)&&((O.length:Int)==0))):=
   zK (uo (bO (aO rfl rfl uS)) (bO (aO rfl rfl uS))) (zK (uo (bO (aO rfl rfl uS)) (bO (aO (bC rfl IU) rfl rfl))) (uo rfl (bO (aO (bC rfl Er) rfl rfl))))
  cases c2:(decide (v<4)&&decide (q<40)||(decide (v<8)&&((L.length:Int)==0)||(v==8)&&((O.length:Int)==0))) with
  |true=>rw[c2] at t2;exact⟨_,dg t1 (f_ (gH t2 rfl)),fin "ask" (λh=>absurd h (by decide +kernel)) (λh=>absurd h (by decide +kernel)) (.inr (.inl rfl))⟩
  |false=>
   rw[c2] at t2;obtain⟨_,c2⟩:=(Bool.or_eq_false_iff).mp c2;obtain⟨c3,c4⟩:=(Bool.or_eq_false_iff).mp c2;have t3:tV (e2 oLt (ak 5) (eC (.int 8))) (rY ns q b L O v)=some (decide (v<8)):=bO (aO rfl rfl uS);cases c5:decide (v<8) with
   |true=>
    rw[c5] at t3 c3;exact⟨_,dg t1 (dg t2 (f_ (gH t3 rfl))),fin "answer" (λ_ e=>by rw[e] at c3;cases c3) (λh=>absurd h (by decide +kernel)) (.inr (.inr (.inl rfl)))⟩
   |false=>
    rw[c5] at t3;have t4:tV (e2 oEq (ak 5) (eC (.int 8))) (rY ns q b L O v)=some (v==8):=rfl;cases c6:v==8 with
    |true=>
     rw[c6] at t4 c4;exact⟨_,dg t1 (dg t2 (dg t3 (f_ (gH t4 rfl)))),fin "withdraw" (λh=>absurd h (by decide +kernel)) (λ_ e=>by rw[e] at c4;cases c4) (.inr (.inr (.inr (.inl rfl))))⟩
    |false=>
     rw[c6] at t4;exact⟨_,dg t1 (dg t2 (dg t3 (dg t4 rfl))),fin "stop" (λh=>absurd h (by decide +kernel)) (λh=>absurd h (by decide +kernel)) (.inr (.inr (.inr (.inr rfl))))⟩
structure Dn(g:G)(a:Int)(g':G):Prop where
 w:g'.w=g.w
 h:g'.h=g.h
 n:g'.n=g.n
 t:g'.t=g.t
 ta:g'.ta=g.ta
 gw:g'.gw=g.gw
 en:g'.en=g.en
 an:g'.an=g.an
 br:g'.br=g.br+a
def Dz(k m:Nat)(g:G)(s:Str)(a:D)(e:List D):Prop:=∃(b:Int) (g':G) (cU:gh),a=.int b/\e=[gD g',bH cU]/\Gi k g'/\Cn g'/\Sv cU/\Dn g b g'/\(0<=b/\b<=2)/\g'.C.length=(if s="ask" then m+1 else m)
def rN(ns:List Int)(q:Int)(s:Str)(g:G)(es:gh)(m:Nat)(s6 s7:Slot):aA:=[some (dI ns,.sh []),some (.int q,.sh []),some (.str s,.sh []),some (gD g,.own),some (bH es,.own),some (.int m,.sh []),s6,s7]
theorem zm(e:f (rN ns q s g' cU m s6 s7)=some (.int b,.own))(h:Dz k m g s (.int b) [gD g',bH cU]):Wq (λr=>(∃a es,r=.rt (.tup (a::es))/\Dz k m g s a es)\/∃ρ es,r=.nx ρ/\j6 [3,4] ρ=some es/\Dz k m g s .aD es) (oX f [3,4] (rN ns q s g' cU m s6 s7)):=by
 refine⟨.rt (.tup [.int b,gD g',bH cU]),?_,.inl ⟨_,_,rfl,h⟩⟩;unfold oX;rw[e];rfl
theorem YY(h:sf ρ=some (.rt d))(q:Q (.rt d)):Wq Q (cC sf sg ρ):=⟨_,f_ h,q⟩
theorem Sh{s:Str}(hq:0<=q/\q<=100)(i:Gi k g)(c:Cn g)(sv:Sv es)(hm:g.C.length=m)(pW:m<60)(ho:s="withdraw"->wl g++g.ld≠[])(hs:s="go"\/s="ask"\/s="withdraw"\/s="stop"):∃a e,Ys [dI ns,.int q,.str s,gD g,bH es,.int m]=some (a,e)/\Dz k m g s a e:=by
 have gl:=i.gd.gc.ln;have ll:=i.gd.len;have wl':=BK (g:=g);refine Eb rfl (fC (rN ns q s g es m none none) ?_);have t1:tV (e2 oEq (ak 2) (eC (.str "ask"))) (rN ns q s g es m none none)=some (s == "ask"):=rfl;have t2:tV (e2 oEq (ak 2) (eC (.str "withdraw"))) (rN ns q s g es m none none)=some (s == "withdraw"):=rfl;have t3:tV (e2 oEq (ak 2) (eC (.str "stop"))) (rN ns q s g es m none none)=some (s == "stop"):=rfl;cases c1:s == "ask" with
 |true=>
  have cU:=eq_of_beq c1;rw[c1] at t1;clear c1 t2 t3;subst cU;obtain⟨a,e,Yv,ch,rfl,rfl,gc,eg⟩:=abl (k:=q) (m:=m) (by lia) sv (by lia);obtain⟨ld,gr,fa,i',c'⟩:=UB i c (by rw[hm];exact gc) (by lia);have st:xN 6 (Aa [4] [none,none,some 4,none] QU (ay (ak 0) (ay (ak 1) (G4 4 (ay (ak 5) aJ))))) (rN ns q "ask" g es m none none)=some (.nx (rN ns q "ask" g (eT es ch.2.2) m (some (s_ ch,.own)) none)):=Ho (O6 (ps:=[(dI ns,.sh []),(.int q,.sh []),(bH es,.sh [4]),(.int m,.sh [])]) rfl Yv);refine jb (gH t1 (sq (fQ st) (fQ (uV rfl rfl fa)))) (fC (rN ns q "ask" (bV { pG g ch with ld:=ld,gr:=gr }) (eT es ch.2.2) m (some (s_ ch,.own)) none) ?_);refine zm (by kernel_rfl) ⟨0,_,_,rfl,rfl,i',c',sv.eT eg,⟨rfl,rfl,rfl,rfl,rfl,rfl,rfl,rfl,(Int.add_zero _).symm⟩,by lia,?_⟩;rw[if_pos rfl];show(g.C++[ch]).length=_;rw[abb,hm];rfl
 |false=>
  rw[c1] at t1;have na:s≠"ask":=λz=>by rw[z] at c1;revert c1;decide +kernel
  cases c2:s == "withdraw" with
  |true=>
   have cU:=eq_of_beq c2;rw[c2] at t2;clear c1 c2 t3;subst cU;have h:(0:Int)<(wl g++g.ld).length:=by
    have:=List.length_pos_iff.mpr (ho rfl)
    lia
   have e0:dQ 7 (e2 fX (cK "Gate" "waiting" yg (ak 3) aJ) (cK "Gate" "laid" NR (ak 3) aJ)) (rN ns q "withdraw" g es m none none)=some (.nx (rN ns q "withdraw" g es m none (some (iL (wl g++g.ld),.own)))):=by
    rw[kY,aO (gA rfl (wD (by lia))) (gA rfl OV) (uO (by rw[aeI];lia))];rfl
   obtain⟨x,mx,hx⟩:=Xo (pB h);obtain⟨ld,gr,fa,i',c'⟩:=Ua i c (abD.mp mx);refine jb (iO t1 (gH t2 (sq (fQ e0) (fQ (uV (ps:=[(.int x,.own)]) rfl ?_ fa))))) (fC (rN ns q "withdraw" (bV { kM g x with ld:=ld,gr:=gr }) es m none (some (iL (wl g++g.ld),.own))) ?_)
   .rw[aW,aO rfl (dr rfl rfl rfl (bC rfl Er) (by lia) (by lia) h) hx];rfl
   .exact zm (by kernel_rfl) ⟨1,_,_,rfl,rfl,i',c',sv,⟨rfl,rfl,rfl,rfl,rfl,rfl,rfl,rfl,rfl⟩,by lia,by rw[if_neg (by decide +kernel)];exact hm⟩
  |false=>
   rw[c2] at t2;cases c3:s == "stop" with
   |true=>
    have cU:=eq_of_beq c3;rw[c3] at t3;clear c1 c2 c3;subst cU;obtain⟨ld,gr,fa,i',c'⟩:=L6 i c;have e1:sZ (xO 3 "Gate" "stop" AG aJ) (rN ns q "stop" g es m none none)=some (.nx (rN ns q "stop" (bV { oG g with ld:=ld,gr:=gr }) es m none none)):=uV rfl rfl fa;have t4:tV (e2 oEq (cP tH (ay (ak 0) (ay (ak 1) (ay (eC (.int 100129)) (ay (eC (.int 2)) aJ))))) (eC (.int 0))) (rN ns q "stop" (bV { oG g with ld:=ld,gr:=gr }) es m none none)=some (iF ns q 100129 2==0):=bO (aO (dr rfl rfl rfl rfl (by lia) (by lia) (by lia)) rfl rfl);cases c4:iF ns q 100129 2==0 with
    |false=>
     rw[c4] at t4;refine jb (iO t1 (iO t2 (gH t3 (sq (fQ e1) (iO t4 rfl))))) ?_;exact zm (by kernel_rfl) ⟨1,_,_,rfl,rfl,i',c',sv,⟨rfl,rfl,rfl,rfl,rfl,rfl,rfl,rfl,rfl⟩,by lia,by rw[if_neg na];exact hm⟩
    |true=>
     rw[c4] at t4;obtain⟨HR,zH,Tr,i2,c2⟩:=L6 i' c';have e2:sZ (xO 3 "Gate" "stop" AG aJ) (rN ns q "stop" (bV { oG g with ld:=ld,gr:=gr }) es m none none)=some (.nx (rN ns q "stop" (bV { oG (bV { oG g with ld:=ld,gr:=gr }) with ld:=HR,gr:=zH }) es m none none)):=uV rfl rfl Tr;refine YY (iO t1 (iO t2 (gH t3 (sq (fQ e1) (gH t4 (sq (fQ e2) rfl)))))) (.inl ⟨_,_,rfl,2,_,_,rfl,rfl,i2,c2,sv,⟨rfl,rfl,rfl,rfl,rfl,rfl,rfl,rfl,?_⟩,by lia,by rw[if_neg na];exact hm⟩);show g.br+1+1=g.br+2
     lia
   |false=>
    rw[c3] at t3;have cU:s="go":=by
     rcases hs with h|h|h|h
     .exact h
     .exact absurd h na
     .rw[h] at c2;exact absurd c2 (by decide +kernel)
     .rw[h] at c3;exact absurd c3 (by decide +kernel)
    clear c1 c2 c3;subst cU;obtain⟨ld,gr,fa,i',c'⟩:=ad7 i c;have e1:sZ (xO 3 "Gate" "go" Cg aJ) (rN ns q "go" g es m none none)=some (.nx (rN ns q "go" (bV { g with ht:=false,ld:=ld,gr:=gr }) es m none none)):=uV rfl rfl fa;refine jb (iO t1 (iO t2 (iO t3 (fQ e1)))) ?_;exact zm (by kernel_rfl) ⟨0,_,_,rfl,rfl,i',c',sv,⟨rfl,rfl,rfl,rfl,rfl,rfl,rfl,rfl,(Int.add_zero _).symm⟩,by lia,by rw[if_neg na];exact hm⟩
def cD(g:G):D:=.tup [.int g.gw.length,.int (cu g),.int g.an,.int (cnt g.gr),.int g.br]
theorem Kv(k:Gd g):Uk [gD g]=some (cD g):=by
 have hl:=k.gr.len;have gl:=k.gc.ln;have h1:e1 fN (bJ "Gate" "grown" (ak 0)) [some (gD g,.sh []),none,none]=some (.int g.gw.length,.own):=bC (fl rfl) IU;have h2:e1 fN (CC 0 "Gate" "grounds" "look") [some (gD g,.sh []),some (.int g.gw.length,.own),none]=some (.int (cnt g.gr),.own):=bC (by
  show(if("Gate":Str)="Gate"/\(g.gr.map (·.1)).Nodup/\g.gr.length<sizeLine/\∀p∈g.gr,(lu p.2).isSome=true then some (D.lst (qd "look" g.gr),Tag.own) else none)=_;rw[if_pos ⟨rfl,k.gr.nd,size_le (by lia),k.gr.tp⟩]) (by rw[sY];rfl)
 have h3:e2 kG (e1 fN (bJ "Gate" "ended" (ak 0))) (ak 1) [some (gD g,.sh []),some (.int g.gw.length,.own),some (.int (cnt g.gr),.own)]=some (.int (cu g),.own):=aO (bC (fl rfl) sY) rfl rfl;refine cz rfl (jP h1 (jP h2 ?_));show lU (kR (ay (ak 1) (ay (e2 kG (e1 fN (bJ "Gate" "ended" (ak 0))) (ak 1)) (ay (bJ "Gate" "answers" (ak 0)) (ay (ak 2) (ay (bJ "Gate" "breaks" (ak 0)) aJ)))))) [some (gD g,.sh []),some (.int g.gw.length,.own),some (.int (cnt g.gr),.own)]=some (.rt (cD g));rw[r6,ou,aW,aW,h3];rfl
noncomputable def OT:Key->Int
 |.inl x=>x
 |.inr _=>0
theorem NF:∀{gr:List (Key×D)},(∀k∈gr.map (·.1),∃x:Int,k=Sum.inl x/\x∈bZ 1 n)->gR gr=gr.map λp=>OT p.1
 |[],_=>rfl
 |(k,d)::r,h=>by
  obtain⟨x,e,_⟩:=h k aar;have e:=e;subst e;show x::gR r=_;rw[NF λk m=>h k (aaa _ m)];rfl
theorem Nt:∀{gr:List (Key×D)}{p:Key×D},(gr.map (·.1)).Nodup->p∈gr->aV gr p.1=some p.2
 |q::r,p,nd,m=>by
  obtain⟨n1,n2⟩:=abv.mp nd;unfold aV;rcases aa3.mp m with rfl|m
  .rw[ae3 (by simp)];rfl
  .rw[adU (by simpa using λz:q.1=p.1=>n1 (abG.mpr ⟨p,m,z.symm⟩))];exact Nt n2 m
def nq(gr:List (Key×D))(x:Int):Bool:=decide ((lu ((aV gr (Sum.inl x:Key)).getD .aD)).getD Str.empty="look")
theorem Ss{gr:List (Key×D)}(k:Gr n gr):((cB (gR gr)).filter (nq gr)).length=cnt gr:=by
 rw[((qK (gR gr)).filter (nq gr)).length_eq,NF k.ks,List.filter_map,List.length_map];unfold cnt qd;rw[List.length_map];refine congrArg List.length (List.filter_congr λp m=>?_);obtain⟨x,e,_⟩:=k.ks p.1 (abG.mpr ⟨p,m,rfl⟩);have hv:=Nt k.nd m;rw[e] at hv;show nq gr (OT p.1)=_;rw[e];unfold nq;show decide ((lu ((aV gr (Sum.inl x:Key)).getD .aD)).getD Str.empty="look")=_;rw[hv];rfl
def kO(gr:List (Key×D)):D->Option D
 |.tup [.int x,_]=>if nq gr x=true then some (outD gr x) else none
 |_=>none
theorem Ei{gr:List (Key×D)}:kO gr (outD gr x)=if nq gr x=true then some (outD gr x) else none:=rfl
theorem Sk(k:Gd g)(h:f ρ=some (.lst ((cB (gR g.gr)).map (outD g.gr)),t)):e1 fN (iK [none] (gZ f) (gN 0) (tV (e2 oEq (e2 eK (e2 eK (ak 0) (eC (.int 1))) (eC (.int 0))) (eC (.str "look")))) (ak 0)) ρ=some (.int (cnt g.gr),.own):=by
 have hl:=k.gr.len;have gl:=k.gc.ln;have el:(cB (gR g.gr)).length<=60:=by
  rw[uJ];have e:=congrArg List.length (sQ k.gr.ks).1;rw[List.length_map,List.length_map] at e
  lia
 have hc:=jH (js:=[none]) (g:=gN 0) (te:=ak 0) (k:=kO g.gr) (gQ h) (by rw[List.length_map];exact size_le (by lia)) (λd m=>by
  obtain⟨x,mx,rfl⟩:=abG.mp m;have mi:=k.gr.mem.mp (xj.mp mx);unfold bS at mi;obtain⟨v,hv⟩:=afa.mp mi;have mv:∃p∈g.gr,p.2=v:=by
   unfold aV at hv;obtain⟨kv,h1,rfl⟩:=ab9.mp hv;exact⟨kv,aeT h1,rfl⟩
  obtain⟨p,mp,rfl⟩:=mv;have iv:=sJ.mp k.gr.im p.2 (abG.mpr ⟨p,mp,rfl⟩);have tp:=k.gr.tp p mp;have eo:outD g.gr x=.tup [.int x,p.2]:=by unfold outD;rw[hv];rfl
  have eb:nq g.gr x=decide ((lu p.2).getD Str.empty="look"):=by unfold nq;rw[hv];rfl
  rw[Ei,eo,eb];generalize p.2=dd at iv tp;cases dd with
  |tup ds=>
   cases ds with
   |nil=>cases tp
   |cons d0 ds=>
    cases d0 with
    |str s=>
     have iT:aC (D.tup [.int x,.tup (.str s::ds)])=true:=by simp only[aC,aN,Bool.and_true,Bool.true_and] at iv ⊢;exact iv
     have tt:tV (e2 oEq (e2 eK (e2 eK (ak 0) (eC (.int 1))) (eC (.int 0))) (eC (.str "look"))) [some (.tup [.int x,.tup (.str s::ds)],.sh [])]=some (s == "look"):=bO (aO (aO (aO rfl rfl (LU rfl iv)) rfl (LU (by unfold dM gJ;rw[if_pos (by lia),if_pos (by rw[abP];lia)];rfl) rfl)) rfl rfl);show _=some (if decide (s="look")=true then _ else _)
     by_cases e:s="look"
     .rw[aaN e,if_pos rfl];exact rB rfl (tt.trans (by rw[e];rfl)) rfl iT
     .rw[abN e,if_neg aa6];exact vZ rfl (tt.trans (by rw[show(s==("look":Str))=false from adg.mpr e]))
    |_=>cases tp
  |_=>cases tp)
 refine bC hc ?_;rw[sY,aes];have:(cB (gR g.gr)).filterMap (kO g.gr ∘ outD g.gr)=((cB (gR g.gr)).filter (nq g.gr)).map (outD g.gr):=by
  generalize cB (gR g.gr)=l
  induction l with
  |nil=>rfl
  |cons x l ih=>
   cases hb:nq g.gr x with
   |true=>rw[List.filterMap_cons_some (f:=kO g.gr ∘ outD g.gr) (show kO g.gr (outD g.gr x)=_ by rw[Ei,hb];rfl),afd hb,aax,ih]
   |false=>rw[List.filterMap_cons_none (f:=kO g.gr ∘ outD g.gr) (show kO g.gr (outD g.gr x)=none by rw[Ei,hb];rfl),afe (by rw[hb];exact aa6),ih]
 rw[this,List.length_map,Ss k.gr]
theorem Rz(hw:1<=w/\w<=16):abT [.int w]=some (.int (bl w.toNat)):=by
 have:w=1\/w=2\/w=3\/w=4\/w=5\/w=6\/w=7\/w=8\/w=9\/w=10\/w=11\/w=12\/w=13\/w=14\/w=15\/w=16:=by lia
 rcases this with rfl|rfl|rfl|rfl|rfl|rfl|rfl|rfl|rfl|rfl|rfl|rfl|rfl|rfl|rfl|rfl<;>kernel_rfl
theorem adv(hw:1<=w/\w<=16):oBits (.int w)=some (.int (bl w.toNat)):=by
 have:w=1\/w=2\/w=3\/w=4\/w=5\/w=6\/w=7\/w=8\/w=9\/w=10\/w=11\/w=12\/w=13\/w=14\/w=15\/w=16:=by lia
 rcases this with rfl|rfl|rfl|rfl|rfl|rfl|rfl|rfl|rfl|rfl|rfl|rfl|rfl|rfl|rfl|rfl<;>kernel_rfl
theorem VV(hw:1<=w/\w<=16):abR [.int w,.int h]=some (.int (vv h w.toNat)):=by
 have t1:tV (e2 oEq (ak 1) (eC (.int 1))) [some (.int w,.sh []),some (.int h,.sh [])]=some (h==1):=rfl;refine cz rfl ?_
 by_cases e:h=1
 .rw[show(h==1)=true by simpa using e] at t1;unfold vv;rw[if_pos e];exact cZ ((Fz t1).trans (bC rfl (adv hw)))
 .rw[show(h==1)=false by simpa using e] at t1;unfold vv;rw[if_neg e,show((w.toNat:Nat):Int)=w by lia];show lU (m6 (tV (e2 oEq (ak 1) (eC (.int 1)))) (e1 oBits (ak 0)) (ak 0)) [some (.int w,.sh []),some (.int h,.sh [])]=_;rw[r6,G8 t1];rfl
theorem ac8(hl:r.length<=5)(h:∀i∈r,w6 i):tR (mh r)=true:=by
 unfold tR;rw[MK];have a1:f6 (mh r)=true:=by unfold mh f6;exact vP r
 have a2:(gx r).showable=true:=by unfold gx;simp only[PyData.showable];exact N5 r h
 have a3:(gx r).depth<=40:=by unfold gx;simp only[PyData.depth,depthAll_ints];lia
 have a4:(gx r).shown.length<=sizeLine:=by
  refine PyData.shown_fits (B:=13) (by decide) (by decide) ?_ ?_
  .unfold gx;simp only[PyData.leavesShort];exact KY r h
  .unfold gx;simp only[PyData.weight];have:=KR r h;have:50*r.length<=250:=by lia
   have e:(2:Nat) ^ 20=1048576:=by decide
   lia
 rw[a1,a2,aaN a3,aaN a4];rfl
theorem Em(hl:r.length<=5)(h:∀i∈r,-100000<=i/\i<=100000):∃s,r_ (mh r)=some (.str s):=⟨_,XQ (ac8 hl λi m=>by have:=h i m;unfold w6;omega) (by unfold mh dep;omega)⟩
theorem ne_self:kT (.str s) (.str s)=some (.bl false):=by
 show some (D.bl (!(s==s)))=_;simp
def rR(M:List (List Int×Bool)):D:=.cM (M.map λp=>(kL p.1,D.bl p.2))
theorem abC{M:List (List Int×Bool)}(k:Gd g)(c:Cn g)(hb:0<=g.br/\g.br<=1000)(hM:g.ta.length<=M.length)(hM':M.length<=10000):LN [gD g,cD g,cJ g.w g.h g.n g.t,rR M]=some (.bl true):=by
 have hw:=k.w1;have hh:=k.h1;have nt:=k.nt;have mp:=xF k;have ml:dU g<=16:=by
  have:=z_ (h:=g.h) (show g.w.toNat<=16 by lia);have:vv g.h 16<=16:=by unfold vv;split<;>decide
  unfold dU;lia
 have e:∃d,LN [gD g,cD g,cJ g.w g.h g.n g.t,rR M]=some d/\d=.bl true:=by
  refine tQ rfl (gz rfl (fC [some (gD g,.sh []),some (cD g,.sh []),some (cJ g.w g.h g.n g.t,.sh []),some (rR M,.sh []),some (.int g.w,.own)] ?_));refine uP (I:=λρ=>ρ=[some (gD g,.sh []),some (cD g,.sh []),some (cJ g.w g.h g.n g.t,.sh []),some (rR M,.sh []),some (.int (dU g),.own)]) (tO rfl (λh=>?_) λh=>?_) λρ e=>?_
  .have h:=eq_of_beq h;refine⟨_,by rw[kY,c9 rfl (Rz hw)];rfl,_,rfl,?_⟩;unfold dU vv;rw[if_pos h];rfl
  .refine⟨_,rfl,_,rfl,?_⟩;unfold dU vv;rw[if_neg (by simpa using h),show((g.w.toNat:Nat):Int)=g.w by lia]
  subst e;have Qk:Eh (.int (dU g))=some (.str (toString (dU g))):=by
   show(if(dU g).natAbs.log2<1920 then some (D.str (toString (dU g))) else none)=_;have:(dU g).natAbs<=16:=by lia
   rw[if_pos ((Nat.log2_lt (by lia)).mpr (ae0 this (by decide +kernel)))]
  obtain⟨s,hs⟩:=Em (r:=[g.w,g.h,g.n,g.t]) (by show 4<=5;lia) (λi m=>by
   simp only[aa3,adX,afY] at m;rcases m with rfl|rfl|rfl|rfl<;>lia)
  refine jb (iO ((BN (bO (aO (bC (c9 rfl (VV hw)) Qk) (bC rfl Qk) ne_self))).trans (bO (aO (bC (gA rfl (cz rfl (by rw[r6,fl rfl];rfl))) hs) (bC rfl hs) ne_self))) rfl) ?_;have hgw:=c.cc.gw;have hcw:=c.w k;have cl:=Qo (a:=g.gr);have gl:=k.gr.len;have gl':=k.gc.ln;have bd:cu g<=dU g*(1+(cnt g.gr:Int)+g.br):=by
   rw[Int.add_assoc,Int.mul_add,Int.mul_one];have:kX g=dU g*((cnt g.gr:Int)+g.br):=rfl
   lia
  refine jb (iO ((BN (bO (aO rfl (bC (gA rfl TY) Er) (by rw[Hi,abN (by lia)])))).trans (bO (aO rfl (aO rfl (aO (aO rfl rfl kH) rfl kH) (pH (qt (by lia)))) (by rw[Hi,abN (by lia)])))) rfl) ?_;have ha:g.an<=g.t*M.length:=by
   have h1:(tot g.ta:Int)<=(g.ta.length:Int)*g.t:=by
    have tt:=c.cc.tt;generalize g.ta=ta at tt;unfold tot
    induction ta with
    |nil=>show((0:Nat):Int)<=((0:Nat):Int)*g.t;simp
    |cons p r ih=>
     have h1:=tt p aar;have h2:=ih λq m=>tt q (aaa _ m)
     rw[aax,List.sum_cons,abP];rw[show(((r.length+1:Nat):Int))*g.t=(r.length:Int)*g.t+g.t by rw[Int.natCast_add,Int.add_mul];simp]
     lia
   rw[c.cc.an,Int.mul_comm];exact afS h1 (Int.mul_le_mul_of_nonneg_right (by lia) (by lia))
  refine⟨_,cZ (aO rfl (aO rfl (bC rfl (show Hg (rR M)=some (.int M.length) by show some (D.int (M.map _).length)=_;rw[List.length_map])) (pH (qt (by lia)))) (show oLe (.int g.an) (.int (g.t*M.length))=some (.bl true) by show some (D.bl (decide (g.an<=g.t*M.length)))=_;rw[aaN ha])),_,rfl,rfl⟩
 obtain⟨_,e,rfl⟩:=e;exact e
theorem Gi.up(i:Gi k g):Gi (k+1) g:=⟨i.gd,⟨i.gt.tn,by have:=i.gt.tl;lia,i.gt.yl,i.gt.em,by have:=i.gt.el;lia,by have:=i.gt.gl;lia,i.gt.lg,i.gt.st,i.gt.ll⟩,i.fin,i.ym⟩
theorem Kn(n t:Int)(h:List Str):word n t h="yes"\/word n t h="no"\/word n t h="unsure"\/word n t h="more":=by
 unfold word
 split
 .exact .inl rfl
 .split
  .exact .inr (.inl rfl)
  .split
   .exact .inr (.inr (.inl rfl))
   .exact .inr (.inr (.inr rfl))
noncomputable def iY(u:Str):Int:=if(u == "yes")=true then 1 else 0
noncomputable def iN(u:Str):Int:=if(u == "no"||u == "unsure")=true then 1 else 0
theorem Rv{L:List Int}:((bI g L w).gw.length:Int)=g.gw.length+iY (word g.n g.t (hd g.ta L++[w]))/\cu (bI g L w)=cu g+iN (word g.n g.t (hd g.ta L++[w]))/\(bI g L w).an=g.an+1/\(bI g L w).br=g.br/\(bI g L w).C=g.C/\((bI g L w).w=g.w/\(bI g L w).h=g.h/\(bI g L w).n=g.n/\(bI g L w).t=g.t):=by
 have b1:iY "yes"=1/\iN "yes"=0/\iY "no"=0/\iN "no"=1/\iY "unsure"=0/\iN "unsure"=1/\iY "more"=0/\iN "more"=0:=by decide +kernel
 unfold bI cu;rcases Kn g.n g.t (hd g.ta L++[w]) with h|h|h|h
 .rw[h,if_pos (by decide +kernel)];unfold mC bT;dsimp only;rw[h,if_neg (by decide +kernel),abb,abb];refine⟨?_,?_,rfl,rfl,rfl,rfl,rfl,rfl,rfl⟩
  .show((g.gw.length+1:Nat):Int)=_;lia
  .show((g.en.length+1:Nat):Int)-((g.gw.length+1:Nat):Int)=_;lia
 .rw[h,if_neg (by decide +kernel)];unfold bT;dsimp only;rw[h,if_neg (by decide +kernel),abb];refine⟨by lia,?_,rfl,rfl,rfl,rfl,rfl,rfl,rfl⟩;show((g.en.length+1:Nat):Int)-_=_;lia
 .rw[h,if_neg (by decide +kernel)];unfold bT;dsimp only;rw[h,if_neg (by decide +kernel),abb];refine⟨by lia,?_,rfl,rfl,rfl,rfl,rfl,rfl,rfl⟩;show((g.en.length+1:Nat):Int)-_=_;lia
 .rw[h,if_neg (by decide +kernel)];unfold bT;dsimp only;rw[h,if_pos (by decide +kernel)];refine⟨by lia,by lia,rfl,rfl,rfl,rfl,rfl,rfl,rfl⟩
noncomputable abbrev Mt:=List (List Int×Bool)
def rL(ns:List Int)(st:D)(g:G)(es:gh)(ta:Ta)(M:Mt)(m:Nat)(a b c d e:Int)(s8 s9 ez eF s12:Slot):aA:=[some (dI ns,.sh []),some (st,.own),some (gD g,.own),some (bH es,.own),some (uL ta,.own),some (rR M,.own),some (.int m,.own),some (.lst [.int a,.int b,.int c,.int d,.int e],.own),s8,s9,ez,eF,s12]
theorem min2{a n:Nat}:yJ (.int a) (.int n)=some (.int (min a n:Nat)):=by
 show some (D.int (if(n:Int)<a then(n:Int) else a))=_;rw[show(if(n:Int)<a then(n:Int) else a)=((min a n:Nat):Int) by split<;>lia]
structure Mk(j:Nat)(M:Mt):Prop where
 nd:(M.map (·.1)).Nodup
 ln:M.length<=9*j
structure Iv(w h n t:Int)(j:Nat)(g:G)(es:gh)(m:Nat)(M:Mt):Prop where
 i:Gi j g
 c:Cn g
 sv:Sv es
 hm:g.C.length=m
 mj:m<=j
 w:g.w=w
 h:g.h=h
 n:g.n=n
 t:g.t=t
 br:0<=g.br/\g.br<=2*j
 an:0<=g.an/\g.an<=j
 tk:∀q∈g.ta,q.1∈M.map (·.1)
theorem Nv{l x:List Int}{b:Bool}:x∈(gp M l b).map (·.1)↔x=l\/x∈M.map (·.1):=by
 rw[GJ]
 split
 .rename_i h;exact⟨.inr,λq=>q.elim (λe=>e ▸ h) id⟩
 .rw[abD,aa1];exact or_comm
def uf(M:Mt):List (List Key×D):=M.map λp:List Int×Bool=>(kL p.1,D.bl p.2)
theorem aco:putD (uf M) (kL l) (.bl true)=uf (gp M l true):=BJ (φ:=kL) (ψ:=D.bl) λ_ _=>mX
theorem QC{ta:Ta}:∀{ls:List (List Int)}{M:Mt}{s8 s9 ez eF s12:Slot},(∀l∈ls,l≠[])->(M.map (·.1)).Nodup->M.length+ls.length<=9000->∃M' YZ s9' aaW S7 Yr,dw (gN 11) (.sh []) (vL 5 (ak 11) (eC (.bl true))) (dD ls) (rL ns st g es ta M m a b c d e s8 s9 ez eF s12)=some (.nx (rL ns st g es ta M' m a b c d e YZ s9' aaW S7 Yr))/\(M'.map (·.1)).Nodup/\M'.length<=M.length+ls.length/\(∀x∈M.map (·.1),x∈M'.map (·.1))/\∀l∈ls,l∈M'.map (·.1)
 |[],M,s8,s9,ez,eF,s12,_,nd,_=>⟨M,s8,s9,ez,eF,s12,rfl,nd,abH _,λ_ h=>h,λl m=>nomatch m⟩
 |l::ls,M,s8,s9,ez,eF,s12,h,nd,hl=>by
  have nl:=h l aar;rw[abP] at hl;have gl:=DF (es:=M) (q:=l) (d:=true);have nk:((uf M).map λp:List Key×D=>p.1).Nodup:=by
   unfold uf;rw[acT,show((λkv:List Key×D=>kv.1) ∘ λp:List Int×Bool=>(kL p.1,D.bl p.2))=kL ∘ (·.1) from rfl,<- acT];unfold List.Nodup at nd ⊢;rw[aeX];exact nd.imp λq e=>q (mX e)
  have qu:vL 5 (ak 11) (eC (.bl true)) (rL ns st g es ta M m a b c d e s8 s9 ez (some (tD l,.sh [])) s12)=some (.nx (rL ns st g es ta (gp M l true) m a b c d e (bG 5 s8) (bG 5 s9) (bG 5 ez) (some (tD l,.sh [])) (bG 5 s12))):=by
   rw[JY (es:=uf M) rfl rfl rfl nl rfl nk (size_le (by unfold uf;rw[List.length_map];lia)),aco];rfl
  obtain⟨M',t8,t9,qI,qR,vB,lp,n1,n2,n3,n4⟩:=QC (M:=gp M l true) (λx m=>h x (aaa _ m)) (Ay nd) (by lia);refine⟨M',t8,t9,qI,qR,vB,(lB rfl qu).trans lp,n1,by rw[abP];lia,λx m=>n3 x (Nv.mpr (.inr m)),λx m=>?_⟩;rcases aa3.mp m with rfl|m
  .exact n3 _ (Nv.mpr (.inl rfl))
  .exact n4 x m
theorem VZ(h1:fa ρ=some (.int m,t))(h2:fx ρ=some (.int b,ρ'))(h3:ρ'[i]? = some (some (.lst ds,.own)))(h4:fk ρ'=some (.int kk,t'))(h5:gJ ds.length kk=some jj)(h6:aN ds=true):BP i fk (za fa fx) ρ=some (.nx (bP ρ' i (.lst (ds.set jj (.int (m+b)))))):=by
 unfold BP za;rw[h1];dsimp only;rw[h2];dsimp only;rw[h3,h4];dsimp only;rw[h5];dsimp only;rw[h6];rfl
theorem aeM(h:f ρ=some (d,ρ'))(hi:aC d=true):xI f ρ=some (d,ρ'):=by
 unfold xI;rw[h];dsimp only;rw[if_pos hi]
theorem Tf(h1:fv ρ=some (d,t))(h3:ρ[i]? = some (some (.lst ds,.own)))(h4:fk ρ=some (.int kk,t'))(h5:gJ ds.length kk=some jj)(h6:(aC d&&aN ds)=true):zA i fk fv ρ=some (.nx (bP ρ i (.lst (ds.set jj d)))):=by
 unfold zA;rw[h1,h3,h4];dsimp only;rw[h5];dsimp only;rw[if_pos h6]
theorem aav(hl:ns.length<=63):yu [dI ns]=some (.bl true):=by
 have e:∃d,yu [dI ns]=some d/\d=.bl true:=by
  obtain⟨_,fs,w,h,n,t,rfl,hw,hh,h1,h2,h3⟩:=ac3 (m:=16) (by omega);refine tQ rfl (gz (c9 rfl fs) ?_);have fg:=adm (n:=n) (t:=t) (by omega) (by omega) (by omega);have i0:=ZQ (n:=n) (t:=t) (by omega) (by omega) (by omega);refine gz (by
   show(match MW (.ins "Gate" []) [.int w,.int h,.int n,.int t] with|some (.aD,d)=>some (d,Tag.own)|_=>none)=_;rw[fg]) (fC [some (dI ns,.sh []),some (cJ w h n t,.own),some (gD (g0 w h n t),.own),none,none,none,none,none,none,none,none,none,none] ?_)
  obtain⟨s0,Pe⟩:=Em (r:=[0,0,0,0,0]) (by decide) (by decide);refine jb (iO (bO (aO (bC (gA rfl (Kv i0.gd)) (show r_ (cD (g0 w h n t))=some (.str s0) from Pe)) (bC rfl Pe) ne_self)) rfl) ?_;refine gz rfl (gz rfl (gz rfl (gz rfl (gz rfl (fC (rL ns (cJ w h n t) (g0 w h n t) [] [] [] 0 0 0 0 0 0 none none none none none) ?_)))));refine QW (λj ρ=>∃g es m M s8 s9 ez eF s12,ρ=rL ns (cJ w h n t) g es g.ta M m g.gw.length (cu g) g.an (cnt g.gr) g.br s8 s9 ez eF s12/\Iv w h n t j g es m M/\Mk j M/\∀l∈g.lk,l∈M.map (·.1)) (Og (aO (d1:=.int ((48:Nat):Int)) rfl (bC rfl Dv) min2) (by omega)) ?_ (λj ρ hj hI=>?_) λρ hI=>?_
  .refine⟨g0 w h n t,[],0,[],none,none,none,none,none,rfl,⟨i0,⟨⟨abH _,rfl,λq m=>nomatch m⟩,.inl ?_⟩,⟨Kb.nil,λk=>by show(0:Int)<=0/\(0:Int)<=4;omega⟩,rfl,abH _,rfl,rfl,rfl,rfl,by show(0:Int)<=0/\(0:Int)<=2*((0:Nat):Int);omega,by show(0:Int)<=0/\(0:Int)<=((0:Nat):Int);omega,λq m=>nomatch m⟩,⟨.nil,abH _⟩,λl m=>nomatch m⟩;show(((0:Nat):Int)-((0:Nat):Int))<=dU (g0 w h n t)*(((0:Nat):Int)+0);rw[show(((0:Nat):Int)+0)=0 from rfl,Int.mul_zero];omega
  .obtain⟨g,es,m,M,s8,s9,ez,eF,s12,e,I,mk,wk⟩:=hI;subst e;rw[Int.zero_add];refine⟨rL ns (cJ w h n t) g es g.ta M m g.gw.length (cu g) g.an (cnt g.gr) g.br (some (.int j,.sh [])) s9 ez eF s12,rfl,?_⟩;obtain⟨I,c,sv,hm,mj,ew,eh,en,et,br,an,tk⟩:=I;subst ew eh en et;have gl:=I.gd.gc.ln;have ll:=I.gd.len;have Yb:=BK (g:=g);obtain⟨_,fw,s,rfl,wa,ww,wc⟩:=aaK (q:=(j:Int)) (by omega);refine gz (c9 (ps:=[(dI ns,.sh []),(.int j,.sh []),(.bl g.ht,.own),(.lst (dD g.lk),.own),(iL (wl g++g.ld),.own)]) (by
    rw[aW,aW,aW,aW,aW,gA rfl WZ,gA rfl E2,aO (gA rfl (wD (by omega))) (gA rfl OV) (uO (by rw[aeI];omega))];rfl) fw) (fC (rL ns (cJ g.w g.h g.n g.t) g es g.ta M m g.gw.length (cu g) g.an (cnt g.gr) g.br (some (.int j,.sh [])) (some (.str s,.own)) ez eF s12) ?_)
   refine uP (I:=λρ=>∃g' cU z ez eF s12,ρ=rL ns (cJ g.w g.h g.n g.t) g' cU g'.ta M m g'.gw.length (cu g') g'.an z g'.br (some (.int j,.sh [])) (some (.str s,.own)) ez eF s12/\Gi (j+1) g'/\Cn g'/\Sv cU/\g'.C.length=(if s="ask" then m+1 else m)/\(g'.w=g.w/\g'.h=g.h/\g'.n=g.n/\g'.t=g.t)/\(0<=g'.br/\g'.br<=2*(j+1:Nat))/\(0<=g'.an/\g'.an<=(j+1:Nat))/\∀q∈g'.ta,q.1∈M.map (·.1)) (tO rfl (λhA=>?_) λhA=>?_) λρ hI=>?_
   .have hs:=eq_of_beq hA;obtain⟨_,_,fa,L,u,ld,gr,ml,rfl,rfl,i',c'⟩:=aek (q:=(j:Int)) (by omega) I c (by omega) (wa hs);obtain⟨k1,k2,k3,k4,k5,k6⟩:=Rv (g:=g) (L:=L) (w:=u);refine jb (Ho (O6 (ps:=[(dI ns,.sh []),(.int j,.sh []),(gD g,.sh [2]),(uL g.ta,.sh [4]),(cJ g.w g.h g.n g.t,.sh [1])]) rfl fa)) (fC (rL ns (cJ g.w g.h g.n g.t) (bV { bI g L u with ld:=ld,gr:=gr }) es (bI g L u).ta M m g.gw.length (cu g) g.an (cnt g.gr) g.br (some (.int j,.sh [])) (some (.str s,.own)) (some (.str (word g.n g.t (hd g.ta L++[u])),.own)) (bG 4 (bG 2 eF)) (bG 4 (bG 2 s12))) ?_);refine⟨.nx (rL ns (cJ g.w g.h g.n g.t) (bV { bI g L u with ld:=ld,gr:=gr }) es (bI g L u).ta M m (g.gw.length+iY (word g.n g.t (hd g.ta L++[u]))) (cu g+iN (word g.n g.t (hd g.ta L++[u]))) (g.an+1) (cnt g.gr) g.br (some (.int j,.sh [])) (some (.str s,.own)) (some (.str (word g.n g.t (hd g.ta L++[u])),.own)) (bG 7 (bG 7 (bG 7 (bG 4 (bG 2 eF))))) (bG 7 (bG 7 (bG 7 (bG 4 (bG 2 s12)))))),?_,_,rfl,bV { bI g L u with ld:=ld,gr:=gr },es,cnt g.gr,some (.str (word g.n g.t (hd g.ta L++[u])),.own),bG 7 (bG 7 (bG 7 (bG 4 (bG 2 eF)))),bG 7 (bG 7 (bG 7 (bG 4 (bG 2 s12)))),?_,i',c',sv,?_,k6,?_,?_,λx m=>?_⟩
    .rcases Kn g.n g.t (hd g.ta L++[u]) with e|e|e|e<;>rw[e]<;>kernel_rfl
    .show _=rL ns (cJ g.w g.h g.n g.t) (bV { bI g L u with ld:=ld,gr:=gr }) es (bI g L u).ta M m (bI g L u).gw.length (cu (bI g L u)) (bI g L u).an _ (bI g L u).br _ _ _ _ _;rw[k1,k2,k3,k4]
    .rw[if_neg (by rw[hs];decide +kernel)];show(bI g L u).C.length=m;rw[k5];exact hm
    .show 0<=(bI g L u).br/\(bI g L u).br<=_;rw[k4];omega
    .show 0<=(bI g L u).an/\(bI g L u).an<=_;rw[k3];omega
    .have m:x∈(bI g L u).ta:=m;rw[HP] at m;rcases zc m with m|rfl
     .exact tk x m
     .exact wk _ ml
   .obtain⟨_,_,fd,b,g',cU,rfl,rfl,i',c',D3,dn,hb,hC⟩:=Sh (ns:=ns) (q:=(j:Int)) (s:=s) (es:=es) (m:=m) (by omega) I c sv hm (by omega) ww (by
     rcases wc with h|h|h|h|h
     .exact .inl h
     .exact .inr (.inl h)
     .rw[h] at hA;exact absurd hA (by decide +kernel)
     .exact .inr (.inr (.inl h))
     .exact .inr (.inr (.inr h)))
    refine⟨_,VZ (m:=g.br) (t:=.own) (b:=b) (kk:=4) (t':=.own) (jj:=4) (ds:=[.int g.gw.length,.int (cu g),.int g.an,.int (cnt g.gr),.int g.br]) rfl (aeM (adR (ps:=[(dI ns,.sh []),(.int j,.sh []),(.str s,.sh [9]),(gD g,.sh [2]),(bH es,.sh [3]),(.int m,.sh [6])]) rfl fd) rfl) rfl rfl rfl rfl,rL ns (cJ g.w g.h g.n g.t) g' cU g.ta M m g.gw.length (cu g) g.an (cnt g.gr) (g.br+b) (some (.int j,.sh [])) (some (.str s,.own)) (bG 7 (bG 3 (bG 2 ez))) (bG 7 (bG 3 (bG 2 eF))) (bG 7 (bG 3 (bG 2 s12))),rfl,g',cU,cnt g.gr,bG 7 (bG 3 (bG 2 ez)),bG 7 (bG 3 (bG 2 eF)),bG 7 (bG 3 (bG 2 s12)),?_,i'.up,c',D3,hC,⟨dn.w,dn.h,dn.n,dn.t⟩,?_,?_,?_⟩
    .have:cu g'=cu g:=by unfold cu;rw[dn.en,dn.gw]
     rw[this,dn.ta,dn.gw,dn.an,dn.br]
    .rw[dn.br];omega
    .rw[dn.an];omega
    .rw[dn.ta];exact tk
   obtain⟨g',cU,z,qI,qR,vB,e,i',c',D3,hC,⟨q1,q2,q3,q4⟩,br',an',qV⟩:=hI;subst e;have pW:∃m',m'=(if s="ask" then m+1 else m)/\m'<=j+1:=⟨_,rfl,by split<;>omega⟩
   obtain⟨m',em,pW⟩:=pW;rw[<- em] at hC;refine jb (ρ':=rL ns (cJ g.w g.h g.n g.t) g' cU g'.ta M m' g'.gw.length (cu g') g'.an z g'.br (some (.int j,.sh [])) (some (.str s,.own)) qI qR vB) ?_ ?_
   .have t1:tV (e2 oEq (ak 9) (eC (.str "ask"))) (rL ns (cJ g.w g.h g.n g.t) g' cU g'.ta M m g'.gw.length (cu g') g'.an z g'.br (some (.int j,.sh [])) (some (.str s,.own)) qI qR vB)=some (s == "ask"):=rfl
    by_cases hs:s="ask"
    .rw[if_pos hs] at em;rw[show(s==("ask":Str))=true by rw[hs];decide +kernel] at t1;subst em;exact gH t1 rfl
    .rw[if_neg hs] at em;rw[show(s==("ask":Str))=false from adg.mpr hs] at t1;subst em;exact iO t1 rfl
   refine jb (Tf (d:=.int (cnt g'.gr)) (t:=.own) (kk:=3) (t':=.own) (jj:=3) (ds:=[.int g'.gw.length,.int (cu g'),.int g'.an,.int z,.int g'.br]) (Sk i'.gd (gA (g:=g') (t:=.sh [2]) rfl (Ud i'.gd))) rfl rfl rfl rfl) (fC (rL ns (cJ g.w g.h g.n g.t) g' cU g'.ta M m' g'.gw.length (cu g') g'.an (cnt g'.gr) g'.br (some (.int j,.sh [])) (some (.str s,.own)) (bG 7 qI) (bG 7 qR) (bG 7 vB)) ?_);have lkl:g'.lk.length<=8:=by have:=i'.gt.ll;have:=i'.gd.h1;omega
   have ml:=mk.ln;obtain⟨M',r8,r9,Ea,Zm,r12,lp,n1,n2,n3,n4⟩:=QC (ns:=ns) (st:=cJ g.w g.h g.n g.t) (g:=g') (es:=cU) (ta:=g'.ta) (m:=m') (a:=g'.gw.length) (b:=cu g') (c:=g'.an) (d:=cnt g'.gr) (e:=g'.br) (ls:=g'.lk) (M:=M) (s8:=some (.int j,.sh [])) (s9:=some (.str s,.own)) (ez:=bG 7 qI) (eF:=bG 7 qR) (s12:=bG 7 vB) (λl ml e=>by
    obtain⟨p,p1,_,p3,el,_⟩:=i'.mem ml;have:=mS p3;rw[<- el,e] at this;simp at this;omega) mk.nd (by omega)
   refine jb (sF (gQ (gA (g:=g') (t:=.sh [2]) rfl E2)) lp) ?_;refine gz (gA (g:=g') (t:=.sh [2]) rfl (Kv i'.gd)) (fC (rL ns (cJ g.w g.h g.n g.t) g' cU g'.ta M' m' g'.gw.length (cu g') g'.an (cnt g'.gr) g'.br r8 r9 Ea Zm (some (cD g',.own))) ?_);have c1:=i'.gt.gl;have c2:=i'.gt.el;have c3:=Qo (a:=g'.gr);have c4:=i'.gd.gr.len;have c5:=i'.gd.gc.ln;obtain⟨sr,hr⟩:=Em (r:=[(g'.gw.length:Int),cu g',g'.an,(cnt g'.gr:Int),g'.br]) (by show 5<=5;omega) (λx mx=>by
    unfold cu at mx;simp only[aa3,adX,afY] at mx;rcases mx with rfl|rfl|rfl|rfl|rfl<;>omega)
   have tl:g'.ta.length<=M'.length:=by
    have:=sub_len (l:=g'.ta.map (·.1)) (m:=M'.map (·.1)) i'.gt.tn λx mx=>by
     obtain⟨q,mq,rfl⟩:=abG.mp mx;exact n3 _ (qV q mq)
    rwa [List.length_map,List.length_map] at this
   have fb:=abC (M:=M') i'.gd c' (by omega) tl (by omega);rw[q1,q2,q3,q4] at fb;refine⟨_,iO ((BN (bO (aO (bC (d:=cD g') (t:=.sh [12]) rfl hr) (bC (bC (op:=uu) (d:=.lst [.int g'.gw.length,.int (cu g'),.int g'.an,.int (cnt g'.gr),.int g'.br]) (t:=.sh [7]) rfl (show uu (.lst [.int g'.gw.length,.int (cu g'),.int g'.an,.int (cnt g'.gr),.int g'.br])=some (cD g') from rfl)) hr) ne_self))).trans (kN (b:=true) (bO (c9 (ps:=[(gD g',.sh [2]),(cD g',.sh [12]),(cJ g.w g.h g.n g.t,.sh [1]),(rR M',.sh [5])]) rfl fb)))) rfl,_,rfl,g',cU,m',M',_,_,_,_,_,rfl,⟨i',c',D3,hC,pW,q1,q2,q3,q4,by omega,by omega,λq mq=>n3 _ (qV q mq)⟩,⟨n1,by omega⟩,n4⟩
  .obtain⟨g,es,m,M,s8,s9,ez,eF,s12,e,I,mk,wk⟩:=hI;subst e;exact⟨_,rfl,_,rfl,rfl⟩
 obtain⟨_,e,rfl⟩:=e;exact e
end K92
namespace HT
open PySem PySem.W PyProof.Rows
section
variable{p q:Program}{loose:List Str}{Xt:Shared->Bool}{N:Nat}{ann:Option Value}{K:Params->Frag}{as ts:List Addr}{e:∀P,as=(K P).map (·.1)}
end
end HT
namespace K92
open PySem L2 L2.Ev
local macro_rules | `(tactic| walk_at "ba")=>`(tactic| first | exact ba_n 1 rfl fun _ _ _ _ _ _ _=>rfl | exact ba_n 2 rfl fun _ _ _ _ _ _ _=>rfl | exact ba_n 3 rfl fun _ _ _ _ _ _ _=>rfl | exact ba_n 4 rfl fun _ _ _ _ _ _ _=>rfl | exact ba_n 5 rfl fun _ _ _ _ _ _ _=>rfl | exact ba_n 6 rfl fun _ _ _ _ _ _ _=>rfl)
set_option maxHeartbeats 0 in
theorem all_mk{l:PySem.W.OpenLaw}{w:World}{K:PySem.W.Frag}{h:Heap}{mg:Str->Option Value}{fa:Addr}(X:K.In h)(G:h.Ns mainGlobals mg)(Ey:mg "law"=some (.ref fa))(q:tE L K=true)(t:tab.map (look K)=tab.map want):
  ∃fd:FuncData,(∀(s:Shared) (v:Value),BindsTo s fd ⟨[v],[]⟩ [("_law_script",v)])/\∀base:Heap,K.In base->base.Ns mainGlobals mg->cI l.prog w K mg base c_ 15 fa fd ["_law_script"] (bf K yu):=by
 refine abr (sp:=λ_=>bf K yu) X G Ey (Mw (s:=top 60) 29 t rfl) (λ_ _ _ _ _ _ _ _=>.of_eq rfl) λbase _ _ _ _ F=>?_
 have E:En L ⟨l.prog,w,K,mg,base⟩:=T7 X G q;have W0:=eB X G t 0 (HH _ E);have W1:=eB X G t 1 (D0 _ ⟨E,W0⟩);have W2:=eB X G t 2 (CN _ E);have W3:=eB X G t 3 (Hl _ ⟨E,W2⟩);have Ul:=Fi t q 30 (Mf _ E);have TR:=Fi t q 39 (HW _ ⟨E,W3,W2,Ul⟩);have W40:=cV t 40 (DM _ E);have W4:=eB X G t 4 (Gw _ ⟨E,W0⟩);have Hj:=cV t 31 (Gy _ E);have Z6:=cV t 41 (Ic _ E);have xh:=cV t 42 (II _ ⟨E,Hj,Z6⟩);have Om:=cV t 43 (IQ _ E);have OE:=cV t 44 (Ia _ E);have Ym:=cV t 45 (Ie _ E);have W5:=eB X G t 5 (Iz _ ⟨E,W0⟩);have Pf:=cV t 66 (Gg _ E);have W67:=cV t 67 (E6 _ ⟨E,Pf⟩);have W68:=Fi t q 68 (HX _ ⟨E,W3⟩);have Wf:=cV t 46 (Ej _ E);have HY:=cV t 32 (CW _ ⟨E,W2,Hj⟩);have E1:=cV t 33 (EU _ ⟨E,HY⟩);have JU:=cV t 34 (DB _ ⟨E,E1⟩);have Wj:=cV t 47 (Gx _ ⟨E,xh,JU⟩);have Et:=cV t 48 (EG _ ⟨E,Pf⟩);have Ig:=cV t 49 (DZ _ E);have IM:=cV t 50 (DY _ ⟨E,Et,Ig⟩);have W6:=eB X G t 6 (Hh _ E);have W7:=eB X G t 7 (CY _ E);have W8:=eB X G t 8 (J8 _ ⟨E,W6,W7⟩);have zQ:=cV t 35 (Cs _ ⟨E,E1⟩);have W9:=eB X G t 9 (CS _ ⟨E,W8,zQ⟩);have Sm:=eB X G t 10 (EM _ ⟨E,W9⟩);have W36:=cV t 36 (IY _ ⟨E,E1⟩);have W11:=eB X G t 11 (Im _ ⟨E,W36⟩);have TJ:=eB X G t 12 (Gk _ ⟨E,W6,zQ⟩);have ZW:=eB X G t 13 (GO _ ⟨E,W11,TJ⟩);have QX:=eB X G t 14 (HQ _ ⟨E,JU⟩);have Ws:=eB X G t 15 (DC _ ⟨E,Sm,ZW,QX,zQ⟩);have W51:=cV t 51 (Ht _ ⟨E,IM,Ig,Et⟩);have W52:=cV t 52 (HU _ ⟨E,W9⟩);have RO:=eB X G t 16 (FD _ ⟨E,W6⟩);have W53:=cV t 53 (Cz _ ⟨E,QX,xh,W52,RO,zQ⟩);have R4:=cV t 54 (EH _ ⟨E,IM,Ws,xh,W51,W53⟩);have W55:=cV t 55 (F_ _ ⟨E,Et⟩);have SJ:=eB X G t 17 (Dh _ E);have Xh:=eB X G t 18 (Gu _ ⟨E,SJ⟩);have Zw:=cV t 56 (IL _ ⟨E,W55,Ig,Xh,IM⟩);have yP:=cV t 57 (GW _ ⟨E,Wj,R4,Zw⟩);have Yu:=cV t 58 (Io _ ⟨E,W67,W68,Wf,yP⟩);have W19:=eB X G t 19 (GX _ E);have W20:=eB X G t 20 (G5 _ ⟨E,OE,W0,W5,Yu,W19⟩);have Tc:=eB X G t 21 (Gn _ ⟨E,W0⟩);have W22:=eB X G t 22 (IT _ ⟨E,W0,Tc⟩);have K7:=eB X G t 23 (CP _ E);have W24:=eB X G t 24 (EK _ ⟨E,W2,K7⟩);have W37:=cV t 37 (Iu _ ⟨E,W2,K7,HY,W24⟩);have YB:=cV t 38 (EI _ ⟨E,W37,Hj⟩);have UY:=cV t 59 (FQ _ ⟨E,YB,yP⟩);have VW:=cV t 60 (IS _ ⟨E,HY,yP⟩);have W61:=cV t 61 (Hx _ ⟨E,yP⟩);have W62:=cV t 62 (DN _ ⟨E,yP⟩);have S5:=eB X G t 25 (Gh _ ⟨E,W22,UY,xh,Om,VW,W0,W61,W62⟩);have VB:=cV t 63 (E9 _ E);have Ww:=eB X G t 26 (GC _ E);have Sd:=cV t 64 (QL _ E);have W27:=eB X G t 27 (IJ _ E);have W65:=cV t 65 (F1 _ E);have Z5:=eB X G t 28 (Ff _ ⟨E,Ww,Sd,W27,W65⟩);exact o_law _ ⟨E,W1,TR,W40,W4,xh,Om,OE,Ym,W20,S5,VB,Z5⟩ _ _ F
theorem wk:Wk:=λhY hT hL hq ht xB hdn=>
 L2.X3 (n:=63) (k:=15) (x:="_law_script") (CX:=λ_=>c_) (sp:=λw=>bf (_:PySem.W.Frag) yu) rfl (by decide) xB ⟨λ_=>rfl,by decide,by decide,rfl⟩ hY hT hL (λw mg fa h KX G vW=>all_mk KX G (hdn ▸ vW) (hq w) (ht w)) (λw H a ns hl hz=>by
  refine⟨[dI ns],[]++[],.bl true,.cons (.zw hz (yq ns)) .nil,aav hl,λH' v jZ _ r _ _=>?_⟩;cases r;rfl) λ_ _ _ _ _ z=>z
open PySem PySem.W PyProof.Rows L2 L2.Ev
end K92
theorem PySem.Challenge.cw_linegate_k92_whole_counts_holds : PySem.Challenge.rw_linegate_k92_whole_counts.Holds := by
 exact K92.early K92.wk
