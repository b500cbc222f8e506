import PyProof.Rows.All
import Wide.All
import OpenK.AllK
import Wide.FinOn
import PySem.Challenge.RW_linegate_k44_whole_halving_by_two_looks
set_option Elab.async false
set_option linter.all false
set_option maxRecDepth 100000
set_option hygiene false
local macro_rules|`(tactic|exists 20,$p)=>`(tactic|refine ⟨_,$p,@fun H0 S z ak ρ σ H Q d tg ok e q=>?_⟩)
local macro_rules|`(tactic|exists 21,$p)=>`(tactic|refine ⟨_,$p,@fun H0 S z ak ρ σ H Q d tg ok e k=>?_⟩)
local macro_rules|`(tactic|exists 22,$p)=>`(tactic|refine ⟨_,$p,@fun H0 S z ak ρ σ H Q c ok e k=>?_⟩)
local macro_rules|`(tactic|exists 23,$p)=>`(tactic|refine ⟨_,$p,@fun H0 S z ak ρ σ H E o ok e k=>?_⟩)
local macro_rules|`(tactic|exists 24,$p)=>`(tactic|refine ⟨_,$p,@fun H0 S z ak ρ σ H R ds tg ok e k=>?_⟩)
local macro_rules|`(tactic|exists 25,$p)=>`(tactic|refine ⟨_,$p,@fun H0 S z ak ρ σ H E o ok e q=>?_⟩)
set_option hygiene true
noncomputable section
abbrev aad:=@List.mem_cons_of_mem
abbrev aae:=@PySem.wpAny_bind
abbrev aaf:=@PySem.Heap.get?_push_of_some
abbrev aat:=@List.mem_cons_self
abbrev aax:=@List.map_cons
abbrev aaS:=@List.mem_singleton
abbrev aaY:=@List.mem_append_right
abbrev abd:=@of_decide_eq_true
abbrev abm:=@Bool.and_eq_true
abbrev abG:=@List.mem_cons
abbrev abL:=@decide_eq_true
abbrev abR:=@Bool.false_ne_true
abbrev abT:=@List.mem_append_left
abbrev ab9:=@List.length_append
abbrev aco:=@PySem.Heap.lt_size
abbrev acr:=@List.getElem?_eq_getElem
abbrev acy:=@Nat.le_refl
abbrev acZ:=@if_neg
abbrev ac9:=@PySem.Heap.get?_push_size
abbrev ada:=@List.mem_append
abbrev adg:=@PySem.wpAny_pure
abbrev adn:=@List.size_toArray
abbrev ado:=@List.nodup_cons
abbrev adp:=@List.mem_map
abbrev ads:=@Option.some.inj
abbrev adt:=@decide_eq_false
abbrev adu:=@List.length_cons
abbrev adw:=@List.nodup_nil
abbrev ady:=@Nat.ne_of_lt
abbrev adz:=@List.mem_filter
abbrev adA:=@List.getElem?_map
abbrev adC:=@Option.map_eq_some_iff
abbrev adD:=@List.append_nil
abbrev adE:=@List.nodup_append
abbrev adF:=@Nat.lt_of_lt_of_le
abbrev adG:=@List.map_map
abbrev adH:=@Option.bind_some
abbrev adI:=@List.getElem?_set_ne
abbrev adJ:=@List.getD_eq_getElem?_getD
abbrev adN:=@List.find?_cons
abbrev adO:=@List.getElem?_eq_some_iff
abbrev adQ:=@List.map_append
abbrev adR:=@beq_eq_false_iff_ne
abbrev adS:=@List.any_eq_true
abbrev adT:=@List.append_assoc
abbrev adU:=@List.pairwise_cons
abbrev adV:=@PySem.Heap.get?_update_other
abbrev adW:=@List.all_eq_true
abbrev adX:=@List.not_mem_nil
abbrev adY:=@List.length_singleton
abbrev adZ:=@Nat.zero_le
abbrev ad0:=@List.lookup_cons
abbrev ad1:=@List.eq_nil_of_length_eq_zero
abbrev ad2:=@Option.bind_eq_some_iff
abbrev ad3:=@Array.length_toList
abbrev ad4:=@List.mem_of_find?_eq_some
abbrev ad5:=@Nat.le_trans
abbrev ad6:=@PyProof.Rows.callWith_type1
abbrev ad7:=@PySem.builtinLookup_eq_fast
abbrev ad8:=@Nat.lt_irrefl
abbrev ad9:=@List.foldl_cons
abbrev aea:=@PySem.wpAny_Call_Name_kw
abbrev aeb:=@List.filterMap_cons
abbrev aec:=@Array.getD_eq_getD_getElem?
abbrev aed:=@PySem.wpAny_newObj_type
abbrev aee:=@PySem.wpAny_truthy_bool
abbrev aef:=@Bool.false_eq_true
abbrev aeg:=@List.filterMap_map
abbrev aeh:=@List.getElem?_set_self
abbrev aei:=@List.find?_cons_of_neg
abbrev aej:=@List.getElem?_append_left
abbrev aek:=@Classical.byContradiction
abbrev ael:=@List.filter_sublist
abbrev aem:=@PySem.Heap.get?_update_self
abbrev aen:=@Nat.le_of_lt
abbrev aeo:=@Nat.ne_of_gt
abbrev aep:=@List.length_filter_le
abbrev aeq:=@PySem.F.slot_dict_keyiterator_next
abbrev aer:=@PySem.tupleKind_room_in1
abbrev aes:=@List.cons.injEq
abbrev aet:=@List.find?_eq_none
abbrev aeu:=@PySem.wpAny_mono
abbrev aev:=@PySem.Around.under_plainId
abbrev aew:=@beq_self_eq_true
abbrev aex:=@List.getElem?_append_right
abbrev aey:=@List.append_eq_nil_iff
abbrev aez:=@Ne.symm
abbrev aeA:=@List.map_congr_left
abbrev aeB:=@List.pairwise_map
abbrev aeC:=@PySem.wpAny_holding
abbrev aeD:=@Bool.and_self
abbrev aeE:=@PySem.codeAny_builtin
abbrev aeF:=@PySem.typeLookup_type
abbrev aeG:=@Option.isSome_iff_exists
abbrev aeH:=@Nat.lt_of_le_of_lt
abbrev aeI:=@PySem.wpAny_call_entry
abbrev aeJ:=@PySem.sizeLine_eq
abbrev aeK:=@Option.ite_none_right_eq_some
abbrev aeL:=@PySem.wpAny_typeNameOfWhole_keyiter
abbrev aeM:=@List.prefix_refl
abbrev aeN:=@List.mem_of_getElem?
abbrev aeO:=@List.pairwise_append
abbrev aeP:=@PySem.wpAny_callSpecial?_slot
abbrev aeQ:=@List.filter_cons_of_neg
abbrev aeR:=@Option.isSome_map
abbrev aeS:=@PySem.Heap.get?_update_ne
abbrev aeT:=@List.find?_cons_of_pos
abbrev aeU:=@Array.perm_iff_toList_perm
abbrev aeV:=@Option.getD_some
abbrev aeW:=@PySem.F.plain_min_loop
abbrev aeX:=@PySem.Calls.spliced_cons
abbrev aeY:=@PySem.plainId_quiet
abbrev aeZ:=@List.contains_iff_mem
abbrev ae0:=@PySem.wpAny_passesOwn
abbrev ae1:=@List.length_range
abbrev ae2:=@Bool.eq_false_iff
abbrev ae3:=@List.any_map
abbrev ae4:=@List.any_cons
abbrev ae5:=@List.filter_cons_of_pos
abbrev ae6:=@PySem.wpAny_isInstance
abbrev ae7:=@Nat.lt_succ_self
abbrev ae8:=@decide_eq_decide
abbrev ae9:=@PySem.Heap.size_push
abbrev afa:=@PySem.Calls.callWith_builtin
abbrev afb:=@List.filter_eq_nil_iff
abbrev afc:=@Array.getElem?_toList
abbrev afd:=@PySem.wpAny_updateSeq
abbrev afe:=@List.getElem?_eq_none
abbrev afg:=@PySem.wpAny_ite_split
abbrev afh:=@beq_iff_eq
abbrev afi:=@PySem.Calls.spliced_nil
abbrev afj:=@Int.toNat_natCast
abbrev afk:=@or_false
abbrev afl:=@List.exists_cons_of_ne_nil
abbrev afm:=@PySem.Heap.get?_none_of_le
abbrev afn:=@Classical.not_forall
abbrev afo:=@PySem.isSubtype_type
abbrev afp:=@PySem.wpAny_seqItems
abbrev afq:=@PySem.wpAny_tryCatch
abbrev afr:=@List.drop_eq_getElem_cons
abbrev afs:=@List.pairwise_iff_getElem
abbrev aft:=@List.length_take
abbrev afu:=@if_false
abbrev afv:=@List.filter_cons
abbrev afw:=@Nat.zero_add
abbrev afx:=@PySem.wpAny_attempt
abbrev afy:=@Bool.eq_iff_iff
abbrev afz:=@List.all_cons
abbrev afA:=@PySem.wpAny_specialOf
abbrev afB:=@List.length_set
abbrev afC:=@List.find?_some
abbrev afD:=@List.filter_append
abbrev afE:=@PySem.wpAny_field
abbrev afF:=@PySem.wpAny_rule
abbrev afG:=@List.reverse_cons
abbrev afH:=@Nat.lt_succ_of_lt
abbrev afI:=@decide_eq_true_eq
abbrev afJ:=@List.mem_range
abbrev afK:=@List.map_nil
abbrev afL:=@Int.le_trans
abbrev afM:=@List.all_map
namespace L2
open PySem PySem.Spec
open PySem PySem.Spec PyProof.Rows
noncomputable def uc(o:Obj):Option (Value×Str×Pos):=match o.data with
 |.func fd=>match fd.body with
  |.stmts [.Return (some (.Call _ _ [⟨_,.Lambda _ _ _ pos,_⟩] _)) _]=>some (fd.code,fd.qualname++".<locals>."++"<lambda>",pos)
  |_=>none
 |_=>none
def yr(K:PySem.W.Frag)(p:Addr×Obj):Option (Addr×Addr×Str×Pos):=match uc p.2 with
 |some (.ref c,q,pos)=>match K.lookup c with
  |some ⟨_,_,.fields vs,_⟩=>match(vs[11]? : Option Value) with
   |some (.ref P)=>some (c,P,q,pos)
   |_=>none
  |_=>none
 |_=>none
def iH(K:PySem.W.Frag):List (Addr×Addr×Str×Pos):=K.filterMap (yr K)
noncomputable def n_(K:PySem.W.Frag):Bool:=K.all λp=>match p.2.data with
 |.seq ao _=>ao.size==0||ao.toList.any λv=>match v with|.int _ _=>false|_=>true
 |_=>true
def xC(K:PySem.W.Frag):Bool:=(n_ K&&K.all λp=>(uc p.2).isNone||(yr K p).isSome)&&match iH K with
 |[]=>true
 |[r]=>PySem.W.codeHdIn K r.1 r.2.1&&(K.lookup r.2.1).isNone
 |_=>false
end L2
namespace L2
open PySem PySem.Spec PyProof.Rows
noncomputable def inClass(s:Stmt)(j:Nat):Stmt:=match s with
 |.ClassDef _ _ _ body _ _ _ _ _ _ _=>body.getD j (.Pass ⟨0,0,0,0⟩)
 |_=>.Pass ⟨0,0,0,0⟩
noncomputable def kc(s:Stmt):Arguments:=match s with
 |.FunctionDef _ a _ _ _ _ _ _ _ _=>a
 |_=>{ posonlyargs:=[],args:=[],vararg:=none,kwonlyargs:=[],kw_defaults:=[],kwarg:=none,defaults:=[] }
noncomputable def g7(s:Stmt):List Stmt:=match s with
 |.FunctionDef _ _ b _ _ _ _ _ _ _=>b
 |_=>[]
noncomputable def cT(s:Stmt):Scope:=match s with
 |.FunctionDef _ _ _ _ _ _ sc _ _ _=>sc
 |_=>{ kind:=.function,names:=[],isGenerator:=false,isCoroutine:=false }
theorem tabs_ok{K:Params->PySem.W.Frag}{e:∀P,as=(K P).map (·.1)}(h:∀w:World,(iH (K w.params)).map (·.2.1)=ts)(w:World)(hp:Heap)(Y:(PySem.W.kmHook K as e ts).says w hp):∀r∈iH (K w.params),hp.get? r.2.1=some (PySem.W.tabObj #[]):=
 λr m=>PySem.W.km_tabs_of Y _ (by rw[<- h w];exact List.mem_map_of_mem m)
end L2
namespace L2.Ev
open PySem PySem.Spec PySem.W PyProof.Rows
structure Ls where
 bt:List Str
 gi:List (Str×Int)
 tp:List (Str×List Str)
 cl:List Str
 na:List (Str×Str)
 ni:Bool
noncomputable def cA(K:Frag)(c:Str):Addr:=match nsIn K mainGlobals c with
 |some (some (.ref a))=>a
 |_=>0
noncomputable def gK:Stmt->Str
 |.FunctionDef x ..=>x
 |_=>Str.empty
def jU(c:Str)(s:Stmt):Str:=if c==Str.empty then gK s else c++"."++gK s
noncomputable def strOf:Value->Option Str
 |.str s _=>some s
 |_=>none
def D5(K:Frag)(x:Str)(l:List Str):Bool:=match nsIn K mainGlobals x with
 | some (some (.ref a))=>(match K.lookup a with
  |some ⟨c,none,.seq ao _,_⟩=>c == .type "tuple"&&decide (ao.size<=sizeLine)&&ao.toList.map strOf==l.map some
  |_=>false)
 |_=>false
noncomputable def OQ(K:Frag)(x:Str)(n:Int):Bool:=match nsIn K mainGlobals x with
 |some (some (.int m _))=>m==n
 |_=>false
def vC(K:Frag)(c:Str):Bool:=nsIn K mainGlobals c==some (some (.ref (cA K c)))&&plainGet K (cA K c) Str.empty&&hasDictIn K (cA K c)&&plainOver K (cA K c)&&findIn K (.ref (cA K c)) "__setattr__" == some (some (.builtin "object.__setattr__"))&&makesIn K (cA K c)&&keepIn K (.ref (cA K c))
def qG(L:Ls)(K:Frag):Bool:=(!L.ni||n_ K)&&L.bt.all (λx=>nsIn K mainGlobals x==some none)&&L.gi.all (λp=>OQ K p.1 p.2)&&L.tp.all (λp=>D5 K p.1 p.2)&&L.cl.all (vC K)&&L.na.all (λp=>findIn K (.ref (cA K p.1)) p.2==some none)
noncomputable def M5(fd:FuncData):FuncData:={ fd with kwdefaults:=.none,doc:=.none,pyModule:=.none,annotations:=none,code:=.none,closureTuple:=.none }
def Gz(K:Frag)(q:Str):Option (Option Value)->Option FuncData
 | some (some (.ref a))=>(match K.lookup a with
  |some ⟨_,_,.func fd,_⟩=>if(codeIn K fd.code q&&keepIn K (.ref a)&&isFn K (.ref a))=true then some (M5 fd) else none
  |_=>none)
 |_=>none
def look(K:Frag)(p:Str×Stmt):Option FuncData:=Gz K (jU p.1 p.2) (if p.1==Str.empty then nsIn K mainGlobals (gK p.2) else findIn K (.ref (cA K p.1)) (gK p.2))
def want(p:Str×Stmt):Option FuncData:=some (fnOf (gK p.2) (jU p.1 p.2) (kc p.2) (g7 p.2) (cT p.2) .none .none .none .none none .none .none)
end L2.Ev
namespace K44
open PySem L2 L2.Ev
noncomputable def top(i:Nat):Stmt:=PySem.Challenge.pw_linegate_k44_whole_halving_by_two_looks.main.body.getD i (.Pass ⟨0,0,0,0⟩)
noncomputable def L:Ls:=⟨["all","bool","dict","int","isinstance","len","list","min","range","reversed","sorted","str","tuple","zip"],[("GREATEST_RANK",9),("GREATEST_SLOT",999),("GREATEST_VALUE",1000000000),("MOST_CHANGES",60),("MOST_EDITS",20),("MOST_HANDS",8),("MOST_TRIES",20),("MOST_WIDTH",16)],[("BAD_WORDS",["no","unsure"]),("WORDS",["yes","no","unsure"])],["Changes","Gate","Tally"],[("Changes","entries"),("Gate","answers"),("Gate","breaks"),("Gate","ended"),("Gate","grounds"),("Gate","grown"),("Gate","halted"),("Gate","known"),("Gate","laid_ones"),("Gate","looks"),("Gate","numbers"),("Gate","on_line"),("Gate","tallies"),("Tally","heard"),("Tally","need"),("Tally","tries")],true⟩
end K44
namespace HT
open PySem PySem.W PyProof.Rows
noncomputable def GS:List Obj->List Obj
 |[]=>[]
 |[a]=>[a]
 |a::_::l=>a::GS l
def EE:Nat->List Obj->BT
 |0,_=>.nil
 |_+1,[]=>.nil
 |k+1,o::l=>.node o (EE k (GS l)) (EE k (GS l.tail))
noncomputable def nj(tb:String->Option Builtin)(p:Program)(w:World)(vo:Nat)(ann:Option Value):Nat->SharedT->Thread->Option SharedT
 |0,_,_=>none
 |k+1,s,t=>match through t with
  |true=>some s
  |false=>match stepOk vo ann t with
   |false=>none
   |true=>match stepT (denote tb) p w s t with
    |none=>none
    |some (s',t')=>nj tb p w vo ann k s' t'
theorem LC:∀{k} {s s'} {t},nj tb p w vo ann k s t=some s'->topRun tb p w vo ann k s.abs t=some s'.abs
 |0,_,_,_,h=>by cases h
 |k+1,s,s',t,h=>by
  unfold nj at h;unfold topRun;cases e:through t with
  |true=>rw[e] at h;cases h;rfl
  |false=>
   rw[e] at h;cases o:stepOk vo ann t with
   |false=>rw[o] at h;cases h
   |true=>
    rw[o] at h;cases g:stepT (denote tb) p w s t with
    |none=>rw[g] at h;cases h
    |some r=>obtain⟨s2,t2⟩:=r;rw[g] at h;rw[stepT_spec g];exact LC h
def CJ(P:Params):BT:=EE 12 (boot_heap P).objs.toList
noncomputable def lT:Nat:=11
theorem YE(P:Params):(boot_heap P).objs.size=lT:=by kernel_rfl
theorem boot_abs(P:Params):absHeap (CJ P) lT (boot_heap P).life=boot_heap P:=by kernel_rfl
def qB(P:Params)(os:OsState):SharedT:=⟨CJ P,lT,(boot_heap P).life,Array.mk [],boot_drawn,boot_toks,os⟩
theorem aac
  (he:opening p=plainProg p.main.scope.names) (hf:∀s,fenceModules? p s=some s) (hN:Nat.ble 600 N=true)
  (hz:∀P:Params,((boot_heap P).isNs mainGlobals,(boot_heap P).nsMap mainGlobals "__annotations__")=(true,ann))
  (h:∀(w) (os),(nj treeTable p w lT ann N (qB w.params os) (topStub p)).map (λsT=>
    ((staticsOk (importedModules p.main.body) (boot_heap w.params) sT.abs.heap&&namesBound p sT.abs.heap&&gensDone sT.abs&&laidKept (boot_heap w.params) sT.abs.heap),openSeen q loose (importedModules p.main.body) Xt true sT.abs,Yf sT.abs))=some (true,openGood q loose,Ya w)) :
  LeftO p q loose Xt Yf Ya N:=λw=>by
 obtain⟨⟨hh,gs,d,k,os⟩,e,e'⟩:=adC.mp (boot_open he hN hf w);obtain⟨rfl,rfl,rfl,rfl⟩:hh=boot_heap w.params/\gs=Array.mk []/\d=boot_drawn/\k=boot_toks:=by simpa using e'
 obtain⟨z1,z2⟩:_/\_:=by simpa only[Prod.mk.injEq] using hz w.params
 obtain⟨sT,r,l⟩:=adC.mp (h w os);obtain⟨l1,l2,l3⟩:_/\_/\_:=by simpa only[Prod.mk.injEq] using l
 have r':=LC r;have ab:(qB w.params os).abs=⟨boot_heap w.params,Array.mk [],boot_drawn,boot_toks,os⟩:=by
  show Shared.mk (absHeap (CJ w.params) lT (boot_heap w.params).life) _ _ _ _=_;rw[boot_abs];rfl
 rw[ab] at r';have t:topFrom treeTable p w N ⟨boot_heap w.params,Array.mk [],boot_drawn,boot_toks,os⟩=some sT.abs:=by
  unfold topFrom;dsimp only;rw[z1,z2,YE,r'];show(match staticsOk (importedModules p.main.body) (boot_heap w.params) sT.abs.heap&&namesBound p sT.abs.heap&&gensDone sT.abs&&laidKept (boot_heap w.params) sT.abs.heap with|true=>_|false=>_)=_;rw[l1]
 unfold openEnds;rw[e];show(topFrom treeTable p w N _).map _=_;rw[t];exact congrArg some (Prod.ext l2 l3)
theorem SQ
  (he:opening p=plainProg p.main.scope.names) (hf:∀s,fenceModules? p s=some s) (hN:Nat.ble 600 N=true)
  (hz:∀P:Params,((boot_heap P).isNs mainGlobals,(boot_heap P).nsMap mainGlobals "__annotations__")=(true,ann))
  (h1:∀(w) (os),(nj treeTable p w lT ann N (qB w.params os) (topStub p)).map (λsT=>((staticsOk (importedModules p.main.body) (boot_heap w.params) sT.abs.heap&&namesBound p sT.abs.heap&&gensDone sT.abs&&laidKept (boot_heap w.params) sT.abs.heap),openSeen q loose (importedModules p.main.body) Xt true sT.abs))=some (true,openGood q loose))
  (h3:∀(w) (os),(nj treeTable p w lT ann N (qB w.params os) (topStub p)).map (λsT=>Yf sT.abs)=some (Ya w)) :
  LeftO p q loose Xt Yf Ya N:=aac he hf hN hz λw os=>by
 obtain⟨sT,r,e1⟩:=adC.mp (h1 w os);have e3:=h3 w os;rw[r] at e3 ⊢;have e3:=ads e3;obtain⟨e1,e2⟩:_/\_:=by simpa only[Prod.mk.injEq] using e1
 show some (_,_,_)=some (true,openGood q loose,Ya w);rw[e1,<- e2,<- e3]
noncomputable def tg(s:SharedT)(a:Nat):Option Obj:=match Nat.blt a s.n with
 |true=>match s.tree.get a with
  |some o=>alive o
  |none=>none
 |false=>none
theorem Ua(h:tg s a=some o):s.abs.heap.get? a=some o:=by
 unfold tg at h;cases e:Nat.blt a s.n with
 |false=>rw[e] at h;cases h
 |true=>
  rw[e] at h;dsimp only at h;cases g:s.tree.get a with
  |none=>rw[g] at h;cases h
  |some o'=>
   rw[g] at h;have cN:a<s.n:=by simpa using e
   exact(abs_get cN g).trans h
theorem Bj:∀{as:List Addr}{os:List Obj},as.map (tg s)=os.map some->as.map s.abs.heap.get? = os.map some
 |[],[],_=>rfl
 |[],_::_,h=>by cases h
 |_::_,[],h=>by cases h
 |a::as,o::os,h=>by
  rw[aax,aax] at h;injection h with h1 h2;rw[aax,aax,Ua h1,Bj h2]
end HT
namespace HT
open PySem PySem.W PyProof.Rows
variable{K:Params->Frag}
theorem left_Tkm(he:opening p=plainProg p.main.scope.names)(hf:∀s,fenceModules? p s=some s)(hN:Nat.ble 600 N=true)
  (hz:∀P:Params,((boot_heap P).isNs mainGlobals,(boot_heap P).nsMap mainGlobals "__annotations__")=(true,ann))
  (h1:∀(w:World) (os),(nj treeTable p w lT ann N (qB w.params os) (topStub p)).map (λsT=>((staticsOk (importedModules p.main.body) (boot_heap w.params) sT.abs.heap&&namesBound p sT.abs.heap&&gensDone sT.abs&&laidKept (boot_heap w.params) sT.abs.heap),openSeen q loose (importedModules p.main.body) Xt true sT.abs))=some (true,openGood q loose))
  (h3:∀(w) (os),(nj treeTable p w lT ann N (qB w.params os) (topStub p)).map (λsT=>(as.map (tg sT),ts.map (tg sT)))=some (((K w.params).map (·.2)).map some,(ts.map λ_=>tabObj #[]).map some)) :
  LeftO p q loose Xt (Hook.obs (kmHook K as e ts)) (Hook.val (kmHook K as e ts)) N:=SQ he hf hN hz h1 λw os=>by
 obtain⟨sT,r,e1⟩:=adC.mp (h3 w os);obtain⟨e1,e2⟩:_/\_:=by simpa only[Prod.mk.injEq] using e1
 rw[r];show some (as.map sT.abs.heap.get?,ts.map sT.abs.heap.get?)=some ((K w.params).map λp=>some p.2,ts.map λ_=>some (tabObj #[]));rw[Bj e1,Bj e2,adG,adG];rfl
end HT
namespace K44
open PySem L2 L2.Ev
def tab:List (Str×Stmt):=[47,10,40,11,17,18,19,16,25,31,30,32,29,27,28,15,35,34,51,49,52,48,50,53].map (λi=>(Str.empty,top i))++[0,2,9,11,1,10,4,5,3].map (λi=>(("Changes":Str),inClass (top 24) i))++[0,19,8,24,21,20,11,26,13,27,25,29,28,23,1,10,6,7,9,22,3].map (λi=>(("Gate":Str),inClass (top 45) i))++[3,1,0].map (λi=>(("Tally":Str),inClass (top 39) i))
noncomputable def isNm:Stmt->Bool
 |.FunctionDef x ..=>!(x == "law")
 |_=>true
noncomputable def lo:List Str:=(["_wall","LinegateError","NoFit","NoChange","TooMany","NoRule","NoAnswer","NoLook","within","rising","GREATEST_SLOT","GREATEST_VALUE","unfit","edited_in_turn","are_edits","misfit","sheet_of_values","MOST_CHANGES","MOST_EDITS","GREATEST_RANK","Changes","sheet_of","free","filled","first_fitting","in_turn","values_behind","fits","wanted_places","middle_of_gap","WORDS","MOST_TRIES","Tally","makes_tally","MOST_WIDTH","MOST_HANDS","BAD_WORDS","Gate","_law_take","_law_mix","_law_same","_law_good","_law_figures","_law_grounds"]:List String).map Str.ofString
def vw:Program:={ PySem.Challenge.pw_linegate_k44_whole_halving_by_two_looks with main:={ (PySem.Challenge.pw_linegate_k44_whole_halving_by_two_looks).main with body:=(PySem.Challenge.pw_linegate_k44_whole_halving_by_two_looks).main.body.filter λs=>!isNm s } }
def Wk:Prop:=∀{YP:World->Heap->Prop}{K:Params->PySem.W.Frag}{d:DefRec},(∀(w:World) (h:Heap),YP w h->(K w.params).In h)->(∀(w:World) (h:Heap),YP w h->∀r∈iH (K w.params),h.get? r.2.1=some (PySem.W.tabObj #[]))->(∀w:World,xC (K w.params)=true)->(∀w:World,qG L (K w.params)=true)->(∀w:World,tab.map (look (K w.params))=tab.map want)->d.params.defaults=[]->d.name="law"->PySem.W.WalkO vw lo (PySem.W.XL vw []) YP (PySem.W.OpenLaw.row PySem.Challenge.rw_linegate_k44_whole_halving_by_two_looks).toRowW d [] (λf vs=>PySem.call f vs)
end K44
namespace K44
open PySem L2 L2.Ev
open PySem PySem.W PyProof.Rows L2 L2.Ev
def xt(s:Shared):Bool:=xlAt vw [] s&&recOk (RowW.records (OpenRow.toRowW (OpenLaw.row PySem.Challenge.rw_linegate_k44_whole_halving_by_two_looks))) s
theorem xt1(s:Shared)(e:xt s=true):XL vw [] (s.heap.nsMap mainGlobals) s.heap:=xl_of s (Bool.and_eq_true_iff.mp e).1
theorem rn(w:World)(os:OsState):(HT.nj treeTable PySem.Challenge.pw_linegate_k44_whole_halving_by_two_looks w HT.lT (some (.ref 6)) 20000 (HT.qB w.params os) (topStub PySem.Challenge.pw_linegate_k44_whole_halving_by_two_looks)).map (λsT=>((staticsOk (importedModules (PySem.Challenge.pw_linegate_k44_whole_halving_by_two_looks).main.body) (boot_heap w.params) sT.abs.heap&&namesBound PySem.Challenge.pw_linegate_k44_whole_halving_by_two_looks sT.abs.heap&&gensDone sT.abs&&laidKept (boot_heap w.params) sT.abs.heap),openSeen vw lo (importedModules (PySem.Challenge.pw_linegate_k44_whole_halving_by_two_looks).main.body) xt true sT.abs))=some (true,openGood vw lo):=by kernel_rfl
theorem xt2(s:Shared)(e:xt s=true):RecFacts (RowW.records (OpenRow.toRowW (OpenLaw.row PySem.Challenge.rw_linegate_k44_whole_halving_by_two_looks))) s.heap:=recFacts_of (Bool.and_eq_true_iff.mp e).2
local macro_rules | `(tactic| o_head $H)=>`(tactic| (refine PySem.W.holds_open (q:=K44.vw) (loose:=K44.lo) (N:=20000) (Xt:=K44.xt) (XP:=XL K44.vw []) (Yf:=Hook.obs $H) (Ya:=Hook.val $H) (YP:=Hook.says $H) ?hl (Hook.of $H) (Hook.keeps $H) K44.xt1 XL.keeps (by rfl) (by rfl) (by rfl) K44.xt2 (by rfl) (by assumption) (by decide +kernel) ⟨rfl,rfl,rfl,rfl,rfl,by decide +kernel⟩ ?hw ?hc;(case hl=>exact HT.left_Tkm (ann:=some (.ref 6)) (by rfl) (fun _=>rfl) (by decide) (fun _=>by kernel_rfl) K44.rn fun w os=>by kernel_rfl);(case hw=>w_witness2)))
theorem Wo:OpenLaw.wellSaid PySem.Challenge.rw_linegate_k44_whole_halving_by_two_looks=true:=by kernel_rfl
set_option maxHeartbeats 0 in
theorem early(H:Wk):PySem.Challenge.rw_linegate_k44_whole_halving_by_two_looks.Holds:=by
 w_on;refine holds_law Wo λadK=>?_;k_head
 k_fill
 exact H (λw h Y=>PySem.W.km_in_of Y) (L2.tabs_ok λw=>by kernel_rfl) (λw=>by kernel_rfl) (λw=>by kernel_rfl) (λw=>by kernel_rfl) rfl rfl
end K44
local macro_rules | `(tactic| walk_at "va")=>`(tactic| exact ⟨rfl,by first | exact Or.inl rfl | exact Or.inr (Or.inl rfl) | exact Or.inr (Or.inr rfl),by decide,by decide⟩)
local macro_rules | `(tactic| exists $h:ident, $x, $w:ident, $e:ident) => `(tactic| (rcases $h:ident : $x:term with _ | $w:ident; (rw [$h:ident] at $e:ident; cases $e:ident); rw [$h:ident] at $e:ident))
local macro_rules | `(tactic| exists $h:ident, $x, $w:ident, $e:ident, 0) => `(tactic| (rcases $h:ident : $x:term with _ | $w:ident; (rw [$h:ident] at $e:ident; cases $e:ident)))
theorem ci{c:Prop}[Decidable c]{α:Type}{a:Option α}{y:α}(e:(if c then a else none)=some y):c/\a=some y:=by
 by_cases h:c
 .rw[if_pos h] at e;exact⟨h,e⟩
 .rw[acZ h] at e;cases e
namespace L2
open PySem PySem.Spec
theorem SN:entryFor table "proto.unchain"=some Builtin.«proto.unchain»:=entryFor_of_tree (by kernel_rfl)
theorem P0{α:Type}{Q:α->Shared->Prop}(hh:A.handled=some (.ref h))(he:s.heap.get? e=some oe)(hd:oe.data=.fields ve)(h2:2<ve.size)
  (hx:s.heap.get? h=some oh) (C_:oh.data=.fields vh) (EY:vh[2]? = some .none) (ne:h≠e) (q:E (.ref e) { s with heap:=s.heap.update e (Obj.mapFields (·.setIfInBounds 2 (.ref h))) }):wpAny (model prog w) A (raiseNew (.ref e):Sem α) Q E s:=by
 unfold raiseNew;refine aae (wpAny_handled ?_);rw[hh];dsimp only;rw[if_pos (by simpa using ne)];refine aae (aeC (wpAny_runValue (aeE SN ?_)));unfold Builtin.«proto.unchain»;refine aae (afE hx C_ EY ?_);rw[if_pos (by rfl)];refine adg ?_;refine aae ?_;unfold updateField;refine aae (wpAny_load he ?_);rw[hd];dsimp only;rw[if_pos h2];exact wpAny_update' he (wpAny_throw q)
theorem QL{prog:Program}{w:World}{A:Around}{E:Value->Shared->Prop}{s:Shared}{it h:Addr}{x left step:Int}{oh:Obj}{vh:Array Value}{Q:Option Value->Shared->Prop}(hh:A.handled=some (.ref h))(hx:s.heap.get? h=some oh)(C_:oh.data=.fields vh)(EY:vh[2]? = some .none)(hit:IsRangeIter s.heap it x left step)(YQ:left<=0)
  (hQ:∀h',Heap.ExtBut it s.heap h'->Q none { s with heap:=h' }):wpAny (model prog w) A (pyNext (.ref it)) Q E s:=by
 have hT:s.TypeIs (.ref it) "range_iterator":=⟨_,hit,rfl⟩
 unfold pyNext;refine aae (afx (aeP hT F.slot_range_iterator_next
  (aeI F.slot_range_iterator_next hT F.entry_range_iterator_next ?_ (F.args_range_iterator_next_1 _))))
 show wpAny _ _ (field (.ref it) 0 >>= _) _ _ s;refine aae (afE hit rfl rfl ?_);refine aae (afE hit rfl rfl ?_);refine aae (afE hit rfl rfl ?_);show wpAny _ _ (if left<=0 then _ else _) _ _ s;rw[if_pos YQ];refine aae (afF ?_);refine aae ?_;refine aae ?_;simp only[newExc,newTuple];refine aae (aed ?_ (by size_fits));refine aae (wpAny_of_eq (by first|rfl|(simp only[firstArgMember];rfl)) ?_);refine aed ?_ (by size_fits);have hn:h≠(s.heap.push { cls:=.type "tuple",dict:=none,data:=.seq ([]:List Value).toArray }).objs.size:=ady (aco (aaf _ hx));refine P0 (by first|exact hh|(show A.in1.handled=_;exact hh)) (ac9 _ rfl) rfl (by simp<;>lia) (aaf _ (aaf _ hx)) C_ EY hn ?_;refine aae (ae6 ⟨_,aem _ (ac9 _ rfl) rfl,rfl⟩ isSubtype_stop ?_);refine adg (hQ _ λb o hb e=>?_);rw[adV _ _ (aez (ady (aco (aaf _ e))))];exact aaf _ (aaf _ e)
open PySem PySem.Spec PyProof.Rows
noncomputable abbrev Key:=Sum Int Str
noncomputable def qu:Key->Value->Bool
 |.inl k,v=>Value.isInt k v
 |.inr x,v=>Value.isStrOf x v
noncomputable def Sg(w:World):Key->Int
 |.inl k=>hashInt k
 |.inr x=>hashStr w x
theorem lR:∀{k} {v},qu k v=true->(∃i t,k=Sum.inl i/\v=Value.int i t)\/(∃x t,k=Sum.inr x/\v=Value.str x t)
 |.inl i,v,h=>by
  obtain⟨t,e⟩:=Value.isInt_shape h;exact .inl ⟨i,t,rfl,e⟩
 |.inr x,v,h=>by
  obtain⟨t,e⟩:=Value.isStrOf_shape h;exact .inr ⟨x,t,rfl,e⟩
theorem UD(i:Int)(t:Tok):qu (.inl i) (.int i t)=true:=by simp[qu,Value.isInt]
theorem Uh(x:Str)(t:Tok):qu (.inr x) (.str x t)=true:=by simp[qu,Value.isStrOf]
theorem QV(a b:Int):decide ((Sum.inl a:Key)=Sum.inl b)=(a==b):=by
 by_cases e:a=b
 .subst e;simp
 .have h:¬(Sum.inl a:Key)=Sum.inl b:=λq=>e (Sum.inl.inj q)
  rw[adt h];exact(adR.mpr e).symm
theorem acq(a b:Str):decide ((Sum.inr a:Key)=Sum.inr b)=decide (a=b):=by
 by_cases e:a=b
 .subst e;simp
 .have h:¬(Sum.inr a:Key)=Sum.inr b:=λq=>e (Sum.inr.inj q)
  rw[adt h,adt e]
theorem So(a:Int)(b:Str):decide ((Sum.inl a:Key)=Sum.inr b)=false:=adt (λq=>nomatch q)
theorem P1(a:Str)(b:Int):decide ((Sum.inr a:Key)=Sum.inl b)=false:=adt (λq=>nomatch q)
def eZ(prog:Program)(w:World):PySem.KeyKind prog w Key where
 is:=qu
 hash:=Sg w
 inj:=λv a b ha hb=>by
  rcases lR ha with⟨i,t,rfl,rfl⟩|⟨x,t,rfl,rfl⟩
  .rcases lR hb with⟨j,u,rfl,e⟩|⟨y,u,rfl,e⟩
   .injection e with e1 _;rw[e1]
   .exact nomatch e
  .rcases lR hb with⟨j,u,rfl,e⟩|⟨y,u,rfl,e⟩
   .exact nomatch e
   .injection e with e1 _;rw[e1]
 byValue:=λk v h=>by
  rcases lR h with⟨i,t,rfl,rfl⟩|⟨x,t,rfl,rfl⟩<;>rfl
 pyHash:=λhv h=>by
  rcases lR hv with⟨i,t,rfl,rfl⟩|⟨x,t,rfl,rfl⟩
  .exact wpAny_pyHash_int h
  .exact wpAny_pyHash_str h
 eqBool:=λhu hv h=>by
  rcases lR hu with⟨i,t,rfl,rfl⟩|⟨x,t,rfl,rfl⟩
  .rcases lR hv with⟨j,u,rfl,rfl⟩|⟨y,u,rfl,rfl⟩
   .rw[QV] at h;exact wpAny_eqBool_int h
   .rw[So] at h;exact SeqAt.EqAt.int_str i t y u _ _ _ _ h
  .rcases lR hv with⟨j,u,rfl,rfl⟩|⟨y,u,rfl,rfl⟩
   .rw[P1] at h;exact SeqAt.EqAt.str_int x t j u _ _ _ _ h
   .rw[acq] at h;exact wpAny_eqBool_str h
 «strs»:=λk x t v h=>by
  rcases lR h with⟨i,u,rfl,e⟩|⟨y,u,rfl,e⟩
  .exact nomatch e
  .injection e with e1 _;subst e1;cases v<;>rfl
theorem SR(prog:Program)(w:World)(i:Int)(t:Tok):(eZ prog w).is (.inl i) (.int i t)=true:=UD i t
theorem Z6(prog:Program)(w:World)(x:Str)(t:Tok):(eZ prog w).is (.inr x) (.str x t)=true:=Uh x t
inductive V where
 |aB|bl (b:Bool)|int (i:Int)|str (x:Str)|i0 (b:Array UInt8)|qI (b:UInt64)|ref (a:Addr)|ty (n:String)
 deriving DecidableEq
def RelV:V->Value->Prop
 |.aB,u=>u=Value.none
 |.bl b,u=>u=Value.bool b
 |.int i,u=>∃t,u=Value.int i t
 |.str x,u=>∃t,u=Value.str x t
 |.i0 b,u=>∃t,u=Value.bytes b t
 |.qI b,u=>∃t,u=Value.float b t
 |.ref a,u=>u=Value.ref a
 |.ty n,u=>u=Value.type n
noncomputable abbrev aN:List V->List Value->Prop:=Paired RelV
theorem aN.length(r:aN xs us):xs.length=us.length:=Paired.length r
theorem aN.get:∀{xs} {us}{i:Nat} {x},aN xs us->xs[i]? = some x->∃u,us[i]? = some u/\RelV x u
 |_,_,_,_,.nil,e=>by simp at e
 |_,_,0,_,.cons r _,e=>by simp at e;subst e;exact⟨_,rfl,r⟩
 |_,_,i+1,x,.cons _ t,e=>by
  obtain⟨u,h1,h2⟩:=aN.get t (by simpa using e);exact⟨u,by simpa using h1,h2⟩
theorem aN.append:∀{xs ys} {us ws},aN xs us->aN ys ws->aN (xs++ys) (us++ws)
 |_,_,_,_,.nil,s=>s
 |_,_,_,_,.cons r t,s=>.cons r (aN.append t s)
theorem aN.take:∀{xs} {us} (n),aN xs us->aN (xs.take n) (us.take n)
 |_,_,0,_=>.nil
 |_,_,_+1,.nil=>.nil
 |_,_,n+1,.cons r t=>.cons r (aN.take n t)
theorem aN.drop:∀{xs} {us} (n),aN xs us->aN (xs.drop n) (us.drop n)
 |_,_,0,r=>r
 |_,_,_+1,.nil=>.nil
 |_,_,n+1,.cons _ t=>aN.drop n t
def gj:Option V->Option Value->Prop
 |some v,some u=>RelV v u
 |none,none=>True
 |_,_=>False
def KV{κ:Type}:List (κ×V)->List (κ×Value)->Prop:=Paired λ(p:κ×V) (q:κ×Value)=>p.1=q.1/\RelV p.2 q.2
noncomputable def kV:Key->V
 |.inl i=>.int i
 |.inr x=>.str x
def mj(h:Heap)(a:Addr)(items:Array Value):Prop:=∃o,h.get? a=some o/\o.cls=.type "tuple"/\o.dict=none/\∃n,o.data=.seq items n
theorem mj.isTup(x:mj h a items):IsTup h a items:=let⟨o,e,c,_,d⟩:=x;⟨o,e,c,d⟩
theorem mj.lt(x:mj h a items):a<h.objs.size:=let⟨_,e,_⟩:=x;aco e
theorem mj.new(h:Heap)(items:Array Value):mj (h.push { cls:=.type "tuple",data:=.seq items }) h.objs.size items:=⟨_,ac9 _ rfl,rfl,rfl,_,rfl⟩
inductive HO where
 |lst (xs:List V)
 |tup (xs:List V)
 |dK (ah:List (Key×V))|dT (ah:List (List Key×V))
 |set (S:Int->Bool) (n:Nat)
 |ins (C dx:Addr) (fs:List (Str×V))
 |own (x:Addr)
 |xd (fs:List (Str×V))
 |met (f x:Addr)
 |bf (lo hi:Int)
 |bT (o:Obj) (u:HO)
 |pS (ps:Array Value)
 |gQ (q:Str) (pos:Pos)|ir (q:Str)
 |ext (φ:Heap->Prop)
noncomputable abbrev Hp:=Addr->Option HO
inductive kQ where
 |tup (xs:List V)|rD (o:Obj) (xs:List V)|gQ (q:Str) (pos:Pos)|ir (q:Str)
noncomputable def kQ.ho:kQ->HO
 |.tup xs=>.tup xs
 |.rD o xs=>.bT o (.tup xs)
 |.gQ q p=>.gQ q p
 |.ir q=>.ir q
noncomputable def kQ.tp:kQ->Option (List V)
 |.tup xs=>some xs
 |.rD _ xs=>some xs
 |_=>none
def Tk(H:Hp)(b:Addr)(xs:List V):Prop:=∃t:kQ,t.tp=some xs/\H b=some t.ho
noncomputable def upd(H:Hp)(a:Addr)(o:HO):Hp:=λb=>if b=a then some o else H b
theorem bg:upd H a o a=some o:=by unfold upd;rw[if_pos rfl]
theorem aG(h:b≠a):upd H a o b=H b:=by unfold upd;rw[acZ h]
theorem acF{H:Hp}(h:H a=some o)(h':H b=some u)(d:o≠u):a≠b:=by
 intro e;subst e;rw[h] at h';exact d (ads h')
theorem cu{H:Hp}(h:H a=some o)(h':H b=none):a≠b:=by
 intro e;subst e;rw[h] at h';cases h'
section
variable(P:Program)(w:World)
def cP(H:Hp)(h:Heap)(a:Addr):HO->Prop
 |.lst xs=>xs.length<=sizeLine/\∃(ao:List Value) (n:Nat),aN xs ao/\h.get? a=some { cls:=.type "list",data:=.seq ao.toArray n }
 |.tup xs=>xs.length<=sizeLine/\∃ao:List Value,aN xs ao/\mj h a ao.toArray
 |.dK ah=>ah.length<=sizeLine/\(a==sysModules)=false/\∃vs,KV ah vs/\h.DictOf (eZ P w) a vs
 |.dT ah=>ah.length<=sizeLine/\(a==sysModules)=false/\∃xs:List (List Key×Addr×Value),
   Paired (λ(p:List Key×V) (q:List Key×Addr×Value)=>p.1=q.1/\Tk H q.2.1 (p.1.map kV)/\RelV p.2 q.2.2) ah xs/\
   ∃o es ep,h.get? a=some o/\o.ExactDict/\o.data=.dict es ep/\es.toList=xs.map (entryOfKey (tupleKind (eZ P w)))/\(xs.map (·.1)).Nodup
 |.set S n=>h.SetOf (intKind P w) a S n
 |.ins C dx fs=>H dx=some (.own a)/\fs.length<=1000/\dx≠a/\h.get? a=some (PySem.W.instObj C dx)/\
   ∃mA,h.Ns1 dx mA/\(∀f,gj (fs.lookup f) (mA f))/\PySem.Within mA (fs.map (·.1))
 |.own _=>∃o,h.get? a=some o
 |.xd fs=>∃mA,h.Ns1 a mA/\∀f,gj (fs.lookup f) (mA f)
 |.bf lo hi=>∃t u v,h.get? a=some { cls:=.type "range",data:=.fields #[.int lo t,.int hi u,.int 1 v] }
 |.bT o u=>h.get? a=some o/\cP H h a u
 |.pS ps=>h.get? a=some { cls:=.none,data:=.fields ps }
 |.gQ q pos=>∃ps:Array Value,h.get? a=some { cls:=.none,data:=.fields ps }/\(ps=#[]\/∃c,ps=#[rawInt pos.line,rawInt pos.col,.ref c]/\H c=some (.ir q))
 |.ir q=>h.CodeRec (.ref a) q
 |.met f x=>h.get? a=some (PySem.W.methodObj (.ref f) (.ref x))
 |.ext φ=>φ h/\(∃o,h.get? a=some o)/\∀h1 h2:Heap,φ h1->(∀o,h1.get? a=some o->h2.get? a=some o)->φ h2
def dD(H:Hp)(h:Heap):Prop:=∀a o,H a=some o->cP P w H h a o
end
theorem cP.lt(x:cP P w H h a o):a<h.objs.size:=by
 cases o with
 |lst xs=>obtain⟨_,_,_,_,e⟩:=x;exact aco e
 |tup xs=>obtain⟨_,_,_,p⟩:=x;exact p.lt
 |dK ah=>obtain⟨_,_,_,_,o,_,_,e,_⟩:=x;exact aco e
 |dT ah=>obtain⟨_,_,_,_,o,_,_,e,_⟩:=x;exact aco e
 |set S n=>obtain⟨o,_,_,_,e,_⟩:=x;exact aco e
 |ins C dx fs=>obtain⟨_,_,_,e,_⟩:=x;exact aco e
 |own y=>obtain⟨_,e⟩:=x;exact aco e
 |xd fs=>obtain⟨_,⟨_,_,_,e,_⟩,_⟩:=x;exact aco e
 |bf lo hi=>obtain⟨_,_,_,e⟩:=x;exact aco e
 |bT ob u=>obtain⟨e,_⟩:=x;exact aco e
 |pS ps=>exact aco (show h.get? a=some _ from x)
 |gQ q pos=>obtain⟨_,e,_⟩:=x;exact aco e
 |ir q=>obtain⟨_,_,_,_,e,g,_⟩:=x;cases e;exact aco g
 |met f y=>exact aco (show h.get? a=some _ from x)
 |ext φ=>obtain⟨_,⟨_,e⟩,_⟩:=x;exact aco e
theorem Paired.zU:∀{Jr} {PJ},Paired F Jr PJ->(∀a b,F a b->G a b)->Paired G Jr PJ
 |_,_,.nil,_=>.nil
 |_,_,.cons r t,f=>.cons (f _ _ r) (Paired.zU t f)
theorem cP.iE(x:cP P w H h a o)(k:∀b u,(b=a\/H b=some (.own a))->h.get? b=some u->h'.get? b=some u)
  (ho:∀b,H b=some (.own a)->H' b=some (.own a)) (ht:∀b (t:kQ),H b=some t.ho->H' b=some t.ho):cP P w H' h' a o:=by
 induction o with
 |lst xs=>obtain⟨z,ao,n,r,e⟩:=x;exact⟨z,ao,n,r,k _ _ (.inl rfl) e⟩
 |tup xs=>obtain⟨z,ao,r,ob,e,c⟩:=x;exact⟨z,ao,r,ob,k _ _ (.inl rfl) e,c⟩
 |dK ah=>obtain⟨z,y,vs,r,ob,es,ep,e,c⟩:=x;exact⟨z,y,vs,r,ob,es,ep,k _ _ (.inl rfl) e,c⟩
 |dT ah=>
  obtain⟨z,y,xs,r,ob,es,ep,e,c⟩:=x;exact⟨z,y,xs,Paired.zU r λp q z=>⟨z.1,let⟨t,e,g⟩:=z.2.1;⟨t,e,ht _ t g⟩,z.2.2⟩,ob,es,ep,k _ _ (.inl rfl) e,c⟩
 |set S n=>obtain⟨ob,es,ep,t,e,c⟩:=x;exact⟨ob,es,ep,t,k _ _ (.inl rfl) e,c⟩
 |ins C dx fs=>
  obtain⟨d,z,ne,e,mA,⟨od,es,ep,e2,c⟩,r⟩:=x;exact⟨ho _ d,z,ne,k _ _ (.inl rfl) e,mA,⟨od,es,ep,k _ _ (.inr d) e2,c⟩,r⟩
 |own y=>obtain⟨ob,e⟩:=x;exact⟨ob,k _ _ (.inl rfl) e⟩
 |xd fs=>obtain⟨mA,⟨od,es,ep,e,c⟩,r⟩:=x;exact⟨mA,⟨od,es,ep,k _ _ (.inl rfl) e,c⟩,r⟩
 |bf lo hi=>obtain⟨t,u,v,e⟩:=x;exact⟨t,u,v,k _ _ (.inl rfl) e⟩
 |bT ob u ih=>obtain⟨e,q⟩:=x;exact⟨k _ _ (.inl rfl) e,ih q⟩
 |gQ q pos=>obtain⟨ps,e,g⟩:=x;exact⟨ps,k _ _ (.inl rfl) e,g.imp id λ⟨c,e1,e2⟩=>⟨c,e1,ht c (.ir q) e2⟩⟩
 |ir q=>obtain⟨_,o,vs,t,e,g,r⟩:=x;cases e;exact⟨_,o,vs,t,rfl,k _ _ (.inl rfl) g,r⟩
 |pS ps=>
  have e:=x;exact k a _ (.inl rfl) e
 |met f y=>
  have e:=x;exact k a _ (.inl rfl) e
 |ext φ=>obtain⟨p,⟨o,e⟩,st⟩:=x;exact⟨st _ _ p λo q=>k _ _ (.inl rfl) q,⟨o,k _ _ (.inl rfl) e⟩,st⟩
theorem dD.lt(x:dD P w H h)(e:H a=some o):a<h.objs.size:=(x a o e).lt
theorem dD.fresh(x:dD P w H h)(e:h.objs.size<=a):H a=none:=by
 cases q:H a with
 |none=>rfl
 |some u=>exact absurd (adF (x.lt q) e) (ad8 _)
theorem dD.kept(x:dD P w H h)(k:∀b u,h.get? b=some u->h'.get? b=some u):dD P w H h':=λa o e=>
 (x a o e).iE (λb u _ q=>k b u q) (λ_ q=>q) λ_ _ q=>q
theorem dD.laid(x:dD P w H h)(k:∀b u,h.get? b=some u->h'.get? b=some u)(hp:h.objs.size<=a)(new:cP P w (upd H a o) h' a o):dD P w (upd H a o) h':=λb u e=>by
 have hn:=x.fresh hp
 by_cases hb:b=a
 .subst hb;rw[bg] at e;cases e;exact new
 .rw[aG hb] at e;exact(x b u e).iE (λc v _ q=>k c v q) (λc q=>by rw[aG (cu q hn)];exact q) λc xs q=>by rw[aG (cu q hn)];exact q
def Rd(H:Hp)(a:Addr)(u:HO):Prop:=H a=some u\/∃o,H a=some (.bT o u)
theorem Rd.ok(r:Rd H a u)(x:dD P w H h):cP P w H h a u:=by
 rcases r with r|⟨o,r⟩
 .exact x a u r
 .obtain⟨_,q⟩:=x a _ r;exact q
def xA:Option HO->Prop
 |some (.lst _)=>True
 |some (.dK _)=>True
 |some (.dT _)=>True
 |some (.set _ _)=>True
 |some (.ins _ _ _)=>True
 |some (.ext _)=>True
 |_=>False
theorem dD.write(ok:dD P w H h)(mu:xA (H x))(he:e=x\/H e=some (.own x))(k:∀b u,b≠e->h.get? b=some u->h'.get? b=some u)(sO:∃u,h'.get? e=some u)
  (new:cP P w (upd H x o') h' x o'):dD P w (upd H x o') h':=λb u q=>by
 have Ni:∀c y,H c=some (.own y)->c≠x:=λc y r z=>by subst z;rw[r] at mu;exact mu
 have ab5:∀c (t:kQ),H c=some t.ho->c≠x:=λc t r z=>by subst z;rw[r] at mu;cases t<;>exact mu
 by_cases hb:b=x
 .subst hb;rw[bg] at q;cases q;exact new
 .rw[aG hb] at q
  by_cases qS:b=e
  .have q':H b=some (.own x):=by
    rcases he with z|z
    .exact absurd (qS.trans z) hb
    .rw[qS];exact z
   rw[q] at q';cases q';obtain⟨v,hv⟩:=sO;exact⟨v,by rw[qS];exact hv⟩
  .refine(ok b u q).iE (λc v hc r=>k c v ?_ r) (λc r=>by rw[aG (Ni c b r)];exact r) λc xs r=>by rw[aG (ab5 c xs r)];exact r
   rcases hc with rfl|hc
   .exact qS
   .rintro rfl
    rcases he with z|z
    .exact Ni c b hc z
    .rw[hc] at z;cases z;exact hb rfl
structure Un(fs ex:List Addr)(H H':Hp)(h h':Heap):Prop where
 keep:∀b o,h.get? b=some o->H b=none->b∉fs->b∉ex->h'.get? b=some o
 slot:∀b o,h.get? b=some o->H b=none->b∈fs->b∉ex->∃sl,h'.get? b=some { o with slots:=sl }
 free:∀b o,h.get? b=some o->H b=none->b∉ex->H' b=none
 there:∀b o,h.get? b=some o->b∉ex->∃o',h'.get? b=some o'
 jN:∀b (t:kQ),H b=some t.ho->H' b=some t.ho
 jm:∀b o u,H b=some (.bT o u)->H' b=some (.bT o u)
 kM:∀b ps,H b=some (.pS ps)->∃more,H' b=some (.pS (ps++more))
theorem Un.any(u:Un fs ex H H1 h h1)(q:h.get? b=some ob)(n:H b=none)(hx:b∉ex):∃sl,h1.get? b=some { ob with slots:=sl }:=by
 by_cases hb:b∈fs
 .exact u.slot b ob q n hb hx
 .exact⟨ob.slots,u.keep b ob q n hb hx⟩
theorem Un.kept(k:∀b u,h.get? b=some u->h'.get? b=some u):Un fs ex H H h h':=
 ⟨λb ob q _ _ _=>k b ob q,λb ob q _ _ _=>⟨ob.slots,k b ob q⟩,λ_ _ _ n _=>n,λb ob q _=>⟨ob,k b ob q⟩,λ_ _ q=>q,λ_ _ _ q=>q,λ_ ps q=>⟨#[],by rw[q];simp⟩⟩
theorem Un.refl:Un fs ex H H h h:=Un.kept λ_ _ q=>q
theorem Un.laid(k:∀b u,h.get? b=some u->h'.get? b=some u)(hp:h.objs.size<=a)(hn:H a=none):Un fs ex H (upd H a o) h h' where
 keep:=λb u q _ _ _=>k b u q
 slot:=λb u q _ _ _=>⟨u.slots,k b u q⟩
 free:=λb u q n _=>by rw[aG (ady (adF (aco q) hp))];exact n
 there:=λb u q _=>⟨u,k b u q⟩
 jN:=λb xs q=>by rw[aG (cu q hn)];exact q
 jm:=λb u xs q=>by rw[aG (cu q hn)];exact q
 kM:=λb ps q=>⟨#[],by rw[aG (cu q hn),q];simp⟩
theorem Un.write(mu:xA (H x))(he:e=x\/H e=some (.own x))(k:∀b u,b≠e->h.get? b=some u->h'.get? b=some u)(sO:∃u,h'.get? e=some u):Un fs ex H (upd H x o) h h':=by
 have hx:∀b,H b=none->b≠x:=λb n z=>by subst z;rw[n] at mu;exact mu
 have hb:∀b,H b=none->b≠e:=λb n z=>by
  subst z;rcases he with r|r
  .exact hx b n r
  .rw[n] at r;cases r
 have hm:∀b u,H b=some u->¬xA (some u)->b≠x:=λb u q nm z=>by subst z;rw[q] at mu;exact nm mu
 refine⟨λb u q n _ _=>k b u (hb b n) q,λb u q n _ _=>⟨u.slots,k b u (hb b n) q⟩,λb u q n _=>by rw[aG (hx b n)];exact n,λb u q _=>?_,
  λb xs q=>by rw[aG (hm b _ q (by cases xs<;>exact λz=>z))];exact q,λb u xs q=>by rw[aG (hm b _ q λz=>z)];exact q,λb ps q=>⟨#[],by rw[aG (hm b _ q λz=>z),q];simp⟩⟩
 by_cases qS:b=e
 .subst qS;exact sO
 .exact⟨u,k b u qS q⟩
noncomputable def x6(h:Heap)(H:Hp):List Addr:=(List.range h.objs.size).filter λa=>(H a).isSome
def n6(h:Heap)(H:Hp):Heap:=PySem.W.hideAll h (x6 h H)
theorem Ug(h:Heap)(H:Hp):(n6 h H).objs.size=h.objs.size:=PySem.W.hideAll_size _ _
theorem F7(e:h.get? b=some o)(n:H b=none):(n6 h H).get? b=some o:=
 PySem.W.hideAll_get _ e λhm=>by
  have q:=(adz.mp hm).2;rw[n] at q;simp at q
theorem Xo(e:(n6 h H).get? b=some o):h.get? b=some o/\H b=none:=by
 have e':=PySem.W.of_hideAll (x6 h H) e;refine⟨e',?_⟩;cases q:H b with
 |none=>rfl
 |some x=>
  have hm:b∈x6 h H:=adz.mpr ⟨afJ.mpr (aco e'),by simp[q]⟩;have z:(n6 h H).get? b=none:=PySem.W.hideAll_none (x6 h H) hm;rw[z] at e;cases e
structure Mod(K:PySem.W.Frag)(mg:Str->Option Value)(base:Heap):Prop where
 wj:K.In base
 glob:base.Ns mainGlobals mg
 blt:∃mb,base.Ns builtinsNs mb/\∀x:Str,x≠"__name__"->mb x=bootBuiltins x
 nolimit:base.NoLimit
 X_:∃bm ob,mg "__builtins__"=some (.ref bm)/\bm≠builtinsNs/\base.get? bm=some ob/\ob.cls=.type "module"/\ob.dict=some builtinsNs/\ob.data=.plain
structure Cx where
 prog:Program
 w:World
 K:PySem.W.Frag
 mg:Str->Option Value
 base:Heap
 A:Around
 N:List Str
 dM:Shared
 mJ:Hp
 env:Env
 outer:List Env
 stack:List Env
 ex:List Addr
 fn:Str->Bool
 calm:Bool
 pn:List (Addr×Obj)
 xe:Value->Shared->Prop
noncomputable def dJ(l:List Env):List Addr:=l.filterMap (·.frame)
abbrev Cx.fs(X:Cx):List Addr:=dJ X.outer
def AY(sc:Scope)(x:Str):Prop:=sc.names.lookup x=some .local\/sc.names.lookup x=some .cell\/sc.names.lookup x=some .free
def Loc(sc:Scope)(x:Str):Prop:=sc.names.lookup x=some .local\/sc.names.lookup x=some .cell
def Look(env:Env)(h:Heap)(m:Str->Option Value)(x:Str)(u:Value):Prop:=
 (env.kindOf x=some .local/\m x=some u)\/((env.kindOf x=some .cell\/env.kindOf x=some .free)/\∃c,env.cells.lookup x=some c/\h.IsCell c (some u))
structure Cx.Ok(X:Cx):Prop where
 mod:Mod X.K X.mg X.base
 kind:X.env.scope.kind=.function
 glob:X.env.globals=mainGlobals
 blt:X.env.builtins=builtinsNs
 above:X.dM.heap.objs.size<=X.env.locals
 inj:∀x y c,X.env.cells.lookup x=some c->X.env.cells.lookup y=some c->x=y
 has:∀x,(X.env.kindOf x=some .cell\/X.env.kindOf x=some .free)->∃c,X.env.cells.lookup x=some c
 tU:∀x c,X.fn x=true->X.env.cells.lookup x=some c->X.dM.heap.objs.size<=c
 hd:X.calm=true->X.A.handled=none
 frames:X.A.frames=some X.stack
 uX:X.stack=X.outer\/(X.stack=X.env::X.outer/\X.env.frame=some X.env.locals)
 ze:∀b∈X.ex,b≠X.env.locals/\∀x c,X.env.cells.lookup x=some c->c≠b
 bs:∀b o,X.base.get? b=some o->X.dM.heap.get? b=some o/\X.mJ b=none
 jv:X.base.objs.size<=X.dM.heap.objs.size
 ue:∀b o,X.base.get? b=some o->b∉X.ex
 sM:∀b∈X.ex,b∉X.fs
 jG:X.dM.heap.FunFrames X.base X.outer
 pK:∀b∈X.fs,X.mJ b=none
def xg(A:Around)(H:Hp):Prop:=A.handled=none\/∃(a:Addr) (ob:Obj) (u:HO) (vs:Array Value),A.handled=some (.ref a)/\H a=some (.bT ob u)/\ob.data=.fields vs/\vs[2]? = some .none
theorem xg.mono(h:xg A H)(f:∀b o u,H b=some (.bT o u)->H' b=some (.bT o u)):xg A H':=h.elim .inl λ⟨a,ob,u,vs,h1,h2,h3⟩=>.inr ⟨a,ob,u,vs,h1,f _ _ _ h2,h3⟩
structure Hq(K:PySem.W.Frag)(A:Around)(H:Hp):Prop where
 hd:xg A H
 ok:xC K=true
 lm:∀r∈iH K,H r.2.1=some (.gQ r.2.2.1 r.2.2.2)
theorem Hq.mono{K:PySem.W.Frag}(h:Hq K A H)(f:∀b o u,H b=some (.bT o u)->H' b=some (.bT o u))(g:∀b (t:kQ),H b=some t.ho->H' b=some t.ho):Hq K A H':=
 ⟨h.hd.mono f,h.ok,λr m=>g _ (.gQ _ _) (h.lm r m)⟩
structure Inv(X:Cx)(af:List (Addr×Obj))(σ:List (Option V))(H:Hp)(s:Shared):Prop where
 ok:X.Ok
 os:s.os=X.dM.os
 bare:AllBare s.gens
 base:Un X.fs X.ex X.mJ H X.dM.heap s.heap
 loc:∃m,s.heap.Ns X.env.locals m/\∀(i:Nat) (x) (v),X.N[i]? = some x->σ[i]? = some (some v)->AY X.env.scope x->∃u,RelV v u/\Look X.env s.heap m x u
 cell:∀x c,X.env.cells.lookup x=some c->∃v,s.heap.IsCell c v
 free:H X.env.locals=none
 iJ:∀x c,X.env.cells.lookup x=some c->H c=none
 pin:∀p∈X.pn++af,s.heap.get? p.1=some p.2/\H p.1=none/\p.1≠X.env.locals/\p.1∉X.fs/\∀v,p.2.data≠.cell v
 aD:dD X.prog X.w H s.heap
 len:σ.length=X.N.length
 hq:Hq X.K X.A H
section
variable{X:Cx}
theorem Cx.Ok.Rf(ok:X.Ok)(e:X.base.get? b=some o):b∉X.fs:=λhb=>by
 have:=(ok.jG.mem hb).1;rw[e] at this;cases this
theorem Inv.bs(I:Inv X af σ H s):∀b o,X.base.get? b=some o->s.heap.get? b=some o/\H b=none:=λb o e=>
 ⟨I.base.keep b o (I.ok.bs b o e).1 (I.ok.bs b o e).2 (I.ok.Rf e) (I.ok.ue b o e),I.base.free b o (I.ok.bs b o e).1 (I.ok.bs b o e).2 (I.ok.ue b o e)⟩
theorem Inv.bk(I:Inv X af σ H s):∀b o,X.base.get? b=some o->s.heap.get? b=some o:=λb o e=>(I.bs b o e).1
theorem Inv.mod(I:Inv X af σ H s):Mod X.K X.mg X.base:=I.ok.mod
theorem Inv.dz(I:Inv X af σ H s):X.K.In s.heap:=I.ok.mod.wj.keeps I.bk
theorem Inv.lt(I:Inv X af σ H s):X.env.locals<s.heap.objs.size:=let⟨_,hn,_⟩:=I.loc;hn.lt
theorem Inv.sz(I:Inv X af σ H s):X.dM.heap.objs.size<=s.heap.objs.size:=ad5 I.ok.above (aen I.lt)
theorem Inv.Mr(I:Inv X af σ H s)(h:s.heap.objs.size<=a):a∉X.fs:=λhb=>by
 obtain⟨_,o,ho,_⟩:=I.ok.jG.mem hb;exact absurd (adF (aco ho) (ad5 I.sz h)) (ad8 _)
theorem Inv.lP(I:Inv X af σ H s):∀x c,X.env.cells.lookup x=some c->c≠X.env.locals:=λx c e z=>by
 obtain⟨v,o,ho,hd⟩:=I.cell x c e;obtain⟨m,⟨o',es,ep,jt,sU,_⟩,_⟩:=I.loc;rw[z,jt] at ho;cases ho;rw[sU] at hd;cases hd
theorem Inv.jG(I:Inv X af σ H s):s.heap.FunFrames X.base X.outer:=by
 have all:∀(l:List Env),(∀b∈dJ l,b∈X.fs)->X.dM.heap.FunFrames X.base l->s.heap.FunFrames X.base l:=by
  intro l
  induction l with
  |nil=>intro _ _;trivial
  |cons env r ih=>
   intro hs hl;obtain⟨hk,⟨L,o,hf,hn,ho,hd⟩,hr⟩:=hl;have hL:=hs L (by unfold dJ;rw[aeb,hf];exact aat);obtain⟨sl,e⟩:=I.base.slot L o ho (I.ok.pK L hL) hL λz=>I.ok.sM L z hL
   exact⟨hk,⟨L,_,hf,hn,e,hd⟩,ih (λb hb=>hs b (by unfold dJ;rw[aeb,hf];exact aad _ hb)) hr⟩
 exact all X.outer (λ_ hb=>hb) I.ok.jG
theorem Inv.stack(I:Inv X af σ H s):s.heap.FunFrames X.base X.stack:=by
 rcases I.ok.uX with e|⟨e,hf⟩
 .rw[e];exact I.jG
 .rw[e];obtain⟨m,hn,_⟩:=I.loc;refine .cons (by rw[I.ok.kind];decide) hf hn ?_ I.jG;exact afm (ad5 I.ok.jv I.ok.above)
theorem Inv.Ga(I:Inv X af σ H s):∀b∈dJ X.stack,b∈X.env.locals::X.fs:=λb hb=>by
 rcases I.ok.uX with e|⟨e,hf⟩
 .rw[e] at hb;exact aad _ hb
 .rw[e] at hb;unfold dJ at hb;rw[aeb,hf] at hb;exact hb
theorem Inv.D_(I:Inv X af σ H s):∀b∈dJ X.stack,H b=none:=λb hb=>by
 rcases abG.mp (I.Ga b hb) with e|hb
 .rw[e];exact I.free
 .obtain⟨_,o,ho,_⟩:=I.ok.jG.mem hb;exact I.base.free b o ho (I.ok.pK b hb) λz=>I.ok.sM b z hb
theorem Inv.step{ch:List Addr}(I:Inv X af σ H s)
  (lV:∀b∈ch,(b∈X.ex\/X.dM.heap.objs.size<=b)/\b≠X.env.locals/\(∀x c,X.env.cells.lookup x=some c->c≠b)/\∀p∈X.pn++af,p.1≠b)
  (keep:∀b o,b≠X.env.locals->b∉X.fs->b∉ch->s.heap.get? b=some o->H b=none->h'.get? b=some o)
  (slot:∀b o,b≠X.env.locals->b∈X.fs->b∉ch->s.heap.get? b=some o->H b=none->∃sl,h'.get? b=some { o with slots:=sl }) (free:∀b o,b∉ch->s.heap.get? b=some o->H b=none->H' b=none)
  (there:∀b o,b∉ch->s.heap.get? b=some o->∃o',h'.get? b=some o')
  (jN:∀b (t:kQ),H b=some t.ho->H' b=some t.ho) (jm:∀b o u,H b=some (.bT o u)->H' b=some (.bT o u)) (kM:∀b ps,H b=some (.pS ps)->∃more,H' b=some (.pS (ps++more)))
  (ns:∀m,s.heap.Ns X.env.locals m->h'.Ns X.env.locals m) (aD:dD X.prog X.w H' h') (hg:AllBare g') :
  Inv X af σ H' { s with heap:=h',gens:=g',drawn:=d',toks:=t' }:=by
 have MZ:∀b o,X.dM.heap.get? b=some o->b≠X.env.locals:=λb o e=>ady (adF (aco e) I.ok.above)
 have A5:∀b o,X.dM.heap.get? b=some o->b∉X.ex->b∉ch:=λb o e hx hb=>by
  rcases(lV b hb).1 with z|z
  .exact hx z
  .exact absurd (adF (aco e) z) (ad8 _)
 have cellK:∀x c,X.env.cells.lookup x=some c->∀v,s.heap.IsCell c v->h'.IsCell c v:=λx c e v ⟨o,ho,hd⟩=>by
  have lD:c∉ch:=λz=>(lV c z).2.2.1 x c e rfl
  by_cases hc:c∈X.fs
  .obtain⟨sl,q⟩:=slot c o (I.lP x c e) hc lD ho (I.iJ x c e);exact⟨_,q,hd⟩
  .exact⟨o,keep c o (I.lP x c e) hc lD ho (I.iJ x c e),hd⟩
 refine⟨I.ok,I.os,hg,⟨λb o e n hb hx=>?_,λb o e n hb hx=>?_,λb o e n hx=>?_,λb o e hx=>?_,λb xs e=>jN b xs (I.base.jN b xs e),λb o xs e=>jm b o xs (I.base.jm b o xs e),λb ps e=>?_⟩,?_,λx c e=>?_,?_,λx c e=>?_,λp hp=>?_,aD,I.len,I.hq.mono jm jN⟩
 .exact keep b o (MZ b o e) hb (A5 b o e hx) (I.base.keep b o e n hb hx) (I.base.free b o e n hx)
 .obtain⟨sl,e1⟩:=I.base.slot b o e n hb hx;obtain⟨US,e2⟩:=slot b _ (MZ b o e) hb (A5 b o e hx) e1 (I.base.free b o e n hx);exact⟨US,e2⟩
 .obtain⟨o',e1⟩:=I.base.there b o e hx;exact free b o' (A5 b o e hx) e1 (I.base.free b o e n hx)
 .obtain⟨o',e1⟩:=I.base.there b o e hx;exact there b o' (A5 b o e hx) e1
 .obtain⟨m1,e1⟩:=I.base.kM b ps e;obtain⟨m2,e2⟩:=kM b _ e1;exact⟨m1++m2,by rw[e2,Array.append_assoc]⟩
 .obtain⟨m,hn,hl⟩:=I.loc;refine⟨m,ns m hn,λi x v e1 e2 e3=>?_⟩;obtain⟨u,r,l⟩:=hl i x v e1 e2 e3;refine⟨u,r,?_⟩;rcases l with l|⟨k,c,e,z⟩
  .exact .inl l
  .exact .inr ⟨k,c,e,cellK x c e _ z⟩
 .obtain⟨v,z⟩:=I.cell x c e;exact⟨v,cellK x c e v z⟩
 .obtain⟨m,⟨o,_,_,ho,_⟩,_⟩:=I.loc;exact free _ o (λz=>(lV _ z).2.1 rfl) ho I.free
 .obtain⟨v,o,ho,hd⟩:=I.cell x c e;exact free c o (λz=>(lV c z).2.2.1 x c e rfl) ho (I.iJ x c e)
 .obtain⟨e,n,ne,nf,d⟩:=I.pin p hp;have lD:p.1∉ch:=λz=>(lV p.1 z).2.2.2 p hp rfl
  exact⟨keep p.1 p.2 ne nf lD e n,free p.1 p.2 lD e n,ne,nf,d⟩
theorem Inv.un(I:Inv X af σ H s)(u:Un X.fs [] H H' s.heap h')(aD:dD X.prog X.w H' h'):Inv X af σ H' { s with heap:=h',toks:=t' }:=by
 obtain⟨m,⟨o,es,ep,ho,r⟩,_⟩:=id I.loc;obtain⟨sl,hL⟩:=u.any ho I.free (by simp);exact I.step (g':=s.gens) (d':=s.drawn) (ch:=[]) (λ_ z=>nomatch z) (λb o _ hb _ e n=>u.keep b o e n hb (by simp)) (λb o _ hb _ e n=>u.slot b o e n hb (by simp)) (λb o _ e n=>u.free b o e n (by simp)) (λb o _ e=>u.there b o e (by simp)) u.jN u.jm u.kM (λm' hm=>by
  obtain⟨o',tN,rO,jt,r'⟩:=hm;rw[ho] at jt;cases jt;exact⟨_,tN,rO,hL,r'⟩) aD I.bare
theorem Inv.call{ch:List Addr}(I:Inv X af σ H s)(u:Un (dJ X.stack) ch H H' s.heap h')(aD:dD X.prog X.w H' h')(hg:AllBare g')
  (lV:∀b∈ch,(b∈X.ex\/X.dM.heap.objs.size<=b)/\b≠X.env.locals/\(∀x c,X.env.cells.lookup x=some c->c≠b)/\∀p∈X.pn++af,p.1≠b) :
  Inv X af σ H' { s with heap:=h',gens:=g',drawn:=d',toks:=t' }:=by
 obtain⟨m,⟨o,es,ep,ho,r⟩,_⟩:=id I.loc;obtain⟨sl,hL⟩:=u.any ho I.free λz=>(lV _ z).2.1 rfl
 exact I.step (ch:=ch) lV (λb o hL hb hc e n=>u.keep b o e n (λz=>(abG.mp (I.Ga b z)).elim hL hb) hc) (λb o _ _ hc e n=>u.any e n hc) (λb o hc e n=>u.free b o e n hc) (λb o hc e=>u.there b o e hc) u.jN u.jm u.kM (λm' hm=>by
  obtain⟨o',tN,rO,jt,r'⟩:=hm;rw[ho] at jt;cases jt;exact⟨_,tN,rO,hL,r'⟩) aD hg
theorem Inv.turned{it:Addr}(I:Inv X af σ H s)(k:∀b o,b≠it->s.heap.get? b=some o->h'.get? b=some o)(hn:H it=none)(hL:it≠X.env.locals)
  (h1:it∈X.ex\/X.dM.heap.objs.size<=it) (h2:∀x c,X.env.cells.lookup x=some c->c≠it) (h3:∀p∈X.pn++af,p.1≠it):Inv X af σ H { s with heap:=h',toks:=t' }:=by
 have Lb:∀b u,H b=some u->b≠it:=λb u e z=>by rw[z,hn] at e;cases e
 refine I.step (g':=s.gens) (d':=s.drawn) (ch:=[it]) (λb hb=>?_) (λb o _ _ hc e _=>k b o (λz=>hc (by simp[z])) e) (λb o _ _ hc e _=>⟨o.slots,k b o (λz=>hc (by simp[z])) e⟩) (λ_ _ _ _ n=>n)
  (λb o hc e=>⟨o,k b o (λz=>hc (by simp[z])) e⟩) (λ_ _ e=>e) (λ_ _ _ e=>e) (λb ps e=>⟨#[],by rw[e];simp⟩) (λm hm=>?_) (λb u e=>?_) I.bare
 .have e:b=it:=by simpa using hb
  subst e;exact⟨h1,hL,h2,h3⟩
 .obtain⟨o,es,ep,ho,r⟩:=hm;exact⟨o,es,ep,k _ o (aez hL) ho,r⟩
 .refine(I.aD b u e).iE (λc v hc q=>k c v ?_ q) (λ_ q=>q) λ_ _ q=>q
  rcases hc with z|z
  .rw[z];exact Lb b u e
  .exact Lb c _ z
theorem Inv.tok(I:Inv X af σ H s)(t:Nat):Inv X af σ H { s with toks:=t }:=I.un Un.refl I.aD
theorem Inv.kept(I:Inv X af σ H s)(k:∀b u,s.heap.get? b=some u->h'.get? b=some u):Inv X af σ H { s with heap:=h',toks:=t' }:=I.un (Un.kept k) (I.aD.kept k)
theorem Inv.laid(I:Inv X af σ H s)(k:∀b u,s.heap.get? b=some u->h'.get? b=some u)(hp:s.heap.objs.size<=a)(new:cP X.prog X.w (upd H a o) h' a o):
  Inv X af σ (upd H a o) { s with heap:=h',toks:=t' }:=I.un (Un.laid k hp (I.aD.fresh hp)) (I.aD.laid k hp new)
theorem Inv.write(I:Inv X af σ H s)(mu:xA (H x))(he:e=x\/H e=some (.own x))(k:∀b u,b≠e->s.heap.get? b=some u->h'.get? b=some u)(sO:∃u,h'.get? e=some u)
  (new:cP X.prog X.w (upd H x o) h' x o):Inv X af σ (upd H x o) { s with heap:=h',toks:=t' }:=I.un (Un.write mu he k sO) (I.aD.write mu he k sO new)
theorem Inv.qN(I:Inv X af σ H s)(h:∀p∈MV,s.heap.get? p.1=some p.2/\H p.1=none/\p.1≠X.env.locals/\p.1∉X.fs/\∀v,p.2.data≠.cell v):Inv X MV σ H s:=
 ⟨I.ok,I.os,I.bare,I.base,I.loc,I.cell,I.free,I.iJ,λp hp=>(ada.mp hp).elim (λz=>I.pin p (abT _ z)) (h p),I.aD,I.len,I.hq⟩
theorem J_{N:List Str}(hN:N.Nodup){i j:Nat}(a:N[i]? = some x)(b:N[j]? = some x):i=j:=by
 obtain⟨h1,e1⟩:=adO.mp a;obtain⟨h2,e2⟩:=adO.mp b;exact(List.getElem_inj hN).mp (e1.trans e2.symm)
theorem PF{M:Model}(I:Inv X af σ H s)(hN:X.N.Nodup)(hi:X.N[i]? = some x)(hx:Loc X.env.scope x)(r:RelV v u)
  (h:∀s',Inv X af (σ.set i (some v)) H s'->(∃a,Heap.SameBut a s.heap s'.heap/\(a=X.env.locals\/X.env.cells.lookup x=some a))->Q () s') (hf:X.fn x=true\/X.env.scope.names.lookup x=some .local:=by first|exact .inl rfl|exact .inr rfl|assumption):wpAny M A (storeName X.env x u) Q E s:=by
 obtain⟨m,hn,hl⟩:=id I.loc;have Z4:(X.env.scope.kind == .class||(X.env.scope.kind == .module&&X.env.locals != X.env.globals))=false:=by rw[I.ok.kind];rfl
 have N3:i<σ.length:=by rw[I.len];exact(adO.mp hi).1
 have lP:=I.lP;have tracked:∀{a:Addr} {h'},(∃o,s.heap.get? a=some o/\H a=none)->Heap.SameBut a s.heap h'->dD X.prog X.w H h':=λ{a h'} ha hs b ob e=>by
  obtain⟨_,_,Po⟩:=ha;refine(I.aD b ob e).iE (λc w' hc q=>(hs.2 c ?_).trans q) (λ_ q=>q) λ_ _ q=>q
  rintro rfl
  rcases hc with rfl|hc
  .rw[Po] at e;cases e
  .rw[Po] at hc;cases hc
 rcases hx with hk|hk
 .refine wpAny_storeName_local hk hn (λh' S_ hs=>?_) Z4;obtain⟨oL,_,_,Aj,_⟩:=id hn;refine h _ ⟨I.ok,I.os,I.bare,⟨λb o e n hb hx=>?_,λb o e n hb hx=>?_,I.base.free,λb o e hx=>?_,I.base.jN,I.base.jm,I.base.kM⟩,⟨_,S_,λj y v' e1 e2 e3=>?_⟩,λy c e=>?_,I.free,I.iJ,λp hp=>?_,tracked ⟨oL,Aj,I.free⟩ hs,by simpa using I.len,I.hq⟩ ⟨_,hs,.inl rfl⟩
  .exact(hs.2 b (ady (adF (aco e) I.ok.above))).trans (I.base.keep b o e n hb hx)
  .obtain⟨sl,e1⟩:=I.base.slot b o e n hb hx;exact⟨sl,(hs.2 b (ady (adF (aco e) I.ok.above))).trans e1⟩
  .obtain⟨o',e1⟩:=I.base.there b o e hx;exact⟨o',(hs.2 b (ady (adF (aco e) I.ok.above))).trans e1⟩
  .by_cases hj:j=i
   .subst hj;rw[hi] at e1;cases e1;rw[aeh N3] at e2;cases e2;exact⟨u,r,.inl ⟨hk,by simp⟩⟩
   .rw[adI (aez hj)] at e2;obtain⟨u',r',q⟩:=hl j y v' e1 e2 e3;refine⟨u',r',?_⟩;rcases q with⟨k,e⟩|⟨k,c,e,z⟩
    .refine .inl ⟨k,?_⟩;have:y≠x:=λe=>hj (J_ hN e1 (e ▸ hi))
     simp[this,e]
    .exact .inr ⟨k,c,e,z.sameBut hs (lP y c e)⟩
  .obtain⟨w',z⟩:=I.cell y c e;exact⟨w',z.sameBut hs (lP y c e)⟩
  .obtain⟨e,n,ne,nf,d⟩:=I.pin p hp;exact⟨(hs.2 p.1 ne).trans e,n,ne,nf,d⟩
 .have FE:X.fn x=true:=by
   rcases hf with z|z
   .exact z
   .rw[z] at hk;cases hk
  obtain⟨c,hc⟩:=I.ok.has x (.inl hk);obtain⟨w',z⟩:=I.cell x c hc;refine wpAny_storeName_cell I.ok.kind hk hc z (λh' rB hs=>?_);obtain⟨oc,jR,aaR⟩:=id z;refine h { s with heap:=h' } ⟨I.ok,I.os,I.bare,⟨λb o e n hb hx=>?_,λb o e n hb hx=>?_,I.base.free,λb o e hx=>?_,I.base.jN,I.base.jm,I.base.kM⟩,⟨m,hn.sameBut hs (aez (lP x c hc)),λj y v' e1 e2 e3=>?_⟩,λy c' e=>?_,I.free,I.iJ,λp hp=>?_,tracked ⟨oc,jR,I.iJ x c hc⟩ hs,by simpa using I.len,I.hq⟩ ⟨c,hs,.inr hc⟩
  .exact(hs.2 b (ady (adF (aco e) (I.ok.tU x c FE hc)))).trans (I.base.keep b o e n hb hx)
  .obtain⟨sl,e1⟩:=I.base.slot b o e n hb hx;exact⟨sl,(hs.2 b (ady (adF (aco e) (I.ok.tU x c FE hc)))).trans e1⟩
  .obtain⟨o',e1⟩:=I.base.there b o e hx;exact⟨o',(hs.2 b (ady (adF (aco e) (I.ok.tU x c FE hc)))).trans e1⟩
  .by_cases hj:j=i
   .subst hj;rw[hi] at e1;cases e1;rw[aeh N3] at e2;cases e2;exact⟨u,r,.inr ⟨.inl hk,c,hc,rB⟩⟩
   .rw[adI (aez hj)] at e2;obtain⟨u',r',q⟩:=hl j y v' e1 e2 e3;refine⟨u',r',?_⟩;rcases q with q|⟨k,c',e,z'⟩
    .exact .inl q
    .refine .inr ⟨k,c',e,z'.sameBut hs ?_⟩
     rintro rfl
     exact hj (J_ hN e1 (I.ok.inj _ _ _ e hc ▸ hi))
  .by_cases OT:c'=c
   .subst OT;exact⟨_,rB⟩
   .obtain⟨w2,z2⟩:=I.cell y c' e;exact⟨w2,z2.sameBut hs OT⟩
  .obtain⟨e,n,ne,nf,d⟩:=I.pin p hp;refine⟨(hs.2 p.1 ?_).trans e,n,ne,nf,d⟩;intro q;rw[q,jR] at e;have q':=ads e;exact d w' (by rw[<- q'];exact aaR)
theorem Pb(I:Inv X af σ H s)(hN:X.N.Nodup)(hi:X.N[i]? = some x)(hx:Loc X.env.scope x)(r:RelV v u)
  (h:∀s',Inv X af (σ.set i (some v)) H s'->Q () s') (hf:X.fn x=true\/X.env.scope.names.lookup x=some .local:=by first|exact .inl rfl|exact .inr rfl|assumption):wpAny M A (storeName X.env x u) Q E s:=
 PF I hN hi hx r (λs' I' _=>h s' I') hf
theorem Inv.Yw(I:Inv X af σ H s)(ho:s'.os=s.os)(u:Un (dJ X.stack) ch H H' s.heap s'.heap)(aD:dD X.prog X.w H' s'.heap)(hg:AllBare s'.gens)
  (lV:∀b∈ch,(b∈X.ex\/X.dM.heap.objs.size<=b)/\b≠X.env.locals/\(∀x c,X.env.cells.lookup x=some c->c≠b)/\∀p∈X.pn++af,p.1≠b):Inv X af σ H' s':=by
 obtain⟨h',g',d',t',o'⟩:=s';have e:=ho;subst e;exact I.call (g':=g') (d':=d') u aD hg lV
end
abbrev XK:=Value->Option Addr->Hp->Prop
noncomputable abbrev St:=List (Option V)
abbrev VK:=V->Hp->Prop
abbrev TE:=St->Hp->VK->Prop
abbrev TT:=St->Hp->(Bool->Hp->Prop)->Prop
abbrev TA:=St->Hp->(List V->Hp->Prop)->Prop
structure Ends where
 nx:St->Hp->Prop
 rt:VK
 bk:St->Hp->Prop:=λ_ _=>False
 ct:St->Hp->Prop:=λ_ _=>False
abbrev TS:=Ends->St->Hp->Prop
def EP(X:Cx)(af:List (Addr×Obj))(σ:St)(Q:VK)(u:Value)(s':Shared):Prop:=∃v H',Inv X af σ H' s'/\RelV v u/\Q v H'
def TP(X:Cx)(af:List (Addr×Obj))(σ:St)(Q:Bool->Hp->Prop)(b:Bool)(s':Shared):Prop:=∃H',Inv X af σ H' s'/\Q b H'
def AP(X:Cx)(af:List (Addr×Obj))(σ:St)(Q:List V->Hp->Prop)(us:List Value)(s':Shared):Prop:=∃vs H',Inv X af σ H' s'/\aN vs us/\Q vs H'
def SP(X:Cx)(af:List (Addr×Obj))(D:Ends)(f:Flow)(s':Shared):Prop:=
 match f with
 |.next=>∃aC H',Inv X af aC H' s'/\D.nx aC H'
 |.brk=>∃aC H',Inv X af aC H' s'/\D.bk aC H'
 |.cont=>∃aC H',Inv X af aC H' s'/\D.ct aC H'
 |.ret u=>∃v aC H',Inv X af aC H' s'/\RelV v u/\D.rt v H'
def PE(X:Cx)(e:Expr)(t:TE):Prop:=
 ∀(af) (s) (σ) (H) (Q),Inv X af σ H s->t σ H Q->wpAny (model X.prog X.w) X.A (eval e X.env) (EP X af σ Q) X.xe s
def PT(X:Cx)(e:Expr)(t:TT):Prop:=
 ∀(af) (s) (σ) (H) (Q),Inv X af σ H s->t σ H Q->wpAny (model X.prog X.w) X.A (isTrue e X.env (eval e X.env)) (TP X af σ Q) X.xe s
def PW(X:Cx)(e:Expr)(t:TT):Prop:=
 ∀(whole) (af) (s) (σ) (H) (Q),Inv X af σ H s->t σ H Q->wpAny (model X.prog X.w) X.A (isTrue e X.env whole) (TP X af σ Q) X.xe s
theorem PW.pt(h:PW X e t):PT X e t:=h _
def PA(X:Cx)(es:List Expr)(t:TA):Prop:=
 ∀(pos) (af) (s) (σ) (H) (Q),Inv X af σ H s->t σ H Q->wpAny (model X.prog X.w) X.A (spliced (backTo pos (starEach es X.env))) (AP X af σ Q) X.xe s
def PS(X:Cx)(st:Stmt)(t:TS):Prop:=
 ∀(af) (s) (σ) (H) (D),Inv X af σ H s->t D σ H->wpAny (model X.prog X.w) X.A (exec st X.env) (SP X af D) X.xe s
def gu(X:Cx)(st:List Stmt)(t:TS):Prop:=
 ∀(af) (s) (σ) (H) (D),Inv X af σ H s->t D σ H->wpAny (model X.prog X.w) X.A (execs st X.env) (SP X af D) X.xe s
theorem bX(h:wpAny M A t Q E s)(hQ:∀a s,Q a s->Q' a s):wpAny M A t Q' E s:=aeu h hQ λ_ _ x=>x
theorem DB(h:wpAny M A t (EP X af σ Q) E s)(k:∀v s1 x H1,Inv X af σ H1 s1->RelV x v->Q x H1->Q' v s1):wpAny M A t Q' E s:=bX h λv s1 ⟨x,H1,I,r,q⟩=>k v s1 x H1 I r q
theorem zF(h:wpAny M A t (AP X af σ Q) E s)(k:∀v s1 x H1,Inv X af σ H1 s1->aN x v->Q x H1->Q' v s1):wpAny M A t Q' E s:=bX h λv s1 ⟨x,H1,I,r,q⟩=>k v s1 x H1 I r q
theorem CL(h:wpAny M A t (TP X af σ Q) E s)(k:∀v s1 H1,Inv X af σ H1 s1->Q v H1->Q' v s1):wpAny M A t Q' E s:=bX h λv s1 ⟨H1,I,q⟩=>k v s1 H1 I q
theorem PE.n(a:PE X e t)(I:Inv X af σ H s)(h:t σ H Q)(k:∀v s1 x H1,Inv X af σ H1 s1->RelV x v->Q x H1->Q' v s1):wpAny (model X.prog X.w) X.A (eval e X.env) Q' X.xe s:=DB (a af s σ H Q I h) k
theorem PT.n(a:PT X e t)(I:Inv X af σ H s)(h:t σ H Q)(k:∀v s1 H1,Inv X af σ H1 s1->Q v H1->Q' v s1):wpAny (model X.prog X.w) X.A (isTrue e X.env (eval e X.env)) Q' X.xe s:=CL (a af s σ H Q I h) k
theorem PA.n(a:PA X e t)(I:Inv X af σ H s)(h:t σ H Q)(k:∀v s1 x H1,Inv X af σ H1 s1->aN x v->Q x H1->Q' v s1):wpAny (model X.prog X.w) X.A (spliced (backTo pos (starEach e X.env))) Q' X.xe s:=zF (a pos af s σ H Q I h) k
section
def kH(i:Nat):TE:=λσ H Q=>∃v,σ[i]? = some (some v)/\Q v H
def tC(v:V):TE:=λ_ H Q=>Q v H
theorem Ai(hN:X.N[i]? = some x)(hv:AY X.env.scope x)(hd:(x==("__debug__":Str))=false:=by decide)(k9:(x==("__classdict__":Str))=false:=by decide):PE X (.Name x pos) (kH i):=by
 intro af s σ H Q I h;obtain⟨v,e,h⟩:=h;obtain⟨m,hn,hl⟩:=I.loc;obtain⟨u,r,l⟩:=hl i x v hN e hv;have fin:EP X af σ Q u s:=⟨v,H,I,r,h⟩
 rcases l with⟨hk,hm⟩|⟨hk,c,hc,NO⟩
 .exact wpAny_Name (wpAny_loadName_local I.ok.kind hk hn hm fin) hd
 .rcases hk with hk|hk
  .exact wpAny_Name (wpAny_loadName_cell I.ok.kind hk hc NO fin) hd
  .exact wpAny_Name (wpAny_loadName_free I.ok.kind hk hc NO fin k9) hd
theorem Fd{i j pos}:PE X (.Constant (.int i) j pos) (tC (.int i)):=λ_ _ _ H _ I h=>wpAny_Constant_int ⟨.int i,H,I.tok _,⟨_,rfl⟩,h⟩
theorem Wt{b j pos}:PE X (.Constant (.bool b) j pos) (tC (.bl b)):=λ_ _ _ H _ I h=>Constant_bool ⟨.bl b,H,I,rfl,h⟩
theorem UA{j pos}:PE X (.Constant .none j pos) (tC .aB):=λ_ _ _ H _ I h=>Constant_none ⟨.aB,H,I,rfl,h⟩
theorem Hi{x j pos}:PE X (.Constant (.str x) j pos) (tC (.str x)):=λ_ _ _ H _ I h=>Calls.Constant_str ⟨.str x,H,I.tok _,⟨_,rfl⟩,h⟩
def Gl(X:Cx)(x:Str):Prop:=X.env.kindOf x=some .globalImplicit
theorem Aw(I:Inv X af σ H s)(hg:Gl X x)(hm:X.mg x=some u)(h:Q u s)
  (hd:(x==("__debug__":Str))=false:=by decide):wpAny (model X.prog X.w) X.A (eval (.Name x pos) X.env) Q E s:=
 Calls.Name_function_global I.ok.kind hg (Calls.loadGlobal_global (by rw[I.ok.glob];exact I.mod.glob.keeps I.bk) hm h) hd
theorem kG(I:Inv X af σ H s)(hg:Gl X x)(hm:X.mg x=none)(hv:bootBuiltins x=some u)(h:Q u s)
  (hn:x≠"__name__":=by decide) (hd:(x==("__debug__":Str))=false:=by decide):wpAny (model X.prog X.w) X.A (eval (.Name x pos) X.env) Q E s:=by
 obtain⟨mb,h1,h2⟩:=I.mod.blt;exact Calls.Name_function_global I.ok.kind hg (Calls.loadGlobal_builtin (by rw[I.ok.glob];exact I.mod.glob.keeps I.bk) hm (by rw[I.ok.blt];exact h1.keeps I.bk) ((h2 x hn).trans hv) h) hd
theorem G9(hg:Gl X x)(hm:X.mg x=some u)(r:RelV v u)(hd:(x==("__debug__":Str))=false:=by decide):PE X (.Name x pos) (tC v):=
 λ_ _ _ H _ I h=>Aw I hg hm ⟨v,H,I,r,h⟩ hd
theorem MU(hg:Gl X x)(hm:X.mg x=none)(hv:bootBuiltins x=some u)(r:RelV v u)(hn:x≠"__name__":=by decide)(hd:(x==("__debug__":Str))=false:=by decide):PE X (.Name x pos) (tC v):=
 λ_ _ _ H _ I h=>kG I hg hm hv ⟨v,H,I,r,h⟩ hn hd
def PC(X:Cx)(op:CmpOp)(a b:Expr)(t:TE):Prop:=
 ∀(af) (s) (σ) (H) (Q),Inv X af σ H s->t σ H Q->
  wpAny (model X.prog X.w) X.A (eval a X.env) (λv bq=>wpAny (model X.prog X.w) X.A (eval b X.env) (λu oO=>wpAny (model X.prog X.w) X.A (compareOp op v u) (EP X af σ Q) X.xe oO) X.xe bq) X.xe s
def tB(t:TE):TT:=λσ H Q=>t σ H λx H1=>∃c,x=.bl c/\Q c H1
theorem Ou(h:PC X op a b t)(h1:behindInMarks op b=false:=by first|exact abY _ (by decide) (by decide)|rfl):PE X (.Compare a [op] [b] pos) t:=λaf s σ H Q I hw=>wpAny_Compare1 (h af s σ H Q I hw) h1
theorem X8(h:PC X op a b t)(h1:behindInMarks op b=false:=by first|exact abY _ (by decide) (by decide)|rfl):PT X (.Compare a [op] [b] pos) (tB t):=by
 intro af s σ H Q I hw;refine wpAny_isTrue_Compare1 (bX (h af s σ H _ I hw) λv s1 h1=>bX h1 λu s2 h2=>bX h2 λc s3 ⟨x,H1,I1,r1,q1⟩=>?_) h1;obtain⟨d,rfl,q⟩:=q1;cases r1;exact aee ⟨H1,I1,q⟩
theorem KN(h:PE X e t)(he:∀whole,isTrue e X.env whole=(do let v <- whole;standAt e.pos;holding [v] (truthy v)):=by intro _;rfl):PT X e (tB t):=by
 intro af s σ H Q I hw;refine isTrue_plain (h.n I hw λv s1 x H1 I1 r1 q1=>?_) (he _);obtain⟨d,rfl,q⟩:=q1;cases r1;exact aee ⟨H1,I1,q⟩
variable{rest:List Expr}
def abK(t u:TT):TT:=λσ H Q=>t σ H λc H1=>if c=true then u σ H1 Q else Q false H1
def ZU(t u:TT):TT:=λσ H Q=>t σ H λc H1=>if c=true then Q true H1 else u σ H1 Q
def aaI(t:TT):TT:=λσ H Q=>t σ H λc H1=>Q (!c) H1
theorem LS(ha:PT X a tA):PW X (.BoolOp .And [a] pos) tA:=by
 intro wh af s σ H Q I h;refine isTrue_and (bX (ha af s σ H Q I h) λc s1 e=>?_);cases c with
 |true=>exact isTrue_and_nil e
 |false=>exact e
theorem abX(ha:PT X a tA):PW X (.BoolOp .Or [a] pos) tA:=by
 intro wh af s σ H Q I h;refine isTrue_or (bX (ha af s σ H Q I h) λc s1 e=>?_);cases c with
 |false=>exact isTrue_or_nil e
 |true=>exact e
theorem G5(ha:PT X a tA)(hb:PW X (.BoolOp .And (b::rest) pos) C4):PW X (.BoolOp .And (a::b::rest) pos) (abK tA C4):=by
 intro wh af s σ H Q I h;refine isTrue_and (ha.n I h λc s1 H1 I1 q1=>?_);cases c with
 |true=>exact hb wh af s1 σ H1 Q I1 q1
 |false=>exact⟨H1,I1,q1⟩
theorem Wz(ha:PT X a tA)(hb:PW X (.BoolOp .Or (b::rest) pos) C4):PW X (.BoolOp .Or (a::b::rest) pos) (ZU tA C4):=by
 intro wh af s σ H Q I h;refine isTrue_or (ha.n I h λc s1 H1 I1 q1=>?_);cases c with
 |true=>exact⟨H1,I1,q1⟩
 |false=>exact hb wh af s1 σ H1 Q I1 q1
theorem acm(ha:PT X a tA):PT X (.UnaryOp .Not a pos) (aaI tA):=by
 intro af s σ H Q I h;exact isTrue_not (ha af s σ H (λc H1=>Q (!c) H1) I h)
def VN(ta tb:TE):TE:=λσ H Q=>ta σ H λx H1=>∃c,x=.bl c/\if c=true then tb σ H1 Q else Q (.bl false) H1
def Vf(ta tb:TE):TE:=λσ H Q=>ta σ H λx H1=>∃c,x=.bl c/\if c=true then Q (.bl true) H1 else tb σ H1 Q
def Uy(ta:TE):TE:=λσ H Q=>ta σ H λx H1=>∃c,x=.bl c/\Q (.bl (!c)) H1
theorem Of{op}(h:PE X a t):PE X (.BoolOp op [a] pos) t:=λaf s σ H Q I hw=>BoolOp_one (h af s σ H Q I hw)
theorem abl(ha:PE X a ta)(hb:PE X (.BoolOp .And (b::rest) pos) tb):PE X (.BoolOp .And (a::b::rest) pos) (VN ta tb):=by
 intro af s σ H Q I h;refine BoolOp_and (ha.n I h λv s1 x H1 I1 r1 q1=>?_);obtain⟨c,rfl,q1⟩:=q1;cases r1;refine aee ?_;cases c with
 |true=>exact hb af s1 σ H1 Q I1 q1
 |false=>exact⟨.bl false,H1,I1,rfl,q1⟩
theorem acS(ha:PE X a ta)(hb:PE X (.BoolOp .Or (b::rest) pos) tb):PE X (.BoolOp .Or (a::b::rest) pos) (Vf ta tb):=by
 intro af s σ H Q I h;refine BoolOp_or (ha.n I h λv s1 x H1 I1 r1 q1=>?_);obtain⟨c,rfl,q1⟩:=q1;cases r1;refine aee ?_;cases c with
 |false=>exact hb af s1 σ H1 Q I1 q1
 |true=>exact⟨.bl true,H1,I1,rfl,q1⟩
theorem Xy(ha:PE X a ta):PE X (.UnaryOp .Not a pos) (Uy ta):=by
 intro af s σ H Q I h;refine UnaryOp_ (ha.n I h λv s1 x H1 I1 r1 q1=>?_);obtain⟨c,rfl,q1⟩:=q1;cases r1;exact not_of (aee ⟨.bl (!c),H1,I1,rfl,q1⟩)
def Vh(t:TT)(ta tb:TE):TE:=λσ H Q=>t σ H λc H1=>if c=true then ta σ H1 Q else tb σ H1 Q
theorem SK(hc:PT X c tA)(ha:PE X a ta)(hb:PE X b tb):PE X (.IfExp c a b pos) (Vh tA ta tb):=by
 intro af s σ H Q I h;refine wpAny_IfExp (hc.n I h λd s1 H1 I1 q1=>?_);cases d with
 |true=>exact ha af s1 σ H1 Q I1 q1
 |false=>exact hb af s1 σ H1 Q I1 q1
end
def bK(K:PySem.W.Frag)(H:Hp)(a:Addr)(xs:List V):Prop:=
 Rd H a (.lst xs)\/
  ∃(o:Obj) (ao:Array Value) (n:Nat),K.lookup a=some o/\o.cls=.type "list"/\o.dict=none/\o.data=.seq ao n/\ao.size<=sizeLine/\aN xs ao.toList
def bN(K:PySem.W.Frag)(H:Hp)(a:Addr)(xs:List V):Prop:=
 Rd H a (.tup xs)\/
  ∃(o:Obj) (ao:Array Value) (n:Nat),K.lookup a=some o/\o.cls=.type "tuple"/\o.dict=none/\o.data=.seq ao n/\ao.size<=sizeLine/\aN xs ao.toList
noncomputable def Za:Value->Option V
 |.none=>some .aB
 |.bool b=>some (.bl b)
 |.int i _=>some (.int i)
 |.str x _=>some (.str x)
 |.bytes b _=>some (.i0 b)
 |.float b _=>some (.qI b)
 |.ref a=>some (.ref a)
 |.type n=>some (.ty n)
 |_=>none
theorem RelV.abs(r:RelV x u):Za u=some x:=by
 cases x with
 |aB=>cases r;rfl
 |bl _=>cases r;rfl
 |int _=>obtain⟨t,rfl⟩:=r;rfl
 |str _=>obtain⟨t,rfl⟩:=r;rfl
 |i0 _=>obtain⟨t,rfl⟩:=r;rfl
 |qI _=>obtain⟨t,rfl⟩:=r;rfl
 |ref _=>cases r;rfl
 |ty _=>cases r;rfl
theorem RelV.inj(r:RelV x u)(q:RelV y u):x=y:=ads (r.abs.symm.trans q.abs)
theorem aN.inj:∀{xs ys} {us},aN xs us->aN ys us->xs=ys
 |_,_,_,.nil,.nil=>rfl
 |_,_,_,.cons r t,.cons r' t'=>by rw[r.inj r',aN.inj t t']
theorem bK.of{K:PySem.W.Frag}(h:H a=some (.lst xs)):bK K H a xs:=.inl (.inl h)
theorem bN.of{K:PySem.W.Frag}(h:H a=some (.tup xs)):bN K H a xs:=.inl (.inl h)
theorem Inv.list(I:Inv X af σ H s)(h:bK X.K H a xs):∃ao:List Value,aN xs ao/\PlainL s.heap a ao.toArray/\xs.length<=sizeLine:=by
 rcases h with h|⟨o,ao,n,hk,hc,hd,hs,hz,r⟩
 .obtain⟨z,ao,n,r,e⟩:=h.ok I.aD;exact⟨ao,r,⟨_,n,e,rfl,rfl,rfl⟩,z⟩
 .refine⟨ao.toList,r,⟨o,n,I.dz a o hk,hc,hd,by simpa using hs⟩,?_⟩;have e:=r.length;simp only[ad3] at e;omega
theorem Inv.N6(I:Inv X af σ H s)(h:bN X.K H a xs):∃ao:List Value,aN xs ao/\mj s.heap a ao.toArray/\xs.length<=sizeLine:=by
 rcases h with h|⟨o,ao,n,hk,hc,hd,hs,hz,r⟩
 .obtain⟨z,ao,r,p⟩:=h.ok I.aD;exact⟨ao,r,p,z⟩
 .refine⟨ao.toList,r,⟨o,I.dz a o hk,hc,hd,n,by simpa using hs⟩,?_⟩;have e:=r.length;simp only[ad3] at e;omega
theorem Inv.tuple(I:Inv X af σ H s)(h:bN X.K H a xs):∃ao:List Value,aN xs ao/\IsTup s.heap a ao.toArray/\xs.length<=sizeLine:=by
 rcases h with h|⟨o,ao,n,hk,hc,hd,hs,hz,r⟩
 .obtain⟨z,ao,r,p⟩:=h.ok I.aD;exact⟨ao,r,p.isTup,z⟩
 .refine⟨ao.toList,r,⟨o,I.dz a o hk,hc,n,by simpa using hs⟩,?_⟩;have e:=r.length;simp only[ad3] at e;omega
theorem Inv.DN(I:Inv X af σ H s)(h:bK X.K H a xs)(h':bK X.K H a ys):xs=ys:=by
 obtain⟨ao,r,⟨o,n,e,_,_,d⟩,_⟩:=I.list h;obtain⟨its',r',⟨o',n',e',_,_,d'⟩,_⟩:=I.list h';rw[e] at e';cases e';rw[d] at d';injection d' with d1 _;have:ao=its':=by simpa using congrArg Array.toList d1
 subst this;exact r.inj r'
theorem Inv.aaP(I:Inv X af σ H s)(h:bN X.K H a xs)(h':bN X.K H a ys):xs=ys:=by
 obtain⟨ao,r,⟨o,e,_,n,d⟩,_⟩:=I.tuple h;obtain⟨its',r',⟨o',e',_,n',d'⟩,_⟩:=I.tuple h';rw[e] at e';cases e';rw[d] at d';injection d' with d1 _;have:ao=its':=by simpa using congrArg Array.toList d1
 subst this;exact r.inj r'
noncomputable abbrev Cx.l_(X:Cx)(E:Value->Shared->Prop):Cx:={ X with xe:=E }
abbrev Cx.k_(X:Cx):Cx:=X.l_ λ_ _=>False
theorem Cx.Ok.l_{X:Cx}(ok:X.Ok)(E:Value->Shared->Prop):(X.l_ E).Ok:=
 ⟨ok.mod,ok.kind,ok.glob,ok.blt,ok.above,ok.inj,ok.has,ok.tU,ok.hd,ok.frames,ok.uX,ok.ze,ok.bs,ok.jv,ok.ue,ok.sM,ok.jG,ok.pK⟩
theorem Cx.Ok.pC{X:Cx}(ok:(X.l_ E).Ok):X.Ok:=
 ⟨ok.mod,ok.kind,ok.glob,ok.blt,ok.above,ok.inj,ok.has,ok.tU,ok.hd,ok.frames,ok.uX,ok.ze,ok.bs,ok.jv,ok.ue,ok.sM,ok.jG,ok.pK⟩
theorem Inv.l_(I:Inv X af σ H s)(E:Value->Shared->Prop):Inv (X.l_ E) af σ H s:=⟨I.ok.l_ E,I.os,I.bare,I.base,I.loc,I.cell,I.free,I.iJ,I.pin,I.aD,I.len,I.hq⟩
theorem Inv.pC(I:Inv (X.l_ E) af σ H s):Inv X af σ H s:=⟨I.ok.pC,I.os,I.bare,I.base,I.loc,I.cell,I.free,I.iJ,I.pin,I.aD,I.len,I.hq⟩
theorem SP.pC(h:SP (X.l_ E) af D f s'):SP X af D f s':=by
 cases f with
 |next=>obtain⟨aC,H',I,q⟩:=h;exact⟨aC,H',I.pC,q⟩
 |brk=>obtain⟨aC,H',I,q⟩:=h;exact⟨aC,H',I.pC,q⟩
 |cont=>obtain⟨aC,H',I,q⟩:=h;exact⟨aC,H',I.pC,q⟩
 |ret u=>obtain⟨v,aC,H',I,r,q⟩:=h;exact⟨v,aC,H',I.pC,r,q⟩
theorem gu.k_{st:List Stmt}(h:gu X.k_ st t):gu X st t:=λaf s σ H D I hw=>
 aeu (h af s σ H D (I.l_ _) hw) (λ_ _ q=>q.pC) λ_ _ z=>False.elim z
section
variable{st:Stmt}{rest:List Stmt}
def QJ:TS:=λD σ H=>D.nx σ H
def acT(t u:TS):TS:=λD σ H=>t { D with nx:=u D } σ H
theorem EW:gu X [] QJ:=λ_ _ σ H _ I h=>wpAny_execs_nil ⟨σ,H,I,h⟩
theorem r9(h1:PS X st t)(h2:gu X rest u):gu X (st::rest) (acT t u):=by
 intro af s σ H D I h;refine wpAny_execs_cons (bX (h1 af s σ H { D with nx:=u D } I h) λf s1 q=>?_);cases f with
 |next=>
  obtain⟨aC,H',I',q⟩:=q;exact h2 af s1 aC H' D I' q
 |ret v=>exact q
 |brk=>exact q
 |cont=>exact q
theorem zQ(h1:PS X st t):gu X [st] t:=by
 intro af s σ H D I h;refine wpAny_execs_cons (bX (h1 af s σ H D I h) λf s1 q=>?_);cases f with
 |next=>exact wpAny_execs_nil q
 |ret v=>exact q
 |brk=>exact q
 |cont=>exact q
theorem Inv.quiet(I:Inv X af σ H s):interactive X.env=false:=by simp[interactive,I.ok.kind]
def Rx(te:TE):TS:=λD σ H=>te σ H λ_ H1=>D.nx σ H1
theorem zy(he:PE X e te)(hs:swapsWith e none pos.line X.env=pure false:=by rfl):PS X (.Expr e pos) (Rx te):=by
 intro af s σ H D I h;exact wpAny_Expr_any (he.n I h λv s1 x H1 I1 r1 q1=>⟨σ,H1,I1,q1⟩) I.quiet hs
def abr(te:TE):TS:=λD σ H=>te σ H D.rt
theorem uf(he:PE X e te):PS X (.Return (some e) pos) (abr te):=by
 intro af s σ H D I h;exact wpAny_Return_some (he.n I h λv s1 x H1 I1 r1 q1=>⟨x,σ,H1,I1,r1,q1⟩)
def aaF(c:TT)(t u:TS):TS:=λD σ H=>c σ H λb H1=>if b=true then t D σ H1 else u D σ H1
theorem xN(hc:PT X c tc)(ha:gu X a t)(hb:gu X b u):PS X (.If c a b pos) (aaF tc t u):=by
 intro af s σ H D I h;refine wpAny_If (hc.n I h λd s1 H1 I1 q1=>?_);cases d with
 |true=>exact ha af s1 σ H1 D I1 q1
 |false=>exact hb af s1 σ H1 D I1 q1
def aaH:TS:=λ_ _ _=>False
theorem Iz:PS X st aaH:=λ_ _ _ _ _ _ h=>h.elim
end
abbrev TG:=V->St->Hp->(St->Hp->Prop)->Prop
abbrev vZ:=List V->St->Hp->(St->Hp->Prop)->Prop
def PG(X:Cx)(target:Expr)(t:TG):Prop:=
 ∀(af) (s) (σ) (H) (v) (u) (Q),Inv X af σ H s->RelV v u->t v σ H Q->
  wpAny (model X.prog X.w) X.A (assign target X.env u) (λ_ s'=>∃aC H',Inv X af aC H' s'/\Q aC H') X.xe s
def uL(X:Cx)(ts:List Expr)(t:vZ):Prop:=
 ∀(af) (s) (σ) (H) (vs) (us) (Q),Inv X af σ H s->aN vs us->t vs σ H Q->
  wpAny (model X.prog X.w) X.A (assignInOrder ((assignEach ts X.env).map (·.2)) us) (λ_ s'=>∃aC H',Inv X af aC H' s'/\Q aC H') X.xe s
def qw(i:Nat):TG:=λv σ H Q=>Q (σ.set i (some v)) H
theorem KH(hN:X.N.Nodup)(hi:X.N[i]? = some x)(hx:Loc X.env.scope x)(hf:X.fn x=true\/X.env.scope.names.lookup x=some .local:=by first|exact .inl rfl|exact .inr rfl|assumption):PG X (.Name x pos) (qw i):=by
 intro af s σ H v u Q I r h;exact wpAny_assign_Name (Pb I hN hi hx r (λs' I'=>⟨_,H,I',h⟩) hf)
def Q7:vZ:=λvs σ H Q=>vs=[]/\Q σ H
def RD(t:TG)(u:vZ):vZ:=λvs σ H Q=>∃v r,vs=v::r/\t v σ H λaC H'=>u r aC H' Q
theorem ZA:uL X [] Q7:=by
 intro af s σ H vs us Q I r h;obtain⟨e,h⟩:=h;subst e;cases r;exact assignInOrder_nil ⟨σ,H,I,h⟩
theorem VM(h1:PG X e t)(h2:uL X es u)
  (hs:(assignEach (e::es) X.env).map (·.2)=assign e X.env::(assignEach es X.env).map (·.2):=by rfl):uL X (e::es) (RD t u):=by
 intro af s σ H vs us Q I r h;obtain⟨v,vr,e1,h⟩:=h;subst e1;cases r with
 |cons r rr=>
  rw[hs];refine assignInOrder_cons (bX (h1 af s σ H _ _ _ I r h) ?_)
  rintro _ s1 ⟨ng,H1,I1,q1⟩
  exact h2 af s1 ng H1 _ _ Q I1 rr q1
def Qp(K:PySem.W.Frag)(n:Nat)(t:vZ):TG:=λv σ H Q=>∃a xs,v=.ref a/\bN K H a xs/\xs.length=n/\t xs σ H Q
theorem Rq(hc:X.calm=true)(h:uL X es t)
  (hn:(assignEach es X.env).length=n:=by rfl) (gW:(assignEach es X.env).findIdx? (·.1)=none:=by rfl):PG X (.Tuple es k pos) (Qp X.K n t):=by
 intro af s σ H v u Q I r hw;obtain⟨a,xs,e1,hq,hl,hw⟩:=hw;subst e1;cases r;obtain⟨ao,rv,ht,hz⟩:=I.tuple hq;refine assign_Tuple_tuple (I.ok.hd hc) ht (by simp[hn,<- hl,rv.length]) gW λh' hx=>?_
 have I1:=I.kept (t':=s.toks) λb o e=>hx b o (ady (aco e)) e
 exact h af _ σ H xs _ Q I1 (by simpa using rv) hw
def MN(te:TE)(g:TG):TS:=λD σ H=>te σ H λx H1=>g x σ H1 D.nx
theorem ye(hN:X.N.Nodup)(hi:X.N[i]? = some x)(hx:Loc X.env.scope x)(he:PE X e te)(hs:swapsWith e (some (.Name x pos')) pos.line X.env=pure false:=by rfl)(hf:X.fn x=true\/X.env.scope.names.lookup x=some .local:=by first|exact .inl rfl|exact .inr rfl|assumption):
  PS X (.Assign [.Name x pos'] e pos) (MN te (qw i)):=by
 intro af s σ H D I h;refine wpAny_Assign_Name (he.n I h λv s1 y H1 I1 r1 q1=>?_) hs;exact Pb I1 hN hi hx r1 (λs2 I2=>⟨_,H1,I2,q1⟩) hf
def adk(c:TT)(tb:TS):TS:=λD σ H=>∃W:Nat->St->Hp->Prop,(∃m,W m σ H)/\∀m σ H,W m σ H->
 c σ H λb H1=>if b=true then ∃N:St->Hp->Prop,(∀aC H',N aC H'->∃m',m'<m/\W m' aC H')/\tb { D with nx:=N,ct:=N,bk:=D.nx } σ H1 else D.nx σ H1
theorem Ht(hp:PassesOwn (model X.prog X.w) X.A X.env X.xe)(hc:PT X c tc)(hb:gu X body tb):PS X (.While c body [] pos) (adk tc tb):=by
 intro af s σ H D I h;obtain⟨W,⟨m0,w0⟩,turn⟩:=h;refine wpAny_While (codeAny_whileLoop (λn s'=>∃aC H',Inv X af aC H' s'/\W n aC H') ?_ m0 ⟨σ,H,I,w0⟩)
 rintro n s1 ⟨ng,H1,I1,w1⟩
 refine ae0 hp (CL (hc af s1 ng H1 _ I1 (turn n ng H1 w1)) λb s2 H2 I2 q2=>?_);cases b with
 |true=>
  obtain⟨N,hN,q2⟩:=q2;rw[if_pos rfl];refine ae0 hp (bX (hb af s2 ng H2 _ I2 q2) λf s3 q3=>?_);cases f with
  |next=>
   obtain⟨cH,H3,I3,n3⟩:=q3;obtain⟨m',hm,w3⟩:=hN cH H3 n3;exact⟨m',hm,cH,H3,I3,w3⟩
  |cont=>
   obtain⟨cH,H3,I3,n3⟩:=q3;obtain⟨m',hm,w3⟩:=hN cH H3 n3;exact⟨m',hm,cH,H3,I3,w3⟩
  |brk=>exact q3
  |ret v=>exact q3
 |false=>
  rw[acZ abR];exact wpAny_execs_nil ⟨ng,H2,I2,q2⟩
structure It where
 go:Nat->Hp->Prop
 w6:Nat->Hp->V->Hp->Prop
 stop:Nat->Hp->Prop
 rg:Bool
def g9(X:Cx)(af:List (Addr×Obj))(H:Hp)(b:Addr):Prop:=
 H b=none/\b≠X.env.locals/\b∉X.fs/\(b∈X.ex\/X.dM.heap.objs.size<=b)/\(∀x c,X.env.cells.lookup x=some c->c≠b)/\∀p∈X.pn++af,p.1≠b
theorem Inv.nM(I:Inv X af σ H s)(hb:s.heap.objs.size<=b)(hn:H' b=none):g9 X af H' b:=by
 refine⟨hn,aeo (adF I.lt hb),I.Mr hb,.inr (ad5 I.sz hb),λx c e z=>?_,λp hp z=>?_⟩
 .obtain⟨v,q⟩:=I.cell x c e;exact absurd (adF q.lt (by rw[z];exact hb)) (ad8 _)
 .exact absurd (adF (aco (I.pin p hp).1) (by rw[z];exact hb)) (ad8 _)
structure Turn(P:Program)(w:World)(K:PySem.W.Frag)(tg:Expr)(J:It)(fp:List Addr)(it:Addr)(tn:Nat->Heap->Prop):Prop where
 mem:it∈fp
 obj:∀i h,tn i h->∀b∈fp,∃o,h.get? b=some o/\∀v,o.data≠.cell v
 keep:∀i h h',tn i h->(∀b∈fp,∀o,h.get? b=some o->h'.get? b=some o)->tn i h'
 item:∀(X),X.prog=P->X.w=w->X.K=K->(X.calm=true\/J.rg=true)->∀(i) (af) (s) (σ) (H) (E),Inv X af σ H s->(∀b∈fp,g9 X af H b)->tn i s.heap->J.go i H->
  wpAny (model P w) X.A (pyNext (.ref it)) (λr s1=>∃u,r=some u/\
   wpAny (model P w) X.A (letOwnedTupleGo tg (.ref it) u) (λ_ s2=>∃x H',Inv X af σ H' s2/\RelV x u/\J.w6 i H x H'/\tn (i+1) s2.heap/\∀b∈fp,H' b=none) E s1) E s
 done:∀(X),X.prog=P->X.w=w->X.K=K->(X.calm=true\/J.rg=true)->∀(i) (af) (s) (σ) (H) (E),Inv X af σ H s->(∀b∈fp,g9 X af H b)->tn i s.heap->J.stop i H->
  wpAny (model P w) X.A (pyNext (.ref it)) (λr s1=>r=none/\Inv X af σ H s1) E s
 self:∀(A) (i) (s) (Q) (E),tn i s.heap->Q (.ref it) s->wpAny (model P w) A (pyIter (.ref it)) Q E s
abbrev TI:=St->Hp->(It->Hp->Prop)->Prop
def Oo(X:Cx)(af:List (Addr×Obj))(σ:St)(tg:Expr)(R:It->Hp->Prop)(A4:Value)(s2:Shared):Prop:=
 ∃(it:Addr) (fp:List Addr) (tn:Nat->Heap->Prop) (J:It) (H':Hp),A4=.ref it/\Inv X af σ H' s2/\Turn X.prog X.w X.K tg J fp it tn/\tn 0 s2.heap/\(∀b∈fp,g9 X af H' b)/\R J H'
def PI(X:Cx)(tg iter:Expr)(wi:TI):Prop:=
 ∀(af) (s) (σ) (H) (R),Inv X af σ H s->wi σ H R->
  wpAny (model X.prog X.w) X.A (eval iter X.env) (λv s1=>wpAny (model X.prog X.w) X.A (pyIter v) (Oo X af σ tg R) X.xe s1) X.xe s
theorem zA(ho:s.heap.get? it=some o)(hc:o.cls=.type n)(hd:o.data=.fields vs)
    (hn:["enumerate","zip","dict_itemiterator","dict_reverseitemiterator","odict_iterator","itertools.zip_longest","itertools.pairwise"].contains n=false) (hQ:Q () s):wpAny M A (letOwnedTupleGo tg (.ref it) u) Q E s:=by
  unfold letOwnedTupleGo;cases tg<;>first
    |exact adg hQ
    | (cases u <;> first
        |exact adg hQ
        | (refine aae (wpAny_load ho ?_)
           rw[hc,hd];show wpAny M A (if(["enumerate","zip","dict_itemiterator","dict_reverseitemiterator","odict_iterator","itertools.zip_longest","itertools.pairwise"].contains n&&vs[0]?==some (rawInt _))=true then _ else _) Q E s;rw[acZ (by intro h;rw[hn,Bool.false_and] at h;cases h)];exact adg hQ))
noncomputable def zc(K:PySem.W.Frag)(a:Addr):It:=
 ⟨λi H=>∃xs x,bK K H a xs/\xs[i]? = some x,λi H x H'=>H'=H/\∀xs,bK K H a xs->xs[i]? = some x,λi H=>∃xs,bK K H a xs/\xs.length<=i,false⟩
noncomputable def BH(K:PySem.W.Frag)(a:Addr):It:=
 ⟨λi H=>∃xs x,bN K H a xs/\xs[i]? = some x,λi H x H'=>H'=H/\∀xs,bN K H a xs->xs[i]? = some x,λi H=>∃xs,bN K H a xs/\xs.length<=i,false⟩
def wH(lo:Int)(n:Nat):It:=⟨λi _=>i<n,λi H x H'=>H'=H/\x=.int (lo+i),λi _=>n<=i,true⟩
theorem QT{K:PySem.W.Frag}(a it:Addr):Turn P w K tg (zc K a) [it] it (λi h=>h.IsListIter it a i) where
 mem:=by simp
 obj:=λi h st b hb=>by
  have e:b=it:=by simpa using hb
  subst e;obtain⟨o,e,c,d⟩:=st;exact⟨o,e,λv z=>by rw[d] at z;cases z⟩
 keep:=λi h h' st k=>st.at λo e=>k it (by simp) o e
 item:=by
  intro X hP hw hK hc i af s σ H E I hf st hg;subst hP hw hK;obtain⟨xs,x,hq,hx⟩:=hg;obtain⟨ao,rv,p,hz⟩:=I.list hq;obtain⟨u,hu,ru⟩:=rv.get hx;obtain⟨f0,f1,f2,f3,f4,f5⟩:=hf it (by simp);refine wpAny_pyNext_list_item st p.isList (by simpa using hu) λh' jP sb=>?_
  have I1:=I.turned (t':=s.toks) (λb o hb e=>(sb.2 b hb).trans e) f0 f1 f3 f4 f5;obtain⟨o,e,c,d⟩:=id jP;exact⟨u,rfl,zA e c d (by decide) ⟨x,H,I1,ru,⟨rfl,λys hy=>by rw[I.DN hy hq];exact hx⟩,jP,λb hb=>(hf b hb).1⟩⟩
 done:=by
  intro X hP hw hK hc i af s σ H E I hf st hg;subst hP hw hK;obtain⟨xs,hq,hx⟩:=hg;obtain⟨ao,rv,p,hz⟩:=I.list hq;obtain⟨f0,f1,f2,f3,f4,f5⟩:=hf it (by simp);have hl:=rv.length;exact wpAny_pyNext_list_end (I.ok.hd (hc.resolve_right λz=>abR z)) st p.isList (by simp;omega) λh' eb=>⟨rfl,I.turned (λb o hb e=>eb b o hb e) f0 f1 f3 f4 f5⟩
 self:=λ_ _ _ _ _ st h=>wpAny_pyIter_listiter st h
theorem abU{K:PySem.W.Frag}(a it:Addr):Turn P w K tg (BH K a) [it] it (λi h=>h.IsTupleIter it a i) where
 mem:=by simp
 obj:=λi h st b hb=>by
  have e:b=it:=by simpa using hb
  subst e;obtain⟨o,e,c,d⟩:=st;exact⟨o,e,λv z=>by rw[d] at z;cases z⟩
 keep:=λi h h' st k=>st.at λo e=>k it (by simp) o e
 item:=by
  intro X hP hw hK hc i af s σ H E I hf st hg;subst hP hw hK;obtain⟨xs,x,hq,hx⟩:=hg;obtain⟨ao,rv,p,hz⟩:=I.tuple hq;obtain⟨u,hu,ru⟩:=rv.get hx;obtain⟨f0,f1,f2,f3,f4,f5⟩:=hf it (by simp);refine wpAny_pyNext_tuple_item st (show s.heap.IsTuple a ao.toArray from p) (by simpa using hu) λh' jP sb=>?_
  have I1:=I.turned (t':=s.toks) (λb o hb e=>(sb.2 b hb).trans e) f0 f1 f3 f4 f5;obtain⟨o,e,c,d⟩:=id jP;exact⟨u,rfl,zA e c d (by decide) ⟨x,H,I1,ru,⟨rfl,λys hy=>by rw[I.aaP hy hq];exact hx⟩,jP,λb hb=>(hf b hb).1⟩⟩
 done:=by
  intro X hP hw hK hc i af s σ H E I hf st hg;subst hP hw hK;obtain⟨xs,hq,hx⟩:=hg;obtain⟨ao,rv,p,hz⟩:=I.tuple hq;obtain⟨f0,f1,f2,f3,f4,f5⟩:=hf it (by simp);have hl:=rv.length;exact wpAny_pyNext_tuple_end (I.ok.hd (hc.resolve_right λz=>abR z)) st (show s.heap.IsTuple a ao.toArray from p) (by simp;omega) λh' eb=>⟨rfl,I.turned (λb o hb e=>eb b o hb e) f0 f1 f3 f4 f5⟩
 self:=λ_ _ _ _ _ st h=>wpAny_pyIter_tupleiter st h
theorem Z8{K:PySem.W.Frag}(it:Addr)(lo:Int)(n:Nat):Turn P w K tg (wH lo n) [it] it (λi h=>IsRangeIter h it (lo+(i:Nat)*1) ((n:Int)-(i:Nat)) 1) where
 mem:=by simp
 obj:=λi h st b hb=>by
  have e:b=it:=by simpa using hb
  subst e;exact⟨_,st,λv z=>by
   have z':=z;cases z'⟩
 keep:=λi h h' st k=>k it (by simp) _ st
 item:=by
  intro X hP hw hK hc i af s σ H E I hf st hg;subst hP hw hK;obtain⟨f0,f1,f2,f3,f4,f5⟩:=hf it (by simp);refine wpAny_pyNext_range_item st (by have:i<n:=hg;omega) λh' jP sb=>?_
  have I1:Inv X af σ H { s with heap:=h',toks:=s.toks+1 }:=I.turned (λb o hb e=>(sb.2 b hb).trans e) f0 f1 f3 f4 f5;have e1:lo+((i+1:Nat):Int)*1=lo+(i:Int)*1+1:=by omega
  have e2:(n:Int)-((i+1:Nat):Int)=(n:Int)-(i:Int)-1:=by omega
  refine⟨_,rfl,zA jP rfl rfl (by decide) ⟨.int (lo+i),H,I1,⟨s.toks,?_⟩,⟨rfl,rfl⟩,by rw[e1,e2];exact jP,λb hb=>(hf b hb).1⟩⟩;rw[Int.mul_one]
 done:=by
  intro X hP hw hK hc i af s σ H E I hf st hg;subst hP hw hK;obtain⟨f0,f1,f2,f3,f4,f5⟩:=hf it (by simp);rcases I.hq.hd with h0|⟨a',ob,u,vs,h0,h1,h2,h3⟩
  .exact wpAny_pyNext_range_end h0 st (by have:n<=i:=hg;omega) λh' eb=>⟨rfl,I.turned (λb o hb e=>eb b o hb e) f0 f1 f3 f4 f5⟩
  .exact QL h0 (I.aD a' _ h1).1 h2 h3 st (by have:n<=i:=hg;omega) λh' eb=>⟨rfl,I.turned (λb o hb e=>eb b o hb e) f0 f1 f3 f4 f5⟩
 self:=λ_ _ _ _ _ st h=>wpAny_pyIter_rangeiter st h
theorem Pu{lo hi:Int}{tk:Nat}(I:Inv X af σ H s)(h1:-(2 ^ 62)<=lo)(h2:lo<2 ^ 62)(h3:-(2 ^ 62)<=hi)(h4:hi<2 ^ 62)
  (q:R (wH lo (hi-lo).toNat) H):wpAny (model X.prog X.w) X.A (pyIter (.ref s.heap.objs.size)) (Oo X af σ tg R) E { s with heap:=s.heap.push { cls:=.type "range",data:=.fields #[.int lo t,.int hi u,.int 1 v] },toks:=tk }:=by
 refine wpAny_pyIter_range (IsRange.new ..) (small_one h1 h2 h3 h4) ?_;have I1:Inv X af σ H { s with heap:=s.heap.push { cls:=.type "range",data:=.fields #[.int lo t,.int hi u,.int 1 v] },toks:=tk }:=I.kept λb o e=>aaf _ e
 refine⟨(s.heap.push { cls:=.type "range",data:=.fields #[.int lo t,.int hi u,.int 1 v] }).objs.size,[(s.heap.push { cls:=.type "range",data:=.fields #[.int lo t,.int hi u,.int 1 v] }).objs.size],_,_,H,rfl,
  I1.kept λb o e=>aaf _ e,Z8 _ lo (hi-lo).toNat,?_,λb hb=>?_,q⟩
 .have e1:lo+((0:Nat):Int)*1=lo:=by simp
  have e2:(((hi-lo).toNat:Nat):Int)-((0:Nat):Int)=Builtin.Range.rangeSize lo hi 1:=by rw[rangeSize_one];split<;>omega
  rw[e1,e2];exact ac9 _ rfl
 .have e:b=(s.heap.push { cls:=.type "range",data:=.fields #[.int lo t,.int hi u,.int 1 v] }).objs.size:=by simpa using hb
  subst e;exact I1.nM (acy _) (I1.aD.fresh (acy _))
def aaK(ta:TA):TI:=λσ H R=>ta σ H λvs H1=>∃j:Int,vs=[.int j]/\-(2 ^ 62)<=j/\j<2 ^ 62/\R (wH 0 j.toNat) H1
def adj(ta:TA):TI:=λσ H R=>ta σ H λvs H1=>∃i j:Int,vs=[.int i,.int j]/\(-(2 ^ 62)<=i/\i<2 ^ 62/\-(2 ^ 62)<=j/\j<2 ^ 62)/\R (wH i (j-i).toNat) H1
theorem Ue{ta:TA}(hg:Gl X "range")(hm:X.mg "range"=none)(ha:PA X [a] ta)(hs:starEach [a] X.env=[(false,eval a X.env)]:=by rfl):PI X tg (.Call (.Name "range" p) [a] [] pos) (aaK ta):=by
 intro af s σ H R I h;refine Call_ (kG I hg hm boot_range (ad6 (ha.n I h λus s1 vs H1 I1 r1 q1=>?_) hs rfl));obtain⟨j,e,q1,q2,q⟩:=q1;subst e;cases r1 with
 |cons r rr=>
  cases rr;obtain⟨t,rfl⟩:=r;exact call_range_1 (Pu I1 (by omega) (by omega) q1 q2 (by simpa using q))
theorem UJ(hg:Gl X "range")(hm:X.mg "range"=none)(ha:PA X [a,b] ta)(hs:starEach [a,b] X.env=[(false,eval a X.env),(false,eval b X.env)]:=by rfl)(cg:starEach [b] X.env=[(false,eval b X.env)]:=by rfl):
  PI X tg (.Call (.Name "range" p) [a,b] [] pos) (adj ta):=by
 intro af s σ H R I h;refine Call_ (kG I hg hm boot_range (ad6 (ha.n I h λus s1 vs H1 I1 r1 q1=>?_) (by rw[hs,cg]) (by rw[cg];rfl)));obtain⟨i,j,e,⟨q1,q2,q3,q4⟩,q⟩:=q1;subst e;cases r1 with
 |cons r rr=>
  cases rr with
  |cons r' rr=>
   cases rr;obtain⟨t,rfl⟩:=r;obtain⟨t',rfl⟩:=r';exact call_range_2 (Pu I1 q1 q2 q3 q4 q)
def UN(wi:TI)(g:TG)(tb:TS):TS:=λD σ H=>wi σ H λJ H1=>∃W:Nat->Nat->St->Hp->Prop,(∃m,W 0 m σ H1)/\∀i m σ H,W i m σ H->
 (J.stop i H/\D.nx σ H)\/(J.go i H/\∃N:St->Hp->Prop,(∀aC H',N aC H'->∃m',m'<m/\W (i+1) m' aC H')/\∀x H',J.w6 i H x H'->g x σ H' λgS H2=>tb { D with nx:=N,ct:=N,bk:=D.nx } gS H2)
noncomputable def wR(fp:List Addr)(h:Heap):List (Addr×Obj):=fp.filterMap λb=>(h.get? b).map λo=>(b,o)
theorem A_(hb:b∈fp)(e:h.get? b=some o):(b,o)∈wR fp h:=List.mem_filterMap.mpr ⟨b,hb,by rw[e];rfl⟩
theorem Ru(hp:p∈wR fp h):p.1∈fp/\h.get? p.1=some p.2:=by
 obtain⟨b,hb,e⟩:=List.mem_filterMap.mp hp;exists q,h.get? b,o,e;have e':=ads e;subst e';exact⟨hb,q⟩
theorem Inv.pinned(I:Inv X af σ H s)(hf:∀b∈fp,g9 X af H b)(ho:∀b∈fp,∃o,s.heap.get? b=some o/\∀v,o.data≠.cell v):Inv X (af++wR fp s.heap) σ H s:=
 I.qN λp hp=>(ada.mp hp).elim (λz=>I.pin p (aaY _ z)) λz=>by
  obtain⟨hb,e⟩:=Ru z;obtain⟨f0,f1,f2,_⟩:=hf p.1 hb;obtain⟨o,e',d⟩:=ho p.1 hb;rw[e] at e';cases e';exact⟨e,f0,f1,f2,d⟩
theorem Inv.vt(I:Inv X (af++pl) σ H s):Inv X af σ H s:=I.qN λp hp=>I.pin p (aaY _ (abT _ hp))
theorem Xp(hp:PassesOwn (model X.prog X.w) X.A X.env X.xe)(hc:X.calm=true)(hi:PI X tg iter wi)(hg:PG X tg g)(hb:gu X body tb)
  (hs:∀x,foldedSetIterable iter X.env x=pure x:=by intro _;rfl):PS X (.For tg iter body [] pos) (UN wi g tb):=by
 intro af s σ H D I h;refine wpAny_For (bX (hi af s σ H _ I h) λv s1 h1=>bX h1 λA4 s2 h2=>?_) hs;obtain⟨it,fp,tn,J,H2,e,I2,T,qm,f2,W,⟨m0,w0⟩,turn⟩:=h2;subst e;have qe:∀{H':Hp},(∀b∈fp,H' b=none)->∀b∈fp,g9 X af H' b:=λhn b hb=>⟨hn b hb,(f2 b hb).2⟩
 refine codeAny_forLoop_any (λn s'=>∃i aC H',Inv X af aC H' s'/\tn i s'.heap/\(∀b∈fp,H' b=none)/\W i n aC H') ?_ m0 ⟨0,σ,H2,I2,qm,λb hb=>(f2 b hb).1,w0⟩
 rintro n s3 ⟨i,cH,H3,I3,MW,OE,w3⟩
 rcases turn i n cH H3 w3 with⟨stop,qn⟩|⟨go,N,hN,step⟩
 .refine ae0 hp (bX (T.done X rfl rfl rfl (.inl hc) i af s3 cH H3 X.xe I3 (qe OE) MW stop) ?_)
  rintro r s4 ⟨hr,I4⟩
  subst hr;exact wpAny_execs_nil ⟨cH,H3,I4,qn⟩
 .refine ae0 hp (bX (T.item X rfl rfl rfl (.inl hc) i af s3 cH H3 X.xe I3 (qe OE) MW go) ?_)
  rintro r s4 ⟨u,hr,h4⟩
  subst hr;refine ae0 hp (bX h4 ?_)
  rintro _ s5 ⟨x,H5,I5,r5,y5,rV,kj⟩
  have ZZ:=I5.pinned (qe kj) (T.obj _ _ rV);refine ae0 hp (bX (hg _ s5 cH H5 x u _ ZZ r5 (step x H5 y5)) ?_)
  rintro _ s6 ⟨U7,H6,I6,q6⟩
  refine ae0 hp (bX (hb _ s6 U7 H6 _ I6 q6) λf s7 q7=>?_);have again:∀{lE:St}{H7:Hp},Inv X (af++wR fp s5.heap) lE H7 s7->N lE H7->∃m,m<n/\∃i aC H',Inv X af aC H' s7/\tn i s7.heap/\(∀b∈fp,H' b=none)/\W i m aC H':=λ{lE H7} I7 n7=>by
   obtain⟨m',hm,w7⟩:=hN lE H7 n7;refine⟨m',hm,i+1,lE,H7,I7.vt,T.keep _ _ _ rV λb hb o e=>(I7.pin (b,o) (aaY _ (aaY _ (A_ hb e)))).1,λb hb=>?_,w7⟩;obtain⟨o,e,d⟩:=T.obj _ _ rV b hb;exact(I7.pin (b,o) (aaY _ (aaY _ (A_ hb e)))).2.1
  cases f with
  |next=>obtain⟨lE,H7,I7,n7⟩:=q7;exact again I7 n7
  |cont=>obtain⟨lE,H7,I7,n7⟩:=q7;exact again I7 n7
  |brk=>obtain⟨lE,H7,I7,q7⟩:=q7;exact⟨lE,H7,I7.vt,q7⟩
  |ret v=>obtain⟨x7,lE,H7,I7,r7,q7⟩:=q7;exact⟨x7,lE,H7,I7.vt,r7,q7⟩
abbrev R2:=V->V->Hp->VK->Prop
def cD(X:Cx)(f:Value->Value->Sem Value)(r:R2):Prop:=
 ∀(af:List (Addr×Obj)) (s:Shared) (σ:St) (H:Hp) (x y:V) (v u:Value) (Q:VK),Inv X af σ H s->RelV x v->RelV y u->r x y H Q->
  wpAny (model X.prog X.w) X.A (f v u) (EP X af σ Q) X.xe s
def C0(X:Cx)(f:Value->Sem Value)(r:V->Hp->VK->Prop):Prop:=
 ∀(af:List (Addr×Obj)) (s:Shared) (σ:St) (H:Hp) (x:V) (v:Value) (Q:VK),Inv X af σ H s->RelV x v->r x H Q->
  wpAny (model X.prog X.w) X.A (f v) (EP X af σ Q) X.xe s
def fN(X:Cx)(f:Value)(r:List V->Hp->VK->Prop):Prop:=
 ∀(af:List (Addr×Obj)) (s:Shared) (σ:St) (H:Hp) (xs:List V) (us:List Value) (Q:VK),Inv X af σ H s->aN xs us->r xs H Q->
  wpAny (model X.prog X.w) X.A (call f us) (EP X af σ Q) X.xe s
def Xs(X:Cx)(r:V->Hp->(Bool->Hp->Prop)->Prop):Prop:=
 ∀(af:List (Addr×Obj)) (s:Shared) (σ:St) (H:Hp) (x:V) (v:Value) (Q:Bool->Hp->Prop),Inv X af σ H s->RelV x v->r x H Q->
  wpAny (model X.prog X.w) X.A (truthy v) (TP X af σ Q) X.xe s
def o9(r:R2)(ta tb:TE):TE:=λσ H Q=>ta σ H λx H1=>tb σ H1 λy H2=>r x y H2 Q
def VD(r:V->Hp->VK->Prop)(ta:TE):TE:=λσ H Q=>ta σ H λx H1=>r x H1 Q
def rI(C:Int->Int->Prop)(g:Int->Int->V):R2:=λx y H Q=>∃i j,x=.int i/\y=.int j/\C i j/\Q (g i j) H
def lM(g:Int->Int->V):R2:=λx y H Q=>∃i j,x=.int i/\y=.int j/\Q (g i j) H
def rU(g:Int->V):V->Hp->VK->Prop:=λx H Q=>∃i,x=.int i/\Q (g i) H
theorem Fz(ha:PE X a ta)(hb:PE X b tb){R:V->V->Hp->Prop}(I:Inv X af σ H s)
  (h:ta σ H λx H1=>tb σ H1 λy H2=>R x y H2) {f:Value->Value->Sem Value}
  (hf:∀v u s2 x y H2,Inv X af σ H2 s2->RelV x v->RelV y u->R x y H2->wpAny (model X.prog X.w) X.A (f v u) Q X.xe s2) :
  wpAny (model X.prog X.w) X.A (eval a X.env) (λv bq=>wpAny (model X.prog X.w) X.A (eval b X.env) (λu oO=>wpAny (model X.prog X.w) X.A (f v u) Q X.xe oO) X.xe bq) X.xe s:=by
 refine ha.n I h λv s1 x H1 I1 r1 q1=>?_
 refine hb.n I1 q1 λu s2 y H2 I2 r2 q2=>?_
 exact hf v u s2 x y H2 I2 r1 r2 q2
theorem uJ{r:R2}(ho:cD X (binaryOp op) r)(ha:PE X a ta)(hb:PE X b tb):PE X (.BinOp a op b pos) (o9 r ta tb):=by
 intro af s σ H Q I h;exact wpAny_BinOp (Fz ha hb I h λv u s2 x y H2 I2 rx ry q=>ho af s2 σ H2 x y v u Q I2 rx ry q)
theorem acO(ho:C0 X (unaryOp op) r)(ha:PE X a ta):PE X (.UnaryOp op a pos) (VD r ta):=by
 intro af s σ H Q I h;exact UnaryOp_ (ha.n I h λv s1 x H1 I1 r1 q1=>ho af s1 σ H1 x v Q I1 r1 q1)
theorem A2{g:Int->Int->Int}
  (rule:∀(i j:Int) (t u:Tok) (s:Shared) (Q:Value->Shared->Prop) (E:Value->Shared->Prop),C i j->Q (.int (g i j) s.toks) { s with toks:=s.toks+1 }->wpAny (model X.prog X.w) X.A (f (.int i t) (.int j u)) Q E s) :
  cD X f (rI C λi j=>.int (g i j)):=by
 intro af s σ H x y v u Q I rx ry h;obtain⟨i,j,rfl,rfl,hc,q⟩:=h;obtain⟨t,rfl⟩:=rx;obtain⟨t',rfl⟩:=ry;exact rule i j t t' s _ _ hc ⟨.int (g i j),H,I.tok _,⟨_,rfl⟩,q⟩
theorem JV{g:Int->Int->Int}
  (rule:∀(i j:Int) (t u:Tok) (s:Shared) (Q:Value->Shared->Prop) (E:Value->Shared->Prop),Q (.int (g i j) s.toks) { s with toks:=s.toks+1 }->wpAny (model X.prog X.w) X.A (f (.int i t) (.int j u)) Q E s) :
  cD X f (lM λi j=>.int (g i j)):=by
 intro af s σ H x y v u Q I rx ry h;obtain⟨i,j,rfl,rfl,q⟩:=h;obtain⟨t,rfl⟩:=rx;obtain⟨t',rfl⟩:=ry;exact rule i j t t' s _ _ ⟨.int (g i j),H,I.tok _,⟨_,rfl⟩,q⟩
theorem yT{g:Int->Int->Bool}
  (rule:∀(i j:Int) (t u:Tok) (s:Shared) (Q:Value->Shared->Prop) (E:Value->Shared->Prop),Q (.bool (g i j)) s->wpAny (model X.prog X.w) X.A (f (.int i t) (.int j u)) Q E s) :
  cD X f (lM λi j=>.bl (g i j)):=by
 intro af s σ H x y v u Q I rx ry h;obtain⟨i,j,rfl,rfl,q⟩:=h;obtain⟨t,rfl⟩:=rx;obtain⟨t',rfl⟩:=ry;exact rule i j t t' s _ _ ⟨.bl (g i j),H,I,rfl,q⟩
def acu(i j:Int):Prop:=0<j/\j<1073741824
def Ve(i j:Int):Prop:=0<=j/\j<=1000000/\i.natAbs<2 ^ 64
def uU(i j:Int):Prop:=(-(2 ^ 64)<i/\i<2 ^ 64)\/(-(2 ^ 64)<j/\j<2 ^ 64)
theorem uU.ok(h:uU i j):IntMulOk i j:=by
 rcases h with⟨h1,h2⟩|⟨h1,h2⟩
 .exact .of_left (intBits_le_64 h1 h2)
 .exact .of_right (intBits_le_64 h1 h2)
theorem IA:cD X (binaryOp .Add) (lM λi j=>.int (i+j)):=JV λ_ _ _ _ _ _ _ q=>add_int q
theorem PY:cD X (binaryOp .Sub) (lM λi j=>.int (i-j)):=JV λ_ _ _ _ _ _ _ q=>sub_int q
theorem Su:cD X (binaryOp .Mult) (rI uU λi j=>.int (i*j)):=A2 λ_ _ _ _ _ _ _ hc q=>mul_int q hc.ok
theorem aaw:cD X (binaryOp .FloorDiv) (rI acu λi j=>.int (i / j)):=A2 λi j _ _ _ _ _ hc q=>by
 have h1:=hc.1;have h2:j<1073741824:=hc.2;exact floordiv_int (by omega) (by rw[Int.fdiv_eq_ediv_of_nonneg i (by omega)];exact q) (.inl (PyProof.noPylong_small (by omega)))
theorem N9:cD X (binaryOp .Mod) (rI (λ_ j=>0<j) λi j=>.int (i % j)):=A2 λi j _ _ _ _ _ hc q=>by
 have h1:=hc;exact mod_int' (by omega) (by rw[Int.fmod_eq_emod_of_nonneg i (by omega)];exact q)
theorem WS:cD X (binaryOp .Pow) (rI Ve λi j=>.int (i ^ j.toNat)):=A2 λ_ _ _ _ _ _ _ hc q=>pow_int_small hc.1 hc.2.1 hc.2.2 q
theorem Vb{g:Int->Int}
  (rule:∀(i:Int) (t:Tok) (s:Shared) (Q:Value->Shared->Prop) (E:Value->Shared->Prop),Q (.int (g i) s.toks) { s with toks:=s.toks+1 }->wpAny (model X.prog X.w) X.A (f (.int i t)) Q E s) :
  C0 X f (rU λi=>.int (g i)):=by
 intro af s σ H x v Q I rx h;obtain⟨i,rfl,q⟩:=h;obtain⟨t,rfl⟩:=rx;exact rule i t s _ _ ⟨.int (g i),H,I.tok _,⟨_,rfl⟩,q⟩
theorem X5:C0 X (unaryOp .USub) (rU λi=>.int (-i)):=Vb λ_ _ _ _ _ q=>neg_int q
noncomputable def Ka:V->V->Bool
 |.aB,.aB=>true|.aB,.int _=>true|.int _,.aB=>true|.aB,.bl _=>true|.bl _,.aB=>true|.aB,.str _=>true|.str _,.aB=>true
 |.int _,.int _=>true|.bl _,.bl _=>true|.str _,.str _=>true|.i0 _,.i0 _=>true
 |.int _,.str _=>true|.str _,.int _=>true|.bl _,.str _=>true|.str _,.bl _=>true
 |_,_=>false
def EJ:R2:=λx y H Q=>Ka x y=true/\Q (.bl (decide (x=y))) H
def JT:R2:=λx y H Q=>Ka x y=true/\Q (.bl (!decide (x=y))) H
theorem zY:decide (V.int i=V.int j)=(i==j):=by
 rw[afy];simp
theorem zo:decide (V.bl i=V.bl j)=(i==j):=by
 rw[afy];simp
theorem yc:decide (V.str i=V.str j)=(i==j):=by
 rw[afy];simp
theorem Mj:decide (V.i0 i=V.i0 j)=(i.toList==j.toList):=by
 rw[afy];cases i;cases j;simp
theorem cY(I:Inv X af σ H s)(q:Q (.bl k) H)(e:k=k'):EP X af σ Q (.bool k') s:=by
 subst e;exact⟨.bl k,H,I,rfl,q⟩
theorem Bq:cD X (compareOp .Eq) EJ:=by
 intro af s σ H x y v u Q I rx ry h;obtain⟨hs,q⟩:=h;cases x with
 |aB=>
  cases rx;cases y with
  |aB=>cases ry;exact PySem.EqNone.eq_none_none (cY I q (by simp))
  |bl j=>cases ry;exact PySem.EqNone.eq_none_bool (cY I q (by simp))
  |int j=>obtain⟨t',rfl⟩:=ry;exact PySem.EqNone.eq_none_int (cY I q (by simp))
  |str j=>obtain⟨t',rfl⟩:=ry;exact PySem.EqNone.eq_none_str (cY I q (by simp))
  |_=>exact absurd (show false=true from hs) abR
 |bl i=>
  cases rx;cases y with
  |aB=>cases ry;exact PySem.EqNone.eq_bool_none (cY I q (by simp))
  |bl j=>cases ry;exact eq_bool (cY I q zo)
  |str j=>obtain⟨t',rfl⟩:=ry;exact PySem.EqMixed.eq_bool_str (cY I q (by simp))
  |_=>exact absurd (show false=true from hs) abR
 |int i=>
  obtain⟨t,rfl⟩:=rx;cases y with
  |aB=>cases ry;exact PySem.EqNone.eq_int_none (cY I q (by simp))
  |int j=>obtain⟨t',rfl⟩:=ry;exact eq_int (cY I q zY)
  |str j=>obtain⟨t',rfl⟩:=ry;exact PySem.EqMixed.eq_int_str (cY I q (by simp))
  |_=>exact absurd (show false=true from hs) abR
 |str i=>
  obtain⟨t,rfl⟩:=rx;cases y with
  |aB=>cases ry;exact PySem.EqNone.eq_str_none (cY I q (by simp))
  |bl j=>cases ry;exact PySem.EqMixed.eq_str_bool (cY I q (by simp))
  |int j=>obtain⟨t',rfl⟩:=ry;exact PySem.EqMixed.eq_str_int (cY I q (by simp))
  |str j=>obtain⟨t',rfl⟩:=ry;exact eq_str (cY I q yc)
  |_=>exact absurd (show false=true from hs) abR
 |i0 i=>
  obtain⟨t,rfl⟩:=rx;cases y with
  |i0 j=>obtain⟨t',rfl⟩:=ry;exact PySem.W.eq_bytes (cY I q Mj)
  |_=>exact absurd (show false=true from hs) abR
 |_=>cases y<;>exact absurd (show false=true from hs) abR
theorem NC:cD X (compareOp .NotEq) JT:=by
 intro af s σ H x y v u Q I rx ry h;obtain⟨hs,q⟩:=h;cases x with
 |aB=>
  cases rx;cases y with
  |aB=>cases ry;exact PySem.EqNone.ne_none_none (cY I q (by simp))
  |bl j=>cases ry;exact PySem.EqNone.ne_none_bool (cY I q (by simp))
  |int j=>obtain⟨t',rfl⟩:=ry;exact PySem.EqNone.ne_none_int (cY I q (by simp))
  |str j=>obtain⟨t',rfl⟩:=ry;exact PySem.EqNone.ne_none_str (cY I q (by simp))
  |_=>exact absurd (show false=true from hs) abR
 |bl i=>
  cases rx;cases y with
  |aB=>cases ry;exact PySem.EqNone.ne_bool_none (cY I q (by simp))
  |bl j=>cases ry;exact ne_bool (cY I q (congrArg not zo))
  |str j=>obtain⟨t',rfl⟩:=ry;exact PySem.EqMixed.ne_bool_str (cY I q (by simp))
  |_=>exact absurd (show false=true from hs) abR
 |int i=>
  obtain⟨t,rfl⟩:=rx;cases y with
  |aB=>cases ry;exact PySem.EqNone.ne_int_none (cY I q (by simp))
  |int j=>obtain⟨t',rfl⟩:=ry;exact ne_int (cY I q (congrArg not zY))
  |str j=>obtain⟨t',rfl⟩:=ry;exact PySem.EqMixed.ne_int_str (cY I q (by simp))
  |_=>exact absurd (show false=true from hs) abR
 |str i=>
  obtain⟨t,rfl⟩:=rx;cases y with
  |aB=>cases ry;exact PySem.EqNone.ne_str_none (cY I q (by simp))
  |bl j=>cases ry;exact PySem.EqMixed.ne_str_bool (cY I q (by simp))
  |int j=>obtain⟨t',rfl⟩:=ry;exact PySem.EqMixed.ne_str_int (cY I q (by simp))
  |str j=>obtain⟨t',rfl⟩:=ry;exact ne_str (cY I q (congrArg not yc))
  |_=>exact absurd (show false=true from hs) abR
 |i0 i=>
  obtain⟨t,rfl⟩:=rx;cases y with
  |i0 j=>obtain⟨t',rfl⟩:=ry;exact PySem.W.ne_bytes (cY I q (congrArg not Mj))
  |_=>exact absurd (show false=true from hs) abR
 |_=>cases y<;>exact absurd (show false=true from hs) abR
theorem Lx:cD X (compareOp .Lt) (lM λi j=>.bl (decide (i<j))):=yT λ_ _ _ _ _ _ _ q=>lt_int q
theorem G0:cD X (compareOp .LtE) (lM λi j=>.bl (decide (i<=j))):=yT λ_ _ _ _ _ _ _ q=>le_int q
theorem OO:cD X (compareOp .Gt) (lM λi j=>.bl (decide (j<i))):=yT λ_ _ _ _ _ _ _ q=>gt_int q
theorem XX:cD X (compareOp .GtE) (lM λi j=>.bl (decide (j<=i))):=yT λ_ _ _ _ _ _ _ q=>ge_int q
theorem IG:cD X (compareOp .Is) (λx y H Q=>y=.aB/\Q (.bl (decide (x=.aB))) H):=by
 intro af s σ H x y v u Q I rx ry h;obtain⟨rfl,q⟩:=h;cases ry;refine is_none_gen (cY I q ?_);cases x<;>first
  |(cases rx;rfl)
  |(obtain⟨t,rfl⟩:=rx;rfl)
theorem aa6:cD X (compareOp .IsNot) (λx y H Q=>y=.aB/\Q (.bl (!decide (x=.aB))) H):=by
 intro af s σ H x y v u Q I rx ry h;obtain⟨rfl,q⟩:=h;cases ry;refine isnot_none_gen (cY I q ?_);cases x<;>first
  |(cases rx;rfl)
  |(obtain⟨t,rfl⟩:=rx;rfl)
theorem g8(b:Expr)(h:op≠.In:=by decide)(h2:op≠.NotIn:=by decide):behindInMarks op b=false:=by
 have e1:(op==CmpOp.In)=false:=by cases op<;>first|rfl|exact absurd rfl h
 have e2:(op==CmpOp.NotIn)=false:=by cases op<;>first|rfl|exact absurd rfl h2
 cases b<;>simp[behindInMarks,e1,e2]
theorem Rn{r:R2}(ho:cD X (compareOp op) r)(ha:PE X a ta)(hb:PE X b tb)(hm:behindInMarks op b=false):PE X (.Compare a [op] [b] pos) (o9 r ta tb):=by
 intro af s σ H Q I h;exact wpAny_Compare1 (Fz ha hb I h λv u s2 x y H2 I2 rx ry q=>ho af s2 σ H2 x y v u Q I2 rx ry q) hm
def O4(t:TE):TT:=λσ H Q=>t σ H λx H'=>∃k,x=.bl k/\Q k H'
theorem Fb(ho:cD X (compareOp op) r)(ha:PE X a ta)(hb:PE X b tb)(hm:behindInMarks op b=false):PT X (.Compare a [op] [b] pos) (O4 (o9 r ta tb)):=by
 intro af s σ H Q I h;refine wpAny_isTrue_Compare1 (ha.n I h λv s1 x H1 I1 r1 q1=>hb.n I1 q1 λu s2 y H2 I2 r2 q2=>
  bX (ho af s2 σ H2 x y v u _ I2 r1 r2 q2) λc s3 ⟨z,H3,I3,r3,k,e,q3⟩=>?_) hm
 subst e;cases r3;exact aee ⟨H3,I3,q3⟩
def abA(r r':R2)(ta tb tc:TE):TE:=λσ H Q=>ta σ H λx H1=>tb σ H1 λy H2=>r x y H2 λz H3=>∃k,z=.bl k/\
 (if k=true then tc σ H3 λw' H4=>r' y w' H4 Q else Q (.bl false) H3)
theorem S8(ho:cD X (compareOp op) r)(jt:cD X (compareOp vg) r')(ha:PE X a ta)(hb:PE X b tb)(hc:PE X c tc)
  (hm:lastMarks [op,vg] [b,c]=false:=by with_unfolding_all rfl):PE X (.Compare a [op,vg] [b,c] pos) (abA r r' ta tb tc):=by
 intro af s σ H Q I h;refine Compare_chain (ha.n I h λv s1 x H1 I1 r1 q1=>chain_link (hb.n I1 q1 λu s2 y H2 I2 r2 q2=>
  bX (ho af s2 σ H2 x y v u _ I2 r1 r2 q2) λd s3 ⟨z,H3,I3,r3,k,e,q3⟩=>?_)) hm
 subst e;cases r3;refine aee ?_;cases k with
 |false=>exact ite_ff ⟨.bl false,H3,I3,rfl,q3⟩
 |true=>exact ite_tt (chain_last (hc.n I3 q3 λw' s4 z' H4 I4 r4 q4=>jt af s4 σ H4 y z' u w' Q I4 r2 r4 q4))
def Nf(K:PySem.W.Frag)(x:V)(H:Hp)(k:Bool):Prop:=
 match x with
 |.aB=>k=false
 |.bl b=>k=b
 |.int i=>k=(i != 0)
 |.str y=>y.length<=sizeLine/\k=((y.length:Int) != 0)
 |.i0 y=>y.size<=sizeLine/\k=((y.size:Int) != 0)
 |.ref p=>(∃xs,bK K H p xs/\k=!xs.isEmpty)\/(∃xs,bN K H p xs/\k=!xs.isEmpty)\/∃ah,H p=some (.dK ah)/\k=!ah.isEmpty
 |_=>False
theorem Q5(r:KV ah vs):(!vs.isEmpty)=!ah.isEmpty:=by
 cases r<;>rfl
theorem N1(r:aN xs ao):(!ao.toArray.isEmpty)=!xs.isEmpty:=by
 cases r<;>simp
theorem vS:(sizeLine:Nat)<2 ^ 63:=by rw[aeJ];decide
theorem abB:Xs X (λx H Q=>∃k,Nf X.K x H k/\Q k H):=by
 intro af s σ H x v Q I rx h;obtain⟨k,e,q⟩:=h;have hl:=vS;have hs:=aeJ;cases x with
 |aB=>
  cases rx;have e':=e;subst e';exact truthy_none ⟨H,I,q⟩
 |bl b=>
  cases rx;have e':=e;subst e';exact aee ⟨H,I,q⟩
 |int i=>
  obtain⟨t,rfl⟩:=rx;have e':=e;subst e';exact PySem.P.truthy_int ⟨H,I,q⟩
 |str y=>
  obtain⟨t,rfl⟩:=rx;obtain⟨hy,e'⟩:y.length<=sizeLine/\k=((y.length:Int) != 0):=e;subst e';exact PySem.P.truthy_str (by omega) ⟨H,I.tok _,q⟩
 |i0 y=>
  obtain⟨t,rfl⟩:=rx;obtain⟨hy,e'⟩:y.size<=sizeLine/\k=((y.size:Int) != 0):=e;subst e';exact PySem.W.truthy_bytes (by omega) ⟨H,I.tok _,q⟩
 |ref p=>
  cases rx;have e':=e;rcases e' with⟨xs,hx,e'⟩|⟨xs,hx,e'⟩|⟨ah,hx,e'⟩
  .subst e';obtain⟨ao,r,pl,hz⟩:=I.list hx;have hlen:=r.length;exact wpAny_truthy_list pl.isList (by simp only[adn];omega) ⟨H,I.tok _,by rw[N1 r];exact q⟩
  .subst e';obtain⟨ao,r,pl,hz⟩:=I.tuple hx;have hlen:=r.length;exact truthy_tuple pl (by simp only[adn];omega) ⟨H,I.tok _,by rw[N1 r];exact q⟩
  .subst e';obtain⟨hz,hS,vs,r,m⟩:ah.length<=sizeLine/\(p==sysModules)=false/\∃vs,KV ah vs/\s.heap.DictOf (eZ X.prog X.w) p vs:=I.aD p _ hx;have hlen:=Paired.length r;exact wpAny_truthy_dict hS m (by omega) ⟨H,I.tok _,by rw[Q5 r];exact q⟩
 |_=>exact(show False from e).elim
theorem Ti(ha:PE X a ta)(he:∀whole,isTrue a X.env whole=(do let v <- whole;standAt a.pos;holding [v] (truthy v))):
  PT X a (λσ H Q=>ta σ H λx H'=>∃k,Nf X.K x H' k/\Q k H'):=by
 intro af s σ H Q I h;exact isTrue_plain (ha.n I h λv s1 x H1 I1 r1 q1=>abB af s1 σ H1 x v Q I1 r1 q1) (he _)
theorem vals1(r:aN [x] us):∃u,us=[u]/\RelV x u:=by
 cases r with
 |cons r1 r2=>cases r2;exact⟨_,rfl,r1⟩
theorem vals2(r:aN [x,y] us):∃u w',us=[u,w']/\RelV x u/\RelV y w':=by
 cases r with
 |cons r1 r2=>
  cases r2 with
  |cons r3 r4=>cases r4;exact⟨_,_,rfl,r1,r3⟩
theorem Z1(hc:X.calm=true):fN X (.builtin "min") (λxs H Q=>∃i j,xs=[.int i,.int j]/\Q (.int (if j<i then j else i)) H):=by
 intro af s σ H xs us Q I r h;obtain⟨i,j,rfl,q⟩:=h;obtain⟨u,w',rfl,⟨t,rfl⟩,⟨t',rfl⟩⟩:=vals2 r;refine min_two_ints (I.ok.hd hc) λh' tk k=>⟨_,H,I.kept k,?_,q⟩
 by_cases hj:j<i
 .rw[if_pos hj,if_pos hj];exact⟨_,rfl⟩
 .rw[acZ hj,acZ hj];exact⟨_,rfl⟩
structure qy(h:Heap)(x dx C:Addr)(mA:Str->Option Value):Prop where
 obj:h.get? x=some (PySem.W.instObj C dx)
 ns:h.Ns1 dx mA
 ne:dx≠x
theorem ab4{h:Heap}(n:h.Ns1 dx mA):∃od,h.get? dx=some od/\∀name,PySem.W.lookIn name od=some (mA name):=by
 obtain⟨o,es,ep,ho,hd,hk,_,hm⟩:=n;refine⟨o,ho,λname=>?_⟩;have e:=hm name;unfold nsFind findBy at e;rw[<- Array.find?_toList] at e;unfold PySem.W.lookIn;rw[hd];dsimp only
 split
 .rename_i y q;rw[q] at e;exact congrArg some e
 .rename_i q;rw[q] at e;have a:es.toList.any (·.refKey)=false:=by
   rw[List.any_eq_false];intro y hy;obtain⟨z,t,uw⟩:=hk y (Array.mem_toList_iff.mp hy);simp[DictEntry.refKey,uw]
  have a':¬es.toList.any (·.refKey)=true:=by rw[a];exact abR
  rw[acZ a'];exact congrArg some e
theorem qy.look(I:qy h x dx C mA):∃od,PySem.W.InstAt h x (PySem.W.instObj C dx) C (some od)/\∀name,PySem.W.lookIn name od=some (mA name):=
 let⟨od,ho,hl⟩:=ab4 I.ns
 ⟨od,⟨I.obj,rfl,rfl,ho⟩,hl⟩
section
variable{K:PySem.W.Frag}
theorem get_map(X:K.In s.heap)(I:qy s.heap x dx C mA)(hg:PySem.W.plainGet K C name=true)(hh:PySem.W.hasDictIn K C=true)
  (ha:PySem.W.findIn K (.ref C) name=some none) (hv:mA name=some v) (ic:PySem.W.handedIn v=true) (h:Q v { s with toks:=s.toks+1 }) :
  wpAny (model prog w) A (getAttr (.ref x) name expr) Q E s:=by
 obtain⟨od,J,hl⟩:=I.look;exact PySem.W.get_value X J (PySem.W.plainGet_of hg).1 (PySem.W.findObj_own hh ha rfl (by rw[hl,hv])) ic h
theorem UM(X:K.In s.heap)(I:qy s.heap x dx C mA)(hg:PySem.W.plainGet K C name=true)
  (hf:PySem.W.findIn K (.ref C) name=some (some (.ref f))) (ht:PySem.W.isFn K (.ref f)=true) (hv:mA name=none) (h:Q (.ref f,[.ref x]) s) :
  wpAny (model prog w) A (getMethod (.ref x) name pl) Q E s:=by
 obtain⟨od,J,hl⟩:=I.look;exact PySem.W.method_fn X J (PySem.W.plainGet_of hg).1 (PySem.W.plainGet_of hg).2 hf (afh.mp ht) (by show(PySem.W.lookIn name od).map (·.isSome)=some false;rw[hl,hv];rfl) h
theorem ac5(X:K.In s.heap)(I:qy s.heap x dx C mA)
  (hs:PySem.W.findIn K (.ref C) "__setattr__"=some (some (.builtin "object.__setattr__"))) (hp:PySem.W.plainOver K C=true) (ht:PySem.W.takerIn K C name=some none) (hh:PySem.W.hasDictIn K C=true)
  (hw:PySem.Within mA ns) (hsz:ns.length<=sizeLine)
  (h:∀h',qy h' x dx C (λy=>if y=name then some v else mA y)->Heap.SameBut dx s.heap h'->Q () { s with heap:=h',toks:=s.toks+2 }) :
  wpAny (model prog w) A (setAttr (.ref x) name v) Q E s:=by
 obtain⟨od,J,hl⟩:=I.look;refine PySem.W.set_plain X J hs (PySem.W.osa_open (r:=none) X J hp ht λb=>?_);obtain⟨cd,hc,sU⟩:=PySem.W.any_some hh;have hx:=I.obj;refine aae (adg (aae (aae (wpAny_loadPart hx (aae (PySem.W.Looks.here (PySem.W.looks_clsIn X hc) ?_))))));rw[sU];refine adg (aae (adg (aae ?_)));refine wpAny_nsSet1 I.ns λh' qf cg=>?_
 obtain⟨oD,esD,epD,Eh,Zf,Zb⟩:=qf.count (PySem.Within.cons name v hw);refine aae (wpAny_lookBehind Eh (by rw[Zf];exact pastItsLine_dict (ad5 Zb (by rw[adu];omega))) ?_);exact adg (h _ ⟨(cg.2 _ (aez I.ne)).trans I.obj,qf,I.ne⟩ cg)
theorem aaO(X:K.In s.heap)(hm:PySem.W.makesIn K C=true)
  (hi:PySem.W.findIn K (.ref C) "__init__"=some (some (.ref f))) (hf:PySem.W.typeIn K (.ref f)=some (.type "function"))
  (h:codeAny (model prog w) (A.under (.builtin "type.__call__" ⟨.ref C::vs,kw⟩)) (.call (.ref f) ⟨.ref (s.heap.objs.size + 1)::vs,kw⟩) (PySem.W.InitBack (s.heap.objs.size + 1) R)
   { s with heap:=(s.heap.push PySem.W.emptyDict).push (PySem.W.instObj C s.heap.objs.size) }) :
  codeAny (model prog w) A (.call (.ref C) ⟨vs,kw⟩) R s:=by
 obtain⟨hh,g,d,t,os⟩:=s;exact PySem.W.make_core (PySem.W.makes_of X hm) (PySem.W.looks_findIn X hi) (λself=>PySem.W.bind_fn X self hf) (.inl rfl) h
end
noncomputable def dZ(f:Str)(v:V):List (Str×V)->List (Str×V)
 |[]=>[(f,v)]
 |(g,x)::r=>if g=f then(g,v)::r else(g,x)::dZ f v r
theorem HB(f g:Str)(v:V):∀fs:List (Str×V),(dZ f v fs).lookup g=if g=f then some v else fs.lookup g
 |[]=>by
  show List.lookup g [(f,v)]=_
  by_cases h:g=f
  .have hb:=afh.mpr h;simp only[List.lookup,hb,if_pos h]
  .have hb:=adR.mpr h;simp only[List.lookup,hb,acZ h]
 |(k,x)::r=>by
  have ih:=HB f g v r;rw[show dZ f v ((k,x)::r)=(if k=f then(k,v)::r else(k,x)::dZ f v r) from rfl]
  by_cases hk:k=f
  .rw[if_pos hk]
   by_cases h:g=k
   .have hb:=afh.mpr h;simp only[List.lookup,hb,if_pos (h.trans hk)]
   .have hb:=adR.mpr h;simp only[List.lookup,hb,acZ (λe:g=f=>h (e.trans hk.symm))]
  .rw[acZ hk]
   by_cases h:g=k
   .have hb:=afh.mpr h;simp only[List.lookup,hb,acZ (λe:g=f=>hk (h.symm.trans e))]
   .have hb:=adR.mpr h;simp only[List.lookup,hb];exact ih
theorem Er(f:Str)(v:V):∀fs:List (Str×V),f∈(dZ f v fs).map (·.1)/\∀g,g∈fs.map (·.1)->g∈(dZ f v fs).map (·.1)
 |[]=>⟨by simp[dZ],λg h=>by simp at h⟩
 |(k,x)::r=>by
  obtain⟨i1,i2⟩:=Er f v r;rw[show dZ f v ((k,x)::r)=(if k=f then(k,v)::r else(k,x)::dZ f v r) from rfl]
  by_cases hk:k=f
  .rw[if_pos hk];subst hk;exact⟨by simp,λg h=>by simpa using h⟩
  .rw[acZ hk];refine⟨?_,λg h=>?_⟩
   .rw[aax];exact aad _ i1
   .rw[aax] at h ⊢;rcases abG.mp h with e|e
    .exact abG.mpr (.inl e)
    .exact aad _ (i2 g e)
theorem Ln(f:Str)(v:V):∀fs:List (Str×V),(dZ f v fs).length<=fs.length+1
 |[]=>by simp[dZ]
 |(k,x)::r=>by
  have ih:=Ln f v r;rw[show dZ f v ((k,x)::r)=(if k=f then(k,v)::r else(k,x)::dZ f v r) from rfl]
  by_cases hk:k=f
  .rw[if_pos hk,adu,adu];omega
  .rw[acZ hk,adu,adu];omega
theorem gj.some_of(r:gj (some v) o):∃u,o=some u/\RelV v u:=by
 cases o with
 |none=>exact(show False from r).elim
 |some u=>exact⟨u,rfl,r⟩
theorem gj.none_of(r:gj none o):o=none:=by
 cases o with
 |none=>rfl
 |some u=>exact(show False from r).elim
theorem XI(r:RelV v u):PySem.W.handedIn u=true:=by
 cases v with
 |aB=>cases(show u=Value.none from r);rfl
 |bl b=>cases(show u=Value.bool b from r);rfl
 |int i=>obtain⟨t,e⟩:=(show ∃t,u=Value.int i t from r);cases e;rfl
 |str x=>obtain⟨t,e⟩:=(show ∃t,u=Value.str x t from r);cases e;rfl
 |i0 b=>obtain⟨t,e⟩:=(show ∃t,u=Value.bytes b t from r);cases e;rfl
 |qI b=>obtain⟨t,e⟩:=(show ∃t,u=Value.float b t from r);cases e;rfl
 |ref a=>cases(show u=Value.ref a from r);rfl
 |ty n=>cases(show u=Value.type n from r);rfl
theorem zD(aD:dD P w H h)(e:H a=some (.ins C dx fs)):∃mA,qy h a dx C mA/\(∀f,gj (fs.lookup f) (mA f))/\PySem.Within mA (fs.map (·.1))/\fs.length<=1000/\H dx=some (.own a):=by
 obtain⟨d,z,ne,ob,mA,n,r,q⟩:=(show cP P w H h a (.ins C dx fs) from aD a _ e)
 exact⟨mA,⟨ob,n,ne⟩,r,q,z,d⟩
structure jY(K:PySem.W.Frag)(C:Addr):Prop where
 pg:PySem.W.plainGet K C Str.empty=true
 hd:PySem.W.hasDictIn K C=true
 po:PySem.W.plainOver K C=true
 sa:PySem.W.findIn K (.ref C) "__setattr__"=some (some (.builtin "object.__setattr__"))
theorem jY.get{K:PySem.W.Frag}(c:jY K C)(f:Str):PySem.W.plainGet K C f=true:=c.pg
def iS(K:PySem.W.Frag)(C:Addr)(f:Str):Prop:=PySem.W.findIn K (.ref C) f=some none
theorem iS.UP{K:PySem.W.Frag}(n:iS K C f):PySem.W.takerIn K C f=some none:=by
 unfold PySem.W.takerIn;rw[show PySem.W.findIn K (.ref C) f=some none from n];rfl
structure ly(K:PySem.W.Frag)(C:Addr)(m:Str)(f:Addr):Prop where
 at_:PySem.W.findIn K (.ref C) m=some (some (.ref f))
 fn:PySem.W.isFn K (.ref f)=true
 kp:PySem.W.keepIn K (.ref f)=true
theorem Ow(I:Inv X af σ H s)(e:H a=some (.ins C dx fs))(c:jY X.K C)(n:iS X.K C f)(l:fs.lookup f=some v)
  (h:∀u s',Inv X af σ H s'->RelV v u->Q u s'):wpAny (model X.prog X.w) A (getAttr (.ref a) f b) Q E s:=by
 obtain⟨mA,O,r,_,_,_⟩:=zD I.aD e;obtain⟨u,hu,ru⟩:=gj.some_of (by rw[<- l];exact r f);exact get_map I.dz O (c.get f) c.hd n hu (XI ru) (h u _ (I.tok _) ru)
theorem Mu(I:Inv X af σ H s)(e:H a=some (.ins C dx fs))(c:jY X.K C)(k:ly X.K C m g)(l:fs.lookup m=none)
  (h:Q (.ref g,[.ref a]) s):wpAny (model X.prog X.w) A (getMethod (.ref a) m pl) Q E s:=by
 obtain⟨mA,O,r,_,_,_⟩:=zD I.aD e;have hn:=gj.none_of (by rw[<- l];exact r m);exact UM I.dz O (c.get m) k.at_ k.fn hn h
theorem MS(I:Inv X af σ H s)(e:H a=some (.ins C dx fs))(c:jY X.K C)(n:iS X.K C f)(hl:fs.length<1000)(ry:RelV y u)
  (h:∀s',Inv X af σ (upd H a (.ins C dx (dZ f y fs))) s'->Q () s'):wpAny (model X.prog X.w) A (setAttr (.ref a) f u) Q E s:=by
 obtain⟨mA,O,r,wi,_,ho⟩:=zD I.aD e;have hz:(fs.map (·.1)).length<=sizeLine:=by rw[List.length_map,aeJ];omega
 refine ac5 I.dz O c.sa c.po n.UP c.hd wi hz λh' O' sb=>h _ ?_
 have hd:∃o,h'.get? dx=some o:=let⟨o,_,_,e',_⟩:=O'.ns;⟨o,e'⟩
 refine I.write (by rw[e];exact True.intro) (.inr ho) (λb q hb z=>(sb.2 b hb).trans z) hd ?_;refine⟨by rw[aG O.ne];exact ho,?_,O.ne,O'.obj,_,O'.ns,λg=>?_,λg hg=>?_⟩
 .have:=Ln f y fs;omega
 .show gj ((dZ f y fs).lookup g) (if g=f then some u else mA g);rw[HB]
  by_cases q:g=f
  .rw[if_pos q,if_pos q];exact ry
  .rw[acZ q,acZ q];exact r g
 .by_cases q:g=f
  .rw[q];exact(Er f y fs).1
  .refine(Er f y fs).2 g (wi g λz=>hg ?_);show(if g=f then some u else mA g)=none;rw[acZ q];exact z
theorem Inv.made(I:Inv X af σ H s):Inv X af σ (upd (upd H s.heap.objs.size (.own (s.heap.objs.size+1))) (s.heap.objs.size+1) (.ins C s.heap.objs.size []))
  { s with heap:=(s.heap.push PySem.W.emptyDict).push (PySem.W.instObj C s.heap.objs.size) }:=by
 have e1:(s.heap.push PySem.W.emptyDict).get? s.heap.objs.size=some PySem.W.emptyDict:=ac9 s.heap rfl;have e2:((s.heap.push PySem.W.emptyDict).push (PySem.W.instObj C s.heap.objs.size)).get? (s.heap.objs.size+1)=some (PySem.W.instObj C s.heap.objs.size):=by
  have:=ac9 (s.heap.push PySem.W.emptyDict) (o:=PySem.W.instObj C s.heap.objs.size) rfl
  rwa [ae9] at this
 have e3:(s.heap.push PySem.W.emptyDict).Ns s.heap.objs.size (λ_=>none):=⟨PySem.W.emptyDict,#[],_,e1,rfl,(λe he=>absurd he (by simp)),λ_=>rfl⟩
 have I1:=I.laid (o:=.own (s.heap.objs.size+1)) (t':=s.toks) (λb u q=>aaf _ q) (acy _) ⟨_,e1⟩;refine I1.laid (λb u q=>aaf _ q) (Nat.le_of_eq (ae9 _ _)) ?_;have ne:s.heap.objs.size≠s.heap.objs.size+1:=ady (ae7 _);refine⟨by rw[aG ne,bg],adZ _,ne,e2,λ_=>none,(Heap.Ns1.of_empty e3).at λo q=>aaf _ q,λ_=>True.intro,λy hy=>absurd rfl hy⟩
theorem Z3(hb:attributeBase e f env (eval e env)=eval e env)
  (h:wpAny (model prog w) A (eval e env) (λo bq=>wpAny (model prog w) A (getAttr o f true) Q E bq) E s):wpAny (model prog w) A (eval (.Attribute e f pos) env) Q E s:=
 Attribute_any_ h (by rw[arm_eval_Attribute,hb])
def acL(K:PySem.W.Frag)(ta:TE)(f:Str):TE:=λσ H Q=>ta σ H λx H1=>∃a C dx fs v,x=.ref a/\H1 a=some (.ins C dx fs)/\jY K C/\iS K C f/\fs.lookup f=some v/\Q v H1
def aa9(K:PySem.W.Frag)(ta tv:TE)(f:Str):TS:=λD σ H=>tv σ H λy H1=>ta σ H1 λx H2=>∃a C dx fs,x=.ref a/\H2 a=some (.ins C dx fs)/\jY K C/\iS K C f/\fs.length<1000/\
 D.nx σ (upd H2 a (.ins C dx (dZ f y fs)))
def HY(X:Cx)(op:Operator)(rd:V->V->Hp->VK->Prop):Prop:=
 ∀(af) (s) (σ) (H) (x y) (u v) (Q),Inv X af σ H s->RelV x u->RelV y v->rd x y H Q->wpAny (model X.prog X.w) X.A (inplaceOp op u v) (EP X af σ Q) X.xe s
def WE(K:PySem.W.Frag)(ta tv:TE)(rd:V->V->Hp->VK->Prop)(f:Str):TS:=λD σ H=>ta σ H λx H1=>∃a C dx fs v,x=.ref a/\H1 a=some (.ins C dx fs)/\jY K C/\iS K C f/\fs.lookup f=some v/\
 tv σ H1 λy H2=>rd v y H2 λz H3=>∃vM rY,H3 a=some (.ins C vM rY)/\rY.length<1000/\D.nx σ (upd H3 a (.ins C vM (dZ f z rY)))
theorem sR(he:PE X e ta)(hb:attributeBase e f X.env (eval e X.env)=eval e X.env):PE X (.Attribute e f pos) (acL X.K ta f):=by
 intro af s σ H Q I h;refine Z3 hb (he.n I h λu s1 x H1 I1 rx q=>?_);obtain⟨a,C,dx,fs,v,ex,ea,c,n,l,q⟩:=q;subst ex;obtain rfl:u=Value.ref a:=rx;exact Ow I1 ea c n l λu' s2 I2 ru=>⟨v,H1,I2,ru,q⟩
theorem QZ(ha:PE X o ta)(hv:PE X value tv)(hs:swapsWith value (some (.Attribute o f pos')) pos.line X.env=pure false):PS X (.Assign [.Attribute o f pos'] value pos) (aa9 X.K ta tv f):=by
 intro af s σ H D I h;refine plainObj_wpAny_Assign_Attribute (hv.n I h λu s1 y H1 I1 ry q=>ha.n I1 q λov s2 x H2 I2 rx q=>?_) hs;obtain⟨a,C,dx,fs,ex,ea,c,n,l,q2⟩:=q;subst ex;obtain rfl:ov=Value.ref a:=rx;exact MS I2 ea c n l ry λs3 I3=>⟨σ,_,I3,q2⟩
theorem YK(ha:PE X o ta)(hv:PE X value tv)(ZS:HY X op rd):PS X (.AugAssign (.Attribute o f adx) op value pos) (WE X.K ta tv rd f):=by
 intro af s σ H D I h;refine wpAny_AugAssign_AttributeAny (ha.n I h λov s1 x H1 I1 rx q=>?_);obtain⟨a,C,dx,fs,v,ex,ea,c,n,l,q⟩:=q;subst ex;obtain rfl:ov=Value.ref a:=rx;refine Ow I1 ea c n l λu s2 I2 ru=>hv.n I2 q λw3 s3 y H2 I3 ry q3=>DB (ZS af s3 σ H2 v y u w3 _ I3 ru ry q3) λw4 s4 z H3 I4 rz q=>?_
 obtain⟨vM,rY,XJ,l',q4⟩:=q;exact MS I4 XJ c n l' rz λs5 I5=>⟨σ,_,I5,q4⟩
def VH:V->V->Hp->VK->Prop:=λx y H Q=>∃i j,x=.int i/\y=.int j/\Q (.int (i+j)) H
theorem Vx:HY X .Add VH:=by
 rintro af s σ H x y u v Q I rx ry ⟨i,j,rfl,rfl,q⟩
 obtain⟨t,rfl⟩:=(show ∃t,u=Value.int i t from rx)
 obtain⟨t',rfl⟩:=(show ∃t',v=Value.int j t' from ry)
 exact PyProof.Rows.iadd_int ⟨.int (i+j),H,I.tok _,⟨_,rfl⟩,q⟩
inductive iV(K:PySem.W.Frag)(H:Hp):V->Value->Prop where
 |aB:iV K H .aB (.type "NoneType")
 |bl (x:Bool):iV K H (.bl x) (.type "bool")
 |int (i:Int):iV K H (.int i) (.type "int")
 |str (x:Str):iV K H (.str x) (.type "str")
 |qI (x:UInt64):iV K H (.qI x) (.type "float")
 |lst {a:Addr}{xs:List V} (e:H a=some (.lst xs)):iV K H (.ref a) (.type "list")
 |bT {a:Addr}{o:Obj}{xs:List V} (e:H a=some (.bT o (.lst xs))):iV K H (.ref a) (.type "list")
 |tup {a:Addr}{xs:List V} (e:H a=some (.tup xs)):iV K H (.ref a) (.type "tuple")
 |dK {a:Addr}{ah:List (Key×V)} (e:H a=some (.dK ah)):iV K H (.ref a) (.type "dict")
 |dT {a:Addr}{ah:List (List Key×V)} (e:H a=some (.dT ah)):iV K H (.ref a) (.type "dict")
 |ins {a C dx:Addr}{fs:List (Str×V)} (e:H a=some (.ins C dx fs)) (cl:jY K C) (ha:PySem.W.findIn K (.ref C) "__class__"=some (some (.builtin "object.__class__")))
   (hn:PySem.W.specialIn K (.builtin "object.__class__") "__get__"=some (some (.builtin "getset_descriptor.__get__"))) (Ip:PySem.W.takesIn K (.builtin "object.__class__")=some true)
   (hm:PySem.W.mroIn K C (.type "object")=some true):iV K H (.ref a) (.ref C)
theorem WX(I:Inv X af σ H s)(rx:RelV x u)(ty:iV X.K H x t)(e:PySem.W.kitOne X.K t c=some b)(h:∀tk,Q (.bool b) { s with toks:=tk }):
  wpAny (model X.prog X.w) A (call (.builtin "isinstance") [u,c]) Q E s:=by
 cases ty with
 |aB=>cases(show u=Value.none from rx);exact PySem.W.kia_one PySem.W.kitx_none I.dz True.intro e (λz=>nomatch z) h
 |bl y=>cases(show u=Value.bool y from rx);exact PySem.W.kia_one PySem.W.kitx_bool I.dz True.intro e (λz=>nomatch z) h
 |int i=>obtain⟨t,q⟩:=(show ∃t,u=Value.int i t from rx);cases q;exact PySem.W.kia_one PySem.W.kitx_int I.dz True.intro e (λz=>nomatch z) h
 |str y=>obtain⟨t,q⟩:=(show ∃t,u=Value.str y t from rx);cases q;exact PySem.W.kia_one PySem.W.kitx_str I.dz True.intro e (λz=>nomatch z) h
 |qI y=>obtain⟨t,q⟩:=(show ∃t,u=Value.float y t from rx);cases q;exact PySem.W.kia_one PySem.W.kitx_float I.dz True.intro e (λz=>nomatch z) h
 | @lst a xs ea=>
  cases(show u=Value.ref a from rx);obtain⟨_,_,n,_,h1⟩:=(show cP X.prog X.w H s.heap a (.lst xs) from I.aD a _ ea)
  exact PySem.W.kia_one PySem.W.kitx_list I.dz ⟨_,h1,rfl⟩ e (λz=>nomatch z) h
 | @bT a ob xs ea=>
  cases(show u=Value.ref a from rx);obtain⟨_,_,_,n,_,h1⟩:=(show cP X.prog X.w H s.heap a (.bT ob (.lst xs)) from I.aD a _ ea)
  exact PySem.W.kia_one PySem.W.kitx_list I.dz ⟨_,h1,rfl⟩ e (λz=>nomatch z) h
 | @tup a xs ea=>
  cases(show u=Value.ref a from rx);obtain⟨_,_,_,p⟩:=(show cP X.prog X.w H s.heap a (.tup xs) from I.aD a _ ea)
  obtain⟨o,h1,h2,_⟩:=p;exact PySem.W.kia_one PySem.W.kitx_tuple I.dz ⟨o,h1,h2⟩ e (λz=>nomatch z) h
 | @dK a ah ea=>
  cases(show u=Value.ref a from rx);obtain⟨_,_,vs,_,p⟩:=(show cP X.prog X.w H s.heap a (.dK ah) from I.aD a _ ea)
  obtain⟨o,es,ep,h1,h2,_⟩:=p;exact PySem.W.kia_one PySem.W.kitx_dict I.dz ⟨o,h1,h2.1⟩ e (λz=>nomatch z) h
 | @dT a ah ea=>
  cases(show u=Value.ref a from rx);obtain⟨_,_,xs,_,o,es,ep,h1,h2,_⟩:=(show cP X.prog X.w H s.heap a (.dT ah) from I.aD a _ ea)
  exact PySem.W.kia_one PySem.W.kitx_dict I.dz ⟨o,h1,h2.1⟩ e (λz=>nomatch z) h
 | @ins a C dx fs ea cl ha hn Ip hm=>
  cases(show u=Value.ref a from rx);obtain⟨mA,O,_⟩:=zD I.aD ea;obtain⟨od,J,_⟩:=O.look;exact PySem.W.kia_one (PySem.W.kitx_own (cl.get _) cl.hd ha hn Ip hm) I.dz J e (λz=>nomatch z) h
structure bh(k:Nat)(A:Around)(cm:Bool:=true):Prop where
 hd:cm=true->A.handled=none
 dp:A.depth+3*k+5<recursionLimit
 un:A.units+16*k+200<cLine
 gd:A.guards=some []
theorem bh.mono(r:bh k A cm)(h:j<=k):bh j A cm:=⟨r.hd,by have:=r.dp;omega,by have:=r.un;omega,r.gd⟩
theorem bh.deeper(r:bh (k+1) A cm)(env:Env):bh k (A.deeper env) cm:=
 ⟨r.hd,by have:=r.dp;show A.depth+1+3*k+5<_;omega,by have:=r.un;show A.units+3+16*k+200<_;omega,r.gd⟩
theorem bh.in1(r:bh (k+1) A cm):bh k A.in1 cm:=
 ⟨r.hd,by have:=r.dp;show A.depth+3*k+5<_;omega,by have:=r.un;show A.units+1+16*k+200<_;omega,r.gd⟩
theorem Vk{A:Around}:(A.under (.builtin "type.__call__" ⟨.ref C::us,kw⟩)).depth=A.depth+1:=by
 first|rfl|simp[Around.under,Code.weight,Code.isCreation,Code.isGuard,Code.isCaller,Code.frames,Code.isFrame,guardIds]
theorem Zc{A:Around}:(A.under (.builtin "type.__call__" ⟨.ref C::us,kw⟩)).units=A.units+1:=by
 first|rfl|simp[Around.under,Code.cUnits,Code.frames,Code.isFrame]
theorem bh.make(r:bh (k+1) A cm)(C:Addr)(us:List Value)(kw:List (Str×Value)):bh k (A.under (.builtin "type.__call__" ⟨.ref C::us,kw⟩)) cm:=
 ⟨r.hd,by have:=r.dp;rw[Vk];omega,by have:=r.un;rw[Zc];omega,by first|exact r.gd|(simp[Around.under,Code.guards,Code.isGuard,guardIds,pushGuards];exact r.gd)⟩
theorem bh.depth(r:bh k A cm):A.depth<recursionLimit:=by have:=r.dp;omega
theorem bh.units(r:bh k A cm):A.units+64<cLine:=by have:=r.un;omega
def x9:TA:=λ_ H Q=>Q [] H
def L7(ta:TE)(tr:TA):TA:=λσ H Q=>ta σ H λx H1=>tr σ H1 λxs H2=>Q (x::xs) H2
theorem fC:PA X [] x9:=λ_ _ _ _ H Q I h=>afi ⟨[],H,I,.nil,h⟩
theorem dU(ha:PE X e te)(hr:PA X es t)(hs:starEach (e::es) X.env=(false,eval e X.env)::starEach es X.env:=by rfl):PA X (e::es) (L7 te t):=by
 intro pos af s σ H Q I h;rw[hs];show wpAny _ _ (spliced ((false,eval e X.env)::backTo pos (starEach es X.env))) _ _ s;refine aeX (ha.n I h λu s1 x H1 I1 r1 q1=>?_);exact hr.n I1 q1 λus s2 xs H2 I2 r2 q2=>⟨x::xs,H2,I2,.cons r1 r2,q2⟩
def V5(t:TA):TE:=λσ H Q=>t σ H λxs H1=>xs.length<=sizeLine/\∀p,H1 p=none->Q (.ref p) (upd H1 p (.tup xs))
def rj(t:TA):TE:=λσ H Q=>t σ H λxs H1=>xs.length<=sizeLine/\∀p,H1 p=none->Q (.ref p) (upd H1 p (.lst xs))
theorem Sk{x1}(h:PA X es t):PE X (.Tuple es x1 pos) (V5 t):=by
 intro af s σ H Q I hq;refine wpAny_Tuple_spliced (bX (h pos af s σ H _ I hq) ?_)
 rintro us s1 ⟨xs,H1,I1,r,z,q⟩
 refine⟨by rw[<- r.length];exact z,?_⟩;have hf:=I1.aD.fresh (acy _);refine⟨.ref s1.heap.objs.size,upd H1 s1.heap.objs.size (.tup xs),I1.laid (t':=s1.toks) (λb u e=>aaf _ e) (acy _) ?_,rfl,q _ hf⟩;exact⟨z,us,r,⟨_,ac9 _ rfl,rfl,rfl,_,rfl⟩⟩
theorem X6(h:PA X es t):PE X (.List es pos) (rj t):=by
 intro af s σ H Q I hq;refine wpAny_List_spliced (bX (h pos af s σ H _ I hq) ?_)
 rintro us s1 ⟨xs,H1,I1,r,z,q⟩
 refine⟨by rw[<- r.length];exact z,?_⟩;have hf:=I1.aD.fresh (acy _);refine⟨.ref s1.heap.objs.size,upd H1 s1.heap.objs.size (.lst xs),I1.laid (t':=s1.toks) (λb u e=>aaf _ e) (acy _) ?_,rfl,q _ hf⟩;exact⟨z,us,0,r,ac9 _ rfl⟩
abbrev Sp:=List V->Hp->VK->XK->Prop
abbrev qO:=List Env->Hp->Shared->XK->Value->Shared->Prop
structure qA(P:Program)(w:World)(K:PySem.W.Frag)(mg:Str->Option Value)(base:Heap)(A:Around)(outer:List Env)(s:Shared)(H:Hp):Prop where
 frames:A.frames=some outer
 mod:Mod K mg base
 bs:∀b o,base.get? b=some o->s.heap.get? b=some o/\H b=none
 jv:base.objs.size<=s.heap.objs.size
 jG:s.heap.FunFrames base outer
 pK:∀b∈dJ outer,H b=none
 aD:dD P w H s.heap
 bare:AllBare s.gens
 hq:Hq K A H
def CE(outer:List Env)(P:Program)(w:World)(H:Hp)(s:Shared)(Q:VK)(u:Value)(s':Shared):Prop:=
 ∃v H',s'.os=s.os/\AllBare s'.gens/\Un (dJ outer) [] H H' s.heap s'.heap/\dD P w H' s'.heap/\RelV v u/\Q v H'
def CR(CX:qO)(outer:List Env)(P:Program)(w:World)(H:Hp)(s:Shared)(Q:VK)(E:XK)(r:Result)(s':Shared):Prop:=
 match r with
 |.ok (.ret u)=>CE outer P w H s Q u s'
 |.ok _=>False
 |.error e=>CX outer H s E e s'
structure bP(P:Program)(w:World)(K:PySem.W.Frag)(mg:Str->Option Value)(base:Heap)(CX:qO)(k:Nat)(f:Addr)(fd:FuncData)(ps:List Str)(sp:Sp)(cm:Bool:=true):Prop where
 len:∀vs H Q E,sp vs H Q E->vs.length=ps.length
 run:∀(A) (outer) (s) (H) (args) (us) (vs) (Q) (E),bh k A cm->qA P w K mg base A outer s H->BindsTo s fd args (ps.zip us)->aN vs us->sp vs H Q E->
  codeAny (model P w) A (.call (.ref f) args) (CR CX outer P w H s Q E) s
theorem bP.imp{K:PySem.W.Frag}(F:bP P w K mg base CX k f fd ps sp cm)
  (h:∀vs H Q E,VU vs H Q E->sp vs H Q E):bP P w K mg base CX k f fd ps VU cm:=
 ⟨λvs H Q E q=>F.len vs H Q E (h _ _ _ _ q),λA outer s H args us vs Q E hr he hb hv hs=>F.run A outer s H args us vs Q E hr he hb hv (h _ _ _ _ hs)⟩
theorem qA.make{K:PySem.W.Frag}(e:qA P w K mg base A outer s H)(C:Addr)(us:List Value)(kw:List (Str×Value)):
  qA P w K mg base (A.under (.builtin "type.__call__" ⟨.ref C::us,kw⟩)) outer s H:=⟨by first|exact e.frames|(simpa[Around.under,Code.envs,Code.isFrame,pushEnvs] using e.frames),e.mod,e.bs,e.jv,e.jG,e.pK,e.aD,e.bare,⟨e.hq.hd,e.hq.ok,e.hq.lm⟩⟩
theorem Inv.Mw(I:Inv X af σ H s):qA X.prog X.w X.K X.mg X.base X.A X.stack s H:=
 ⟨I.ok.frames,I.ok.mod,I.bs,ad5 I.ok.jv I.sz,I.stack,I.D_,I.aD,I.bare,I.hq⟩
theorem Inv.after(I:Inv X af σ H s)(h:CE X.stack X.prog X.w H s Q u s'):EP X af σ Q u s':=by
 obtain⟨v,H',os,bare,un,aD,r,q⟩:=h;obtain⟨hh,g,d,t,U8⟩:=s';obtain rfl:U8=s.os:=os;exact⟨v,H',I.call (g':=g) (d':=d) (ch:=[]) un aD bare (λb z=>absurd z (by simp)),r,q⟩
def TX(sp:Sp)(fQ:List V)(E:XK)(t:TA):TE:=λσ H Q=>t σ H λvs H1=>sp (vs++fQ) H1 Q E
def Ao(C:Addr)(m:Str)(sp:Sp)(fQ:List V)(E:XK)(ta:TE)(t:TA):TE:=λσ H Q=>ta σ H λx H1=>∃a dx fs,x=.ref a/\H1 a=some (.ins C dx fs)/\fs.lookup m=none/\
 t σ H1 λvs H2=>sp (x::(vs++fQ)) H2 Q E
def DO(C:Addr)(sp:Sp)(fQ:List V)(E:XK)(t:TA):TE:=λσ H Q=>t σ H λvs H1=>∀x dx,H1 x=none->H1 dx=none->dx≠x->
 sp (.ref x::(vs++fQ)) (upd (upd H1 dx (.own x)) x (.ins C dx [])) (λv H2=>v=.aB/\Q (.ref x) H2) E
def Binds(K:PySem.W.Frag)(fd:FuncData)(ps:List Str)(ds:List Value):Prop:=
 ∀(s) (us),K.In s.heap->(us++ds).length=ps.length->BindsTo s fd ⟨us,[]⟩ (ps.zip (us++ds))
theorem Binds.all{K:PySem.W.Frag}(h:∀us:List Value,us.length=ps.length->bindArgs fd ⟨us,[]⟩=pure (ps.zip us)):Binds K fd ps []:=λs us _ hl=>by
 rw[adD] at hl ⊢;exact .of_eq (h us hl)
def Passes(CX:qO)(X:Cx)(E:XK):Prop:=∀(af) (σ) (H) (s) (e) (s'),Inv X af σ H s->CX X.stack H s E e s'->X.xe e s'
theorem Bv(F:bP X.prog X.w X.K X.mg X.base CX k f fd ps sp cm)(hr:bh k X.A cm)(hb:Binds X.K fd ps ds)(hd:aN fQ ds)(hx:Passes CX X E)
  (I:Inv X af σ H s) (r:aN vs us) (h:sp (vs++fQ) H Q E):wpAny (model X.prog X.w) X.A (call (.ref f) us) (EP X af σ Q) X.xe s:=by
 have r2:=r.append hd;have hl:(us++ds).length=ps.length:=by rw[<- r2.length];exact F.len _ _ _ _ h
 refine wpAny_call (codeAny_mono (F.run X.A X.stack s H ⟨us,[]⟩ (us++ds) (vs++fQ) Q E hr I.Mw (hb s us I.dz hl) r2 h) λr s' hq=>?_);cases r with
 |error e=>exact hx af σ H s e s' I hq
 |ok fl=>
  cases fl with
  |ret u=>exact I.after hq
  |next=>exact False.elim hq
  |brk=>exact False.elim hq
  |cont=>exact False.elim hq
theorem Lz(F:bP X.prog X.w X.K X.mg X.base CX k f fd ps sp cm)(hr:bh k X.A cm)(hg:Gl X x)(hm:X.mg x=some (.ref f))(hk:PySem.W.keepIn X.K (.ref f)=true)(hb:Binds X.K fd ps ds)(hd:aN fQ ds)(hx:Passes CX X E)
  (ha:PA X (e::es) t) (jL:(x==("__debug__":Str))=false:=by decide) (he:starEach (e::es) X.env=(false,eval e X.env)::starEach es X.env:=by rfl) (hpl:(backTo pos (starEach es X.env)).any (·.1)=false:=by rfl) :
  PE X (.Call (.Name x p) (e::es) [] pos) (TX sp fQ E t):=by
 intro af s σ H Q I h;refine aea (Aw I hg hm ?_ jL);refine PySem.W.callWith_K (h₀:=X.base) I.ok.mod.wj hk (ha.n I h λus s1 vs H1 I1 r q=>⟨I1.dz,?_⟩) he hpl;exact Bv F hr hb hd hx I1 r q
theorem y9(he:PE X o ta)(c:jY X.K C)(hm:ly X.K C m f)(F:bP X.prog X.w X.K X.mg X.base CX k f fd ps sp cm)(hr:bh k X.A cm)(hb:Binds X.K fd ps ds)(hd:aN fQ ds)(hx:Passes CX X E)(ha:PA X (e::es) t)
  (gW:starEach (e::es) X.env=(false,eval e X.env)::starEach es X.env:=by rfl) (hpl:(backTo pos (starEach es X.env)).any (·.1)=false:=by rfl)
  (ht:eval (.Call (.Attribute o m apos) (e::es) [] pos) X.env=(do
   let ov <- eval o X.env
   standAt apos.atName
   let(f,first) <- holding [ov] (getMethod ov m pl)
   callWith pos f first (backTo pos (starEach (e::es) X.env)) (backToKw pos (keywordEach [] X.env))):=by rfl) :
  PE X (.Call (.Attribute o m apos) (e::es) [] pos) (Ao C m sp fQ E ta t):=by
 intro af s σ H Q I h;refine PySem.W.methodCall_KW (pl:=pl) (he.n I h λu s1 x H1 I1 rx q=>?_) ht;obtain⟨a,dx,fs,ex,ea,l,q⟩:=q;subst ex;obtain rfl:u=Value.ref a:=rx;refine Mu I1 ea c hm l ?_;refine PySem.W.callWith_K (first:=[.ref a]) (h₀:=X.base) I.ok.mod.wj hm.kp (ha.n I1 q λus s2 vs H2 I2 r q2=>⟨I2.dz,?_⟩) gW hpl;exact Bv (us:=.ref a::us) (vs:=.ref a::vs) F hr hb hd hx I2 (.cons rfl r) q2
theorem OJ(he:PE X o ta)(c:jY X.K C)(hm:ly X.K C m f)(F:bP X.prog X.w X.K X.mg X.base CX k f fd ps sp cm)(hr:bh k X.A cm)(hb:Binds X.K fd ps ds)(hd:aN fQ ds)(hx:Passes CX X E)
  (ht:eval (.Call (.Attribute o m apos) [] [] pos) X.env=(do
   let ov <- eval o X.env
   standAt apos.atName
   let(f,first) <- holding [ov] (getMethod ov m pl)
   callWith pos f first (backTo pos (starEach [] X.env)) (backToKw pos (keywordEach [] X.env))):=by rfl) :
  PE X (.Call (.Attribute o m apos) [] [] pos) (Ao C m sp fQ E ta x9):=by
 intro af s σ H Q I h;refine PySem.W.methodCall_KW (pl:=pl) (he.n I h λu s1 x H1 I1 rx q=>?_) ht;obtain⟨a,dx,fs,ex,ea,l,q⟩:=q;subst ex;obtain rfl:u=Value.ref a:=rx;refine Mu I1 ea c hm l ?_;exact PySem.W.callWith_K0 (first:=[.ref a]) I1.dz hm.kp (Bv (us:=[.ref a]) (vs:=[.ref a]) F hr hb hd hx I1 (.cons rfl .nil) q)
structure Mk(K:PySem.W.Frag)(C f:Addr):Prop where
 makes:PySem.W.makesIn K C=true
 init:PySem.W.findIn K (.ref C) "__init__"=some (some (.ref f))
 fn:PySem.W.isFn K (.ref f)=true
 kp:PySem.W.keepIn K (.ref C)=true
theorem O8(M:Mk X.K C f)(F:bP X.prog X.w X.K X.mg X.base CX k f fd ps sp cm)(hr:bh (k+1) X.A cm)(hb:Binds X.K fd ps ds)(hd:aN fQ ds)
  (hx:Passes CX X E) (I:Inv X af σ H s) (r:aN vs us)
  (h:∀x dx,H x=none->H dx=none->dx≠x->sp (.ref x::(vs++fQ)) (upd (upd H dx (.own x)) x (.ins C dx [])) (λv H2=>v=.aB/\Q (.ref x) H2) E) :
  wpAny (model X.prog X.w) X.A (call (.ref C) us) (EP X af σ Q) X.xe s:=by
 have hq:=h (s.heap.objs.size+1) s.heap.objs.size (I.aD.fresh (Nat.le_succ _)) (I.aD.fresh (acy _)) (ady (ae7 _));have I2:=Inv.made (C:=C) I;have r2:aN (V.ref (s.heap.objs.size+1)::(vs++fQ)) (Value.ref (s.heap.objs.size+1)::(us++ds)):=.cons rfl (r.append hd);have hl:(Value.ref (s.heap.objs.size+1)::us++ds).length=ps.length:=by
  have e:=r2.length;rw[F.len _ _ _ _ hq] at e;exact e.symm
 refine wpAny_call (aaO I.dz M.makes M.init (afh.mp M.fn) (codeAny_mono (F.run _ X.stack _ _ ⟨Value.ref (s.heap.objs.size + 1)::us,[]⟩ (Value.ref (s.heap.objs.size + 1)::(us++ds)) _ _ E (hr.make C us [])
  (I2.Mw.make C us []) (hb _ (Value.ref (s.heap.objs.size+1)::us) I2.dz hl) r2 hq) λr s' mL=>?_))
 cases r with
 |error e=>exact hx af σ _ _ e s' I2 mL
 |ok fl=>
  cases fl with
  |ret u=>
   obtain⟨v,H',I3,rv,ev,q3⟩:=I2.after mL;subst ev;exact⟨rv,⟨V.ref (s.heap.objs.size+1),H',I3,rfl,q3⟩⟩
  |next=>exact False.elim mL
  |brk=>exact False.elim mL
  |cont=>exact False.elim mL
theorem ab2(M:Mk X.K C f)(F:bP X.prog X.w X.K X.mg X.base CX k f fd ps sp cm)(hr:bh (k+1) X.A cm)(hg:Gl X x)(hm:X.mg x=some (.ref C))(hb:Binds X.K fd ps ds)(hd:aN fQ ds)(hx:Passes CX X E)
  (ha:PA X (e::es) t) (jL:(x==("__debug__":Str))=false:=by decide) (he:starEach (e::es) X.env=(false,eval e X.env)::starEach es X.env:=by rfl) (hpl:(backTo pos (starEach es X.env)).any (·.1)=false:=by rfl) :
  PE X (.Call (.Name x p) (e::es) [] pos) (DO C sp fQ E t):=by
 intro af s σ H Q I h;refine aea (Aw I hg hm ?_ jL);refine PySem.W.callWith_K (h₀:=X.base) I.ok.mod.wj M.kp (ha.n I h λus s1 vs H1 I1 r q=>⟨I1.dz,?_⟩) he hpl;exact O8 M F hr hb hd hx I1 r q
theorem WY(M:Mk X.K C f)(F:bP X.prog X.w X.K X.mg X.base CX k f fd ps sp cm)(hr:bh (k+1) X.A cm)(hg:Gl X x)(hm:X.mg x=some (.ref C))(hb:Binds X.K fd ps ds)(hd:aN fQ ds)(hx:Passes CX X E)
  (jL:(x==("__debug__":Str))=false:=by decide):PE X (.Call (.Name x p) [] [] pos) (DO C sp fQ E x9):=by
 intro af s σ H Q I h;refine aea (Aw I hg hm ?_ jL);exact PySem.W.callWith_K0 I.dz M.kp (O8 (us:=[]) M F hr hb hd hx I .nil h)
structure nG(N P:List Str)(sc:Scope):Prop where
 kind:sc.kind=.function
 co:sc.isCoroutine=false
 gen:sc.isGenerator=false
 nd:N.Nodup
 pre:N.take P.length=P
 par:∀x∈P,sc.names.lookup x=some .local\/sc.names.lookup x=some .cell
 RK:∀y∈sc.names,y.2≠.free
theorem Lp{kindOf:Str->Option NameKind}:∀{binds} {m},(∀v,(x,v)∉binds)->bindL kindOf binds m x=m x
 |[],_,_=>rfl
 |(n,v)::r,m,h=>by
  unfold bindL;rw[Lp λw hw=>h w (aad _ hw)]
  split
  .have:x≠n:=by rintro rfl;exact h v aat
   simp[this]
  .rfl
theorem HD{kindOf:Str->Option NameKind}:∀{binds} {m},(∀v,(x,v)∉binds)->bindC kindOf binds m x=m x
 |[],_,_=>rfl
 |(n,v)::r,m,h=>by
  unfold bindC;rw[HD λw hw=>h w (aad _ hw)]
  split
  .rfl
  .have:x≠n:=by rintro rfl;exact h v aat
   simp[this]
theorem Jb{kindOf:Str->Option NameKind}:∀{P:List Str} {vs}{i:Nat} {m},P.Nodup->P[i]? = some x->vs[i]? = some v->kindOf x=some .local->
  bindL kindOf (P.zip vs) m x=some v
 |[],_,_,_,_,h,_,_=>by simp at h
 |_::_,[],_,_,_,_,h,_=>by simp at h
 |p::P,w::vs,0,m,nd,h1,h2,hk=>by
  simp at h1 h2;subst h1;subst h2;show bindL kindOf ((p,w)::P.zip vs) m p=_;unfold bindL;rw[Lp λv hv=>(ado.mp nd).1 (List.of_mem_zip hv).1,if_pos hk];simp
 |p::P,w::vs,i+1,m,nd,h1,h2,hk=>by
  unfold bindL;exact Jb (ado.mp nd).2 (by simpa using h1) (by simpa using h2) hk
theorem IL{kindOf:Str->Option NameKind}:∀{P:List Str} {vs}{i:Nat} {m},P.Nodup->P[i]? = some x->vs[i]? = some v->kindOf x≠some .local->
  bindC kindOf (P.zip vs) m x=some v
 |[],_,_,_,_,h,_,_=>by simp at h
 |_::_,[],_,_,_,_,h,_=>by simp at h
 |p::P,w::vs,0,m,nd,h1,h2,hk=>by
  simp at h1 h2;subst h1;subst h2;show bindC kindOf ((p,w)::P.zip vs) m p=_;unfold bindC;rw[HD λv hv=>(ado.mp nd).1 (List.of_mem_zip hv).1,acZ hk];simp
 |p::P,w::vs,i+1,m,nd,h1,h2,hk=>by
  unfold bindC;exact IL (ado.mp nd).2 (by simpa using h1) (by simpa using h2) hk
noncomputable def start(N:List Str)(vs:List V):St:=vs.map some++List.replicate (N.length-vs.length) none
noncomputable def jF(CX:qO)(P:Program)(w:World)(K:PySem.W.Frag)(mg:Str->Option Value)(base:Heap)(N:List Str)(qual:Str)(scope:Scope)(f:Addr)(cd:Value)(A:Around)(outer:List Env)(s:Shared)(H:Hp)(E:XK)(cm:Bool:=true):Cx where
 prog:=P
 w:=w
 K:=K
 mg:=mg
 base:=base
 A:=A.deeper (envOfC qual scope s.heap.objs.size f cd)
 N:=N
 dM:=s
 mJ:=H
 env:=envOfC qual scope s.heap.objs.size f cd
 outer:=outer
 stack:=envOfC qual scope s.heap.objs.size f cd::outer
 ex:=[]
 calm:=cm
 fn:=λ_=>true
 pn:=[]
 xe:=λe s'=>wpAny (model P w) (A.deeper (envOfC qual scope s.heap.objs.size f cd)) (leaving (envOfC qual scope s.heap.objs.size f cd) e) (λ_ qR=>CX outer H s E e qR) (λe' qR=>CX outer H s E e' qR) s'
theorem K_{sc:Scope}(h:sc.names.lookup x=some .cell):∃c,(cellsFrom n sc.names []).lookup x=some c:=by
 have q:=PySem.W.cellsFrom_some sc.names n [] (.inl h);exact aeG.mp q
theorem aal{w:World}{K:PySem.W.Frag}{mg:Str->Option Value}
  (S:nG N ps scope) (hd:cm=true->A.handled=none) (e0:qA P w K mg base A outer s H) (hl:vs.length=ps.length) (r:aN vs us)
  (x:InCallC s s.heap.objs.size (bindL (envOfC qual scope s.heap.objs.size f cd).kindOf (ps.zip us) λ_=>none) (cellsFrom (s.heap.objs.size+1) scope.names []) (bindC (envOfC qual scope s.heap.objs.size f cd).kindOf (ps.zip us) λ_=>none) s1) :
  Inv (jF CX P w K mg base N qual scope f cd A outer s H E cm) [] (start N vs) H s1:=by
 have hpl:ps.length<=N.length:=by have:=congrArg List.length S.pre;rw[aft] at this;omega
 obtain⟨h1,tk,rfl,hk⟩:=x.done;have qM:∀b:Addr,b∉(jF CX P w K mg base N qual scope f cd A outer s H E cm).ex:=λb z=>absurd (show b∈([]:List Addr) from z) (by simp)
 refine⟨⟨e0.mod,S.kind,rfl,rfl,acy _,λy z c h1 h2=>?_,λy hy=>?_,λy c _ h=>?_,hd,Around.frames_deeper e0.frames,.inr ⟨rfl,rfl⟩,λb z=>absurd z (qM b),e0.bs,e0.jv,λb _ _=>qM b,λb z=>absurd z (qM b),e0.jG,e0.pK⟩,
  rfl,e0.bare,Un.kept hk,⟨_,x.toInCall.ns,λi y v h1 h2 h3=>?_⟩,λy c h=>⟨_,x.cell y c h⟩,e0.aD.fresh (acy _),λy c h=>?_,λp hp=>absurd (show p∈([]:List (Addr×Obj)) from hp) (by simp),e0.aD.kept hk,?_,⟨e0.hq.hd,e0.hq.ok,e0.hq.lm⟩⟩
 .exact name_of_addr x.apart (PySem.mem_of_lookup h1) (PySem.mem_of_lookup h2)
 .have hy:=hy;rcases hy with hy|hy
  .exact K_ hy
  .exact absurd rfl (S.RK _ (PySem.mem_of_lookup hy))
 .exact aen (x.above y c (PySem.mem_of_lookup h))
 .have hi:i<vs.length:=by
   unfold start at h2
   by_cases hi:i<vs.length
   .exact hi
   .rw[aex (by simpa using hi)] at h2;rw[List.getElem?_replicate] at h2
    split at h2<;>cases h2
  have ha:vs[i]? = some v:=by
   unfold start at h2;rw[aej (by simpa using hi),adA] at h2;exists e,vs[i]?,a,h2;cases h2;rfl
  obtain⟨u,hu,rv⟩:=r.get ha;have hp:ps[i]? = some y:=by
   rw[<- S.pre,List.getElem?_take_of_lt (by omega)];exact h1
  have IP:ps.Nodup:=by rw[<- S.pre];exact S.nd.sublist (List.take_sublist _ _)
  refine⟨u,rv,?_⟩;rcases S.par y (aeN hp) with k|k
  .exact .inl ⟨k,Jb IP hp hu k⟩
  .obtain⟨c,e⟩:=K_ k;refine .inr ⟨.inl k,c,e,?_⟩;have q:=x.cell y c e;rw[IL IP hp hu (by show scope.names.lookup y≠_;rw[k];decide)] at q;exact q
 .exact e0.aD.fresh (aen (x.above y c (PySem.mem_of_lookup h)))
 .unfold start;show _=N.length;rw[ab9,List.length_map,List.length_replicate];omega
theorem UU{K:PySem.W.Frag}{dV kV doc pm aT ct oc:Value}
  (lk:K.lookup f=some ⟨oc,od,.func (PySem.W.fnOf name qual params body scope dV kV doc pm an aT ct),qZ⟩) (k9:PySem.W.codeIn K aT qual=true) (S:nG N ps scope)
  (len:∀vs H Q E,sp vs H Q E->vs.length=ps.length)
  (Bo:∀(A) (outer) (s) (H) (vs) (Q) (E),bh k (A.deeper (envOfC qual scope s.heap.objs.size f aT)) cm->sp vs H Q E->
   ∃t,gu (jF CX P w K mg base N qual scope f aT A outer s H E cm) body t/\t { nx:=λ_ H'=>Q .aB H',rt:=Q } (start N vs) H) :
  bP P w K mg base CX (k+1) f (PySem.W.fnOf name qual params body scope dV kV doc pm an aT ct) ps sp cm:=by
 refine⟨len,λA outer s H args us vs Q E hr e0 hb r ou=>?_⟩;have hl:=len _ _ _ _ ou;have KX:=e0.mod.wj.keeps λb o e=>(e0.bs b o e).1
 have lim:=e0.mod.nolimit.keeps λb o e=>(e0.bs b o e).1
 have aaQ:∀y∈ps.zip us,scope.names.lookup y.1=some .local\/(scope.names.lookup y.1=some .cell/\((cellsFrom (s.heap.objs.size+1) scope.names []).lookup y.1).isSome=true):=λ⟨n,v⟩ hy=>by
  rcases S.par n (List.of_mem_zip hy).1 with q|q
  .exact .inl q
  .exact .inr ⟨q,PySem.W.cellsFrom_some _ _ _ (.inl q)⟩
 refine codeAny_call_function hr.depth (KX _ _ lk) rfl S.co S.gen rfl (PySem.W.codeRec_of KX k9) (hb _ _ _ _ ?_);refine wpAny_newFunctionEnv_cells S.kind aaQ λenv he s1 x=>?_
 subst he;refine⟨lim.keeps x.toInCall.keep,codeAny_func ?_⟩;obtain⟨t,ht,hq⟩:=Bo A outer s H vs Q E (hr.deeper _) ou;have I:Inv (jF CX P w K mg base N qual scope f aT A outer s H E cm) [] (start N vs) H s1:=aal S hr.hd e0 hl r x;refine aeu (ht [] s1 (start N vs) H _ I hq) (λfl s' hs=>?_) λe s' hs=>hs
 have fin:∀{aC} {H'} {v} {u},Inv (jF CX P w K mg base N qual scope f aT A outer s H E cm) [] aC H' s'->RelV v u->Q v H'->CE outer P w H s Q u s':=
  λ{aC H' v u} J rv q=>⟨v,H',J.os,J.bare,J.base,J.aD,rv,q⟩
 cases fl with
 |ret u=>
  obtain⟨v,aC,H',J,rv,q⟩:=hs;exact fin J rv q
 |next=>
  obtain⟨aC,H',J,q⟩:=hs;exact fin (v:=V.aB) (u:=Value.none) J rfl q
 |brk=>
  obtain⟨_,_,_,q⟩:=hs;exact False.elim q
 |cont=>
  obtain⟨_,_,_,q⟩:=hs;exact False.elim q
section
variable{id T:String}
def Cu(r:List V->Hp->VK->Prop)(t:TA):TE:=λσ H Q=>t σ H λvs H1=>r vs H1 Q
theorem rP(hc:fN X (.builtin id) r)(hg:Gl X x)(hm:X.mg x=none)(hv:bootBuiltins x=some (.builtin id))(ha:PA X (e::es) t)(hn:x≠"__name__":=by decide)(jL:(x==("__debug__":Str))=false:=by decide)
  (he:starEach (e::es) X.env=(false,eval e X.env)::starEach es X.env:=by rfl) (hpl:(backTo pos (starEach es X.env)).any (·.1)=false:=by rfl):PE X (.Call (.Name x p) (e::es) [] pos) (Cu r t):=by
 intro af s σ H Q I h;refine aea (kG I hg hm hv ?_ hn jL);exact PyProof.Rows.callWith_builtin1 (ha.n I h λus s1 vs H1 I1 r1 q1=>hc af s1 σ H1 vs us Q I1 r1 q1) he hpl
theorem vU(hc:fN X (.type T) r)(hg:Gl X x)(hm:X.mg x=none)(hv:bootBuiltins x=some (.type T))(ha:PA X (e::es) t)(hn:x≠"__name__":=by decide)(jL:(x==("__debug__":Str))=false:=by decide)
  (he:starEach (e::es) X.env=(false,eval e X.env)::starEach es X.env:=by rfl) (hpl:(backTo pos (starEach es X.env)).any (·.1)=false:=by rfl):PE X (.Call (.Name x p) (e::es) [] pos) (Cu r t):=by
 intro af s σ H Q I h;refine aea (kG I hg hm hv ?_ hn jL);exact ad6 (ha.n I h λus s1 vs H1 I1 r1 q1=>hc af s1 σ H1 vs us Q I1 r1 q1) he hpl
end
end L2
namespace HT
open PySem PyProof.Rows
noncomputable def fB(n d:Nat):Option Int->Nat
 |none=>d
 |some v=>if v<0 then(v+(n:Int)).toNat else min v.toNat n
theorem xJ(n d:Nat):fB n d none=d:=rfl
theorem Aq(n d k:Nat):fB n d (some (k:Int))=min k n:=by
 show(if(k:Int)<0 then((k:Int)+(n:Int)).toNat else min (k:Int).toNat n)=min k n;rw[acZ (by omega),afj]
end HT
namespace L2
open PySem PySem.Spec PyProof.Rows
abbrev TO:=St->Hp->(Option Int->Hp->Prop)->Prop
def PO(X:Cx)(e:Option Expr)(t:TO):Prop:=
 ∀(af) (s) (σ) (H) (Q),Inv X af σ H s->t σ H Q->
  wpAny (model X.prog X.w) X.A (evalPart e X.env) (λu s'=>∃o H',Inv X af σ H' s'/\IsPart u o/\Q o H') X.xe s
noncomputable def Qc:TO:=λ_ H Q=>Q none H
noncomputable def aby(t:TE):TO:=λσ H Q=>t σ H λx H1=>∃i,x=.int i/\Q (some i) H1
theorem intsAre_of:∀{us},aN (ns.map V.int) us->IntsAre us ns:=by
 induction ns with
 |nil=>intro us r;rw[afK] at r;cases r;exact .nil
 |cons n ns ih=>
  intro us r;rw[aax] at r;cases r with
  |cons r1 r2=>
   obtain⟨t,e⟩:=r1;subst e;exact .cons n t (ih r2)
section
variable{lo hi:Option Expr}
theorem GQ:PO X none Qc:=by
 intro af s σ H Q I h;rw[evalPart_none];exact adg ⟨none,H,I,.none,h⟩
theorem Ef(h:PE X e te):PO X (some e) (aby te):=by
 intro af s σ H Q I hw;rw[evalPart_some];refine h.n I hw λu s1 x H1 I1 r1 q1=>?_
 obtain⟨i,rfl,q⟩:=q1;obtain⟨t,rfl⟩:=r1;exact⟨some i,H1,I1,.int i t,q⟩
def O6(X:Cx)(r:V->Option Int->Option Int->Hp->VK->Prop):Prop:=
 ∀(af) (s) (σ) (H) (x) (v vl vu) (lo hi) (sl) (Q),Inv X af σ H s->RelV x v->s.heap.IsSliceOf sl vl vu .none->IsPart vl lo->IsPart vu hi->r x lo hi H Q->
  ∃T id,typeLookup (.type T) "__getitem__"=pure (some (.builtin id))/\s.TypeIs v T/\wpAny (model X.prog X.w) X.A (getItem v (.ref sl)) (EP X af σ Q) X.xe s
def SI(r:V->Option Int->Option Int->Hp->VK->Prop)(te:TE)(tl th:TO):TE:=λσ H Q=>te σ H λx H1=>tl σ H1 λl H2=>th σ H2 λu H3=>r x l u H3 Q
theorem EI(hr:O6 X r)(he:PE X e te)(hl:PO X lo tl)(hu:PO X hi th):PE X (.Subscript e (.Slice lo hi none p2) pos) (SI r te tl th):=by
 intro af s σ H Q I h;refine Subscript_ (he.n I h λv s1 x H1 I1 r1 q1=>?_);refine wpAny_Slice (bX (hl af s1 σ H1 _ I1 q1) ?_)
 rintro vl s2 ⟨l,H2,I2,pl,q2⟩
 refine bX (hu af s2 σ H2 _ I2 q2) ?_
 rintro vu s3 ⟨u,H3,I3,pu,q3⟩
 rw[evalPart_none];refine adg ?_;have I4:Inv X af σ H3 { s3 with heap:=s3.heap.push { cls:=.type "slice",data:=.fields #[vl,vu,.none] } }:=I3.kept (t':=s3.toks) λb ob q=>aaf _ q
 obtain⟨T,id,hT,ht,hg⟩:=hr af { s3 with heap:=s3.heap.push { cls:=.type "slice",data:=.fields #[vl,vu,.none] } } σ H3 x v vl vu l u s3.heap.objs.size Q I4 r1 (Heap.IsSliceOf.new ..) pl pu q3;show wpAny (model X.prog X.w) X.A (subscriptTail e (.Slice lo hi none p2) v (.ref s3.heap.objs.size)) (EP X af σ Q) X.xe { s3 with heap:=s3.heap.push { cls:=.type "slice",data:=.fields #[vl,vu,.none] } };exact tail_any (ops:=[.ref s3.heap.objs.size,v]) ht hT hg (by with_unfolding_all rfl)
def j6(xs:List V)(lo hi:Option Int):List V:=(xs.drop (HT.fB xs.length 0 lo)).take (HT.fB xs.length xs.length hi-HT.fB xs.length 0 lo)
theorem adb(xs:List V)(lo hi:Option Int):(j6 xs lo hi).length<=xs.length:=by
 unfold j6;rw[aft,List.length_drop];omega
end
noncomputable def nQ(n:Nat)(i:Int):Option Nat:=if 0<=i then(if i<n then some i.toNat else none) else if -(n:Int)<=i then some (i+n).toNat else none
def d_{α:Type}(xs:List α)(i:Int):Option α:=(nQ xs.length i).bind λj=>xs[j]?
theorem SG(h:nQ n i=some j):seqIndex? i n=some j/\j<n/\-(n:Int)<=i/\i<n:=by
 unfold nQ at h
 by_cases h0:0<=i
 .rw[if_pos h0] at h;obtain⟨h1,h⟩:=ci h;have e:=ads h;exact⟨by rw[seqIndex_of h0 h1,e],by omega,by omega,h1⟩
 .rw[acZ h0] at h;obtain⟨h1,h⟩:=ci h;have e:=ads h;exact⟨by rw[seqIndex_neg (by omega) h1,e],by omega,h1,by omega⟩
theorem Fg(h:d_ xs i=some v):∃j,seqIndex? i xs.length=some j/\xs[j]? = some v/\j<xs.length/\-(xs.length:Int)<=i/\i<xs.length:=by
 unfold d_ at h;exists e,nQ xs.length i,j,h;obtain⟨h1,h2,h3,h4⟩:=SG e;exact⟨j,h1,h,h2,h3,h4⟩
def JE(b:Expr):Prop:=∀o i,subscripted b false o i=operate [o,i] (getItem o i)
def n5(X:Cx)(r:R2):Prop:=
 ∀(value slice) (af) (s) (σ) (H) (x y) (v u) (Q),Inv X af σ H s->RelV x v->RelV y u->r x y H Q->
  subscripted slice false v u=operate [v,u] (getItem v u)->wpAny (model X.prog X.w) X.A (subscriptTail value slice v u) (EP X af σ Q) X.xe s
def DL(X:Cx)(id:String)(r:V->List V->Hp->VK->Prop):Prop:=
 ∀(af) (s) (σ) (H) (x) (xs) (v) (us) (Q),Inv X af σ H s->RelV x v->aN xs us->r x xs H Q->
  wpAny (model X.prog X.w) X.A (call (.builtin id) (v::us)) (EP X af σ Q) X.xe s
section
theorem n5.or(h:n5 X r)(h':n5 X r'):n5 X (λx y H Q=>r x y H Q\/r' x y H Q):=by
 intro value slice af s σ H x y v u Q I rx ry q hs;rcases q with q|q
 .exact h value slice af s σ H x y v u Q I rx ry q hs
 .exact h' value slice af s σ H x y v u Q I rx ry q hs
theorem Yx(hr:n5 X r)(ha:PE X a ta)(hb:PE X b tb)(hs:JE b):PE X (.Subscript a b pos) (o9 r ta tb):=by
 intro af s σ H Q I h;exact Subscript_ (Fz ha hb I h λv u s2 x y H2 I2 rx ry q=>hr a b af s2 σ H2 x y v u Q I2 rx ry q (hs _ _))
def EH(K:PySem.W.Frag):R2:=λx y H Q=>∃p xs i v,x=.ref p/\y=.int i/\bK K H p xs/\d_ xs i=some v/\Q v H
def E3(K:PySem.W.Frag):R2:=λx y H Q=>∃p xs i v,x=.ref p/\y=.int i/\bN K H p xs/\d_ xs i=some v/\Q v H
def B5:R2:=λx y H Q=>∃z i c,x=.str z/\y=.int i/\z.length<=sizeLine/\d_ z.cps.toList i=some c/\Q (.str ⟨#[c]⟩) H
theorem Yu:n5 X (EH X.K):=by
 intro value slice af s σ H x y v u Q I rx ry h hs;obtain⟨p,xs,i,z,rfl,rfl,hq,he,q⟩:=h;cases rx;obtain⟨t,rfl⟩:=ry;obtain⟨ao,r,pl,hz⟩:=I.list hq;obtain⟨j,h1,h2,h3,h4,h5⟩:=Fg he;obtain⟨w,ew,d9⟩:=r.get h2;have hl:=r.length;have hn:=vS;have fin:EP X af σ Q w s:=⟨z,H,I,d9,q⟩
 by_cases h0:0<=i
 .have hj:i.toNat=j:=by
   rw[seqIndex_of h0 h5] at h1;exact ads h1
  exact item_listR pl.isList h0 (by omega) (by rw[hj];simpa using ew) fin hs
 .have hj:(i+(ao.toArray.size:Int)).toNat=j:=by
   rw[seqIndex_neg (by omega) h4] at h1;rw[adn,<- hl];exact ads h1
  exact subscriptTail_builtinR pl.isList.typeIs slot_list_getitem.lookup
   (wpAny_getItem_list_neg pl.isList (by omega) (by rw[adn]<;>omega) (by omega) (by rw[hj];simpa using ew) ⟨rfl,fin⟩) hs
theorem ac4:n5 X (E3 X.K):=by
 intro value slice af s σ H x y v u Q I rx ry h hs;obtain⟨p,xs,i,z,rfl,rfl,hq,he,q⟩:=h;cases rx;obtain⟨t,rfl⟩:=ry;obtain⟨ao,r,pl,hz⟩:=I.tuple hq;obtain⟨j,h1,h2,h3,h4,h5⟩:=Fg he;obtain⟨w,ew,d9⟩:=r.get h2;have hl:=r.length;have hn:=vS;have fin:EP X af σ Q w s:=⟨z,H,I,d9,q⟩
 exact subscriptTail_builtinR pl.typeIs slot_tuple_getitem.lookup
  (getItem_tuple pl (by omega) (by omega) (by rw[adn,<- hl];exact h1) (by simpa using ew) ⟨rfl,fin⟩) hs
theorem U1:n5 X B5:=by
 intro value slice af s σ H x y v u Q I rx ry h hs;obtain⟨z,i,c,rfl,rfl,hz,he,q⟩:=h;obtain⟨t,rfl⟩:=rx;obtain⟨t',rfl⟩:=ry;obtain⟨j,h1,h2,h3,h4,h5⟩:=Fg he;have hl:z.cps.toList.length=z.length:=by simp[Str.length]
 rw[hl] at h1 h4 h5;have hn:=vS;exact tail_any (typeIs_str s z t) slot_str_getitem.lookup (getItem_str (by
  have e1:decide (i < -(2 ^ 63:Int))=false:=adt (by omega);have e2:decide (i >= 2 ^ 63)=false:=adt (by omega);rw[e1,e2,Bool.or_false]) (by rw[h1];simpa using h2) ⟨.str ⟨#[c]⟩,H,I.tok _,⟨_,rfl⟩,q⟩) hs
def rIx(K:PySem.W.Frag):R2:=λx y H Q=>EH K x y H Q\/E3 K x y H Q\/B5 x y H Q
theorem Rj:n5 X (rIx X.K):=Yu.or (ac4.or U1)
theorem Z5(lo hi:Option Int)(n:Nat):(sliceBounds lo hi none n).1=((HT.fB n 0 lo:Nat):Int)/\(sliceBounds lo hi none n).2.1=((HT.fB n n hi:Nat):Int)/\(sliceBounds lo hi none n).2.2=1:=by
 refine⟨?_,?_,rfl⟩
 .cases lo with
  |none=>simp[sliceBounds,HT.fB]
  |some i=>
   simp only[sliceBounds,HT.fB,Option.getD_none,show(1:Int) > 0 by decide,if_true]
   by_cases h:i<0
   .simp only[h,if_true]<;>omega
   .simp only[h,afu]<;>omega
 .cases hi with
  |none=>simp[sliceBounds,HT.fB]
  |some i=>
   simp only[sliceBounds,HT.fB,Option.getD_none,show(1:Int) > 0 by decide,if_true]
   by_cases h:i<0
   .simp only[h,if_true]<;>omega
   .simp only[h,afu]<;>omega
theorem WA(ao:List Value)(lo hi:Option Int):slicePick ao.toArray lo hi none=((ao.drop (HT.fB ao.length 0 lo)).take (HT.fB ao.length ao.length hi-HT.fB ao.length 0 lo)).toArray:=by
 obtain⟨h1,h2,h3⟩:=Z5 lo hi ao.toArray.size;unfold slicePick;rw[h1,h2,h3];simp only[sliceRange_one,pick_run,adn]<;>rfl
def Kl(K:PySem.W.Frag):V->Option Int->Option Int->Hp->VK->Prop:=λx lo hi H Q=>∃a xs,x=.ref a/\bK K H a xs/\∀p,H p=none->Q (.ref p) (upd H p (.lst (j6 xs lo hi)))
theorem EG:O6 X (Kl X.K):=by
 intro af s σ H x v vl vu lo hi sl Q I rx hs pl pu h;obtain⟨a,xs,rfl,hx,q⟩:=h;cases rx;obtain⟨ao,r,ht,hz⟩:=I.list hx;have hlen:=r.length;refine⟨"list",_,slot_list_getitem.lookup,ht.isList.typeIs,?_⟩;refine wpAny_getItem_list_slice ht.isList hs pl pu .none (by simp) ?_ (by rw[adn]<;>omega);rw[WA,<- hlen];refine⟨.ref s.heap.objs.size,_,I.laid (λb ob q=>aaf _ q) (acy _) ?_,rfl,q _ (I.aD.fresh (acy _))⟩;exact⟨ad5 (adb xs lo hi) hz,_,0,(r.drop (HT.fB xs.length 0 lo)).take (HT.fB xs.length xs.length hi-HT.fB xs.length 0 lo),ac9 _ rfl⟩
noncomputable def lY:V->Bool
 |.aB=>true
 |.bl _=>true
 |.int _=>true
 |.str _=>true
 |_=>false
noncomputable def oB:V->V->Bool
 |.aB,.aB=>true
 |.bl a,.bl b=>a==b
 |.bl a,.int b=>(if a then 1 else 0)==b
 |.int a,.bl b=>a==(if b then 1 else 0)
 |.int a,.int b=>a==b
 |.str a,.str b=>a==b
 |_,_=>false
theorem SM(ry:RelV y u)(rx:RelV x v)(fy:lY y=true)(fx:lY x=true):SeqAt.EqAt A s u v (oB y x):=by
 cases y with
 |aB=>
  cases ry;cases x with
  |aB=>cases rx;exact SeqAt.EqAt.same _
  |bl b=>cases rx;exact SeqAt.EqAt.none_bool b
  |int b=>obtain⟨t,rfl⟩:=rx;exact SeqAt.EqAt.none_int b t
  |str b=>obtain⟨t,rfl⟩:=rx;exact SeqAt.EqAt.none_str b t
  |_=>exact absurd (show false=true from fx) abR
 |bl a=>
  cases ry;cases x with
  |aB=>cases rx;exact SeqAt.EqAt.bool_none a
  |bl b=>cases rx;exact SeqAt.EqAt.bool_bool a b
  |int b=>obtain⟨t,rfl⟩:=rx;exact SeqAt.EqAt.bool_int a b t
  |str b=>obtain⟨t,rfl⟩:=rx;exact SeqAt.EqAt.bool_str a b t
  |_=>exact absurd (show false=true from fx) abR
 |int a=>
  obtain⟨t',rfl⟩:=ry;cases x with
  |aB=>cases rx;exact SeqAt.EqAt.int_none a t'
  |bl b=>cases rx;exact SeqAt.EqAt.int_bool a t' b
  |int b=>obtain⟨t,rfl⟩:=rx;exact SeqAt.EqAt.int_int a t' b t
  |str b=>obtain⟨t,rfl⟩:=rx;exact SeqAt.EqAt.int_str a t' b t
  |_=>exact absurd (show false=true from fx) abR
 |str a=>
  obtain⟨t',rfl⟩:=ry;cases x with
  |aB=>cases rx;exact SeqAt.EqAt.str_none a t'
  |bl b=>cases rx;exact SeqAt.EqAt.str_bool a t' b
  |int b=>obtain⟨t,rfl⟩:=rx;exact SeqAt.EqAt.str_int a t' b t
  |str b=>obtain⟨t,rfl⟩:=rx;exact SeqAt.EqAt.str_str a t' b t
  |_=>exact absurd (show false=true from fx) abR
 |_=>exact absurd (show false=true from fy) abR
def iK(x:V)(u:Value):Bool:=match u with
 |.none=>oB .aB x
 |.bool b=>oB (.bl b) x
 |.int i _=>oB (.int i) x
 |.str z _=>oB (.str z) x
 |_=>false
theorem Na(r:RelV y u)(f:lY y=true):iK x u=oB y x:=by
 cases y with
 |aB=>cases r;rfl
 |bl b=>cases r;rfl
 |int i=>obtain⟨t,rfl⟩:=r;rfl
 |str z=>obtain⟨t,rfl⟩:=r;rfl
 |_=>exact absurd (show false=true from f) abR
theorem vn:∀{xs} {us},aN xs us->xs.all lY=true->us.any (iK x)=xs.any λy=>oB y x
 |_,_,.nil,_=>rfl
 |y::xs,u::us,.cons r t,f=>by
  rw[afz,abm] at f;rw[ae4,ae4,Na r f.1,vn t f.2]
theorem uy(rx:RelV x v)(fx:lY x=true):∀{xs} {us},aN xs us->xs.all lY=true->∀u∈us,SeqAt.EqAt A s u v (iK x u)
 |_,_,.nil,_=>λu hu=>by cases hu
 |y::xs,u::us,.cons r t,f=>λu' hu=>by
  rw[afz,abm] at f;rcases abG.mp hu with rfl|hu
  .rw[Na r f.1];exact SM r rx f.1 fx
  .exact uy rx fx t f.2 u' hu
def uu(x:V)(xs:List V):Bool:=xs.any λy=>oB y x
def uz(K:PySem.W.Frag)(neg:Bool):R2:=λx y H Q=>∃p xs,y=.ref p/\(bK K H p xs\/bN K H p xs)/\lY x=true/\xs.all lY=true/\Q (.bl (if neg then !uu x xs else uu x xs)) H
theorem ZF:cD X (compareOp .In) (uz X.K false):=by
 intro af s σ H x y v u Q I rx ry h;obtain⟨p,xs,rfl,hq,fx,fs,q⟩:=h;cases ry;rcases hq with hq|hq
 .obtain⟨ao,r,pl,hz⟩:=I.list hq;refine SeqAt.in_listAt (iK x) pl.isList (λw hw=>uy rx fx r fs w (by simpa using hw)) ⟨.bl _,H,I,rfl,?_⟩;rw[show ao.toArray.any (iK x)=ao.any (iK x) by simp,vn r fs];exact q
 .obtain⟨ao,r,pl,hz⟩:=I.tuple hq;refine SeqAt.in_tupleAt (iK x) pl (λw hw=>uy rx fx r fs w (by simpa using hw)) ⟨.bl _,H,I,rfl,?_⟩;rw[show ao.toArray.any (iK x)=ao.any (iK x) by simp,vn r fs];exact q
theorem yL:cD X (compareOp .NotIn) (uz X.K true):=by
 intro af s σ H x y v u Q I rx ry h;obtain⟨p,xs,rfl,hq,fx,fs,q⟩:=h;cases ry;rcases hq with hq|hq
 .obtain⟨ao,r,pl,hz⟩:=I.list hq;refine SeqAt.notIn_listAt (iK x) pl.isList (λw hw=>uy rx fx r fs w (by simpa using hw)) ⟨.bl _,H,I,rfl,?_⟩;rw[show ao.toArray.any (iK x)=ao.any (iK x) by simp,vn r fs];exact q
 .obtain⟨ao,r,pl,hz⟩:=I.tuple hq;refine SeqAt.notIn_tupleAt (iK x) pl (λw hw=>uy rx fx r fs w (by simpa using hw)) ⟨.bl _,H,I,rfl,?_⟩;rw[show ao.toArray.any (iK x)=ao.any (iK x) by simp,vn r fs];exact q
theorem SJ:fN X (.builtin "len") (λxs H Q=>∃p ys,xs=[.ref p]/\(bK X.K H p ys\/bN X.K H p ys)/\Q (.int ys.length) H):=by
 intro af s σ H xs us Q I r h;obtain⟨p,ys,rfl,hq,q⟩:=h;obtain⟨u,rfl,rx⟩:=vals1 r;cases rx;have hn:=vS;rcases hq with hq|hq
 .obtain⟨ao,r',pl,hz⟩:=I.list hq;have hlen:=r'.length;exact Calls.call_len_list pl.isList (by simp only[adn]<;>omega) ⟨.int ys.length,H,I.tok _,⟨s.toks+1,by rw[adn,hlen]⟩,q⟩
 .obtain⟨ao,r',pl,hz⟩:=I.tuple hq;have hlen:=r'.length;exact len_tuple pl (by simp only[adn]<;>omega) ⟨.int ys.length,H,I.tok _,⟨s.toks+1,by rw[adn,hlen]⟩,q⟩
theorem WR:fN X (.type "list") (λxs H Q=>∃p ys,xs=[.ref p]/\(bK X.K H p ys\/bN X.K H p ys)/\∀l,H l=none->Q (.ref l) (upd H l (.lst ys))):=by
 intro af s σ H xs us Q I r h;obtain⟨p,ys,rfl,hq,q⟩:=h;obtain⟨u,rfl,rx⟩:=vals1 r;cases rx;have fin:∀(ao),aN ys ao->ys.length<=sizeLine->∀(h') (c'),(∀b o',s.heap.get? b=some o'->h'.get? b=some o')->
   h'.get? s.heap.objs.size=some { cls:=.type "list",dict:=none,data:=.seq ao.toArray c',slots:=#[] }->EP X af σ Q (.ref s.heap.objs.size) { s with heap:=h' }:=λao r' hz h' c' kp e=>
  ⟨.ref s.heap.objs.size,_,I.laid kp (acy _) (show cP X.prog X.w _ h' _ (.lst ys) from⟨hz,ao,c',r',e⟩),rfl,q _ (I.aD.fresh (acy _))⟩
 rcases hq with hq|hq
 .obtain⟨ao,r',pl,hz⟩:=I.list hq;have hlen:=r'.length;obtain⟨o,ho,hc,n,hd⟩:=pl.isList;exact call_list_seq p (.inl rfl) ho hc hd (λh' c' kp e=>fin ao r' hz h' c' kp e) (by simp only[adn]<;>omega)
 .obtain⟨ao,r',pl,hz⟩:=I.tuple hq;have hlen:=r'.length;obtain⟨o,ho,hc,n,hd⟩:=pl;exact call_list_seq p (.inr rfl) ho hc hd (λh' c' kp e=>fin ao r' hz h' c' kp e) (by simp only[adn]<;>omega)
theorem aaE:fN X (.type "tuple") (λxs H Q=>∃p ys,xs=[.ref p]/\((bK X.K H p ys/\∀l,H l=none->Q (.ref l) (upd H l (.tup ys)))\/(bN X.K H p ys/\Q (.ref p) H))):=by
 intro af s σ H xs us Q I r h;obtain⟨p,ys,rfl,h⟩:=h;obtain⟨u,rfl,rx⟩:=vals1 r;cases rx;rcases h with⟨hq,q⟩|⟨hq,q⟩
 .obtain⟨ao,r',pl,hz⟩:=I.list hq;have hlen:=r'.length;refine call_tuple_list pl.isList (λh' kp=>?_) (by simp only[adn]<;>omega);have I1:=I.kept (t':=s.toks) kp;have I2:Inv X af σ (upd H h'.objs.size (.tup ys)) { s with heap:=h'.push { cls:=.type "tuple",data:=.seq ao.toArray } }:=
   I1.laid (λb o e=>aaf _ e) (acy _) (show cP X.prog X.w _ _ _ (.tup ys) from⟨hz,ao,r',mj.new _ _⟩)
  exact⟨.ref h'.objs.size,_,I2,rfl,q _ (I1.aD.fresh (acy _))⟩
 .obtain⟨ao,r',pl,hz⟩:=I.tuple hq;exact call_tuple_same pl ⟨.ref p,H,I,rfl,q⟩
def Dt(K:PySem.W.Frag)(T:String)(x:V)(H:Hp):Prop:=match x with
 |.str _=>T="str"
 |.int _=>T="int"
 |.ref p=>(T="list"/\∃xs,bK K H p xs)\/(T="tuple"/\∃o,K.lookup p=some o/\o.cls=.type "tuple"/\o.dict=none)\/
   (T="dict"/\((∃ah,H p=some (.dK ah))\/∃ah,H p=some (.dT ah)))\/(T="set"/\∃S n,H p=some (.set S n))
 |_=>False
theorem KJ(I:Inv X af σ H s)(r:RelV x v)(ty:Dt X.K T x H):
  s.TypeIs v T/\∀a,v=.ref a->∃ob,s.heap.get? a=some ob/\ob.dict=none:=by
 cases x with
 |str z=>
  obtain⟨t,rfl⟩:=r;cases(show T="str" from ty);exact⟨typeIs_str s z t,λ_ e=>nomatch e⟩
 |int i=>
  obtain⟨t,rfl⟩:=r;cases(show T="int" from ty);exact⟨typeIs_int s i t,λ_ e=>nomatch e⟩
 |ref p=>
  cases r;rcases ty with⟨rfl,xs,hq⟩|⟨rfl,o,hk,hc,hd⟩|⟨rfl,hk⟩|⟨rfl,S,n,hk⟩
  .obtain⟨ao,_,pl,_⟩:=I.list hq;refine⟨pl.isList.typeIs,λa e=>?_⟩;cases e;obtain⟨o,n,e,c,hd,_⟩:=pl;exact⟨o,e,hd⟩
  .refine⟨⟨o,I.dz p o hk,hc⟩,λa e=>?_⟩;cases e;exact⟨o,I.dz _ o hk,hd⟩
  .have z:∃o,s.heap.get? p=some o/\o.ExactDict:=by
    rcases hk with⟨ah,hk⟩|⟨ah,hk⟩
    .obtain⟨_,_,_,_,o,_,_,e,ex,_⟩:=I.aD p _ hk;exact⟨o,e,ex⟩
    .obtain⟨_,_,_,_,o,_,_,e,ex,_⟩:=I.aD p _ hk;exact⟨o,e,ex⟩
   obtain⟨o,e,ex⟩:=z;refine⟨⟨o,e,ex.1⟩,λa e2=>?_⟩;cases e2;exact⟨o,e,ex.2.1⟩
  .obtain⟨o,_,_,_,e,ex,_⟩:=I.aD p _ hk;refine⟨⟨o,e,ex.1⟩,λa e2=>?_⟩;cases e2;exact⟨o,e,ex.2.1⟩
 |_=>exact False.elim ty
def IZ(K:PySem.W.Frag)(T:String)(r:V->List V->Hp->VK->Prop)(to:TE):TE:=λσ H Q=>to σ H λx H1=>Dt K T x H1/\r x [] H1 Q
def TN(K:PySem.W.Frag)(T:String)(r:V->List V->Hp->VK->Prop)(to:TE)(t:TA):TE:=λσ H Q=>to σ H λx H1=>Dt K T x H1/\t σ H1 λxs H2=>r x xs H2 Q
variable{T id:String}
theorem RS(pa:PlainAttrs T)(slot:Slot T name id)(uO:typeOf (.builtin id)=pure (.type "method_descriptor"))(hm:DL X id r)(ho:PE X o to)
  (kR:attributeBase o name X.env (eval o X.env)=eval o X.env:=by rfl) (kU:(apos.endLine==dQ.line)=true:=by rfl):PE X (.Call (.Attribute o name apos) [] [] dQ) (IZ X.K T r to):=by
 intro af s σ H Q I h;refine wpAny_Call_method0_late kR kU (ho.n I h λv s1 x H1 I1 r1 q=>?_);obtain⟨ty,q1⟩:=q;obtain⟨h1,h2⟩:=KJ I1 r1 ty;exact⟨T,id,pa,slot,uO,h1,h2,afa rfl (PySem.evalArgs_none (hm af s1 σ H1 x [] v [] Q I1 r1 .nil q1))⟩
theorem y_(pa:PlainAttrs T)(slot:Slot T name id)(uO:typeOf (.builtin id)=pure (.type "method_descriptor"))(hm:DL X id r)(ho:PE X o to)(ha:PA X (e::es) t)
  (kR:attributeBase o name X.env (eval o X.env)=eval o X.env:=by rfl)
  (nu:((backTo dQ (starEach (e::es) X.env)).all (λx=>!x.1)&&(backToKw dQ (keywordEach [] X.env)).all (λx=>x.1.isSome)
   && decide ((e::es).length+([]:List Keyword).length+(if([]:List Keyword).isEmpty then 0 else 1)<30))=true:=by rfl)
  (kU:(apos.endLine==dQ.line)=true:=by rfl) (hs:starEach (e::es) X.env=(false,eval e X.env)::starEach es X.env:=by rfl) (Rg:(backTo dQ (starEach es X.env)).any (·.1)=false:=by rfl) :
  PE X (.Call (.Attribute o name apos) (e::es) [] dQ) (TN X.K T r to t):=by
 intro af s σ H Q I h;refine wpAny_Call_method_late kR nu kU rfl (ho.n I h λv s1 x H1 I1 r1 q=>?_);obtain⟨ty,q1⟩:=q;obtain⟨h1,h2⟩:=KJ I1 r1 ty;refine⟨T,id,pa,slot,uO,h1,h2,?_⟩;have hA:=ha dQ af s1 σ H1 _ I1 q1;rw[hs] at hA ⊢;refine afa (by show(false||(backTo dQ (starEach es X.env)).any (·.1))=false;rw[Rg]<;>rfl) (Calls.evalArgs_plain ?_);refine bX hA ?_
 rintro us s2 ⟨vs,H2,I2,r2,q2⟩
 exact hm af s2 σ H2 x vs v us Q I2 r1 r2 q2
end
def Gn(X:Cx)(id:String)(r:V->List V->Hp->VK->Prop):Prop:=
 ∀(af) (s) (σ) (H) (x) (xs) (v) (us) (Q),Inv X af σ H s->RelV x v->aN xs us->r x xs H Q->
  wpAny (model X.prog X.w) X.A (call (.builtin id) (v::us)) (EP X af σ Q) X.xe s
theorem aN.one(h:aN [x] us):∃u,us=[u]/\RelV x u:=by
 rcases h with _|⟨r,_|_⟩
 exact⟨_,rfl,r⟩
theorem aN.zero:∀{us},aN [] us->us=[]
 |_,.nil=>rfl
theorem aN.dropLast(h:aN xs us):aN xs.dropLast us.dropLast:=by
 induction h with
 |nil=>exact .nil
 |cons r t ih=>
  cases t with
  |nil=>exact .nil
  |cons q t'=>exact .cons r ih
theorem aN.eraseIdx:∀{xs} {us} (i),aN xs us->aN (xs.eraseIdx i) (us.eraseIdx i)
 |_,_,_,.nil=>.nil
 |_,_,0,.cons _ t=>t
 |_,_,i+1,.cons r t=>.cons r (aN.eraseIdx i t)
theorem aN.reverse(h:aN xs us):aN xs.reverse us.reverse:=by
 induction h with
 |nil=>exact .nil
 |cons r t ih=>rw[afG,afG];exact aN.append ih (.cons r .nil)
theorem Wl(l:List α):l.eraseIdx (l.length-1)=l.dropLast:=by
 induction l with
 |nil=>rfl
 |cons a r ih=>
  cases r with
  |nil=>rfl
  |cons b r=>
   have e:(a::b::r).length-1=((b::r).length-1)+1:=by
    have h1:(a::b::r).length=r.length+2:=rfl;have h2:(b::r).length=r.length+1:=rfl;omega
   rw[e,List.eraseIdx_cons_succ,ih]
   all_goals rfl
theorem Inv.BX{ao its':List Value}(I:Inv X af σ H s)(hH:H l=some (.lst xs))
  (e:s.heap.get? l=some { cls:=.type "list",data:=.seq ao.toArray n }) (hf:f ao.toArray=its'.toArray) (hv:aN ys its') (hz:ys.length<=sizeLine) :
  Inv X af σ (upd H l (.lst ys)) { s with heap:=s.heap.update l (Obj.mapSeq f),toks:=t' }:=by
 have q:=PySem.IsL.update e f;rw[hf] at q;refine I.write (by rw[hH];exact trivial) (.inl rfl) (λb' u hb hu=>(adV s.heap (Obj.mapSeq f) (aez hb)).trans hu) ⟨_,q⟩ ?_;exact⟨hz,its',_,hv,q⟩
theorem Inv.Tw(I:Inv X af σ H s)(hv:aN ys ao)(hz:ys.length<=sizeLine):
  Inv X af σ (upd H s.heap.objs.size (.lst ys)) { s with heap:=s.heap.push { cls:=.type "list",data:=.seq ao.toArray },toks:=t' }:=
 I.laid (λ_ _ q=>aaf _ q) (acy _) ⟨hz,ao,0,hv,ac9 _ rfl⟩
theorem Inv.fresh(I:Inv X af σ H s):H s.heap.objs.size=none:=I.aD.fresh (acy _)
theorem Inv.ug(I:Inv X af σ H s)(hH:H l=some (.lst xs)):xs.length<=sizeLine/\∃(ao:List Value) (n:Nat),aN xs ao/\xs.length=ao.length/\s.heap.get? l=some { cls:=.type "list",data:=.seq ao.toArray n }:=by
 obtain⟨z,ao,n,r,e⟩:=I.aD l _ hH;exact⟨z,ao,n,r,r.length,e⟩
def P9:V->List V->Hp->VK->Prop:=λx vs H Q=>∃l xs y,x=.ref l/\vs=[y]/\H l=some (.lst xs)/\xs.length<sizeLine/\Q .aB (upd H l (.lst (xs++[y])))
theorem Dc:Gn X "list.append" P9:=by
 intro af s σ H x vs v us Q I rx rv h;obtain⟨l,xs,y,rfl,rfl,hH,hz,q⟩:=h;cases rx;obtain⟨u,rfl,ru⟩:=rv.one;obtain⟨z,ao,n,r,hl,e⟩:=I.ug hH;refine call_meets F.slot_list_append ⟨_,e,rfl⟩ F.entry_list_append (F.args_list_append_2 _ _) (PySem.list_append l ao.toArray n u (by rw[adn];omega)) ⟨e,?_⟩;refine⟨.aB,_,I.BX (its':=ao++[u]) hH e (by simp) (r.append (.cons ru .nil)) ?_,rfl,q⟩;rw[ab9,adY];omega
def Om:V->List V->Hp->VK->Prop:=λx vs H Q=>∃l xs y,x=.ref l/\vs=[]/\H l=some (.lst xs)/\xs[xs.length-1]? = some y/\Q y (upd H l (.lst xs.dropLast))
theorem XT:Gn X "list.pop" Om:=by
 intro af s σ H x vs v us Q I rx rv h;obtain⟨l,xs,y,rfl,rfl,hH,hy,q⟩:=h;cases rx;have WC:=rv.zero;subst WC;obtain⟨z,ao,n,r,hl,e⟩:=I.ug hH;obtain⟨u,hu,ru⟩:=r.get hy;have hy':ao.toArray[ao.toArray.size-1]? = some u:=by
  show ao.toArray[ao.length-1]? = some u;rw[<- afc,<- hl];exact hu
 refine call_meets F.slot_list_pop ⟨_,e,rfl⟩ F.entry_list_pop (F.args_list_pop_1 _) (MeetsSeq.list_pop_last l ao.toArray n u hy' (by rw[adn];omega)) ⟨e,?_⟩;refine⟨y,_,I.BX (its':=ao.dropLast) hH e ?_ r.dropLast ?_,ru,q⟩
 .show ao.toArray.eraseIdxIfInBounds (ao.toArray.size-1)=ao.dropLast.toArray;rw[adn,List.eraseIdxIfInBounds_toArray,Wl]
 .rw[List.length_dropLast];omega
def Wm:R2:=λx y H Q=>∃l b xs zs,x=.ref l/\y=.ref b/\H l=some (.lst xs)/\H b=some (.lst zs)/\xs.length+zs.length<=sizeLine/\∀p,H p=none->Q (.ref p) (upd H p (.lst (xs++zs)))
theorem RB:cD X (binaryOp .Add) Wm:=by
 intro af s σ H x y v u Q I rx ry h;obtain⟨l,b,xs,zs,rfl,rfl,hH,hB,hz,q⟩:=h;cases rx;cases ry;obtain⟨z,ao,n,r,hl,e⟩:=I.ug hH;obtain⟨z2,Nl,n2,r2,jq,e2⟩:=I.ug hB;refine PySem.P.add_list e e2 ?_ (by rw[adn,adn];omega);have ea:ao.toArray++Nl.toArray=(ao++Nl).toArray:=by simp
 rw[ea];exact⟨.ref _,_,I.Tw (r.append r2) (by rw[ab9];omega),rfl,q _ I.fresh⟩
section
variable[DecidableEq κ]
noncomputable def dG(ah:List (κ×V))(k:κ):Option V:=(ah.find? λkv=>decide (kv.1=k)).map (·.2)
noncomputable def putK(ah:List (κ×V))(k:κ)(v:V):List (κ×V):=
 if(ah.any λkv=>decide (kv.1=k))=true then ah.map (λkv=>if kv.1=k then(kv.1,v) else kv) else ah++[(k,v)]
theorem xq{k:κ}(e:p.1=k):dG (p::r) k=some p.2:=by simp[dG,adN,e]
theorem wu{k:κ}(e:¬p.1=k):dG (p::r) k=dG r k:=by simp[dG,adN,e]
theorem EK(k:κ):∀ah:List (κ×V),(ah.any λkv=>decide (kv.1=k))=(dG ah k).isSome
 |[]=>rfl
 |p::r=>by
  rw[ae4]
  by_cases e:p.1=k
  .simp only[xq e,abL e,Bool.true_or,Option.isSome_some]
  .rw[wu e,adt e,Bool.false_or];exact EK k r
theorem F9(ah:List (κ×V))(k:κ)(v:V):(putK ah k v).length<=ah.length+1:=by
 unfold putK
 split
 .rw[List.length_map];omega
 .rw[ab9,adu,List.length_nil];omega
theorem gj.tK(r:gj o u):o.isSome=u.isSome:=by
 cases o with
 |none=>cases u with
  |none=>rfl
  |some _=>exact(show False from r).elim
 |some _=>cases u with
  |none=>exact(show False from r).elim
  |some _=>rfl
theorem gj.getD(r:gj o u)(rd:RelV d d'):RelV (o.getD d) (u.getD d'):=by
 cases o with
 |none=>cases u with
  |none=>exact rd
  |some _=>exact(show False from r).elim
 |some _=>cases u with
  |none=>exact(show False from r).elim
  |some _=>exact r
theorem KV.val(r:KV ah vs)(k:κ):gj (dG ah k) (valueAt vs k):=by
 unfold KV at r
 induction r with
 |nil=>exact True.intro
 | @cons p q ps qs h t ih=>
  obtain⟨h1,h2⟩:=h
  by_cases e:p.1=k
  .have e':=h1.symm.trans e;have b:valueAt (q::qs) k=some q.2:=by simp[valueAt,adN,e']
   rw[xq e,b];exact h2
  .have e':¬q.1=k:=λz=>e (h1.trans z)
   have b:valueAt (q::qs) k=valueAt qs k:=by simp[valueAt,adN,e']
   rw[wu e,b];exact ih
theorem KV.any(r:KV ah vs)(k:κ):(ah.any λkv=>decide (kv.1=k))=vs.any λkv=>decide (kv.1=k):=by
 unfold KV at r
 induction r with
 |nil=>rfl
 |cons h t ih=>rw[ae4,ae4,ih,h.1]
theorem KV.DP(r:KV ah vs)(k:κ)(ry:RelV y u):
  KV (ah.map λkv=>if kv.1=k then(kv.1,y) else kv) (vs.map λkv=>if kv.1=k then(kv.1,u) else kv):=by
 unfold KV at r ⊢
 induction r with
 |nil=>exact .nil
 | @cons p q ps qs h t ih=>
  rw[aax,aax];refine .cons ?_ ih;obtain⟨h1,h2⟩:=h
  by_cases e:p.1=k
  .rw[if_pos e,if_pos (h1.symm.trans e)];exact⟨h1,ry⟩
  .rw[acZ e,acZ (λz=>e (h1.trans z))];exact⟨h1,h2⟩
theorem KV.put(r:KV ah vs)(k:κ)(ry:RelV y u):KV (putK ah k y) (stored vs k u):=by
 unfold putK stored;rw[r.any k]
 by_cases e:(vs.any λkv=>decide (kv.1=k))=true
 .rw[if_pos e,if_pos e];exact r.DP k ry
 .rw[acZ e,acZ e];exact Paired.snoc r ⟨rfl,ry⟩
theorem KV.keys{vs:List (κ×Value)}(r:KV ah vs):ah.map (·.1)=vs.map (·.1):=by
 unfold KV at r
 induction r with
 |nil=>rfl
 |cons h t ih=>rw[aax,aax,ih,h.1]
theorem KV.length(r:KV ah vs):ah.length=vs.length:=Paired.length r
end
theorem o7(r:RelV (kV k) u):(eZ P w).is k u=true:=by
 cases k with
 |inl i=>obtain⟨t,e⟩:=(show ∃t,u=Value.int i t from r);subst e;exact SR P w i t
 |inr x=>obtain⟨t,e⟩:=(show ∃t,u=Value.str x t from r);subst e;exact Z6 P w x t
theorem DR:∀{ks} {us},aN (ks.map kV) us->ItemsAre (eZ P w) ks us
 |[],_,r=>by rw[afK] at r;cases r;exact .nil
 |k::ks,_,r=>by
  rw[aax] at r;cases r with
  |cons h t=>exact .cons (o7 h) (DR t)
abbrev KT(H:Hp):List (List Key×V)->List (List Key×Addr×Value)->Prop:=Paired λp q=>p.1=q.1/\Tk H q.2.1 (p.1.map kV)/\RelV p.2 q.2.2
theorem KT.val(r:KT H ah xs)(k:List Key):gj (dG ah k) ((atKey xs k).map (·.2)):=by
 induction r with
 |nil=>exact True.intro
 | @cons p q ps qs h t ih=>
  obtain⟨h1,_,h2⟩:=h
  by_cases e:p.1=k
  .have e':=h1.symm.trans e;have b:atKey (q::qs) k=some q.2:=by simp[atKey,adN,e']
   rw[xq e,b];exact h2
  .have e':¬q.1=k:=λz=>e (h1.trans z)
   have b:atKey (q::qs) k=atKey qs k:=by simp[atKey,adN,e']
   rw[wu e,b];exact ih
theorem KT.DP(r:KT H ah xs)(k:List Key)(ry:RelV y u):
  KT H (ah.map λkv=>if kv.1=k then(kv.1,y) else kv) (xs.map (putAt k u)):=by
 induction r with
 |nil=>exact .nil
 | @cons p q ps qs h t ih=>
  rw[aax,aax];refine .cons ?_ ih;obtain⟨h1,h2,h3⟩:=h;unfold putAt
  by_cases e:p.1=k
  .rw[if_pos e,if_pos (h1.symm.trans e)];exact⟨h1,h2,ry⟩
  .rw[acZ e,acZ (λz=>e (h1.trans z))];exact⟨h1,h2,h3⟩
theorem KT.put(r:KT H ah xs)(k:List Key)(hb:Tk H b (k.map kV))(ry:RelV y u):
  KT H (putK ah k y) (storedH xs k b u):=by
 have e:(ah.any λkv=>decide (kv.1=k))=(atKey xs k).isSome:=by
  rw[EK,(r.val k).tK,aeR]
 unfold putK storedH;rw[e]
 by_cases q:(atKey xs k).isSome=true
 .rw[if_pos q,if_pos q];exact r.DP k ry
 .rw[acZ q,acZ q];exact Paired.snoc r ⟨rfl,hb,ry⟩
theorem KT.keeps(r:KT H ah xs)(ht:∀b (t:kQ),H b=some t.ho->H' b=some t.ho):KT H' ah xs:=
 Paired.zU r λ_ _ z=>⟨z.1,let⟨t,e,g⟩:=z.2.1;⟨t,e,ht _ t g⟩,z.2.2⟩
theorem Pk(ok:dD P w H h)(e:Rd H a u):cP P w H h a u:=e.ok ok
theorem mw(ok:dD P w H h)(e:Rd H a (.dK ah)):ah.length<=sizeLine/\(a==sysModules)=false/\∃vs,KV ah vs/\h.DictOf (eZ P w) a vs:=
 show cP P w H h a (.dK ah) from Pk ok e
theorem OW(ok:dD P w H h)(e:H a=some (.dK ah)):ah.length<=sizeLine/\(a==sysModules)=false/\∃vs,KV ah vs/\h.DictOf (eZ P w) a vs:=mw ok (.inl e)
theorem rC{ks:List Key}(ok:dD P w H h)(e:Tk H a (ks.map kV)):(tupleKind (eZ P w)).is h ks a:=by
 have q:cP P w H h a (.tup (ks.map kV)):=by
  obtain⟨t,e1,e2⟩:=e;cases t with
  |tup xs=>cases e1;exact ok a _ e2
  |rD o xs=>cases e1;exact(ok a _ e2).2
  |gQ _ _=>cases e1
  |ir _=>cases e1
 obtain⟨_,ao,r,o,h1,h2,_,n,h3⟩:=q;exact⟨o,ao.toArray,n,h1,h2,h3,by simpa using DR r⟩
theorem lZ(ok:dD P w H h)(e:Rd H a (.dT ah)):ah.length<=sizeLine/\(a==sysModules)=false/\
  ∃xs,KT H ah xs/\h.DictOfH (tupleKind (eZ P w)) a xs:=by
 obtain⟨z,y,xs,r,o,es,ep,h1,h2,h3,h4,h5⟩:=(show cP P w H h a (.dT ah) from Pk ok e)
 refine⟨z,y,xs,r,o,es,ep,h1,h2,h3,h4,λx hx=>?_,h5⟩;have all:∀{l} {m},KT H l m->∀x∈m,(tupleKind (eZ P w)).is h x.1 x.2.1:=by
  intro l m q
  induction q with
  |nil=>intro x hx;exact nomatch hx
  | @cons p q ps qs hq t ih=>
   intro x hx;rcases abG.mp hx with e|hx
   .subst e;exact rC ok (by rw[<- hq.1];exact hq.2.1)
   .exact ih x hx
 exact all r x hx
theorem Vq(ok:dD P w H h)(e:H a=some (.dT ah)):ah.length<=sizeLine/\(a==sysModules)=false/\
  ∃xs,KT H ah xs/\h.DictOfH (tupleKind (eZ P w)) a xs:=lZ ok (.inl e)
def fP(H:Hp)(a:Addr)(y:V)(r:Option V):Prop:=
 (∃ah k,Rd H a (.dK ah)/\y=kV k/\r=dG ah k)\/∃ah k b,Rd H a (.dT ah)/\y=.ref b/\Tk H b (k.map kV)/\r=dG ah k
def m5(H:Hp)(a:Addr)(y v:V)(H':Hp):Prop:=
 (∃ah k,H a=some (.dK ah)/\y=kV k/\ah.length<sizeLine/\H'=upd H a (.dK (putK ah k v)))\/
 ∃ah k b,H a=some (.dT ah)/\y=.ref b/\Tk H b (k.map kV)/\ah.length<sizeLine/\H'=upd H a (.dT (putK ah k v))
theorem fP.k{k:Key}(e:H a=some (.dK ah)):fP H a (kV k) (dG ah k):=.inl ⟨ah,k,.inl e,rfl,rfl⟩
theorem fP.t{k:List Key}(e:H a=some (.dT ah))(eb:Tk H b (k.map kV)):fP H a (.ref b) (dG ah k):=.inr ⟨ah,k,b,.inl e,rfl,eb,rfl⟩
theorem m5.k{k:Key}(e:H a=some (.dK ah))(hl:ah.length<sizeLine):m5 H a (kV k) v (upd H a (.dK (putK ah k v))):=.inl ⟨ah,k,e,rfl,hl,rfl⟩
theorem m5.t{k:List Key}(e:H a=some (.dT ah))(eb:Tk H b (k.map kV))(hl:ah.length<sizeLine):
  m5 H a (.ref b) v (upd H a (.dT (putK ah k v))):=.inr ⟨ah,k,b,e,rfl,eb,hl,rfl⟩
theorem Inv.big(I:Inv X af σ H s):sysModules<s.heap.objs.size:=by
 have h:=(I.mod.glob.keeps I.bk).lt;exact Nat.lt_trans (by decide) h
theorem Qi(hu:A.units+1<cLine)(I:Inv X af σ H s)(g:fP H a y (some v))(ry:RelV y u)(h:∀w' s',Inv X af σ H s'->RelV v w'->Q w' s'):
  wpAny (model X.prog X.w) A (getItem (.ref a) u) Q E s:=by
 rcases g with⟨ah,k,e,ey,l⟩|⟨ah,k,b,e,ey,eb,l⟩
 .subst ey;obtain⟨z,hd,vs,rel,dd⟩:=mw I.aD e;obtain⟨w',hw,d9⟩:=gj.some_of (by rw[l];exact rel.val k);exact wpAny_getItem_of (o7 ry) dd.mapOf hw (h w' _ (I.tok _) d9)
 .subst ey;cases(show u=Value.ref b from ry);obtain⟨z,hd,xs,rel,dd⟩:=lZ I.aD e;obtain⟨w',hw,d9⟩:=gj.some_of (by rw[l];exact rel.val k);obtain⟨p,hp,vd⟩:=adC.mp hw;refine wpAny_getItem_heap (aer hu) (rC I.aD eb) dd hp ?_;rw[vd];exact h w' _ (I.tok _) d9
theorem abg(hu:A.units+1<cLine)(I:Inv X af σ H s)(g:fP H a y o)(ry:RelV y u)(h:∀s',Inv X af σ H s'->Q (.bool o.isSome) s'):
  wpAny (model X.prog X.w) A (compareOp .In u (.ref a)) Q E s:=by
 rcases g with⟨ah,k,e,ey,l⟩|⟨ah,k,b,e,ey,eb,l⟩
 .subst ey;obtain⟨z,hd,vs,rel,dd⟩:=mw I.aD e;refine wpAny_in_of (o7 ry) hd dd.mapOf ?_;rw[<- (rel.val k).tK,<- l];exact h _ (I.tok _)
 .subst ey;cases(show u=Value.ref b from ry);obtain⟨z,hd,xs,rel,dd⟩:=lZ I.aD e;refine wpAny_in_heap (aer hu) (rC I.aD eb) hd dd ?_;have q:=(rel.val k).tK;rw[aeR] at q;rw[<- q,<- l];exact h _ (I.tok _)
theorem Sw(hu:A.units+1<cLine)(I:Inv X af σ H s)(g:fP H a y o)(ry:RelV y u)(h:∀s',Inv X af σ H s'->Q (.bool (!o.isSome)) s'):
  wpAny (model X.prog X.w) A (compareOp .NotIn u (.ref a)) Q E s:=by
 rcases g with⟨ah,k,e,ey,l⟩|⟨ah,k,b,e,ey,eb,l⟩
 .subst ey;obtain⟨z,hd,vs,rel,dd⟩:=mw I.aD e;refine wpAny_notIn_of (o7 ry) hd dd.mapOf ?_;rw[<- (rel.val k).tK,<- l];exact h _ (I.tok _)
 .subst ey;cases(show u=Value.ref b from ry);obtain⟨z,hd,xs,rel,dd⟩:=lZ I.aD e;refine wpAny_notIn_heap (aer hu) (rC I.aD eb) hd dd ?_;have q:=(rel.val k).tK;rw[aeR] at q;rw[<- q,<- l];exact h _ (I.tok _)
theorem Jq(I:Inv X af σ H s)(mu:xA (H a))(hs:Heap.SameBut a s.heap h')(he:∃q,h'.get? a=some q)(new:cP X.prog X.w (upd H a ob) h' a ob):
  Inv X af σ (upd H a ob) { s with heap:=h',toks:=t' }:=
 I.write mu (.inl rfl) (λb q hb z=>(hs.2 b hb).trans z) he new
theorem E2(z:ah.length<=sizeLine)(hd:(a==sysModules)=false)(rel:KV ah vs)(dd:h'.DictOf (eZ P w) a vs):
  cP P w H' h' a (.dK ah):=⟨z,hd,vs,rel,dd⟩
theorem Sl(hu:A.units+1<cLine)(I:Inv X af σ H s)(g:m5 H a y v H')(ry:RelV y u)(rv:RelV v r)(h:∀s',Inv X af σ H' s'->Q () s'):
  wpAny (model X.prog X.w) A (setItem (.ref a) u r) Q E s:=by
 rcases g with⟨ah,k,e,ey,l,eH⟩|⟨ah,k,b,e,ey,eb,l,eH⟩
 .subst ey eH;obtain⟨z,hd,vs,rel,dd⟩:=OW I.aD e;have hz:vs.length<=sizeLine:=by rw[<- rel.length];exact z
  have hl:(putK ah k v).length<=sizeLine:=by have:=F9 ah k v;omega
  refine wpAny_setItem_pairs (hsz:=hz) (o7 ry) dd λh' pH hs=>h _ ?_
  have he:∃q,h'.get? a=some q:=let⟨q,_,_,hq,_⟩:=pH;⟨q,hq⟩
  exact Jq I (by rw[e];exact True.intro) hs he (E2 hl hd (rel.put k rv) pH)
 .subst ey eH;cases(show u=Value.ref b from ry);obtain⟨z,hd,xs,rel,dd⟩:=Vq I.aD e;have hz:xs.length<=sizeLine:=by rw[<- Paired.length rel];exact z
  have hl:(putK ah k v).length<=sizeLine:=by have:=F9 ah k v;omega
  refine wpAny_setItem_heap (hsz:=hz) (aer hu) (rC I.aD eb) dd λh' pH hs=>h _ ?_
  obtain⟨q,es,ep,hq,h2,h3,h4,_,h5⟩:=pH;refine Jq I (by rw[e];exact True.intro) hs ⟨q,hq⟩ ⟨hl,hd,_,(rel.put k eb rv).keeps λc ys ec=>?_,q,es,ep,hq,h2,h3,h4,h5⟩;rw[aG (acF ec e (by cases ys<;>intro z<;>cases z))];exact ec
theorem Ry(I:Inv X af σ H s)(e:Rd H a (.dK ah))(h:∀t s',Inv X af σ H s'->Q (.int ah.length t) s'):wpAny (model X.prog X.w) A (call (.builtin "len") [.ref a]) Q E s:=by
 obtain⟨z,hd,vs,rel,dd⟩:=mw I.aD e;refine call_len_dict hd dd (by rw[<- rel.length];rw[aeJ] at z;omega) ?_;rw[<- rel.length];exact h _ _ (I.tok _)
def wQ(i:Expr):Prop:=∀ov iv,subscripted i false ov iv=operate [ov,iv] (getItem ov iv)
theorem Oq{T id:String}
  (hl:typeLookup (.type T) "__getitem__"=pure (some (.builtin id))) (hs:wQ slice)
  (h:wpAny (model prog w) A (eval value env) (λo bq=>wpAny (model prog w) A (eval slice env) (λi oO=>oO.TypeIs o T/\wpAny (model prog w) A (getItem o i) Q E oO) E bq) E s) :
  wpAny (model prog w) A (eval (.Subscript value slice pos) env) Q E s:=by
 refine Subscript_ (aeu h (λo bq zR=>aeu zR (λi oO F1=>?_) λ_ _ x=>x) λ_ _ x=>x);obtain⟨hT,F1⟩:=F1;unfold subscriptTail;refine aae ?_;rw[getitemInPython_of_ne hT.not_modules];refine aae (afA hT hl ?_);have fin:wpAny (model prog w) A (subscripted slice false o i) (λr AL=>wpAny (model prog w) A (letTemporaryGo value o r >>= λ_=>pure r) Q E AL) E oO:=by
  rw[hs o i];exact wpAny_operating (aeu F1 (λr AL abt=>aae (wpAny_letTemporaryGo (adg abt))) λ_ _ x=>x)
 first
  |exact adg (aae fin)
  |exact aae (adg (aae fin))
  |exact aae fin
theorem Zx(I:Inv X af σ H s)(g:fP H a y o):s.TypeIs (.ref a) "dict":=by
 rcases g with⟨ah,k,e,_,_⟩|⟨ah,k,b,e,_,_,_⟩
 .obtain⟨_,_,vs,_,dd⟩:=mw I.aD e;exact dd.typeIs
 .obtain⟨_,_,xs,_,dd⟩:=lZ I.aD e;exact dd.typeIs
def M_(td ty:TE):TE:=λσ H Q=>td σ H λx H1=>ty σ H1 λy H2=>∃a v,x=.ref a/\fP H2 a y (some v)/\Q v H2
def UZ(ty td:TE):TE:=λσ H Q=>ty σ H λy H1=>td σ H1 λx H2=>∃a o,x=.ref a/\fP H2 a y o/\Q (.bl o.isSome) H2
def acn(ty td:TE):TE:=λσ H Q=>ty σ H λy H1=>td σ H1 λx H2=>∃a o,x=.ref a/\fP H2 a y o/\Q (.bl (!o.isSome)) H2
def WV(td ty tv:TE):TS:=λD σ H=>tv σ H λv H1=>td σ H1 λx H2=>ty σ H2 λy H3=>∃a H4,x=.ref a/\m5 H3 a y v H4/\D.nx σ H4
theorem OS(hu:X.A.units+1<cLine)(ho:PE X o td)(hi:PE X i ty)(hs:wQ i):PE X (.Subscript o i pos) (M_ td ty):=by
 intro af s σ H Q I h;refine Oq PySem.F.slot_dict_getitem.lookup hs (ho.n I h λu s1 x H1 I1 rx q1=>hi.n I1 q1 λiv s2 y H2 I2 ry q=>?_);obtain⟨a,v,ex,g,q2⟩:=q;subst ex;obtain rfl:u=Value.ref a:=rx;exact⟨Zx I2 g,Qi hu I2 g ry λw' s3 I3 d9=>⟨v,H2,I3,d9,q2⟩⟩
theorem Nv(hu:X.A.units+1<cLine)(hi:PE X i ty)(ho:PE X o td):PC X .In i o (UZ ty td):=by
 intro af s σ H Q I h;refine hi.n I h λiv s1 y H1 I1 ry q1=>ho.n I1 q1 λu s2 x H2 I2 rx q=>?_
 obtain⟨a,ov,ex,g,q2⟩:=q;subst ex;obtain rfl:u=Value.ref a:=rx;exact abg hu I2 g ry λs3 I3=>⟨.bl ov.isSome,H2,I3,rfl,q2⟩
theorem Xf(hu:X.A.units+1<cLine)(hi:PE X i ty)(ho:PE X o td):PC X .NotIn i o (acn ty td):=by
 intro af s σ H Q I h;refine hi.n I h λiv s1 y H1 I1 ry q1=>ho.n I1 q1 λu s2 x H2 I2 rx q=>?_
 obtain⟨a,ov,ex,g,q2⟩:=q;subst ex;obtain rfl:u=Value.ref a:=rx;exact Sw hu I2 g ry λs3 I3=>⟨.bl (!ov.isSome),H2,I3,rfl,q2⟩
theorem yK(hu:X.A.units+1<cLine)(ho:PE X o td)(hi:PE X i ty)(hv:PE X value tv)(hs:swapsWith value (some (.Subscript o i pos')) pos.line X.env=pure false):
  PS X (.Assign [.Subscript o i pos'] value pos) (WV td ty tv):=by
 intro af s σ H D I h;refine wpAny_Assign_Subscript (hv.n I h λr s1 v H1 I1 rv q1=>ho.n I1 q1 λu s2 x H2 I2 rx q2=>hi.n I2 q2 λiv s3 y H3 I3 ry q=>?_) hs;obtain⟨a,H4,ex,g,q3⟩:=q;subst ex;obtain rfl:u=Value.ref a:=rx;exact Sl hu I3 g ry rv λs4 I4=>⟨σ,H4,I4,q3⟩
theorem RT(h:Heap)(hb:sysModules<h.objs.size):cP P w H (h.push { cls:=.type "dict",data:=.dict #[] }) h.objs.size (.dK []):=
 ⟨adZ _,adR.mpr (aez (ady hb)),[],.nil,Heap.DictOf.new h⟩
theorem Qd(h:Heap)(hb:sysModules<h.objs.size):cP P w H (h.push { cls:=.type "dict",data:=.dict #[] }) h.objs.size (.dT []):=
 ⟨adZ _,adR.mpr (aez (ady hb)),[],.nil,_,#[],0,ac9 _ rfl,⟨rfl,rfl,rfl⟩,rfl,rfl,adw⟩
def Vz:TE:=λ_ H Q=>∀p,H p=none->Q (.ref p) (upd H p (.dK []))
def acM:TE:=λ_ H Q=>∀p,H p=none->Q (.ref p) (upd H p (.dT []))
theorem P4:PE X (.Dict [] [] pos) Vz:=λaf s σ H Q I h=>
 wpAny_Dict_empty ⟨.ref s.heap.objs.size,_,I.laid (λ_ _ q=>aaf _ q) (acy _) (RT s.heap I.big),rfl,h _ (I.aD.fresh (acy _))⟩
theorem WI:PE X (.Dict [] [] pos) acM:=λaf s σ H Q I h=>
 wpAny_Dict_empty ⟨.ref s.heap.objs.size,_,I.laid (a:=s.heap.objs.size) (o:=.dT []) (t':=s.toks) (λ_ _ q=>aaf _ q) (acy _) (Qd s.heap I.big),rfl,h _ (I.aD.fresh (acy _))⟩
structure M1(X:Cx)(o:Expr)(m:Str)(apos:Pos)(e:Expr)(dQ:Pos):Prop where
 base:attributeBase o m X.env (eval o X.env)=eval o X.env
 few:((backTo dQ (starEach [e] X.env)).all (λx=>!x.1)&&(backToKw dQ (keywordEach [] X.env)).all (λx=>x.1.isSome)
  && decide (([e]:List Expr).length+([]:List Keyword).length+(if([]:List Keyword).isEmpty then 0 else 1)<30))=true
 line:(apos.endLine==dQ.line)=true
 trees:backTo dQ (starEach [e] X.env)=[(false,eval e X.env)]
structure M2(X:Cx)(o:Expr)(m:Str)(apos:Pos)(e f:Expr)(dQ:Pos):Prop where
 base:attributeBase o m X.env (eval o X.env)=eval o X.env
 few:((backTo dQ (starEach [e,f] X.env)).all (λx=>!x.1)&&(backToKw dQ (keywordEach [] X.env)).all (λx=>x.1.isSome)
  && decide (([e,f]:List Expr).length+([]:List Keyword).length+(if([]:List Keyword).isEmpty then 0 else 1)<30))=true
 line:(apos.endLine==dQ.line)=true
 trees:backTo dQ (starEach [e,f] X.env)=[(false,eval e X.env),(false,eval f X.env)]
def B3(H:Hp)(a:Addr):Prop:=(∃ah,Rd H a (.dK ah))\/∃ah,Rd H a (.dT ah)
theorem Mn(I:Inv X af σ H s)(d:B3 H a):
  s.TypeIs (.ref a) "dict"/\(∀b,Value.ref a=.ref b->∃ob,s.heap.get? b=some ob/\ob.dict=none)/\(a==sysModules)=false:=by
 rcases d with⟨ah,e⟩|⟨ah,e⟩
 .obtain⟨_,hd,vs,_,dd⟩:=mw I.aD e;refine⟨dd.typeIs,λb q=>?_,hd⟩;cases q;obtain⟨ob,_,_,h1,h2,_⟩:=dd;exact⟨ob,h1,h2.2.1⟩
 .obtain⟨_,hd,xs,_,dd⟩:=lZ I.aD e;refine⟨dd.typeIs,λb q=>?_,hd⟩;cases q;obtain⟨ob,_,_,h1,h2,_⟩:=dd;exact⟨ob,h1,h2.2.1⟩
theorem R3(hu:A.units+1<cLine)(I:Inv X af σ H s)(g:fP H a y o)(ry:RelV y u)(h:∀w' s',Inv X af σ H s'->RelV (o.getD .aB) w'->Q w' s'):
  wpAny (model X.prog X.w) A (call (.builtin "dict.get") [.ref a,u]) Q E s:=by
 rcases g with⟨ah,k,e,ey,l⟩|⟨ah,k,b,e,ey,eb,l⟩
 .subst ey;obtain⟨z,hd,vs,rel,dd⟩:=mw I.aD e;refine call_meetsIn PySem.F.slot_dict_get dd.typeIs PySem.F.entry_dict_get (PySem.F.args_dict_get_2 _ _) (meets_dict_get (eZ X.prog X.w) a (o7 ry) hd) ⟨_,dd.mapOf,h _ _ (I.tok _) ?_⟩;rw[l];exact(rel.val k).getD rfl
 .subst ey;cases(show u=Value.ref b from ry);obtain⟨z,hd,xs,rel,dd⟩:=lZ I.aD e;refine call_meetsIn PySem.F.slot_dict_get dd.typeIs PySem.F.entry_dict_get (PySem.F.args_dict_get_2 _ _) (meetsH_dict_get (tupleKind (eZ X.prog X.w)) a b hd) ⟨aer hu,k,xs,rC I.aD eb,dd,h _ _ (I.tok _) ?_⟩;rw[l];exact(rel.val k).getD rfl
theorem X0(hu:A.units+1<cLine)(I:Inv X af σ H s)(g:fP H a y o)(ry:RelV y u)(rd:RelV d r)(h:∀w' s',Inv X af σ H s'->RelV (o.getD d) w'->Q w' s'):
  wpAny (model X.prog X.w) A (call (.builtin "dict.get") [.ref a,u,r]) Q E s:=by
 rcases g with⟨ah,k,e,ey,l⟩|⟨ah,k,b,e,ey,eb,l⟩
 .subst ey;obtain⟨z,hd,vs,rel,dd⟩:=mw I.aD e;refine call_meetsIn PySem.F.slot_dict_get dd.typeIs PySem.F.entry_dict_get (PySem.F.args_dict_get_3 _ _ _) (meets_dict_get_default (eZ X.prog X.w) a (o7 ry) hd r) ⟨_,dd.mapOf,h _ _ (I.tok _) ?_⟩;rw[l];exact(rel.val k).getD rd
 .subst ey;cases(show u=Value.ref b from ry);obtain⟨z,hd,xs,rel,dd⟩:=lZ I.aD e;refine call_meetsIn PySem.F.slot_dict_get dd.typeIs PySem.F.entry_dict_get (PySem.F.args_dict_get_3 _ _ _) (meetsH_dict_get_default (tupleKind (eZ X.prog X.w)) a b hd r) ⟨aer hu,k,xs,rC I.aD eb,dd,h _ _ (I.tok _) ?_⟩;rw[l];exact(rel.val k).getD rd
def abv(td ty:TE):TE:=λσ H Q=>td σ H λx H1=>∃a,x=.ref a/\B3 H1 a/\ty σ H1 λy H2=>∃o,fP H2 a y o/\Q (o.getD .aB) H2
def Q2(td ty tx:TE):TE:=λσ H Q=>td σ H λx H1=>∃a,x=.ref a/\B3 H1 a/\ty σ H1 λy H2=>tx σ H2 λz H3=>∃o,fP H3 a y o/\Q (o.getD z) H3
theorem aa8(hu:X.A.units+1<cLine)(ho:PE X o td)(he:PE X e ty)(m:M1 X o "get" apos e dQ):PE X (.Call (.Attribute o "get" apos) [e] [] dQ) (abv td ty):=by
 intro af s σ H Q I h;refine wpAny_Call_method m.base m.few m.line PySem.F.plainAttrs_dict PySem.F.slot_dict_get PySem.F.type_dict_get (ho.n I h λu s1 x H1 I1 rx q=>?_);obtain⟨a,ex,d,q1⟩:=q;subst ex;obtain rfl:u=Value.ref a:=rx;obtain⟨t1,t2,_⟩:=Mn I1 d;refine⟨t1,t2,?_⟩;rw[m.trees];refine afa rfl (Calls.evalArgs_plain (aeX (bX (he af s1 σ H1 _ I1 q1) ?_)))
 rintro iv s2 ⟨y,H2,I2,ry,ov,g,q2⟩
 refine afi ?_;exact R3 hu I2 g ry λw' s3 I3 d9=>⟨_,H2,I3,d9,q2⟩
theorem I_(hu:X.A.units+1<cLine)(ho:PE X o td)(he:PE X e ty)(hf:PE X f tx)(m:M2 X o "get" apos e f dQ):PE X (.Call (.Attribute o "get" apos) [e,f] [] dQ) (Q2 td ty tx):=by
 intro af s σ H Q I h;refine wpAny_Call_method m.base m.few m.line PySem.F.plainAttrs_dict PySem.F.slot_dict_get PySem.F.type_dict_get (ho.n I h λu s1 x H1 I1 rx q=>?_);obtain⟨a,ex,d,q1⟩:=q;subst ex;obtain rfl:u=Value.ref a:=rx;obtain⟨t1,t2,_⟩:=Mn I1 d;refine⟨t1,t2,?_⟩;rw[m.trees];refine afa rfl (Calls.evalArgs_plain (aeX (bX (he af s1 σ H1 _ I1 q1) λiv s2 ⟨y,H2,I2,ry,q2⟩=>
  aeX (bX (hf af s2 σ H2 _ I2 q2) λfv s3 ⟨z,H3,I3,rz,ov,g,q3⟩=>afi ?_))))
 exact X0 hu I3 g ry rz λw' s4 I4 d9=>⟨_,H3,I4,d9,q3⟩
theorem WJ(I:Inv X af σ H s)(e:Rd H a (.dK ah))(h:∀p s',H p=none->Inv X af σ (upd H p (.dK ah)) s'->Q (.ref p) s'):wpAny (model X.prog X.w) A (call (.type "dict") [.ref a]) Q E s:=by
 obtain⟨z,hd,vs,rel,dd⟩:=mw I.aD e;refine kt_call_dict hd dd (by rw[<- rel.length];exact z) λh' pH hs=>?_
 refine h _ _ (I.aD.fresh (acy _)) (I.laid (λb q hq=>?_) (acy _) (E2 z (adR.mpr (aez (ady I.big))) rel pH));exact(hs.2 b (ady (aco hq))).trans (aaf _ hq)
end L2
namespace Je
open PySem PySem.W PySem.Calls PyProof.Rows
theorem aaX:∀(ns) (vs),WellAll P h vs (ns.map WData.int)->IntsAre vs ns:=by
 intro ns
 induction ns with
 |nil=>
  intro vs w;rw[afK] at w;cases w;exact .nil
 |cons n ns ih=>
  intro vs w;rw[aax] at w;cases w with
  |cons a b=>
   cases a;exact .cons _ _ (ih _ b)
theorem Y5{l:OpenLaw}(hn:l.most=some n)
  (AD:l.row.toRowW.claim.pre args=true) (AV:WellAll P h vals args) :
  ∃a vs ns,vals=[Value.ref a]/\args=[WData.list (ns.map WData.int)]/\h.get? a=some { cls:=.type "list",data:=.seq vs.toArray }/\IntsAre vs ns/\ns.length<=n:=by
 have S4:=(pre_splitW AD).1;have hc:l.pre.holds [] { args:=args }=true:=(pre_splitW AD).2;obtain⟨d,r,rfl,h1,h2⟩:=hasAllW_cons S4;obtain rfl:=hasAllW_nil h2;obtain⟨xs,rfl,h3⟩:=hasW_list h1;obtain⟨ns,rfl⟩:=items_int h3;have hlen:ns.length<=n:=by
  unfold OpenLaw.pre at hc;have h4:(WTm.not (.lt (.lit (.int (n:Int))) (.len (.arg 0)))).holds [] { args:=[.list (ns.map .int)] }=true:=by
   have h4:=(holds_andW hc).1;rw[hn] at h4;exact h4
  have h5:=condW_of h4 (w_not (w_lt w_lit (w_len_list (w_arg rfl))));rw[List.length_map] at h5;refine Nat.le_of_not_lt λq=>?_
  have q':(n:Int)<((ns.length:Nat):Int):=by omega
  first
   |(rw[abL q'] at h5;exact absurd h5 (by decide))
   |(simp at h5;omega)
 cases AV with
 |cons w1 w2=>
  cases w2;cases w1 with
  |list ho Fk=>exact⟨_,_,ns,rfl,rfl,ho,aaX ns _ Fk,hlen⟩
theorem Q_(l:OpenLaw)(args:List WData):l.row.toRowW.claim.post args (.bool true) args=true:=
 postW_of (r:=l.row.toRowW) (X:=(true==true))
  (show WShape.has [] (.bool true) .bool=true by first|rfl|decide|simp[WShape.has,WShape.arms,WShape.armsAll])
  (show(WTm.eq .res (.lit (.bool true))).value [] { args:=args,res:=some (.bool true),after:=args }=some (.bool (true==true)) from w_eq_bool (w_res rfl) w_lit) rfl
theorem R1{l:OpenLaw}
  (hn:l.most=some n) (vf:d.params.defaults=[])
  (call:∀(w) (dM bq) (mg mb) (fa) (o) (pm cd doc) (a) (vs) (ns),
   Ground q loose [] XP w dM mg mb bq.heap->YP w bq.heap->
   bq.heap.get? fa=some o->o.data=.func (docDef d.name d.params d.body d.scope pm cd doc)->bq.heap.CodeRec cd d.name->mg d.name=some (.ref fa)->
   bq.heap.get? a=some { cls:=.type "list",data:=.seq vs.toArray }->IntsAre vs ns->ns.length<=n->bq.gens=#[]->
   codeAny (model l.prog w) callerA (.call (.ref fa) ⟨[.ref a],[]⟩) (λr s'=>r=.ok (.ret (.bool true))/\OldK bq.heap s'.heap/\s'.os=bq.os/\AllBare s'.gens) bq) :
  WalkO q loose XP YP l.row.toRowW d [] (λf vs=>PySem.call f vs):=by
 intro w dM bq mg mb G Y fa o pm cd doc dV kV ho hd k9 hD v_ hg args vals as AD adM jb AV vO;obtain rfl:dV=.none:=Dflts.none hD vf;obtain rfl:kV=.none:=Dflts.noKw hD;obtain⟨a,vs,ns,rfl,rfl,B0,hints,hlen⟩:=Y5 hn AD AV;refine enter_call (codeAny_mono (call w dM bq mg mb fa o pm cd doc a vs ns G Y ho (fd_plain hd) k9 v_ B0 hints hlen hg) λr s' hq=>?_);obtain⟨rfl,h2,h3,h4⟩:=hq;exact⟨.inl ⟨.bool true,.bool true,[],rfl,λ_=>rfl,.bool true,Q_ l _,λ_=>⟨List.Pairwise.nil,λ_ hm=>(nomatch hm)⟩⟩,h2,h3,h4⟩
end Je
namespace L2
open PySem PySem.Spec PyProof.Rows
theorem Cq:∀{vs} {ns},IntsAre vs ns->aN (ns.map V.int) vs
 |_,_,.nil=>.nil
 |_,_,.cons n t h=>.cons ⟨t,rfl⟩ (Cq h)
noncomputable abbrev cR:qO:=λ_ _ _ _ _ _=>False
noncomputable abbrev E0:XK:=λ_ _ _=>False
theorem mG:Passes cR X E0:=λ_ _ _ _ _ _ _ h=>h.elim
structure iy(K:PySem.W.Frag)(x qual:Str)(st:Stmt)(f:Addr)(fd:FuncData):Prop where
 ex:∃(oc:Value) (od:Option Addr) (kV doc pm:Value) (an:Option Addr) (aT ct:Value) (qZ:Array (Option Value)),
  fd=PySem.W.fnOf x qual (kc st) (g7 st) (cT st) .none kV doc pm an aT ct/\K.lookup f=some ⟨oc,od,.func fd,qZ⟩/\PySem.W.codeIn K aT qual=true
 kp:PySem.W.keepIn K (.ref f)=true
section
variable{K:PySem.W.Frag}
theorem iy.ok{st:Stmt}(F:iy K x qual st f fd)(S:nG N ps (cT st))(len:∀vs H Q E,sp vs H Q E->vs.length=ps.length)
  (Bo:∀(aT:{c:Value // c=fd.code}) (A) (outer) (s) (H) (vs) (Q) (E),bh k (A.deeper (envOfC qual (cT st) s.heap.objs.size f aT)) cm->sp vs H Q E->
   ∃t,gu (jF cR P w K mg base N qual (cT st) f aT A outer s H E cm).k_ (g7 st) t/\t { nx:=λ_ H'=>Q .aB H',rt:=Q } (start N vs) H):bP P w K mg base cR (k+1) f fd ps sp cm:=by
 obtain⟨oc,od,kV,doc,pm,an,aT,ct,qZ,rfl,lk,k9⟩:=F.ex;refine UU lk k9 S len λA outer s H vs Q E hr ou=>?_
 obtain⟨t,h,q⟩:=Bo ⟨aT,rfl⟩ A outer s H vs Q E hr ou;exact⟨t,h.k_,q⟩
theorem iy.binds{st:Stmt}(F:iy K x qual st f fd)
  (h:∀(kV doc pm) (an) (aT ct) (us),us.length=ps.length->bindArgs (PySem.W.fnOf x qual (kc st) (g7 st) (cT st) .none kV doc pm an aT ct) ⟨us,[]⟩=pure (ps.zip us)):Binds K fd ps []:=by
 obtain⟨oc,od,kV,doc,pm,an,aT,ct,qZ,rfl,lk,k9⟩:=F.ex;exact .all (h kV doc pm an aT ct)
theorem II{st:Stmt}{kV doc pm aT ct:Value}(l:K.lookup f=some ⟨oc,od,.func (PySem.W.fnOf x qual (kc st) (g7 st) (cT st) .none kV doc pm an aT ct),qZ⟩)
  (c:PySem.W.codeIn K aT qual=true) (k:PySem.W.keepIn K (.ref f)=true):iy K x qual st f (PySem.W.fnOf x qual (kc st) (g7 st) (cT st) .none kV doc pm an aT ct):=⟨⟨oc,od,kV,doc,pm,an,aT,ct,qZ,rfl,l,c⟩,k⟩
end
theorem fq(hr:bh k A cm):A.units+1<cLine:=aeH (Nat.add_le_add_left (by decide:1<=64) _) hr.units
theorem Fp(h:n<=1000):n<sizeLine:=aeH h (by decide)
theorem pv(i:Nat)(hN:X.N[i]? = some x:=by rfl)(hv:AY X.env.scope x:=by first|exact Or.inl rfl|exact Or.inr (Or.inl rfl)|exact Or.inr (Or.inr rfl))(hd:(x==("__debug__":Str))=false:=by decide)
  (k9:(x==("__classdict__":Str))=false:=by decide):PE X (.Name x pos) (kH i):=Ai hN hv hd k9
theorem Zw{A B:Prop}(h:B):if false=true then A else B:=by
 rw[acZ abR];exact h
theorem Xx{A B:Prop}(h:A):if true=true then A else B:=by
 rw[if_pos rfl];exact h
def aE(H H':Hp):Prop:=∀b o,H b=some o->H' b=some o
theorem aE.refl(H:Hp):aE H H:=λ_ _ h=>h
theorem aE.trans(a:aE H H1)(b:aE H1 H2):aE H H2:=λc o h=>b c o (a c o h)
theorem aE.free(e:aE H H')(h:H' l=Option.none):H l=Option.none:=by
 cases q:H l with
 |none=>rfl
 |some o=>
  rw[e l o q] at h;cases h
theorem abN:fN X (.builtin "len") (λxs H Q=>∃a ah,xs=[V.ref a]/\H a=some (.dK ah)/\Q (.int ah.length) H):=by
 intro af s σ H xs us Q I r h;obtain⟨a,ah,rfl,ha,q⟩:=h;obtain⟨u,rfl,ru⟩:=vals1 r;cases ru;exact Ry I (.inl ha) λt s' I'=>⟨.int ah.length,H,I',⟨t,rfl⟩,q⟩
noncomputable def YW(a:Addr)(cls:Value)(de:Option Addr):HO:=.ext λh=>∃oe,h.get? a=some oe/\oe.cls=cls/\(∀dx,de=some dx->oe.dict=some dx/\PySem.W.notCls oe=true)
def EN(ob:Obj)(a:Addr)(cls:Value)(de:Option Addr):HO:=.bT ob (YW a cls de)
noncomputable def Pe(n:Nat)(t:Tok):Str->Option Value:=λy=>if y="slot" then some (.int n t) else none
def Ph(dx:Addr)(n:Nat):HO:=.ext λh=>∃t,h.Ns1 dx (Pe n t)
noncomputable def uQ(o:Obj):Option Value:=match o.data with
 |.fields vs=>vs[2]?
 |_=>none
def Kd(h h':Heap):Prop:=∀(a:Nat) (o),h.objs[a]? = some o->∃o',h'.objs[a]? = some o'/\o'.dict=o.dict/\uQ o'=uQ o
theorem Kd.at(k:Kd h h')(e:h.get? a=some o)(e':h'.get? a=some o'):o'.dict=o.dict/\uQ o'=uQ o:=by
 have raw:∀{h:Heap} {o},h.get? a=some o->h.objs[a]? = some o:=λ{h o} e=>by
  unfold Heap.get? at e
  split at e
  .cases e
  .exact e
 obtain⟨u,q,d⟩:=k a o (raw e);rw[raw e'] at q;cases q;exact d
def acV(h:Heap)(H:Hp)(nw:Addr->Prop)(e:Addr):Option Addr->Prop
 |none=>True
 |some n=>∃oe dx t,h.get? e=some oe/\oe.dict=some dx/\h.Ns1 dx (Pe n t)/\H dx=none/\nw dx
def NF(h:Heap)(H:Hp)(nw:Addr->Prop)(e:Addr)(iP:Option Addr):Prop:=(∃oe,h.get? e=some oe/\uQ oe=some .none)/\acV h H nw e iP
structure YI(h:Heap)(H:Hp)(h0:Heap)(e:Addr)(cls:Value)(iP:Option Addr):Prop where
 py:NF h H (λa=>h0.get? a=none) e iP
 nw:h0.get? e=none
 fr:H e=none
 ob:∃oe vs a0,h.get? e=some oe/\oe.cls=cls/\vs[0]? = some a0/\oe.data=.fields vs/\vs[1]? = some .none
theorem Un.dead(u:Un fs [] H H' h h')(n:h'.get? a=none):h.get? a=none:=by
 cases q:h.get? a with
 |none=>rfl
 |some o=>
  obtain⟨o',e⟩:=u.there a o q (by simp);rw[n] at e;cases e
abbrev XS:=Value->Option Addr->St->Hp->Prop
def abj(X:Cx)(E:XS):Prop:=∀(af) (σ) (H) (s) (e) (cls) (iP),Inv X af σ H s->YI s.heap H X.dM.heap e cls iP->E cls iP σ H->X.xe (.ref e) s
theorem Inv.apart(I:Inv X af σ H s)(hx:X.ex=[])(n:s.heap.get? x=none):X.dM.heap.get? x=none/\x≠X.env.locals/\(∀y c,X.env.cells.lookup y=some c->c≠x)/\∀p∈X.pn++af,p.1≠x:=by
 refine⟨?_,λz=>?_,λy c e z=>?_,λp hp z=>?_⟩
 .have u:=I.base;rw[hx] at u;exact u.dead n
 .obtain⟨m,⟨o,_,_,ho,_⟩,_⟩:=I.loc;rw[<- z,n] at ho;cases ho
 .obtain⟨v,o,ho,_⟩:=I.cell y c e;rw[z,n] at ho;cases ho
 .have:=(I.pin p hp).1;rw[z,n] at this;cases this
noncomputable abbrev Apart(X:Cx)(af:List (Addr×Obj))(a:Addr):Prop:=X.dM.heap.get? a=none/\a≠X.env.locals/\(∀y c,X.env.cells.lookup y=some c->c≠a)/\∀p∈X.pn++af,p.1≠a
structure ZV(X:Cx)(af:List (Addr×Obj))(σ:St)(H:Hp)(e:Addr)(cls:Value)(iP:Option Addr)(s:Shared):Prop where
 py:NF s.heap H (Apart X af) e iP
 inv:Inv X af σ H s
 fr:H e=none
 ap:X.dM.heap.get? e=none/\e≠X.env.locals/\(∀y c,X.env.cells.lookup y=some c->c≠e)/\∀p∈X.pn++af,p.1≠e
 ob:∃oe vs a0 T oT ts,s.heap.get? e=some oe/\oe.cls=cls/\vs[0]? = some a0/\oe.data=.fields vs/\vs[1]? = some (.ref T)/\T≠e/\H T=none/\(X.dM.heap.get? T=none/\T≠X.env.locals/\(∀y c,X.env.cells.lookup y=some c->c≠T)/\∀p∈X.pn++af,p.1≠T)/\s.heap.get? T=some oT/\oT.data=.fields ts/\(ts[3]? = some .none\/ts[3]? = some (rawInt X.env.locals))
def Qm(X:Cx)(E:XS):Prop:=∀(af) (σ) (H) (s) (e) (cls) (iP),ZV X af σ H e cls iP s->E cls iP σ H->X.xe (.ref e) s
theorem Inv.aaz(I:Inv X af σ H s)(fr:H e=none)(ap:Apart X af e)(ok:cP X.prog X.w (upd H e u) s.heap e u):Inv X af σ (upd H e u) s:=by
 obtain⟨a1,a2,a3,a4⟩:=ap;have ne:∀{b} {o},H b=some o->b≠e:=λ{b o} q z=>by rw[z,fr] at q;cases q
 refine⟨I.ok,I.os,I.bare,⟨I.base.keep,I.base.slot,λb o q n hx=>?_,I.base.there,λb xs q=>?_,λb o u q=>?_,λb ps q=>?_⟩,I.loc,I.cell,?_,λx c q=>?_,λp hp=>?_,λb o q=>?_,I.len,I.hq.mono (λb o u q=>by rw[aG (ne q)];exact q) λb t q=>by rw[aG (ne q)];exact q⟩
 .rw[aG λz=>by rw[z,a1] at q;cases q];exact I.base.free b o q n hx
 .have w:=I.base.jN b xs q;rw[aG (ne w)];exact w
 .have w:=I.base.jm b o u q;rw[aG (ne w)];exact w
 .obtain⟨more,w⟩:=I.base.kM b ps q;exact⟨more,by rw[aG (ne w)];exact w⟩
 .rw[aG λz=>a2 z.symm];exact I.free
 .rw[aG (a3 x c q)];exact I.iJ x c q
 .obtain⟨p1,p2,p3⟩:=I.pin p hp;exact⟨p1,by rw[aG (a4 p hp)];exact p2,p3⟩
 .by_cases z:b=e
  .subst z;rw[bg] at q;cases q;exact ok
  .rw[aG z] at q;exact(I.aD b o q).iE (λ_ _ _ q=>q) (λc q=>by rw[aG (ne q)];exact q) λc xs q=>by rw[aG (ne q)];exact q
def LG(H H':Hp)(a:Addr)(cls:Value)(iP:Option Addr):Prop:=∃ob vs,ob.data=.fields vs/\vs[2]? = some .none/\match iP with
 |none=>H'=upd H a (EN ob a cls none)
 |some n=>∃dx,dx≠a/\H dx=none/\H'=upd (upd H dx (Ph dx n)) a (EN ob a cls (some dx))
theorem LG.same(k:LG H H' a cls iP)(fr:H a=none)(q:H b=some o):H' b=some o:=by
 obtain⟨ob,vs,_,_,k⟩:=k;cases iP with
 |none=>subst k;rw[aG (cu q fr)];exact q
 |some n=>obtain⟨dx,ne,d,rfl⟩:=k;rw[aG (cu q fr),aG (cu q d)];exact q
theorem abu(Iv:Nat->Shared->Prop)
  (turn:∀n s,Iv n s->wpAny (model prog w) A (pyNext it) (λr s1=>match r with
   |none=>R (.ok .next) s1
   | some v=>wpAny (model prog w) A (letOwnedTupleGo tg it v) (λ_ oq=>wpAny (model prog w) A (assign tg env v) (λ_ s2=>
     wpAny (model prog w) A (forIn ifs true λc r=>if r=true then do let ok <- isTrue c env (eval c env);pure (ForInStep.yield ok) else pure (ForInStep.yield r)) (λok s3=>
      if ok=true then wpAny (model prog w) A (eval elt env) (λx s4=>
       wpAny (model prog w) A (call (.builtin "list.append") [acc,x]) (λ_ s5=>∃m,m<n/\Iv m s5) (λ_ _=>False) s4) (λ_ _=>False) s3
      else ∃m,m<n/\Iv m s3) (λ_ _=>False) s2) (λ_ _=>False) oq) (λ_ _=>False) s1) (λ_ _=>False) s)
  (n:Nat) (hn:Iv n s):codeAny (model prog w) A (.compLoop (.ListComp elt [⟨tg,iter,ifs,0⟩] scope pos) 0 it acc env) R s:=by
 have ff:∀{E:Value->Shared->Prop} (x) (s),False->E x s:=λ_ _ f=>f.elim
 refine codeAny_loop rfl Iv (λk s0 hI=>?_) n hn;refine wpAny_noted ?_;rw[compTurn_list];refine aae (wpAny_standAt (aae (aeu (turn k s0 hI) (λr s1 h1=>?_) ff)));cases r with
 |none=>exact adg h1
 |some v=>
  refine aae (aeu h1 (λ_ oq gz=>aae (aeu gz (λ_ s2 h2=>aae (aeu h2 (λok s3 h3=>?_) ff)) ff)) ff);cases ok with
  |false=>exact adg ⟨rfl,h3⟩
  |true=>exact aae (aae (aeu h3 (λx s4 h4=>aae (aeu h4 (λ_ s5 h5=>adg (adg ⟨rfl,h5⟩)) ff)) ff))
noncomputable def frees(sc:Scope):List Str:=(sc.names.filter λx=>x.2 == .free).map (·.1)
noncomputable def kZ(env:Env):List (Str×NameKind)->List (Str×Addr)->List (Str×Addr)
 |[],cs=>cs
 |(n,k)::r,cs=>kZ env r (if k == .free then(n,(env.cells.lookup n).getD 0)::cs else cs)
theorem K6(h:∀x∈frees sc,∃c,env.cells.lookup x=some c):closureFor sc env=pure (kZ env sc.names []):=by
 have key:∀(l) (cs),(∀x∈(l.filter λx=>x.2 == .free).map (·.1),∃c,env.cells.lookup x=some c)->
   (forIn l cs λx r=>(do
    let(name,kind):=x
    if kind == .free then do
     let a <- cellOf env name
     pure (ForInStep.yield ((name,a)::r))
    else pure (ForInStep.yield r):Sem (ForInStep (List (Str×Addr)))))=pure (kZ env l cs):=by
  intro l
  induction l with
  |nil=>intro cs _;rfl
  |cons p r ih=>
   obtain⟨n,k⟩:=p;intro cs h;rw[List.forIn_cons]
   by_cases hk:(k==NameKind.free)=true
   .obtain⟨c,hc⟩:=h n (by simp[hk]);have Cz:=ih ((n,c)::cs) λx hx=>h x (by simp only[afv,hk,if_true,aax,abG];exact Or.inr hx)
    have e:cellOf env n=pure c:=by unfold cellOf;rw[hc]
    simp only[hk,if_true,e,pure_bind,kZ,hc,aeV];exact Cz
   .have Cz:=ih cs λx hx=>h x (by simp only[afv,hk];exact hx)
    simp only[hk,kZ,aef,afu,pure_bind];exact Cz
 unfold closureFor;have k:=key sc.names [] h;simp only[bind_pure] at k ⊢
 first
  |exact k
  |(simp only[pure_bind];exact k)
theorem JW:∀{l} {cs} {x} {c},(kZ env l cs).lookup x=some c->
  cs.lookup x=some c\/((x,NameKind.free)∈l/\c=(env.cells.lookup x).getD 0)
 |[],_,_,_,h=>.inl h
 |(n,k)::r,cs,x,c,h=>by
  rcases JW (l:=r) h with q|⟨q,e⟩
  .by_cases hk:(k==NameKind.free)=true
   .rw[if_pos hk,ad0] at q
    by_cases hx:(x==n)=true
    .rw[hx] at q;have e:=eq_of_beq hx;subst e;have hk':k=.free:=by cases k<;>first|rfl|exact absurd hk (by decide)
     subst hk';exact .inr ⟨aat,(ads q).symm⟩
    .rw[Bool.not_eq_true] at hx;rw[hx] at q;exact .inl q
   .rw[acZ hk] at q;exact .inl q
  .exact .inr ⟨aad _ q,e⟩
theorem BB:∀{l} {cs} {x},(∃c,cs.lookup x=some c)\/(x,NameKind.free)∈l->∃c,(kZ env l cs).lookup x=some c
 |[],_,_,h=>h.elim id λz=>nomatch z
 |(n,k)::r,cs,x,h=>by
  refine BB (l:=r) ?_;rcases h with⟨c,h⟩|h
  .left
   by_cases hk:(k==NameKind.free)=true
   .rw[if_pos hk,ad0]
    by_cases hx:(x==n)=true
    .rw[hx];exact⟨_,rfl⟩
    .rw[Bool.not_eq_true] at hx;rw[hx];exact⟨c,h⟩
   .rw[acZ hk];exact⟨c,h⟩
  .rcases abG.mp h with e|h
   .left
    cases e;rw[if_pos (by decide),ad0,aew];exact⟨_,rfl⟩
   .exact .inr h
def dg(X:Cx)(N:List Str)(sc:Scope)(s3:Shared)(H3:Hp)(fp:List Addr):Cx:=
 { X with N:=N,dM:=s3,mJ:=H3,env:=compEnvC sc (kZ X.env sc.names []) s3.heap.objs.size X.env,outer:=X.stack,stack:=X.stack,ex:=fp,fn:=λ_=>false,pn:=[],xe:=λ_ _=>False }
noncomputable def ko(js:List (Option Nat))(σ:St):St:=js.map λj=>match j with
 |none=>none
 |some j=>(σ[j]?).join
noncomputable def nF(N:List Str)(sc:Scope):List Str->List (Option Nat)->Bool
 |[],[]=>true
 |x::r,none::js=>nF N sc r js
 |x::r,some j::js=>decide (N[j]? = some x)&&decide (sc.names.lookup x=some .free)&&nF N sc r js
 |_,_=>false
theorem AU:∀{M} {js},nF N sc M js=true->js.length=M.length
 |[],[],_=>rfl
 |_::r,none::js,h=>by
  have:=AU (js:=js) h;simp[this]
 |_::r,some j::js,h=>by
  unfold nF at h;have:=AU ((abm _ _).mp h).2;simp[this]
 |[],_::_,h=>by cases h
 |_::_,[],h=>by cases h
theorem BO:∀{M} {js}{i j:Nat} {x},nF N sc M js=true->M[i]? = some x->js[i]? = some (some j)->N[j]? = some x/\sc.names.lookup x=some .free
 |[],_,_,_,_,_,h,_=>by simp at h
 |_::_,[],_,_,_,h,_,_=>by cases h
 |y::r,none::js,0,j,x,h,h1,h2=>by simp at h2
 |y::r,some q::js,0,j,x,h,h1,h2=>by
  simp at h1 h2;subst h1 h2;unfold nF at h;obtain⟨a,b⟩:=(abm _ _).mp ((abm _ _).mp h).1;exact⟨abd a,abd b⟩
 |y::r,none::js,i+1,j,x,h,h1,h2=>BO (js:=js) h (by simpa using h1) (by simpa using h2)
 |y::r,some q::js,i+1,j,x,h,h1,h2=>by
  unfold nF at h;exact BO ((abm _ _).mp h).2 (by simpa using h1) (by simpa using h2)
structure lB(X:Cx)(M:List Str)(js:List (Option Nat))(sc:Scope):Prop where
 kind:sc.kind=.function
 uG:∀y∈sc.names,y.2≠.cell
 loc:∀y∈sc.names,y.2=.local->sc.names.lookup y.1=some .local
 DX:nF X.N sc M js=true
 free:∀x∈frees sc,X.env.kindOf x=some .cell\/X.env.kindOf x=some .free
 nd:M.Nodup
def Eo(wi:TI)(js:List (Option Nat))(g:TG)(tt:TT)(te:TE):TE:=λσ H Q=>wi σ H λJ H1=>∀D,H1 D=none->
 ∃W:Nat->Nat->St->Hp->Prop,(∃m,W 0 m (ko js σ) (upd H1 D (.lst [])))/\∀i m aC H',W i m aC H'->
  (J.stop i H'/\Q (.ref D) H')\/(J.go i H'/\∀x H2,J.w6 i H' x H2->g x aC H2 λcH H3=>tt cH H3 λb H4=>
   if b=true then te cH H4 λy H5=>∃xs,H5 D=some (.lst xs)/\xs.length<sizeLine/\∃m',m'<m/\W (i+1) m' cH (upd H5 D (.lst (xs++[y])))
   else ∃m',m'<m/\W (i+1) m' cH H4)
def qE(X:Cx)(ifs:List Expr)(t:TT):Prop:=
 ∀(af) (s) (σ) (H) (Q),Inv X af σ H s->t σ H Q->
  wpAny (model X.prog X.w) X.A (forIn ifs true λc r=>if r=true then do let ok <- isTrue c X.env (eval c X.env);pure (ForInStep.yield ok) else pure (ForInStep.yield r)) (TP X af σ Q) X.xe s
theorem Hg(h:PT X c t):qE X [c] t:=λaf s σ H Q I q=>wpAny_tests_one (h af s σ H Q I q)
theorem Inv.comp(S:lB X M js sc)(I:Inv X af σ H3 s3)
  (hf:∀b∈fp,g9 X af H3 b) (cN:∀b∈fp,b<s3.heap.objs.size) (hn:h'.Ns s3.heap.objs.size λ_=>none) (hk:∀b o,s3.heap.get? b=some o->h'.get? b=some o) :
  Inv (dg X M sc s3 H3 fp) [] (ko js σ) H3 { s3 with heap:=h',toks:=tk }:=by
 have cl:∀{x} {c},(kZ X.env sc.names []).lookup x=some c->X.env.cells.lookup x=some c:=λ{x c} e=>by
  rcases JW e with q|⟨q,e'⟩
  .cases q
  .obtain⟨c',hc⟩:=I.ok.has x (S.free x (adp.mpr ⟨(x,.free),adz.mpr ⟨q,rfl⟩,rfl⟩));rw[hc] at e' ⊢;rw[e'];rfl
 have jv:=ad5 I.ok.jv I.sz;have lk:∀{x},sc.names.lookup x=some .free->(relabel sc X.env).names.lookup x=some .cell\/(relabel sc X.env).names.lookup x=some .free:=λ{x} e=>by
  have key:∀(l:List (Str×NameKind)),l.lookup x=some .free->(l.map λ(n,k)=>if(k==NameKind.free&&X.env.scope.kind == .function&&X.env.kindOf n==some .cell) then(n,NameKind.cell) else(n,k)).lookup x=some .cell\/
    (l.map λ(n,k)=>if(k==NameKind.free&&X.env.scope.kind == .function&&X.env.kindOf n==some .cell) then(n,NameKind.cell) else(n,k)).lookup x=some .free:=by
   intro l
   induction l with
   |nil=>intro e;cases e
   |cons p r ih=>
    obtain⟨n,k⟩:=p;intro e;rw[ad0] at e;rw[aax]
    by_cases hx:(x==n)=true
    .rw[hx] at e;have e':=ads e;subst e';dsimp only
     split
     .left;rw[ad0,hx]
     .right;rw[ad0,hx]
    .rw[Bool.not_eq_true] at hx;rw[hx] at e;dsimp only
     split<;>(rw[ad0,hx];exact ih e)
  exact key sc.names e
 have kf:∀{x},((relabel sc X.env).names.lookup x=some .cell\/(relabel sc X.env).names.lookup x=some .free)->(x,NameKind.free)∈sc.names:=λ{x} e=>by
  have key:∀(l:List (Str×NameKind)),(∀y∈l,y.2≠.cell)->((l.map λ(n,k)=>if(k == NameKind.free&&X.env.scope.kind == .function&&X.env.kindOf n == some .cell) then(n,NameKind.cell) else(n,k)).lookup x=some .cell\/
    (l.map λ(n,k)=>if(k==NameKind.free&&X.env.scope.kind == .function&&X.env.kindOf n==some .cell) then(n,NameKind.cell) else(n,k)).lookup x=some .free)->(x,NameKind.free)∈l:=by
   intro l
   induction l with
   |nil=>intro _ e;rcases e with e|e<;>cases e
   |cons p r ih=>
    obtain⟨n,k⟩:=p;intro nc e;rw[aax] at e
    by_cases hx:(x==n)=true
    .have e0:=eq_of_beq hx;subst e0;have R0:k=.free:=by
      dsimp only at e
      split at e
      .rename_i hc;have:=((abm _ _).mp ((abm _ _).mp hc).1).1;cases k<;>first|rfl|exact absurd this (by decide)
      .rw[ad0,aew] at e;rcases e with e|e
       .exact absurd (ads e) (nc _ aat)
       .exact ads e
     rw[R0];exact aat
    .rw[Bool.not_eq_true] at hx;refine aad _ (ih (λy hy=>nc y (aad _ hy)) ?_);dsimp only at e
     split at e<;>(rw[ad0,hx] at e;exact e)
  exact key sc.names S.uG e
 refine⟨⟨I.ok.mod,S.kind,I.ok.glob,I.ok.blt,acy _,λx y c h1 h2=>I.ok.inj x y c (cl h1) (cl h2),λx hx=>BB (.inr (kf hx)),(λx c h _=>by cases h),I.ok.hd,I.ok.frames,.inl rfl,λb hb=>⟨ady (cN b hb),λx c e=>(hf b hb).2.2.2.2.1 x c (cl e)⟩,
   I.bs,jv,λb o e hb=>?_,λb hb xD=>?_,I.stack,I.D_⟩,
  rfl,I.bare,Un.kept hk,⟨_,hn,λi x v h1 h2 h3=>?_⟩,λx c e=>?_,I.aD.fresh (acy _),λx c e=>I.iJ x c (cl e),λp hp=>absurd (show p∈([]:List (Addr×Obj)) from hp) (by simp),I.aD.kept hk,?_,I.hq⟩
 .rcases(hf b hb).2.2.2.1 with z|z
  .exact I.ok.ue b o e z
  .exact absurd (adF (aco e) (ad5 I.ok.jv z)) (ad8 _)
 .rcases abG.mp (I.Ga b xD) with z|z
  .exact(hf b hb).2.1 z
  .exact(hf b hb).2.2.1 z
 .have hlen:=AU S.DX;have hi:i<js.length:=by rw[hlen];exact(adO.mp h1).1
  unfold ko at h2;rw[adA,acr hi,Option.map_some] at h2;exists hj,js[i],j,h2;have lW:(σ[j]?).join=some v:=ads h2;obtain⟨a,b⟩:=BO S.DX h1 (by rw[acr hi,hj]);have hs:σ[j]? = some (some v):=by
   exists q,σ[j]?,z,lW;rw[show z=some v from lW]
  have AO:=S.free x (adp.mpr ⟨(x,.free),adz.mpr ⟨PySem.mem_of_lookup b,rfl⟩,rfl⟩);obtain⟨m,hm,hl⟩:=I.loc;obtain⟨u,ru,l⟩:=hl j x v a hs (AO.elim (λz=>.inr (.inl z)) λz=>.inr (.inr z));refine⟨u,ru,.inr ⟨lk b,?_⟩⟩;rcases l with⟨k,_⟩|⟨_,c,e,hc⟩
  .rcases AO with z|z<;>(rw[z] at k;cases k)
  .obtain⟨c',rB⟩:=BB (.inr (PySem.mem_of_lookup b));have e':=cl rB;rw[e] at e';have e2:=ads e';subst e2;obtain⟨o,ho,hd⟩:=hc;exact⟨c,rB,o,hk _ _ ho,hd⟩
 .obtain⟨v,o,ho,hd⟩:=I.cell x c (cl e);exact⟨v,o,hk _ _ ho,hd⟩
 .unfold ko;rw[List.length_map];exact AU S.DX
theorem Inv.La(I:Inv X af σ H3 s3)(hf:∀b∈fp,g9 X af H3 b)
  (J:Inv (dg X M sc s3 H3 fp) MV aC H' s') (hs:Heap.SameBut s3.heap.objs.size s'.heap h'):Inv X af σ H' { s' with heap:=h' }:=by
 have B:=J.base;have ne:∀{b} {o},s3.heap.get? b=some o->b≠s3.heap.objs.size:=λe=>ady (aco e)
 have B':Un (dJ X.stack) fp H3 H' s3.heap h':=⟨λb o e n hb hx=>(hs.2 b (ne e)).trans (B.keep b o e n hb hx),λb o e n hb hx=>let⟨sl,q⟩:=B.slot b o e n hb hx;⟨sl,(hs.2 b (ne e)).trans q⟩,B.free,
  λb o e hx=>let⟨o',q⟩:=B.there b o e hx;⟨o',(hs.2 b (ne e)).trans q⟩,B.jN,B.jm,B.kM⟩
 have fr:H' s3.heap.objs.size=none:=J.free;refine I.Yw J.os B' (λb u e=>?_) J.bare λb hb=>⟨(hf b hb).2.2.2.1,(hf b hb).2.1,(hf b hb).2.2.2.2.1,(hf b hb).2.2.2.2.2⟩
 refine(J.aD b u e).iE (λc v hc q=>(hs.2 c ?_).trans q) (λ_ q=>q) λ_ _ q=>q
 rintro rfl
 rcases hc with rfl|hc
 .rw[fr] at e;cases e
 .rw[fr] at hc;cases hc
theorem LN
  {Q:VK}{RR:Value->Addr->Result->Shared->Prop} (S:lB X M js sc) (hc:X.calm=true\/J.rg=true) (I2:Inv X af σ H2 s2) (T:Turn X.prog X.w X.K tg J fp it tn) (st:tn 0 s2.heap) (hf:∀b∈fp,g9 X af H2 b)
  (hb:∀s3 H3 fp,PG (dg X M sc s3 H3 fp) tg g/\qE (dg X M sc s3 H3 fp) ifs tt/\PE (dg X M sc s3 H3 fp) elt te)
  (h:∀D,H2 D=none->∃W:Nat->Nat->St->Hp->Prop,(∃m,W 0 m (ko js σ) (upd H2 D (.lst [])))/\∀i m aC H',W i m aC H'->
   (J.stop i H'/\Q (.ref D) H')\/(J.go i H'/\∀x H2,J.w6 i H' x H2->g x aC H2 λcH H3=>tt cH H3 λb H4=>
    if b=true then te cH H4 λy H5=>∃xs,H5 D=some (.lst xs)/\xs.length<sizeLine/\∃m',m'<m/\W (i+1) m' cH (upd H5 D (.lst (xs++[y])))
    else ∃m',m'<m/\W (i+1) m' cH H4))
  (hR:∀D s3 H3 s' aC H',Inv X af σ H3 s3->(∀b∈fp,g9 X af H3 b)->Inv (dg X M sc s3 H3 fp) [] aC H' s'->Q (.ref D) H'->RR (.ref D) s3.heap.objs.size (.ok .next) s') :
  wpAny (model X.prog X.w) X.A (newList []) (λacc AL=>wpAny (model X.prog X.w) X.A (newFunctionEnv sc X.env.globals (kZ X.env sc.names []) [] X.env.qual none .none (some X.env)) (λHH aaN=>
   codeAny (model X.prog X.w) X.A (.compStart (.ListComp elt [⟨tg,iter,ifs,0⟩] sc pos) 0 (.ref it) acc { HH with scope:=relabel sc X.env }) (RR acc HH.locals) aaN) X.xe AL) X.xe s2:=by
 have QC:=I2.aD.fresh (acy _);obtain⟨W,⟨m0,w0⟩,turn⟩:=h _ QC;have I3:Inv X af σ (upd H2 s2.heap.objs.size (.lst [])) { s2 with heap:=s2.heap.push { cls:=.type "list",data:=.seq ([]:List Value).toArray } }:=
  I2.laid (λ_ _ q=>aaf _ q) (acy _) ⟨adZ _,[],0,.nil,ac9 _ rfl⟩
 have FU:∀b∈fp,b<s2.heap.objs.size:=λb hb=>let⟨_,e,_⟩:=T.obj _ _ st b hb;aco e
 have GU:∀b∈fp,g9 X af (upd H2 s2.heap.objs.size (.lst [])) b:=λb hb=>⟨by rw[aG (ady (FU b hb))];exact(hf b hb).1,(hf b hb).2⟩
 have hsz:(s2.heap.push { cls:=.type "list",data:=.seq ([]:List Value).toArray }).objs.size=s2.heap.objs.size+1:=ae9 ..;refine aed (wpAny_newFunctionEnv S.uG (λy hy=>nomatch hy) (λh1 Bx VV=>?_) S.kind);generalize vA:({ s2 with heap:=s2.heap.push { cls:=.type "list",dict:=none,data:=.seq ([]:List Value).toArray } }:Shared)=s3 at *;have K5:∀b o,s3.heap.get? b=some o->h1.get? b=some o:=λb o e=>(VV.2 b (ady (aco e))).trans (aaf _ e)
 have OA:∀b∈fp,b<s3.heap.objs.size:=λb hb=>by rw[<- vA];show b<(s2.heap.push _).objs.size;rw[hsz];exact afH (FU b hb)
 have I4:Inv (dg X M sc s3 (upd H2 s2.heap.objs.size (.lst [])) fp) [] (ko js σ) (upd H2 s2.heap.objs.size (.lst [])) { s3 with heap:=h1,toks:=s3.toks+([]:List (Str×Value)).length }:=I3.comp S GU OA Bx K5;obtain⟨hg,ht,he⟩:=hb s3 (upd H2 s2.heap.objs.size (.lst [])) fp;have qe:∀{H'},(∀b∈fp,H' b=none)->∀b∈fp,g9 (dg X M sc s3 (upd H2 s2.heap.objs.size (.lst [])) fp) [] H' b:=λ{H'} hn b hb=>
  ⟨hn b hb,ady (OA b hb),I4.ok.sM b hb,.inl hb,(I4.ok.ze b hb).2,λp hp=>absurd (show p∈([]:List (Addr×Obj)) from hp) (by simp)⟩
 have Jh:=T.keep _ _ _ st λb hb o e=>K5 b o (by rw[<- vA];exact aaf _ e)
 have Yk:∀b∈fp,upd H2 s2.heap.objs.size (.lst []) b=none:=λb hb=>(GU b hb).1
 have loop:codeAny (model X.prog X.w) X.A (.compLoop (.ListComp elt [⟨tg,iter,ifs,0⟩] sc pos) 0 (.ref it) (.ref s2.heap.objs.size) (compEnvC sc (kZ X.env sc.names []) s3.heap.objs.size X.env)) (RR (.ref s2.heap.objs.size) s3.heap.objs.size)
   { s3 with heap:=h1,toks:=s3.toks+([]:List (Str×Value)).length }:=by
  refine abu (λn s'=>∃i aC H',Inv (dg X M sc s3 (upd H2 s2.heap.objs.size (.lst [])) fp) [] aC H' s'/\tn i s'.heap/\(∀b∈fp,H' b=none)/\W i n aC H') ?_ m0 ⟨0,_,_,I4,Jh,Yk,w0⟩
  rintro n s5 ⟨i,zB,H5,I5,rV,kj,w5⟩
  rcases turn i n zB H5 w5 with⟨stop,q⟩|⟨go,step⟩
  .refine bX (T.done (dg X M sc s3 (upd H2 s2.heap.objs.size (.lst [])) fp) rfl rfl rfl hc i [] s5 zB H5 _ I5 (qe kj) rV stop) ?_
   rintro r s6 ⟨hr,I6⟩
   subst hr;exact hR _ _ _ _ _ _ I3 GU I6 q
  .refine bX (T.item (dg X M sc s3 (upd H2 s2.heap.objs.size (.lst [])) fp) rfl rfl rfl hc i [] s5 zB H5 _ I5 (qe kj) rV go) ?_
   rintro r s6 ⟨u,hr,h6⟩
   subst hr;refine bX h6 ?_
   rintro _ s7 ⟨x,H7,I7,r7,y7,Cf,Rm⟩
   have Yd:=I7.pinned (qe Rm) (T.obj _ _ Cf);have back:∀{pL} {H8} {s8},Inv (dg X M sc s3 (upd H2 s2.heap.objs.size (.lst [])) fp) ([]++wR fp s7.heap) pL H8 s8->tn (i+1) s8.heap/\(∀b∈fp,H8 b=none):=λ{pL H8 s8} I8=>
    ⟨T.keep _ _ _ Cf λb hb o e=>(I8.pin (b,o) (aaY _ (aaY _ (A_ hb e)))).1,λb hb=>by
     obtain⟨o,e,_⟩:=T.obj _ _ Cf b hb;exact(I8.pin (b,o) (aaY _ (aaY _ (A_ hb e)))).2.1⟩
   refine bX (hg _ s7 zB H7 x u _ Yd r7 (step x H7 y7)) ?_
   rintro _ s8 ⟨pL,H8,I8,q8⟩
   refine CL (ht _ s8 pL H8 _ I8 q8) λok s9 H9 I9 q9=>?_
   cases ok with
   |false=>
    rw[acZ abR] at q9 ⊢;obtain⟨m',hm,w9⟩:=q9;obtain⟨a9,b9⟩:=back I9;exact⟨m',hm,i+1,pL,H9,I9.vt,a9,b9,w9⟩
   |true=>
    rw[if_pos rfl] at q9 ⊢;refine bX (he _ s9 pL H9 _ I9 q9) λy eF hq=>?_
    obtain⟨yv,Ib,Yr,QX,xs,hD,hz,m',hm,Zd⟩:=hq;refine DB (Dc _ eF pL Ib (.ref s2.heap.objs.size) [yv] (.ref s2.heap.objs.size) [y] (λv Ov=>v=.aB/\Ov=upd Ib s2.heap.objs.size (.lst (xs++[yv]))) Yr rfl (.cons QX .nil) ⟨_,xs,yv,rfl,rfl,hD,hz,rfl,rfl⟩) λ_ dX v11 Ov Px _ q=>?_
    obtain⟨_,Oz⟩:=q;subst Oz;obtain⟨a9,b9⟩:=back Px;exact⟨m',hm,i+1,pL,_,Px.vt,a9,b9,Zd⟩
 exact codeAny_compStart_list loop (T.self _ 0 _ _ _ Jh loop)
theorem Lo{g:TG}(S:lB X M js sc)(hc:X.calm=true)(hi:PI X tg iter wi)
  (hb:∀s3 H3 fp,PG (dg X M sc s3 H3 fp) tg g/\qE (dg X M sc s3 H3 fp) ifs tt/\PE (dg X M sc s3 H3 fp) elt te) (hs:∀x,foldedSetIterable iter X.env x=pure x:=by intro _;rfl) :
  PE X (.ListComp elt [⟨tg,iter,ifs,0⟩] sc pos) (Eo wi js g tt te):=by
 intro af s σ H Q I h;rw[eval_ListComp];refine wpAny_comprehension_free rfl hs (K6 λx hx=>I.ok.has x (S.free x hx)) S.kind S.loc ?_;refine bX (hi af s σ H _ I h) λv s1 h1=>bX h1 λA4 s2 hq=>?_
 obtain⟨it,fp,tn,J,H2,e,I2,T,qm,f2,h2⟩:=hq;subst e;refine LN S (.inl hc) I2 T qm f2 hb h2 λD s3 H3 s' aC H' I3 f3 J' q=>?_
 obtain⟨m,hm,_⟩:=J'.loc;exact⟨m,hm,λh' bZ=>⟨.ref D,H',I3.La f3 J' bZ,rfl,q⟩⟩
theorem Vr(hN:X.N.Nodup)(hy:X.N[i]? = some y)(hl:X.env.scope.names.lookup y=some .local)
  (S:lB X M js sc) (hc:X.calm=true) (hi:PI X tg iter wi) (hb:∀s3 H3 fp,PG (dg X M sc s3 H3 fp) tg g/\qE (dg X M sc s3 H3 fp) ifs tt/\PE (dg X M sc s3 H3 fp) elt te)
  (jJ:swapsWith (.ListComp elt [⟨tg,iter,ifs,0⟩] sc pos) (some (.Name y py)) Fo.line X.env=pure true:=by rfl) (hs:∀x,foldedSetIterable iter X.env x=pure x:=by intro _;rfl) :
  PS X (.Assign [.Name y py] (.ListComp elt [⟨tg,iter,ifs,0⟩] sc pos) Fo) (MN (Eo wi js g tt te) (qw i)):=by
 intro af s σ H D I h;rw[exec_Assign_Name_used _ _ _ _ jJ];refine aae (wpAny_standAt (aae ?_));refine aae (aeu (wpAny_comprehension_free rfl hs (K6 λx hx=>I.ok.has x (S.free x hx)) S.kind S.loc ?_) (λ_ s' q=>adg (adg q)) λ_ _ e=>e);refine bX (hi af s σ H _ I h) λv s1 h1=>bX h1 λA4 s2 hq=>?_
 obtain⟨it,fp,tn,J,H2,e,I2,T,qm,f2,h2⟩:=hq;subst e;refine LN (Q:=λx H1=>qw i x σ H1 D.nx) S (.inl hc) I2 T qm f2 hb h2 λDa s3 H3 s' aC H' I3 f3 J' q=>?_
 have sb:Heap.SameBut s3.heap.objs.size s'.heap s'.heap:=⟨rfl,λ_ _=>rfl⟩
 have I5:=I3.La f3 J' sb;obtain⟨m,hm,_⟩:=J'.loc;have ne:=ady I3.lt;refine wpAny_assign_Name (PF I5 hN hy (.inl hl) (show RelV (.ref Da) (.ref Da) from rfl) (λs6 I6 ⟨a,Gy,ha⟩=>?_) (.inr hl));have lP:∀x c,X.env.cells.lookup x=some c->c≠s3.heap.objs.size:=λx c e=>by
  obtain⟨v',ic⟩:=I3.cell x c e;exact ady ic.lt
 have na:=ha.elim (λe=>by rw[e];exact ne) λz=>lP y a z
 refine⟨m,hm.sameBut Gy (aez na),λh' bZ=>⟨_,H',I6.turned (λb o hb e=>(bZ.2 b hb).trans e) J'.free (aez ne) (.inr I3.sz) lP (λp hp=>?_),q⟩⟩;exact ady (aco (I3.pin p hp).1)
theorem Vj:typeLookup (.type "dict") "__len__"=pure (some (.builtin "dict.__len__")):=by rw[aeF,ad7];kernel_rfl
section
variable{prog:Program}{w:World}{A:Around}{E:Value->Shared->Prop}{s:Shared}
theorem aaT{κ:Type}[DecidableEq κ]{knd:KeyKind prog w κ}{ah:List (κ×Value)}{Q:List Value->Shared->Prop}(hh:A.handled=none)(hd:(d==sysModules)=false)(hm:s.heap.DictOf knd d ah)(hz:ah.length<=sizeLine)
  (hQ:∀s' acc,s.heap.objs.size<=s'.heap.objs.size->(∀b o,s.heap.get? b=some o->s'.heap.get? b=some o)->s'.gens=s.gens->s'.drawn=s.drawn->s'.os=s.os->ItemsOf (λi v=>∃k x,ah[i]? = some (k,x)/\knd.is k v=true) acc ah.length->Q acc.toList s') :
  wpAny (model prog w) A (collect (.ref d)) Q E s:=by
 obtain⟨ep,hm⟩:=hm.dictAt;have cN:=hm.lt_size;unfold collect;refine aae (wpAny_runValue (aeE F.entry_proto_collect ?_));rw[aev F.plain_proto_collect _];refine aae (aed ?_);refine adg ⟨aeY F.plain_list_iadd _,aeE F.entry_list_iadd ?_⟩;rw[aev F.plain_list_iadd _];have nO:=hm.push { cls:=.type "list",data:=.seq ([]:List Value).toArray };have YU:({ s with heap:=s.heap.push { cls:=.type "list",data:=.seq ([]:List Value).toArray } }:Shared).TypeIs (.ref d) "dict":=nO.dictOf.typeIs;show wpAny (model prog w) A.in1 (Builtin.List.listExtendWith (.ref s.heap.objs.size) (.ref d) (.ref s.heap.objs.size)) _ _ _;unfold Builtin.List.listExtendWith;refine aae (wpAny_typeOf YU ?_);have h1:Builtin.List.listSameRef (.ref s.heap.objs.size) (.ref d)=false:=by simp[Builtin.List.listSameRef,aeo cN]
 have h2:(Value.type "dict" == Value.type "list")=false:=by decide
 have h3:(Value.type "dict" == Value.type "tuple")=false:=by decide
 simp only[h1,h2,h3,Bool.or_false,aef,afu];refine aae (wpAny_pyIter_dict hd nO ?_);refine aae (aeC ?_);have jk:=nO.push { cls:=.type "dict_keyiterator",data:=.fields #[.ref d,.int 0 0,.int ah.length 0,.int ep 0] };have B9:({ s with heap:=(s.heap.push { cls:=.type "list",data:=.seq ([]:List Value).toArray }).push { cls:=.type "dict_keyiterator",data:=.fields #[.ref d,.int 0 0,.int ah.length 0,.int ep 0] } }:Shared).TypeIs (.ref d) "dict":=jk.dictOf.typeIs;unfold Builtin.List.listLengthHint;refine aae (afA B9 Vj ?_);generalize pR:("dict.__len__":String)=wB
 (fail_if_success (clear pR wB))
 wp_delta
 rw[show splitId wB=some ("dict","__len__") from by subst pR;decide +kernel];subst pR;refine aae (ae6 (b:=true) B9 (by rw[afo];kernel_rfl) ?_);refine aae (wpAny_typeOf B9 ?_);refine adg ?_;refine aae (afF ?_);have hsz:(s.heap.push { cls:=.type "list",data:=.seq ([]:List Value).toArray }).objs.size=s.heap.objs.size+1:=ae9 ..;generalize rH:s.heap.push { cls:=.type "list",data:=.seq ([]:List Value).toArray }=h1 at *;have WO:h1.get? s.heap.objs.size=some { cls:=.type "list",data:=.seq ([]:List Value).toArray }:=by rw[<- rH];exact ac9 _ rfl
 have S1:∀b o,s.heap.get? b=some o->h1.get? b=some o:=λb o e=>by rw[<- rH];exact aaf _ e
 dsimp only;have Uv:(h1.push { cls:=.type "dict_keyiterator",data:=.fields #[.ref d,.int 0 0,.int ah.length 0,.int ep 0] }).get? h1.objs.size=some { cls:=.type "dict_keyiterator",data:=.fields #[.ref d,.int 0 0,.int ah.length 0,.int ep 0] }:=ac9 _ rfl;have Jg:(h1.push { cls:=.type "dict_keyiterator",data:=.fields #[.ref d,.int 0 0,.int ah.length 0,.int ep 0] }).get? s.heap.objs.size=some { cls:=.type "list",data:=.seq ([]:List Value).toArray }:=aaf _ WO;have S7:∀b o,s.heap.get? b=some o->(h1.push { cls:=.type "dict_keyiterator",data:=.fields #[.ref d,.int 0 0,.int ah.length 0,.int ep 0] }).get? b=some o:=λb o e=>aaf _ (S1 b o e)
 generalize hh2:h1.push { cls:=.type "dict_keyiterator",data:=.fields #[.ref d,.int 0 0,.int ah.length 0,.int ep 0] }=h2 at *;have LX:s.heap.objs.size≠h1.objs.size:=by rw[hsz];exact ady (ae7 _)
 have Og:=aeo cN;have Xr:d≠h1.objs.size:=by rw[hsz];exact ady (afH cN)
 refine aae ?_;refine aae (afd Jg rfl ?_);have Nt:=aem (Obj.mapSeq (·.push Value.none)) Jg rfl;refine afd Nt rfl ?_;have XW:=aem (Obj.mapSeq (·.pop)) Nt rfl;have EM:∀b o,b≠s.heap.objs.size->h2.get? b=some o->((h2.update s.heap.objs.size (Obj.mapSeq (·.push Value.none))).update s.heap.objs.size (Obj.mapSeq (·.pop))).get? b=some o:=
  λb o hb e=>(adV _ _ (aez hb)).trans ((adV _ _ (aez hb)).trans e)
 have W:=(Walks.dictKeys (A:=A.in1) (knd:=knd) hh h1.objs.size d Xr ah ep).toS;refine adg ⟨aeY F.plain_extend_loop _,codeAny_extend_loopS W hz s.heap.objs.size (by simp;exact⟨LX,Og⟩) _ ah.length 0 _ _ _ rfl (adZ _) ?_ XW (ItemsOf.nil _) λs' jw c' xU n8 nq=>?_⟩
 .exact⟨⟨_,EM _ _ (aez LX) Uv,rfl,rfl⟩,jk.at' λo e=>EM _ _ (aez Og) e⟩
 .show wpAny (model prog w) A (load s.heap.objs.size >>= _) _ _ s';refine aae (wpAny_load n8 ?_);refine adg (hQ s' jw (aen (aco n8)) (λb o e=>?_) xU.gens xU.drawn xU.os nq);have hb:=aco e;refine xU.heap b o ?_ (EM b o (ady hb) (S7 b o e));intro m;rcases abG.mp m with z|z
  .exact absurd hb (by rw[z];exact ad8 _)
  .have z:=aaS.mp z;rw[hsz] at z;exact absurd hb (by rw[z];exact Nat.not_lt.mpr (Nat.le_succ _))
theorem YH{x:Value}{Q:Value->Shared->Prop}(hc:∀(Q':List Value->Shared->Prop),(∀vs s',(∃ns,IntsAre vs ns/\∀(out:Array Value) (cj:List Int),IntsAre out.toList cj->cj.Perm ns->cj.Pairwise (·<=·)->
    Q (.ref s'.heap.objs.size) { s' with heap:=sortedHeap (s'.heap.push (seqObj "list" vs.toArray 0)) s'.heap.objs.size vs out })/\vs.length<64->Q' vs s')->wpAny (model prog w) A.in1 (collect x) Q' E s):wpAny (model prog w) A (call (.builtin "sorted") [x]) Q E s:=by
 refine call_function_tree kind_sorted plain_sorted entry_sorted (args_sorted1 _) ?_;unfold Builtin.«sorted»;refine aae (adg ?_);refine aae (hc _ ?_)
 rintro vs s' ⟨⟨ns,hI,h⟩,kK⟩
 refine aae (wpAny_newList ?_);have Aj:(s'.heap.push (seqObj "list" vs.toArray 0)).get? s'.heap.objs.size=some (seqObj "list" vs.toArray 0):=ac9 _ rfl;refine aae (aeC (aeI slot_list_sort ⟨_,Aj,rfl⟩ entry_list_sort (list_sort_tree Aj hI kK λout cj a1 a2 a3=>⟨_,rfl,?_⟩) (args_list_sort _)));exact adg (h out cj a1 a2 a3)
end
section
variable{X:Cx}
theorem Ir:∀{ks:List Int}{ah:List (Key×Value)}{vs:List Value},ah.map (·.1)=ks.map Sum.inl->vs.length=ah.length->(∀(i:Nat) v,vs[i]? = some v->∃k x,ah[i]? = some (k,x)/\(eZ P w).is k v=true)->IntsAre vs ks
 |[],[],vs,_,hl,_=>by cases vs with
  |nil=>exact .nil
  |cons _ _=>simp at hl
 |[],_::_,_,e,_,_=>by simp at e
 |_::_,[],_,e,_,_=>by simp at e
 |k::ks,(q,x)::ah,vs,e,hl,h=>by
  simp only[aax,aes] at e;obtain⟨rfl,e⟩:=e;cases vs with
  |nil=>simp at hl
  |cons v vs=>
   obtain⟨k',x',e0,hk⟩:=h 0 v rfl;have T4:=ads e0;cases T4;rcases lR (show qu (Sum.inl k) v=true from hk) with⟨i,t,e1,e2⟩|⟨y,t,e1,e2⟩
   .cases e1;subst e2;exact .cons k t (Ir e (by simpa using hl) λi v hv=>h (i+1) v (by simpa using hv))
   .cases e1
def Ik(K:PySem.W.Frag):List V->Hp->VK->Prop:=λxs H Q=>∃(p:Addr) (ks:List Int),xs=[.ref p]/\ks.length<64/\((∃ah:List (Key×V),H p=some (.dK ah)/\ah.map (·.1)=ks.map Sum.inl)\/bK K H p (ks.map V.int))/\
 ∀(l:Addr) (nk:List Int),H l=none->nk.Perm ks->nk.Pairwise (·<=·)->Q (.ref l) (upd H l (.lst (nk.map V.int)))
theorem QO(hc:X.calm=true):fN X (.builtin "sorted") (Ik X.K):=by
 intro af s σ H xs us Q I r h;obtain⟨p,ks,rfl,kK,EO,q⟩:=h;obtain⟨u,rfl,ru⟩:=vals1 r;cases ru;have fin:∀(vs:List Value) (s':Shared),s.heap.objs.size<=s'.heap.objs.size->(∀b o,s.heap.get? b=some o->s'.heap.get? b=some o)->s'.gens=s.gens->s'.drawn=s.drawn->s'.os=s.os->∀(out:Array Value) (cj:List Int),IntsAre out.toList cj->cj.Perm ks->cj.Pairwise (·<=·)->
   EP X af σ Q (.ref s'.heap.objs.size) { s' with heap:=sortedHeap (s'.heap.push (seqObj "list" vs.toArray 0)) s'.heap.objs.size vs out }:=by
  intro vs s' hle hk e1 e2 e3 out cj a1 a2 a3;obtain⟨h',g',d',t',o'⟩:=s';dsimp only at e1 e2 e3 hk hle;subst e1 e2 e3;obtain⟨e,he⟩:=sortedHeap_at (show(h'.push (seqObj "list" vs.toArray 0)).get? h'.objs.size=some (seqObj "list" vs.toArray 0) from ac9 _ rfl);have hlen:cj.length<64:=by rw[a2.length_eq];exact kK
  refine⟨.ref h'.objs.size,upd H h'.objs.size (.lst (cj.map V.int)),I.laid (λb o eb=>?_) hle ?_,rfl,q _ cj (I.aD.fresh hle) a2 a3⟩
  .have hb:b<h'.objs.size:=aco (hk b o eb);rw[sortedHeap_old (ady hb) (by rw[ae9];exact afH hb)];exact aaf _ (hk b o eb)
  .exact⟨by rw[List.length_map];exact aen (Fp (by omega)),out.toList,e,Cq a1,by rw[he]⟩
 have hh:X.A.handled=none:=I.ok.hd hc;refine YH λQ' NR=>?_
 rcases EO with⟨ah,hp,hk⟩|hp
 .obtain⟨hz,hd,vs,rel,dd⟩:=OW I.aD hp;refine aaT hh hd dd (by rw[<- rel.length];exact hz) λs' acc hle kp e1 e2 e3 it=>NR _ s' ⟨⟨ks,?_,λout cj a1 a2 a3=>fin _ s' hle kp e1 e2 e3 out cj a1 a2 a3⟩,?_⟩
  .refine Ir (by rw[<- rel.keys];exact hk) (by rw[ad3];exact it.1) λi v hv=>it.2 i v (by rw[<- afc];exact hv)
  .rw[ad3,it.1,<- rel.length];have:=congrArg List.length hk;rw[List.length_map,List.length_map] at this;omega
 .obtain⟨ao,rv,pl,hz⟩:=I.list hp;have hi:=intsAre_of rv;have k1:s.heap.objs.size<=((s.heap.push (seqObj "list" #[] 0)).update s.heap.objs.size (Obj.mapSeq (·++ao.toArray))).objs.size:=by
   rw[Heap.size_update,ae9];exact Nat.le_succ _
  have k2:∀b o,s.heap.get? b=some o->((s.heap.push (seqObj "list" #[] 0)).update s.heap.objs.size (Obj.mapSeq (·++ao.toArray))).get? b=some o:=λb o e=>
   (adV _ _ (aeo (aco e))).trans (aaf _ e)
  refine collect_list pl.isList (NR _ _ ⟨⟨ks,hi,λout cj a1 a2 a3=>fin ao { s with heap:=(s.heap.push (seqObj "list" #[] 0)).update s.heap.objs.size (Obj.mapSeq (·++ao.toArray)) } k1 k2 rfl rfl rfl out cj a1 a2 a3⟩,?_⟩) (by rw[<- rv.length];exact hz);rw[<- rv.length,List.length_map];exact kK
end
theorem aap(a d:Value):argsOk "min" ⟨[a],[("default",d)]⟩:=by unfold argsOk;kernel_rfl
theorem yJ:(toString "min"++toString ".loop":String)="min.loop":=by decide
theorem RQ(W:Walks prog w A.in1 it eS iU n P T)(bt:Nat->Nat->Bool)(BR:CmpOf prog w A.in1 .Lt P bt)(kw:List (Str×Value))(B:Addr)(hB:B∉eS):
  ∀(k j) (s) (vb) (c),n-(j+1)=k->j+1<=n->T (j+1) s.heap->P (argBest bt j) vb->s.heap.get? B=some { cls:=.type "list",dict:=none,data:=.seq #[vb,vb] c,slots:=#[] }->
   (∀v h' tk,P (argBest bt (n-1)) v->(∀b o,b∉iU->b≠B->s.heap.get? b=some o->h'.get? b=some o)->R (.ok (.ret v)) { s with heap:=h',toks:=tk })->
   codeAny (model prog w) A (.builtin "min.loop" ⟨[.ref it,.none,.ref B],kw⟩) R s:=by
 have nB:B∉iU:=λm=>hB (W.sub _ m)
 intro k
 induction k with
 |zero=>
  intro j s vb c e1 e2 st pb gB fin;have en:j+1=n:=by omega
  refine aeE F.entry_min_loop ?_;rw[aev aeW _];refine aae (afp gB rfl ?_);refine aae (afq (W.done s _ _ (en ▸ st) λh1 t1 kp=>?_));have oX:=kp B _ nB gB;refine aae (afd oX rfl (aae (wpAny_letGo (adg ?_))));exact fin vb _ t1 (by rw[<- en];exact pb) λb o m1 m2 e=>(adV _ _ (aez m2)).trans (kp b o m1 e)
 |succ k ih=>
  intro j s vb c e1 e2 st pb gB fin;have lt:j+1<n:=by omega
  refine aeE F.entry_min_loop ?_;rw[aev aeW _];refine aae (afp gB rfl ?_);refine aae (afq (W.item (j+1) s _ _ lt st λv h1 t1 pv sV kp=>?_));have oX:=kp B _ nB gB;show wpAny (model prog w) A.in1 (tryCatch (holding [v,v] (richCompare .Lt v vb >>= _)) _ >>= _) _ _ _;refine aae (afq (aeC (aae (BR (j+1) (argBest bt j) v vb _ _ _ pv pb ?_))));refine aae (aeC (aee (aae (wpAny_letGo (adg ?_)))));cases hb:bt (j+1) (argBest bt j) with
  |true=>
   simp only[if_true];refine aae (afd oX rfl (aae (wpAny_letGo ?_)));rw[yJ];refine adg ⟨aeY aeW _,ih (j + 1) _ v _ (by omega) lt (W.frame _ _ _ sV λb m o e=>(adV _ _ (λz:B=b=>hB (by rw[z];exact m))).trans e)
    (by simp only[argBest,hb,if_true];exact pv) (aem _ oX rfl) λv2 h2 t2 p2 k2=>?_⟩
   exact fin v2 h2 t2 p2 λb o m1 m2 e=>k2 b o m1 m2 ((adV _ _ (aez m2)).trans (kp b o m1 e))
  |false=>
   simp only[aef,afu];refine aae (wpAny_letGo ?_);rw[yJ];refine adg ⟨aeY aeW _,ih (j+1) _ vb c (by omega) lt sV (by simp only[argBest,hb,aef,afu];exact pb) oX λv2 h2 t2 p2 k2=>?_⟩;exact fin v2 h2 t2 p2 λb o m1 m2 e=>k2 b o m1 m2 (kp b o m1 e)
theorem Sv(W:Walks prog w A.in1 it eS iU n P T)(bt:Nat->Nat->Bool)(BR:CmpOf prog w A.in1 .Lt P bt)(key:Str)(dv:Value)(B:Addr)(hB:B∉eS){s:Shared}{c:Nat}(st:T 0 s.heap)
  (gB:s.heap.get? B=some { cls:=.type "list",dict:=none,data:=.seq #[] c,slots:=#[] })
  (fin:∀v h' tk,(n=0/\v=dv\/0<n/\P (argBest bt (n-1)) v)->(∀b o,b∉iU->b≠B->s.heap.get? b=some o->h'.get? b=some o)->R (.ok (.ret v)) { s with heap:=h',toks:=tk }) :
  codeAny (model prog w) A (.builtin "min.loop" ⟨[.ref it,.none,.ref B],[(key,dv)]⟩) R s:=by
 have nB:B∉iU:=λm=>hB (W.sub _ m)
 refine aeE F.entry_min_loop ?_;rw[aev aeW _];refine aae (afp gB rfl ?_)
 by_cases hn:0<n
 .refine aae (afq (W.item 0 s _ _ hn st λv h1 t1 pv sV kp=>?_));have oX:=kp B _ nB gB;show wpAny (model prog w) A.in1 (updateSeq B (λ_=>#[v,v]) >>= _) _ _ _;refine aae (afd oX rfl ?_);rw[yJ];refine adg ⟨aeY aeW _,RQ W bt BR _ B hB _ 0 _ v _ rfl hn (W.frame _ _ _ sV λb m o e=>(adV _ _ (λz:B=b=>hB (by rw[z];exact m))).trans e) pv (aem _ oX rfl) λv2 h2 t2 p2 k2=>?_⟩;exact fin v2 h2 t2 (.inr ⟨hn,p2⟩) λb o m1 m2 e=>k2 b o m1 m2 ((adV _ _ (aez m2)).trans (kp b o m1 e))
 .have en:n=0:=by lia
  refine aae (afq (W.done s _ _ (en ▸ st) λh1 t1 kp=>?_));exact aae (afF (adg (fin dv h1 t1 (.inl ⟨en,rfl⟩) λb o m1 _ e=>kp b o m1 e)))
theorem Tp{id:String}{b:Builtin}{kw:List (Str×Value)}(hk:builtinKind id=none)(hp:plainId id=true)(hb:entryFor table id=some b)(ha:argsOk id ⟨args,kw⟩)
  (hc:wpAny (model prog w) A.in1 (b ⟨args,kw⟩) (λfin s'=>match fin with
   |.done f=>(match(Except.ok f:Result) with|.ok (.ret v)=>Q v s'|.ok _=>False|.error e=>E e s')
   |.again c=>c.quiet=true/\codeAny (model prog w) A c (λr s'=>match r with|.ok (.ret v)=>Q v s'|.ok _=>False|.error e=>E e s') s') E s):wpAny (model prog w) A (call (.builtin id) args kw) Q E s:=by
 refine wpAny_call (codeAny_call_builtin hp hb ?_);simp only[checkBuiltinCall,hk];cases Wp:Manifest.signature? id with
 |none=>exact adg hc
 |some sig=>
  have h2:Bind.checkArgs id sig ⟨args,kw⟩=pure ():=by simpa only[argsOk,Wp] using ha
  simp only[h2];exact adg hc
theorem uZ:∀{vs} {ns} {i} {v},IntsAre vs ns->vs[i]? = some v->∃t,v=Value.int (ns.getD i 0) t
 |_,_,_,_,.nil,e=>by simp at e
 |_,_,0,_,.cons n t h,e=>by
  have e':=ads e;subst e';exact⟨t,rfl⟩
 |_,_,i+1,v,.cons n t h,e=>by
  obtain⟨u,eu⟩:=uZ h (by simpa using e);exact⟨u,by simpa using eu⟩
theorem Wy{ns:List Int}(h:i<ns.length):ns.getD i 0∈ns:=by
 rw[adJ,acr h];exact List.getElem_mem h
theorem aci{l:Addr}{vs:List Value}{ns:List Int}{dv:Value}{Q:Value->Shared->Prop}(hh:A.handled=none)(hl:s.heap.IsList l vs.toArray)(hi:IntsAre vs ns)
  (fin:∀v h' tk,(ns=[]/\v=dv\/∃m t,v=.int m t/\m∈ns/\∀x∈ns,m<=x)->(∀b o,s.heap.get? b=some o->h'.get? b=some o)->Q v { s with heap:=h',toks:=tk }) :
  wpAny (model prog w) A (call (.builtin "min") [.ref l] [("default",dv)]) Q E s:=by
 refine Tp F.kind_min F.plain_min F.entry_min (aap _ _) ?_;refine aae (wpAny_of_eq (show Builtin.Builtins.bindParams "min" ["key","default"] 0 ⟨[],[("default",dv)]⟩=pure [none,some dv] from rfl) ?_);refine aae (adg (aae (wpAny_pyIter_list hl ?_)));refine aae (aed ?_);rw[yJ];have Hx:l<s.heap.objs.size:=let⟨_,ho,_⟩:=hl;aco ho
 have hsz:(s.heap.push { cls:=.type "list_iterator",data:=.fields #[.ref l,.int 0 0] }).objs.size=s.heap.objs.size+1:=ae9 ..;have hv:∀(i) (v),vs.toArray[i]? = some v->∃t,v=Value.int (ns.getD i 0) t:=λi v e=>uZ hi (by simpa using e)
 have hlen:=hi.length;generalize rH:s.heap.push { cls:=.type "list_iterator",data:=.fields #[.ref l,.int 0 0] }=h1 at *;have g1:h1.get? s.heap.objs.size=some { cls:=.type "list_iterator",data:=.fields #[.ref l,.int 0 0] }:=by rw[<- rH];exact ac9 _ rfl
 have old:∀b o,s.heap.get? b=some o->h1.get? b=some o:=λb o e=>by rw[<- rH];exact aaf _ e
 have nl:=ady Hx;have W:=Walks.list (prog:=prog) (w:=w) (A:=A.in1.in1) hh s.heap.objs.size l nl vs.toArray;have hB:h1.objs.size∉[s.heap.objs.size,l]:=by
  intro m;rcases abG.mp m with z|z
  .rw[hsz] at z;exact absurd z (aeo (ae7 _))
  .have z:=aaS.mp z;rw[hsz] at z;exact absurd z (aeo (afH Hx))
 refine adg ⟨aeY aeW _,Sv W.of_in1 (λi j=>decide (ns.getD i 0<ns.getD j 0)) (CmpOf.ints_lt (λi=>ns.getD i 0) hv) _ dv h1.objs.size hB ?_ (ac9 _ rfl) λv h' tk yh kp=>?_⟩
 .exact⟨⟨_,aaf _ g1,rfl,rfl⟩,hl.at λo e=>aaf _ (old l o e)⟩
 .refine fin v h' tk ?_ λb o e=>kp b o ?_ ?_ (aaf _ (old b o e))
  .have cg:vs.toArray.size=ns.length:=by rw[adn,hlen]
   rw[cg] at yh;rcases yh with⟨h0,e⟩|⟨h0,pv⟩
   .exact .inl ⟨ad1 h0,e⟩
   .obtain⟨t,e⟩:=hv _ v pv;obtain⟨a1,a2⟩:=argBest_lt (λi=>ns.getD i 0) (ns.length-1);refine .inr ⟨_,t,e,Wy (by omega),λx hx=>?_⟩;obtain⟨j,hj,rfl⟩:=List.getElem_of_mem hx;have:=a2 j (by omega);rw[show ns[j]=ns.getD j 0 by rw[adJ,acr hj];rfl];exact this
  .intro m;exact absurd (aco e) (by rw[aaS.mp m];exact ad8 _)
  .intro z;exact absurd (aco e) (by rw[z,hsz];exact Nat.not_lt.mpr (Nat.le_succ _))
def abM(K:PySem.W.Frag)(ta td:TE):TE:=λσ H Q=>ta σ H λx H1=>td σ H1 λy H2=>∃(l:Addr) (ns:List Int),x=.ref l/\bK K H2 l (ns.map V.int)/\((ns=[]/\Q y H2)\/ns≠[]/\∀m,m∈ns->(∀n∈ns,m<=n)->Q (.int m) H2)
theorem aak{b:Expr}{kp:Pos}(hc:X.calm=true)(hm:X.mg "min"=none)(ha:PE X a ta)(hb:PE X b td)(hg:Gl X "min":=by rfl)(hs:starEach [a] X.env=[(false,eval a X.env)]:=by rfl)
  (h1:backTo pos (starEach [a] X.env)=(false,eval a X.env)::backTo pos (starEach [] X.env):=by rfl) (h2:(backTo pos (starEach [a] X.env)).any (·.1)=false:=by rfl)
  (h3:(backToKw pos (keywordEach [⟨some "default",b,kp⟩] X.env)).all (·.1.isSome)=true:=by rfl) (h4:(backToKw pos (keywordEach [⟨some "default",b,kp⟩] X.env)).any (·.1.isNone)=false:=by rfl)
  (h5:(backToKw pos (keywordEach [⟨some "default",b,kp⟩] X.env)).filterMap (·.1)=[("default":Str)]:=by rfl) :
  PE X (.Call (.Name "min" p) [a] [⟨some "default",b,kp⟩] pos) (abM X.K ta td):=by
 intro af s σ H Q I h;refine aea (kG I hg hm (show bootBuiltins "min"=some (.builtin "min") by decide +kernel) ?_ (by decide) (by decide));refine callWith_kw ?_ h1 h2 h3 h4;rw[h5];refine zF (dU ha fC hs pos af s σ H (λvs H1=>match vs with|[x]=>td σ H1 λy H2=>∃(l:Addr) (ns:List Int),x=.ref l/\bK X.K H2 l (ns.map V.int)/\((ns=[]/\Q y H2)\/ns≠[]/\∀m,m∈ns->(∀n∈ns,m<=n)->Q (.int m) H2)|_=>False) I h) λus s1 vs H1 I1 rv q1=>?_
 rcases vs with _|⟨x,_|⟨x2,r2⟩⟩
 .exact q1.elim
 .obtain⟨u,rfl,ru⟩:=vals1 rv;refine kws_cons (bX (hb af s1 σ H1 _ I1 q1) ?_)
  rintro dv s2 ⟨y,H2,I2,ry,l,ns,ex,hq,q2⟩
  refine kws_nil ?_;subst ex;cases ru;obtain⟨ao,ri,pl,hz⟩:=I2.list hq;refine aci (I2.ok.hd hc) pl.isList (intsAre_of ri) λv h' tk yh kp=>?_
  rcases yh with⟨en,ev⟩|⟨m,t,ev,nO,jk⟩
  .subst ev;rcases q2 with⟨_,q2⟩|⟨ne,_⟩
   .exact⟨y,H2,I2.kept kp,ry,q2⟩
   .exact absurd en ne
  .subst ev;rcases q2 with⟨en,_⟩|⟨_,q2⟩
   .rw[en] at nO;cases nO
   .exact⟨.int m,H2,I2.kept kp,⟨t,rfl⟩,q2 m nO jk⟩
 .exact q1.elim
end L2
namespace PySem
theorem abh:typeLookup (.type "list") "keys"=pure none:=by rw[aeF,ad7];kernel_rfl
theorem Ul:typeLookup (.type "tuple") "keys"=pure none:=by rw[aeF,ad7];kernel_rfl
theorem U6(hx:s.heap.get? a=some { cls:=.type "list",dict:=none,data:=.seq xs k,slots:=sl })(hA:A.handled=none)
  (h:∀h' tk,(∀b o,s.heap.get? b=some o->h'.get? b=some o)->Q none { s with heap:=h',toks:=tk }):wpAny (model prog w) A (getAttr? (.ref a) "keys") Q E s:=by
 obtain⟨hp,g,d,tk,os⟩:=s;have hT:∀wg,(⟨hp,g,d,wg,os⟩:Shared).TypeIs (.ref a) "list":=λ_=>⟨_,hx,rfl⟩
 have f1:=sub_AttributeError;have f3:=F.slot_list_getattribute.lookup;have f4:=F.slot_list_getattribute.bind (.ref a);have f5:=am_list_getattr_none;unfold getAttr? getAttrBy? getAttrBy
 repeat (any_goals (first|assumption|exact hT _|((with_reducible show wpAny _ _ (call (Value.builtin "list.__getattribute__") _ _) _ _ _);refine call_meets F.slot_list_getattribute (hT _) am_entry_list_getattribute (F.args_list_getattribute_2 _ _) (meets_getattribute_miss_list a xs k sl "keys" _ abh (by decide +kernel)) ⟨hx,hA,λh' wg e lI=>?_⟩)|wp_step))
 obtain⟨t',u',he⟩:=lI.there;unfold getattributeRaised
 repeat (any_goals (first|assumption|wp_step))
 all_goals exact h _ _ lI.keeps
theorem ac2(hx:s.heap.get? a=some { cls:=.type "tuple",dict:=none,data:=.seq xs k,slots:=sl })(hA:A.handled=none)
  (h:∀h' tk,(∀b o,s.heap.get? b=some o->h'.get? b=some o)->Q none { s with heap:=h',toks:=tk }):wpAny (model prog w) A (getAttr? (.ref a) "keys") Q E s:=by
 obtain⟨hp,g,d,tk,os⟩:=s;have hT:∀wg,(⟨hp,g,d,wg,os⟩:Shared).TypeIs (.ref a) "tuple":=λ_=>⟨_,hx,rfl⟩
 have f1:=sub_AttributeError;have f3:=F.slot_tuple_getattribute.lookup;have f4:=F.slot_tuple_getattribute.bind (.ref a);have f5:=am_tuple_getattr_none;unfold getAttr? getAttrBy? getAttrBy
 repeat (any_goals (first|assumption|exact hT _|((with_reducible show wpAny _ _ (call (Value.builtin "tuple.__getattribute__") _ _) _ _ _);refine call_meets F.slot_tuple_getattribute (hT _) am_entry_tuple_getattribute (F.args_tuple_getattribute_2 _ _) (meets_getattribute_miss_tuple a xs k sl "keys" _ Ul (by decide +kernel)) ⟨hx,hA,λh' wg e lI=>?_⟩)|wp_step))
 obtain⟨t',u',he⟩:=lI.there;unfold getattributeRaised
 repeat (any_goals (first|assumption|wp_step))
 all_goals exact h _ _ lI.keeps
end PySem
namespace L2
open PySem PySem.Spec PyProof.Rows
theorem xG:plainId "dict.update.loop"=true:=by decide +kernel
theorem OH:entryFor table "dict.update.loop"=some Builtin.«dict.update.loop»:=entryFor_of_fast (by kernel_rfl)
def pairAt{prog:Program}{w:World}{κ:Type}[DecidableEq κ](knd:KeyKind prog w κ)(h:Heap)(no:List Addr)(v:Value)(p:κ×Value):Prop:=∃a key,v=.ref a/\a∉no/\IsTup h a #[key,p.2]/\knd.is p.1 key=true
section
variable[DecidableEq κ]{knd:KeyKind prog w κ}
theorem V1(W:Walks prog w A.in1 it eS iU n P T)(hd:d∉eS)(h0:Heap)(ps:List (κ×Value))(hn:ps.length=n)(hP:∀i v,P i v->∃p,ps[i]? = some p/\pairAt knd h0 (d::iU) v p)(res:Value):
  ∀(k i) (s) (m) (DH),n-i=k->i<=n->T i s.heap->s.heap.DictOf knd d m->m.length+(n-i)<=sizeLine->(∀b o,b∉d::iU->h0.get? b=some o->s.heap.get? b=some o)->
   (∀h' tk,h'.DictOf knd d ((ps.drop i).foldl (λm p=>stored m p.1 p.2) m)->(∀b o,b∉d::iU->h0.get? b=some o->h'.get? b=some o)->R (.ok (.ret res)) { s with heap:=h',toks:=tk })->
   codeAny (model prog w) A (.builtin "dict.update.loop" ⟨[.ref d,.ref it,.int i DH,res],[]⟩) R s:=by
 have nd:d∉iU:=λm=>hd (W.sub _ m)
 intro k
 induction k with
 |zero=>
  intro i s m DH e1 e2 st dm hz kp fin;have en:i=n:=by lia
  subst en;refine aeE OH ?_;rw[aev xG _];refine aae (W.done s _ _ st λh1 t1 k1=>?_);refine aae (adg (adg (fin h1 t1 ?_ λb o mb e=>k1 b o (λz=>mb (aad _ z)) (kp b o mb e))));rw[List.drop_eq_nil_of_le (by lia)];obtain⟨o,es,ep,ho,r⟩:=dm;exact⟨o,es,ep,k1 d o nd ho,r⟩
 |succ k ih=>
  intro i s m DH e1 e2 st dm hz kp fin;have lt:i<n:=by lia
  refine aeE OH ?_;rw[aev xG _];refine aae (W.item i s _ _ lt st λv h1 t1 pv sV k1=>?_);obtain⟨p,ep,a,key,rfl,na,Xl,uw⟩:=hP i v pv;have Ui:h1.DictOf knd d m:=by
   obtain⟨o,es,ep,ho,r⟩:=dm;exact⟨o,es,ep,k1 d o nd ho,r⟩
  obtain⟨oa,Xz,SD,na',hda⟩:=Xl;have ga:=k1 a oa (λz=>na (aad _ z)) (kp a oa na Xz);refine aae (aeC ?_);refine aae (afq ?_);unfold Builtin.Dict.pairItems;refine aae (wpAny_typeOf ⟨oa,ga,SD⟩ ?_);rw[if_pos (by decide)];refine aae (afp ga hda (adg ?_));refine aeC (wpAny_dictSet_pairs uw Ui (λh2 Xu sb=>?_) (by lia));have KR:∀b o,b≠d->h1.get? b=some o->h2.get? b=some o:=λb o hb e=>(sb.2 b hb).trans e
  have qm:=W.frame _ _ _ sV λb mb o e=>KR b o (λz=>hd (by rw[<- z];exact mb)) e
  have jq:(stored m p.1 p.2).length<=m.length+1:=by
   unfold stored
   split
   .rw[List.length_map];exact Nat.le_succ _
   .rw[ab9];exact acy _
  refine adg ⟨aeY xG _,?_⟩;refine ih (i+1) _ (stored m p.1 p.2) 0 (by lia) lt qm Xu (by lia) (λb o mb e=>KR b o (λz=>mb (by rw[z];exact aat)) (k1 b o (λz=>mb (aad _ z)) (kp b o mb e))) λh3 t3 EZ k3=>?_
  refine fin h3 t3 ?_ k3;have hi:i<ps.length:=by lia
  have rO:ps[i]=p:=by rw[acr hi] at ep;exact ads ep
  rw[afr hi,ad9,rO];exact EZ
theorem Lh(ps:List (κ×Value))(hz:ps.length<=sizeLine)(T0:String)(TU:(Value.type T0 != Value.type "dict")=true)
  (uO:∀o,({ s with heap:=s.heap.push o }:Shared).TypeIs x T0)
  (hk:∀(o) (Q') (E'),(∀h' tk,(∀b ob,(s.heap.push o).get? b=some ob->h'.get? b=some ob)->Q' none { s with heap:=h',toks:=tk })->wpAny (model prog w) A.in1.in1 (getAttr? x "keys") Q' E' { s with heap:=s.heap.push o })
  (hi:∀(s2) (Q') (E'),(∀b ob,s.heap.get? b=some ob->s2.heap.get? b=some ob)->(∃o,s2.heap.get? s.heap.objs.size=some o)->
   (∀I eS iU n P T h3,Walks prog w A.in1.in1 I eS iU n P T->T 0 h3->ps.length=n->s.heap.objs.size∉eS->(∀b ob,s2.heap.get? b=some ob->h3.get? b=some ob)->(∀b∈iU,s.heap.get? b=none)->(∀i v,P i v->∃p,ps[i]? = some p/\pairAt knd s.heap (s.heap.objs.size::iU) v p)->Q' (.ref I) { s2 with heap:=h3 })->
   wpAny (model prog w) A.in1.in1 (pyIter x) Q' E' s2)
  (h:∀h' tk,h'.DictOf knd s.heap.objs.size (ps.foldl (λm p=>stored m p.1 p.2) [])->(∀b o,s.heap.get? b=some o->h'.get? b=some o)->Q (.ref s.heap.objs.size) { s with heap:=h',toks:=tk }) :
  wpAny (model prog w) A (call (.type "dict") [x]) Q E s:=by
 refine callType_codes (Q₁:=λobj bq=>obj=.ref s.heap.objs.size/\bq={ s with heap:=s.heap.push { cls:=.type "dict",data:=.dict #[] } }) F.kt_called_dict (F.kt_typeCall_dict_1 _) F.entry_dict_init (kt_code_dict_new _ ⟨rfl,rfl⟩) ?_
 rintro obj bq ⟨rfl,rfl⟩
 have BZ:(s.heap.push { cls:=.type "dict",data:=.dict #[] }).DictOf knd s.heap.objs.size []:=Heap.DictOf.new s.heap;refine⟨BZ.typeIs,F.args_dict_init_2 _ _,?_⟩;unfold Builtin.«dict.__init__»;refine aae ?_;unfold Builtin.Dict.selfAndRest;refine aae (wpAny_notOrdered_dict BZ.typeIs ?_);refine adg ?_;show wpAny (model prog w) _ (Builtin.Dict.updateFrom "dict.__init__" s.heap.objs.size x [] .none) _ _ _;unfold Builtin.Dict.updateFrom;refine aae (wpAny_typeOf (uO _) ?_);rw[if_pos TU];refine aae (hk _ _ _ λh1 t1 k1=>?_);refine aae (afF (aae ?_));have o1:∀b ob,s.heap.get? b=some ob->h1.get? b=some ob:=λb ob e=>k1 b ob (aaf _ e)
 refine hi { s with heap:=h1,toks:=t1 } _ _ o1 ⟨_,k1 _ _ (ac9 _ rfl)⟩ (λI eS iU n P T h3 W st hn hd k3 hw hP=>?_);have EZ:h3.DictOf knd s.heap.objs.size []:=by
  obtain⟨o,es,ep,ho,r⟩:=BZ;exact⟨o,es,ep,k3 _ o (k1 _ o ho),r⟩
 refine adg ⟨aeY xG _,V1 W hd s.heap ps hn hP .none n 0 _ [] 0 rfl (adZ _) st EZ (by rw[List.length_nil];lia) (λb o _ e=>k3 b o (o1 b o e)) λh4 t4 RW k4=>?_⟩;refine⟨rfl,h h4 t4 (by simpa using RW) λb o e=>k4 b o (λm=>?_) e⟩;rcases abG.mp m with z|z
 .exact absurd (aco e) (by rw[z];exact ad8 _)
 .rw[hw b z] at e;cases e
end
theorem KL[DecidableEq κ]:∀{ps} {qs} {m}{r:List (κ×Value)},KV ps qs->KV m r->KV (ps.foldl (λm p=>putK m p.1 p.2) m) (qs.foldl (λm p=>stored m p.1 p.2) r)
 |_,_,_,_,.nil,h=>h
 |_,_,_,_,.cons (a:=p) e t,h=>by
  rw[ad9,ad9];refine KL t ?_;rw[<- e.1];exact h.put p.1 e.2
def F6(K:PySem.W.Frag):List V->Hp->VK->Prop:=λxs H Q=>∃(p:Addr) (ys:List V) (ps:List (Key×V)),xs=[.ref p]/\(bK K H p ys\/bN K H p ys)/\Paired (λy (q:Key×V)=>∃a,y=.ref a/\bN K H a [kV q.1,q.2]) ys ps/\
 ∀l,H l=none->Q (.ref l) (upd H l (.dK (ps.foldl (λm q=>putK m q.1 q.2) [])))
theorem G4(I:Inv X af σ H s):∀{ys} {ps} {ao},Paired (λy (q:Key×V)=>∃a,y=.ref a/\bN X.K H a [kV q.1,q.2]) ys ps->aN ys ao->
  ∃qs:List (Key×Value),KV ps qs/\∀(i:Nat) (v),ao[i]? = some v->∃q,qs[i]? = some q/\∃a key,v=.ref a/\IsTup s.heap a #[key,q.2]/\(eZ X.prog X.w).is q.1 key=true
 |_,_,_,.nil,.nil=>⟨[],.nil,λi v e=>by simp at e⟩
 |_,_,_,.cons (b:=q) ⟨a,ey,hr⟩ t,.cons (b:=u) r rs=>by
  obtain⟨qs,h1,h2⟩:=G4 I t rs;subst ey;cases r;obtain⟨us,ru,pt,_⟩:=I.tuple hr;obtain⟨key,x,rfl,rk,rx⟩:=vals2 ru;refine⟨(q.1,x)::qs,.cons ⟨rfl,rx⟩ h1,λi v e=>?_⟩;cases i with
  |zero=>
   have e':=ads e;subst e';exact⟨_,rfl,a,key,rfl,pt,o7 rk⟩
  |succ i=>
   obtain⟨q',e1,e2⟩:=h2 i v (by simpa using e);exact⟨q',by simpa using e1,e2⟩
theorem acB(hc:X.calm=true):fN X (.type "dict") (F6 X.K):=by
 intro af s σ H xs us Q I r h;obtain⟨p,ys,ps,rfl,EO,sS,q⟩:=h;obtain⟨u,rfl,ru⟩:=vals1 r;cases ru;have hh:=I.ok.hd hc;have big:=I.big;have fin:∀(ao:List Value) (qs:List (Key×Value)),KV ps qs->ys.length<=sizeLine->∀h' tk,h'.DictOf (eZ X.prog X.w) s.heap.objs.size (qs.foldl (λm p=>stored m p.1 p.2) [])->(∀b o,s.heap.get? b=some o->h'.get? b=some o)->
   EP X af σ Q (.ref s.heap.objs.size) { s with heap:=h',toks:=tk }:=by
  intro ao qs nZ hz h' tk dm kp;have rel:=KL nZ .nil;have yp:∀(l:List (Key×V)) (m),(l.foldl (λm q=>putK m q.1 q.2) m).length<=m.length+l.length:=by
   intro l
   induction l with
   |nil=>intro m;exact acy _
   |cons a l ih=>
    intro m;rw[ad9];have h1:=ih (putK m a.1 a.2);have h2:=F9 m a.1 a.2;rw[adu]
    lia
  have hl:=(Paired.length sS).symm;refine⟨.ref s.heap.objs.size,_,I.laid kp (acy _) (E2 ?_ (adR.mpr (aez (ady big))) rel dm),rfl,q _ (I.aD.fresh (acy _))⟩;have:=yp ps [];rw[List.length_nil] at this
  lia
 have xH:∀{qs},KV ps qs->qs.length=ys.length:=λh=>by rw[<- h.length];exact(Paired.length sS).symm
 have pG:∀{s2:Shared},(∃o,s2.heap.get? s.heap.objs.size=some o)->s.heap.objs.size<s2.heap.objs.size:=λ⟨_,e⟩=>aco e
 rcases EO with hq|hq
 .obtain⟨ao,rv,pl,hz⟩:=I.list hq;obtain⟨qs,nZ,E_⟩:=G4 I sS rv;obtain⟨o,n,ho,jR,wX,pX⟩:=pl;have hp:=aco ho;refine Lh qs (by rw[xH nZ];exact hz) "list" (by decide) (λob=>⟨o,aaf _ ho,jR⟩) (λob Q' E' k=>?_) (λs2 Q' E' o2 hS k=>?_) (λh' tk dm kp=>fin ao qs nZ hz h' tk dm kp)
  .obtain⟨c0,d0,VQ,RX⟩:=o;dsimp only at jR wX pX;subst jR wX pX;exact U6 (aaf _ ho) hh λh1 t1 kp=>k h1 t1 kp
  .have jq:s2.heap.IsList p ao.toArray:=⟨o,o2 p o ho,jR,n,pX⟩
   refine wpAny_pyIter_list jq (k s2.heap.objs.size [s2.heap.objs.size,p] [s2.heap.objs.size] _ _ _ _ (Walks.list (A:=X.A.in1.in1) hh s2.heap.objs.size p (ady (Nat.lt_trans hp (pG hS))) ao.toArray) ⟨⟨_,ac9 _ rfl,rfl,rfl⟩,jq.push _⟩ (by rw[xH nZ,adn,<- rv.length]) ?_ (λb ob e=>aaf _ e) ?_ λi v e=>?_)
   .intro m;rcases abG.mp m with z|z
    .exact absurd z (ady (pG hS))
    .exact absurd (aaS.mp z) (aeo hp)
   .intro b m;rw[aaS.mp m];exact afm (aen (pG hS))
   .obtain⟨q',e1,a,key,e2,e3,e4⟩:=E_ i v (by simpa using e);refine⟨q',e1,a,key,e2,λm=>?_,e3,e4⟩;obtain⟨oa,ha,_⟩:=e3;rcases abG.mp m with z|z
    .exact absurd (aco ha) (by rw[z];exact ad8 _)
    .exact absurd (aco ha) (by rw[aaS.mp z];exact Nat.not_lt.mpr (aen (pG hS)))
 .obtain⟨ao,rv,⟨o,ho,jR,wX,n,pX⟩,hz⟩:=I.N6 hq;obtain⟨qs,nZ,E_⟩:=G4 I sS rv;have hp:=aco ho;refine Lh qs (by rw[xH nZ];exact hz) "tuple" (by decide) (λob=>⟨o,aaf _ ho,jR⟩) (λob Q' E' k=>?_) (λs2 Q' E' o2 hS k=>?_) (λh' tk dm kp=>fin ao qs nZ hz h' tk dm kp)
  .obtain⟨c0,d0,VQ,RX⟩:=o;dsimp only at jR wX pX;subst jR wX pX;exact ac2 (aaf _ ho) hh λh1 t1 kp=>k h1 t1 kp
  .have jq:s2.heap.IsTuple p ao.toArray:=⟨o,o2 p o ho,jR,n,pX⟩
   refine wpAny_pyIter_tuple jq (k s2.heap.objs.size [s2.heap.objs.size,p] [s2.heap.objs.size] _ _ _ _ (Walks.tuple (A:=X.A.in1.in1) hh s2.heap.objs.size p (ady (Nat.lt_trans hp (pG hS))) ao.toArray) ⟨⟨_,ac9 _ rfl,rfl,rfl⟩,jq.push _⟩ (by rw[xH nZ,adn,<- rv.length]) ?_ (λb ob e=>aaf _ e) ?_ λi v e=>?_)
   .intro m;rcases abG.mp m with z|z
    .exact absurd z (ady (pG hS))
    .exact absurd (aaS.mp z) (aeo hp)
   .intro b m;rw[aaS.mp m];exact afm (aen (pG hS))
   .obtain⟨q',e1,a,key,e2,e3,e4⟩:=E_ i v (by simpa using e);refine⟨q',e1,a,key,e2,λm=>?_,e3,e4⟩;obtain⟨oa,ha,_⟩:=e3;rcases abG.mp m with z|z
    .exact absurd (aco ha) (by rw[z];exact ad8 _)
    .exact absurd (aco ha) (by rw[aaS.mp z];exact Nat.not_lt.mpr (aen (pG hS)))
end L2
namespace L2.Ev
open PySem PySem.Spec PyProof.Rows
structure VA(X:Cx)(i:Nat)(x:Str):Prop where
 N:X.N[i]? = some x
 v:AY X.env.scope x
 d:(x==("__debug__":Str))=false
 c:(x==("__classdict__":Str))=false
theorem VA.pe(h:VA X i x):PE X (.Name x p) (kH i):=Ai h.N h.v h.d h.c
def vG(X:Cx)(o:Expr)(m:Str)(apos:Pos)(as:List Expr)(pos:Pos)(pl:Sem Bool):Prop:=eval (.Call (.Attribute o m apos) as [] pos) X.env=(do
   let ov <- eval o X.env
   standAt apos.atName
   let(f,first) <- holding [ov] (getMethod ov m pl)
   callWith pos f first (backTo pos (starEach as X.env)) (backToKw pos (keywordEach [] X.env)))
def SE(X:Cx)(e:Expr)(es:List Expr)(pos:Pos):Prop:=starEach (e::es) X.env=(false,eval e X.env)::starEach es X.env/\(backTo pos (starEach es X.env)).any (·.1)=false
def GD(X:Cx)(x:Str):Prop:=Gl X x/\(x==("__debug__":Str))=false
noncomputable abbrev XN:=Str×Option Nat
inductive D where
 |aB|bl (b:Bool)|int (i:Int)|str (x:Str)|tup (ds:List D)|lst (ds:List D)|gH (ds:List D)|bG (ah:List (Key×D))|cQ (ah:List (List Key×D))|ins (cn:Str) (fs:List (Str×D))|exc (cn:XN)
def o6(K:PySem.W.Frag)(H:Hp)(a:Addr)(xs:List V):Prop:=(∃o,H a=some (.bT o (.lst xs)))\/
 ∃(o:Obj) (ao:Array Value) (n:Nat),K.lookup a=some o/\o.cls=.type "list"/\o.dict=none/\o.data=.seq ao n/\ao.size<=sizeLine/\aN xs ao.toList
theorem o6.sq{K:PySem.W.Frag}(h:o6 K H a xs):bK K H a xs:=h.elim (λz=>.inl (.inr z)) .inr
mutual
inductive Rep(K:PySem.W.Frag)(H:Hp):D->V->List Addr->Prop
 |aB:Rep K H .aB .aB []
 |bl (b:Bool):Rep K H (.bl b) (.bl b) []
 |int (i:Int):Rep K H (.int i) (.int i) []
 |str (x:Str):Rep K H (.str x) (.str x) []
 |tup {a:Addr}{xs:List V}{ds:List D}{fp:List Addr}:bN K H a xs->ay K H ds xs fp->Rep K H (.tup ds) (.ref a) fp
 |lst {a:Addr}{xs:List V}{ds:List D}{fp:List Addr}:H a=some (.lst xs)->ay K H ds xs fp->Rep K H (.lst ds) (.ref a) (a::fp)
 |Ay {a:Addr}{xs:List V}{ds:List D}{fp:List Addr}:o6 K H a xs->ay K H ds xs fp->Rep K H (.gH ds) (.ref a) fp
 |bG {a:Addr}{ah:List (Key×V)}{es:List (Key×D)}{fp:List Addr}:H a=some (.dK ah)->es.map (·.1)=ah.map (·.1)->ay K H (es.map (·.2)) (ah.map (·.2)) fp->Rep K H (.bG es) (.ref a) (a::fp)
 |cQ {a:Addr}{ah:List (List Key×V)}{es:List (List Key×D)}{fp:List Addr}:H a=some (.dT ah)->es.map (·.1)=ah.map (·.1)->ay K H (es.map (·.2)) (ah.map (·.2)) fp->Rep K H (.cQ es) (.ref a) (a::fp)
 |ins {cn:Str}{a C dx:Addr}{fs:List (Str×V)}{es:List (Str×D)}{fp:List Addr}:PySem.W.nsIn K mainGlobals cn=some (some (.ref C))->H a=some (.ins C dx fs)->H dx=some (.own a)->es.map (·.1)=fs.map (·.1)->ay K H (es.map (·.2)) (fs.map (·.2)) fp->Rep K H (.ins cn es) (.ref a) (a::dx::fp)
 |exc {cn:XN}{a C:Addr}{de:Option Addr}{ob:Obj}:PySem.W.nsIn K mainGlobals cn.1=some (some (.ref C))->H a=some (EN ob a (.ref C) de)->(∀n,cn.2=some n->∃dx,de=some dx/\H dx=some (Ph dx n))->Rep K H (.exc cn) (.ref a) []
inductive ay(K:PySem.W.Frag)(H:Hp):List D->List V->List Addr->Prop
 |nil:ay K H [] [] []
 |cons {d:D}{v:V}{ds:List D}{vs:List V}{f1 f2:List Addr}:Rep K H d v f1->ay K H ds vs f2->ay K H (d::ds) (v::vs) (f1++f2)
end
def aU(H H':Hp):Prop:=(∀a xs,H a=some (.tup xs)->H' a=some (.tup xs))/\(∀a o u,H a=some (.bT o u)->H' a=some (.bT o u))/\∀a φ,H a=some (.ext φ)->H' a=some (.ext φ)
theorem aU.Wr{K:PySem.W.Frag}(i:aU H H')(h:bN K H a xs):bN K H' a xs:=by
 rcases h with(h|⟨o,h⟩)|h
 .exact .inl (.inl (i.1 _ _ h))
 .exact .inl (.inr ⟨o,i.2.1 _ _ _ h⟩)
 .exact .inr h
theorem aU.bT{K:PySem.W.Frag}(i:aU H H')(h:o6 K H a xs):o6 K H' a xs:=by
 rcases h with⟨o,h⟩|h
 .exact .inl ⟨o,i.2.1 _ _ _ h⟩
 .exact .inr h
theorem aU.of(h:aE H H'):aU H H':=⟨λ_ _ e=>h _ _ e,λ_ _ _ e=>h _ _ e,λ_ _ e=>h _ _ e⟩
theorem aU.trans(a:aU H H1)(b:aU H1 H2):aU H H2:=⟨λ_ _ e=>b.1 _ _ (a.1 _ _ e),λ_ _ _ e=>b.2.1 _ _ _ (a.2.1 _ _ _ e),λ_ _ e=>b.2.2 _ _ (a.2.2 _ _ e)⟩
noncomputable def k8:HO->Bool
 |.lst _|.dK _|.dT _|.ins _ _ _|.own _=>true
 |_=>false
theorem aU.upd(h:H p=some o)(m:k8 o=true):aU H (upd H p o'):=by
 refine⟨λa xs e=>?_,λa q u e=>?_,λa q e=>?_⟩
 .rw[aG]
  .exact e
  .rintro rfl;rw[h] at e;cases e;cases m
 .rw[aG]
  .exact e
  .rintro rfl;rw[h] at e;cases e;cases m
 .rw[aG]
  .exact e
  .rintro rfl;rw[h] at e;cases e;cases m
section
variable{K:PySem.W.Frag}
theorem Rep.frame(r:Rep K H d v fp)(k:∀a∈fp,H' a=H a)(i:aU H H'):Rep K H' d v fp:=
 Rep.rec (motive_2:=λd v fp _=>(∀a∈fp,H' a=H a)->ay K H' d v fp) (λ_=>.aB) (λb _=>.bl b) (λn _=>.int n) (λx _=>.str x) (λh _ r k=>.tup (i.Wr h) (r k))
  (λh _ r k=>.lst ((k _ (.head _)).trans h) (r λa m=>k a (.tail _ m))) (λh _ r k=>.Ay (i.bT h) (r k)) (λh e _ r k=>.bG ((k _ (.head _)).trans h) e (r λa m=>k a (.tail _ m))) (λh e _ r k=>.cQ ((k _ (.head _)).trans h) e (r λa m=>k a (.tail _ m)))
  (λg h h2 e _ r k=>.ins g ((k _ (.head _)).trans h) ((k _ (.tail _ (.head _))).trans h2) e (r λa m=>k a (.tail _ (.tail _ m)))) (λg h p _=>.exc g (i.2.1 _ _ _ h) λn e=>(p n e).imp λ_ q=>⟨q.1,i.2.2 _ _ q.2⟩)
  (λ_=>.nil) (λ_ _ h t k=>.cons (h λa m=>k a (abT _ m)) (t λa m=>k a (aaY _ m))) r k
theorem ay.frame:∀{ds} {vs} {fp},ay K H ds vs fp->(∀a∈fp,H' a=H a)->aU H H'->ay K H' ds vs fp
 |_,_,_,.nil,_,_=>.nil
 |_,_,_,.cons h t,k,i=>.cons (h.frame (λa m=>k a (abT _ m)) i) (ay.frame t (λa m=>k a (aaY _ m)) i)
theorem Rep.cZ(r:Rep K H d v fp):∀a∈fp,∃o,H a=some o/\k8 o=true:=by
 have c:∀{b} {o} {f},H b=some o->k8 o=true->(∀a∈f,∃o,H a=some o/\k8 o=true)->∀a∈b::f,∃o,H a=some o/\k8 o=true:=λh m r a=>λ| .head _=>⟨_,h,m⟩|.tail _ z=>r a z
 have n:∀a∈([]:List Addr),∃o,H a=some o/\k8 o=true:=λ_ m=>nomatch m
 exact Rep.rec n (λ_=>n) (λ_=>n) (λ_=>n) (λ_ _ r=>r) (λh _ r=>c h rfl r) (λ_ _ r=>r) (λh _ _ r=>c h rfl r) (λh _ _ r=>c h rfl r)
  (λ_ h h2 _ _ r=>c h rfl (c h2 rfl r)) (λ_ _ _=>n) n (λ_ _ h t a m=>(ada.mp m).elim (h a) (t a)) r
theorem ay.cZ:∀{ds} {vs} {fp},ay K H ds vs fp->∀a∈fp,∃o,H a=some o/\k8 o=true
 |_,_,_,.nil,_,m=>nomatch m
 |_,_,_,.cons h t,a,m=>(ada.mp m).elim (h.cZ a) (ay.cZ t a)
theorem Rep.same(h:Rep K H d v fp)(s:aE H H'):Rep K H' d v fp:=
 h.frame (λa m=>let⟨o,e,_⟩:=h.cZ a m;(s a o e).trans e.symm) (.of s)
theorem ay.same(h:ay K H ds vs fp)(s:aE H H'):ay K H' ds vs fp:=
 h.frame (λa m=>let⟨o,e,_⟩:=h.cZ a m;(s a o e).trans e.symm) (.of s)
theorem ay.length:∀{ds} {vs} {fp},ay K H ds vs fp->ds.length=vs.length
 |_,_,_,.nil=>rfl
 |_,_,_,.cons _ t=>by rw[adu,adu,ay.length t]
theorem ay.get:∀{ds} {vs} {fp}{i:Nat} {d},ay K H ds vs fp->ds[i]? = some d->∃v f,vs[i]? = some v/\Rep K H d v f/\∀a∈f,a∈fp
 |_,_,_,_,_,.nil,e=>by simp at e
 |_,_,_,0,_,.cons h t,e=>by
  have e':=ads e;subst e';exact⟨_,_,rfl,h,λa m=>abT _ m⟩
 |_,_,_,i+1,d,.cons h t,e=>by
  obtain⟨v,f,e1,r,s⟩:=ay.get t (by simpa using e);exact⟨v,f,by simpa using e1,r,λa m=>aaY _ (s a m)⟩
theorem ay.append:∀{ds es} {vs ws} {f g},ay K H ds vs f->ay K H es ws g->ay K H (ds++es) (vs++ws) (f++g)
 |_,_,_,_,_,_,.nil,s=>s
 |_,_,_,_,_,g,.cons h t,s=>by
  rw[adT];exact .cons h (ay.append t s)
end
theorem Rep.iO{K:PySem.W.Frag}(r:Rep K H (.int i) v fp):v=.int i/\fp=[]:=by cases r;exact⟨rfl,rfl⟩
theorem Rep.Am{K:PySem.W.Frag}(r:Rep K H (.bl i) v fp):v=.bl i/\fp=[]:=by cases r;exact⟨rfl,rfl⟩
theorem Rep.xh{K:PySem.W.Frag}(r:Rep K H (.str i) v fp):v=.str i/\fp=[]:=by cases r;exact⟨rfl,rfl⟩
theorem Rep.yH{K:PySem.W.Frag}(r:Rep K H .aB v fp):v=.aB/\fp=[]:=by cases r;exact⟨rfl,rfl⟩
mutual
noncomputable def aA:D->Bool
 |.lst _|.bG _|.cQ _|.ins _ _=>false
 |.tup ds=>aI ds
 |.gH ds=>aI ds
 |_=>true
noncomputable def aI:List D->Bool
 |[]=>true
 |d::ds=>aA d&&aI ds
end
section
variable{K:PySem.W.Frag}
theorem Rep.aA(r:Rep K H d v fp)(e:aA d=true):fp=[]:=
 Rep.rec (motive_2:=λds _ fp _=>aI ds=true->fp=[]) (λ_=>rfl) (λ_ _=>rfl) (λ_ _=>rfl) (λ_ _=>rfl) (λ_ _ r e=>r (by rw[L2.Ev.aA] at e;exact e)) (λ_ _ _ e=>by delta L2.Ev.aA at e;cases e) (λ_ _ r e=>r (by rw[L2.Ev.aA] at e;exact e))
  (λ_ _ _ _ e=>by delta L2.Ev.aA at e;cases e) (λ_ _ _ _ e=>by delta L2.Ev.aA at e;cases e) (λ_ _ _ _ _ _ e=>by delta L2.Ev.aA at e;cases e) (λ_ _ _ _=>rfl) (λ_=>rfl) (λ_ _ h t e=>by
   rw[aI,abm] at e;rw[h e.1,t e.2];rfl) r e
theorem ay.aA:∀{ds} {vs} {fp},ay K H ds vs fp->aI ds=true->fp=[]
 |_,_,_,.nil,_=>rfl
 |_,_,_,.cons h t,e=>by
  rw[aI,abm] at e;rw[h.aA e.1,ay.aA t e.2];rfl
end
inductive Tag where
 |own|lk|sh (o:List Nat)
noncomputable abbrev Slot:=Option (D×Tag)
abbrev aO:=List Slot
def tE(z:Addr->Option Nat)(i:Nat):Tag->List Addr->Prop
 |.sh o,fp=>∀a∈fp,∀j,z a=some j->j∈o
 |_,fp=>fp.Nodup/\∀a∈fp,z a=some i
def sL(ρ:aO)(j:Nat):Prop:=∀d,ρ[j]?≠some (some (d,.own))
structure mP where
 d:D
 v:V
 fp:List Addr
 z0:Addr->Option Nat
structure Ok(K:PySem.W.Frag)(H0:Hp)(S:List Addr)(z:Addr->Option Nat)(ak:List mP)(ρ:aO)(σ:St)(H:Hp):Prop where
 sl:∀i d t,ρ[i]? = some (some (d,t))->∃v fp,σ[i]? = some (some v)/\Rep K H d v fp/\tE z i t fp
 hl:∀p∈ak,Rep K H p.d p.v p.fp/\∀a∈p.fp,∀j,z a=some j->p.z0 a=some j/\sL ρ j
 zd:∀a j,z a=some j->(∃o,H a=some o)/\(H0 a=none\/a∈S)
 en:∀a o,H0 a=some o->a∉S->H a=some o
 ln:ρ.length=σ.length
theorem Ok.same{K:PySem.W.Frag}(h:Ok K H0 S z ak ρ σ H)(s:aE H H'):Ok K H0 S z ak ρ σ H':=
 ⟨λi d t e=>let⟨v,fp,a,b,c⟩:=h.sl i d t e;⟨v,fp,a,b.same s,c⟩,λp m=>let⟨a,b⟩:=h.hl p m;⟨a.same s,b⟩,
  λa j e=>let⟨⟨o,x⟩,y⟩:=h.zd a j e;⟨⟨o,s _ _ x⟩,y⟩,λa o e n=>s _ _ (h.en a o e n),h.ln⟩
def cJ(z:Addr->Option Nat)(H:Hp):Tag->List Addr->Prop
 |.sh o,fp=>∀a∈fp,∀j,z a=some j->j∈o
 |_,fp=>fp.Nodup/\∀a∈fp,H a=none
theorem cJ.nil:cJ z H t []:=by
 cases t with
 |sh o=>intro a m;cases m
 |own=>exact⟨adw,λa m=>nomatch m⟩
 |lk=>exact⟨adw,λa m=>nomatch m⟩
abbrev EF:=aO->Option (D×Tag)
def FP(X:Cx)(e:Expr)(f:EF):Prop:=∃t,PE X e t/\∀{H0} {S} {z} {ak} {ρ} {σ} {H} {Q} {d} {tg},
 Ok X.K H0 S z ak ρ σ H->f ρ=some (d,tg)->(∀H' v fp,aE H H'->Rep X.K H' d v fp->cJ z H tg fp->Q v H')->t σ H Q
abbrev AF:=aO->Option (List (D×Tag))
abbrev TF:=aO->Option Bool
def FT(X:Cx)(e:Expr)(f:TF):Prop:=∃t,PT X e t/\∀{H0} {S} {z} {ak} {ρ} {σ} {H} {Q} {b},
 Ok X.K H0 S z ak ρ σ H->f ρ=some b->(∀H',aE H H'->Q b H')->t σ H Q
noncomputable def CH(i:Nat):Tag->Tag
 |.sh o=>.sh o
 |_=>.sh [i]
def aj(i:Nat):EF:=λρ=>match ρ[i]? with
 |some (some (d,t))=>some (d,CH i t)
 |_=>none
theorem ai(i:Nat)(va:VA X i x:=by walk_at "va"):FP X (.Name x pos) (aj i):=by
 exists 20,va.pe;unfold aj at e;exists h,ρ[i]?,s,e,0;cases s with
 |none=>rw[h] at e;cases e
 |some p=>
  obtain⟨d',t⟩:=p;rw[h] at e;have e':=ads e;have e1:=congrArg Prod.fst e';have e2:=congrArg Prod.snd e';subst e1 e2;obtain⟨v,fp,hs,r,zz⟩:=ok.sl i d' t h;refine⟨v,hs,q H v fp (aE.refl H) r ?_⟩;cases t with
  |sh o=>exact zz
  |own=>intro a m j ej;rw[zz.2 a m] at ej;cases ej;exact aat
  |lk=>intro a m j ej;rw[zz.2 a m] at ej;cases ej;exact aat
noncomputable def eC(d:D):EF:=λ_=>some (d,.own)
theorem aL{i j pos}:FP X (.Constant (.int i) j pos) (eC (.int i)):=⟨_,Fd,@λ_ _ _ _ _ _ H _ _ _ _ e q=>by cases e;exact q H _ _ (aE.refl H) (.int i) .nil⟩
theorem eT{b j pos}:FP X (.Constant (.bool b) j pos) (eC (.bl b)):=⟨_,Wt,@λ_ _ _ _ _ _ H _ _ _ _ e q=>by cases e;exact q H _ _ (aE.refl H) (.bl b) .nil⟩
theorem ki{j pos}:FP X (.Constant .none j pos) (eC .aB):=⟨_,UA,@λ_ _ _ _ _ _ H _ _ _ _ e q=>by cases e;exact q H _ _ (aE.refl H) .aB .nil⟩
theorem fZ{x j pos}:FP X (.Constant (.str x) j pos) (eC (.str x)):=⟨_,Hi,@λ_ _ _ _ _ _ H _ _ _ _ e q=>by cases e;exact q H _ _ (aE.refl H) (.str x) .nil⟩
noncomputable def e2(op:D->D->Option D)(fa fb:EF):EF:=λρ=>match fa ρ,fb ρ with
 |some (d1,_),some (d2,_)=>(op d1 d2).map λd=>(d,.own)
 |_,_=>none
theorem pP(e:e2 op fa fb ρ=some (d,tg)):∃d1 t1 d2 t2,fa ρ=some (d1,t1)/\fb ρ=some (d2,t2)/\op d1 d2=some d/\tg=.own:=by
 unfold e2 at e;exists h1,fa ρ,p,e,0;obtain⟨d1,t1⟩:=p;cases h2:fb ρ with
 |none=>rw[h1,h2] at e;cases e
 |some p=>
  obtain⟨d2,t2⟩:=p;rw[h1,h2] at e;dsimp only at e;exists h3,op d1 d2,d3,e;cases e;exact⟨d1,t1,d2,t2,rfl,rfl,h3,rfl⟩
def d8(K:PySem.W.Frag)(r:R2)(op:D->D->Option D):Prop:=∀(H) (x y) (d1 d2) (f1 f2) (d) (Q),Rep K H d1 x f1->Rep K H d2 y f2->op d1 d2=some d->
 (∀H' v,aE H H'->Rep K H' d v []->Q v H')->r x y H Q
theorem fp_2{a b e:Expr}(dd:d8 X.K r op)(ha:FP X a fa)(hb:FP X b fb)(he:∀ta tb,PE X a ta->PE X b tb->PE X e (o9 r ta tb)):FP X e (e2 op fa fb):=by
 obtain⟨ta,pa,sa⟩:=ha;obtain⟨tb,pb,sb⟩:=hb;exists 20,he ta tb pa pb;obtain⟨d1,t1,d2,t2,e1,kg,e3,rfl⟩:=pP e;refine sa ok e1 λH1 x f1 s1 r1 _=>?_
 refine sb (ok.same s1) kg λH2 y f2 s2 r2 _=>?_
 exact dd H2 x y d1 d2 f1 f2 d Q (r1.same s2) r2 e3 λH3 v s3 r3=>q H3 v [] ((s1.trans s2).trans s3) r3 .nil
end L2.Ev
namespace L2.Ev
open PySem PySem.Spec PyProof.Rows
noncomputable def G_:Tag->Tag->Tag
 |.sh o,.sh p=>.sh (o++p)
 |.sh o,_=>.sh o
 |_,t=>t
def jh:List (D×Tag)->Tag
 |[]=>.own
 |p::r=>G_ p.2 (jh r)
def FA(X:Cx)(es:List Expr)(f:AF):Prop:=∃t,PA X es t/\(∀ρ ps,f ρ=some ps->ps.length=es.length)/\∀{H0} {S} {z} {ak} {ρ} {σ} {H} {Q} {ps},
 Ok X.K H0 S z ak ρ σ H->f ρ=some ps->(∀H' vs fp,aE H H'->ay X.K H' (ps.map (·.1)) vs fp->cJ z H (jh ps) fp->Q vs H')->t σ H Q
noncomputable def aH:AF:=λ_=>some []
noncomputable def au(f:EF)(g:AF):AF:=λρ=>match f ρ,g ρ with
 |some p,some ps=>some (p::ps)
 |_,_=>none
theorem PR(e:au f g ρ=some ps):∃d t r,f ρ=some (d,t)/\g ρ=some r/\ps=(d,t)::r:=by
 unfold au at e;exists h1,f ρ,p,e,0;cases h2:g ρ with
 |none=>rw[h1,h2] at e;cases e
 |some r=>
  rw[h1,h2] at e;cases e;exact⟨p.1,p.2,r,rfl,rfl,rfl⟩
theorem cJ.join{K:PySem.W.Frag}(ok:Ok K H0 S z ak ρ σ H)(s:aE H H1)
  (h1:cJ z H t1 f1) (d1:∀a∈f1,∃o,H1 a=some o/\k8 o=true) (h2:cJ z H1 t2 f2):cJ z H (G_ t1 t2) (f1++f2):=by
 have nz:∀{a} {j},H a=none->z a=some j->False:=λ{a j} e q=>by
  obtain⟨⟨o,w⟩,_⟩:=ok.zd a j q;rw[e] at w;cases w
 have both:∀{t1 t2:Tag},(f1.Nodup/\∀a∈f1,H a=none)->(f2.Nodup/\∀a∈f2,H1 a=none)->(f1++f2).Nodup/\∀a∈f1++f2,H a=none:=λp q=>by
  refine⟨adE.mpr ⟨p.1,q.1,λa m b m' e=>?_⟩,λa m=>?_⟩
  .subst e;obtain⟨o,w,_⟩:=d1 a m;rw[q.2 a m'] at w;cases w
  .rcases ada.mp m with m|m
   .exact p.2 a m
   .exact s.free (q.2 a m)
 cases t1 with
 |sh o=>
  have gz:=h1;cases t2 with
  |sh p=>
   intro a m j q;rcases ada.mp m with m|m
   .exact abT _ (gz a m j q)
   .exact aaY _ (h2 a m j q)
  |own=>
   intro a m j q;rcases ada.mp m with m|m
   .exact gz a m j q
   .exact(nz (s.free (h2.2 a m)) q).elim
  |lk=>
   intro a m j q;rcases ada.mp m with m|m
   .exact gz a m j q
   .exact(nz (s.free (h2.2 a m)) q).elim
 |own=>
  cases t2 with
  |sh p=>
   intro a m j q;rcases ada.mp m with m|m
   .exact(nz (h1.2 a m) q).elim
   .exact h2 a m j q
  |own=>exact both (t1:=.own) (t2:=.own) h1 h2
  |lk=>exact both (t1:=.own) (t2:=.own) h1 h2
 |lk=>
  cases t2 with
  |sh p=>
   intro a m j q;rcases ada.mp m with m|m
   .exact(nz (h1.2 a m) q).elim
   .exact h2 a m j q
  |own=>exact both (t1:=.own) (t2:=.own) h1 h2
  |lk=>exact both (t1:=.own) (t2:=.own) h1 h2
theorem aJ:FA X [] aH:=⟨_,fC,λ_ _ e=>by cases e;rfl,@λ_ _ _ _ _ _ H _ _ _ e q=>by cases e;exact q H _ _ (aE.refl H) .nil .nil⟩
theorem aq{e:Expr}{es:List Expr}(ha:FP X e f)(hr:FA X es g)(hs:starEach (e::es) X.env=(false,eval e X.env)::starEach es X.env:=by rfl):FA X (e::es) (au f g):=by
 obtain⟨t,p,q⟩:=ha;obtain⟨t',p',l',q'⟩:=hr;refine⟨_,dU p p' hs,λρ ps e=>by obtain⟨d,tg,r,e1,e2,rfl⟩:=PR e;rw[adu,adu,l' ρ r e2],@λH0 S z ak ρ σ H Q ps ok e k=>?_⟩;obtain⟨d,tg,r,e1,e2,rfl⟩:=PR e;refine q ok e1 λH1 v f1 s1 r1 g1=>?_
 refine q' (ok.same s1) e2 λH2 vs f2 s2 r2 g2=>?_
 exact k H2 (v::vs) (f1++f2) (s1.trans s2) (.cons (r1.same s2) r2) (cJ.join ok s1 g1 r1.cZ g2)
def j_(g:AF):EF:=λρ=>(g ρ).map λps=>(.tup (ps.map (·.1)),jh ps)
theorem jQ{x1}(h:FA X es g)(hl:es.length<=1000:=by decide):FP X (.Tuple es x1 pos) (j_ g):=by
 obtain⟨t,p,hg,q⟩:=h;exists 21,Sk p;unfold j_ at e;exists h1,g ρ,ps,e;cases e;refine q ok h1 λH1 vs fp s1 r1 g1=>⟨?_,λa ha=>?_⟩
 .rw[<- r1.length,List.length_map,hg ρ ps h1];exact aen (Fp hl)
 .have s2:aE H1 (upd H1 a (.tup vs)):=λb o e=>by rw[aG (cu e ha)];exact e
  exact k _ _ fp (s1.trans s2) (.tup (bN.of bg) (r1.same s2)) g1
def iN(g:AF):EF:=λρ=>(g ρ).map λps=>(.lst (ps.map (·.1)),jh ps)
theorem cJ.cons{K:PySem.W.Frag}(ok:Ok K H0 S z ak ρ σ H)(s:aE H H1)(h:cJ z H t fp)
  (d:∀b∈fp,∃o,H1 b=some o/\k8 o=true) (ha:H1 a=none):cJ z H t (a::fp):=by
 have na:=s.free ha;have both:(fp.Nodup/\∀b∈fp,H b=none)->(a::fp).Nodup/\∀b∈a::fp,H b=none:=λp=>by
  refine⟨ado.mpr ⟨λm=>?_,p.1⟩,λb m=>?_⟩
  .obtain⟨o,w,_⟩:=d a m;rw[ha] at w;cases w
  .rcases abG.mp m with e|m
   .rw[e];exact na
   .exact p.2 b m
 cases t with
 |sh o=>
  intro b m j q;rcases abG.mp m with e|m
  .obtain⟨⟨o,w⟩,_⟩:=ok.zd b j q;rw[e,na] at w;cases w
  .exact h b m j q
 |own=>exact both h
 |lk=>exact both h
theorem gY(h:FA X es g)(hl:es.length<=1000:=by decide):FP X (.List es pos) (iN g):=by
 obtain⟨t,p,hg,q⟩:=h;exists 21,X6 p;unfold iN at e;exists h1,g ρ,ps,e;cases e;refine q ok h1 λH1 vs fp s1 r1 g1=>⟨?_,λa ha=>?_⟩
 .rw[<- r1.length,List.length_map,hg ρ ps h1];exact aen (Fp hl)
 .have s2:aE H1 (upd H1 a (.lst vs)):=λb o e=>by rw[aG (cu e ha)];exact e
  exact k _ _ (a::fp) (s1.trans s2) (.lst bg (r1.same s2)) (g1.cons ok s1 r1.cZ ha)
def aZ(K:PySem.W.Frag)(F:List D->Option D):Sp:=λvs H Q _=>∃ds fp d,ay K H ds vs fp/\F ds=some d/\∀H' v i_,aE H H'->Rep K H' d v i_->i_.Nodup->(∀a∈i_,H a=none)->Q v H'
noncomputable def cC(F:List D->Option D)(g:AF):EF:=λρ=>(g ρ).bind λps=>(F (ps.map (·.1))).map λd=>(d,.own)
theorem U5(e:cC F g ρ=some (d,tg)):∃ps,g ρ=some ps/\F (ps.map (·.1))=some d/\tg=.own:=by
 unfold cC at e;exists h1,g ρ,ps,e,0;rw[h1,adH] at e;exists h2,F (ps.map (·.1)),d',e;cases e;exact⟨ps,rfl,h2,rfl⟩
theorem b7(G:bP X.prog X.w X.K X.mg X.base cR k f fd ps (aZ X.K F) cm)(hr:bh k X.A cm)(hm:X.mg x=some (.ref f))(hk:PySem.W.keepIn X.K (.ref f)=true)(hb:Binds X.K fd ps [])(ha:FA X (e::es) g)
  (hg:GD X x:=by exact⟨rfl,by decide⟩)
  (he:SE X e es pos:=by exact⟨rfl,rfl⟩):FP X (.Call (.Name x p) (e::es) [] pos) (cC F g):=by
 obtain⟨t,pa,_,sa⟩:=ha;refine⟨_,Lz G hr hg.1 hm hk hb .nil mG pa hg.2 he.1 he.2,@λH0 S z ak ρ σ H Q d tg ok e0 q=>?_⟩;obtain⟨qs,e1,e2,rfl⟩:=U5 e0;refine sa ok e1 λH1 vs fp s1 r1 _=>?_
 rw[adD];exact⟨_,fp,d,r1,e2,λH2 v i_ s2 r2 nd fr=>q H2 v i_ (s1.trans s2) r2 ⟨nd,λa m=>s1.free (fr a m)⟩⟩
noncomputable def tV(f:EF):TF:=λρ=>match f ρ with
 |some (.bl b,_)=>some b
 |_=>none
theorem Fq(e:tV f ρ=some b):∃t,f ρ=some (.bl b,t):=by
 unfold tV at e;exists h,f ρ,p,e,0;obtain⟨d,t⟩:=p;rw[h] at e;cases d<;>first|(cases e;exact⟨t,rfl⟩)|cases e
theorem eB(h:FP X e f)(he:∀whole,isTrue e X.env whole=(do let v <- whole;standAt e.pos;holding [v] (truthy v)):=by intro _;rfl):FT X e (tV f):=by
 obtain⟨t,p,q⟩:=h;refine⟨_,KN p he,@λH0 S z ak ρ σ H Q b ok e k=>?_⟩;obtain⟨tg,e1⟩:=Fq e;refine q ok e1 λH1 v fp s1 r1 _=>?_
 cases r1;exact⟨b,rfl,k H1 s1⟩
theorem iW(ho:cD X (compareOp op) r)(dd:d8 X.K r o)(ha:FP X a fa)(hb:FP X b fb)(hm:behindInMarks op b=false):FT X (.Compare a [op] [b] pos) (tV (e2 o fa fb)):=by
 obtain⟨ta,pa,sa⟩:=ha;obtain⟨tb,pb,sb⟩:=hb;exists 22,Fb ho pa pb hm;obtain⟨tg,e0⟩:=Fq e;obtain⟨d1,t1,d2,t2,e1,kg,e3,rfl⟩:=pP e0;refine sa ok e1 λH1 x f1 s1 r1 _=>?_
 refine sb (ok.same s1) kg λH2 y f2 s2 r2 _=>?_
 refine dd H2 x y d1 d2 f1 f2 _ _ (r1.same s2) r2 e3 λH3 v s3 r3=>?_
 cases r3;exact⟨c,rfl,k H3 ((s1.trans s2).trans s3)⟩
theorem n9(ho:cD X (compareOp op) r)(dd:d8 X.K r o)(ha:FP X a fa)(hb:FP X b fb)(hm:behindInMarks op b=false):FP X (.Compare a [op] [b] pos) (e2 o fa fb):=
 fp_2 dd ha hb λ_ _ pa pb=>Rn ho pa pb hm
theorem rQ(ho:cD X (binaryOp op) r)(dd:d8 X.K r o)(ha:FP X a fa)(hb:FP X b fb):FP X (.BinOp a op b pos) (e2 o fa fb):=
 fp_2 dd ha hb λ_ _ pa pb=>uJ ho pa pb
noncomputable def jy(f g:TF):TF:=λρ=>match f ρ with
 |some true=>g ρ
 |some false=>some false
 |none=>none
noncomputable def jM(f g:TF):TF:=λρ=>match f ρ with
 |some true=>some true
 |some false=>g ρ
 |none=>none
noncomputable def kC(f:TF):TF:=λρ=>(f ρ).map λb=>!b
def FW(X:Cx)(e:Expr)(f:TF):Prop:=∃t,PW X e t/\∀{H0} {S} {z} {ak} {ρ} {σ} {H} {Q} {b},
 Ok X.K H0 S z ak ρ σ H->f ρ=some b->(∀H',aE H H'->Q b H')->t σ H Q
theorem FW.ft(h:FW X e f):FT X e f:=let⟨t,p,q⟩:=h;⟨t,p.pt,q⟩
theorem Av(h:FT X a f):FW X (.BoolOp .And [a] pos) f:=let⟨t,p,q⟩:=h;⟨t,LS p,q⟩
theorem mK(h:FT X a f):FW X (.BoolOp .Or [a] pos) f:=let⟨t,p,q⟩:=h;⟨t,abX p,q⟩
theorem xx{rest:List Expr}(ha:FT X a f)(hb:FW X (.BoolOp .And (b::rest) pos) g):FW X (.BoolOp .And (a::b::rest) pos) (jy f g):=by
 obtain⟨t,p,q⟩:=ha;obtain⟨t',p',q'⟩:=hb;exists 22,G5 p p';unfold jy at e;exists h,f ρ,y,e;cases y with
 |false=>
  cases e;refine q ok h λH1 s1=>?_
  rw[acZ abR];exact k H1 s1
 |true=>
  refine q ok h λH1 s1=>?_
  rw[if_pos rfl];exact q' (ok.same s1) e λH2 s2=>k H2 (s1.trans s2)
theorem jA{rest:List Expr}(ha:FT X a f)(hb:FW X (.BoolOp .Or (b::rest) pos) g):FW X (.BoolOp .Or (a::b::rest) pos) (jM f g):=by
 obtain⟨t,p,q⟩:=ha;obtain⟨t',p',q'⟩:=hb;exists 22,Wz p p';unfold jM at e;exists h,f ρ,y,e;cases y with
 |true=>
  cases e;refine q ok h λH1 s1=>?_
  rw[if_pos rfl];exact k H1 s1
 |false=>
  refine q ok h λH1 s1=>?_
  rw[acZ abR];exact q' (ok.same s1) e λH2 s2=>k H2 (s1.trans s2)
theorem iR(ha:FT X a f):FT X (.UnaryOp .Not a pos) (kC f):=by
 obtain⟨t,p,q⟩:=ha;exists 22,acm p;unfold kC at e;exists h,f ρ,y,e;cases e;exact q ok h λH1 s1=>k H1 s1
inductive Out where
 |nx (ρ:aO)|rt (d:D)|bk (ρ:aO)|ct (ρ:aO)
 |er (raw:Bool) (cn:XN) (ρ:aO)
abbrev SF:=aO->Option Out
noncomputable def kP(X:Cx)(x:Str):Bool:=x==("self":Str)||(X.fn ("self":Str)&&!X.fn x)
def Kp(X:Cx)(σ aC:St):Prop:=∀(i:Nat) (x),X.N[i]? = some x->kP X x=true->aC[i]? = σ[i]?
theorem Kp.refl(X:Cx)(σ:St):Kp X σ σ:=λ_ _ _ _=>rfl
theorem Kp.trans(a:Kp X σ ng)(b:Kp X ng gS):Kp X σ gS:=λi x h k=>(b i x h k).trans (a i x h k)
theorem Kp.set(hi:X.N[i]? = some x)(hs:kP X x=false):Kp X σ (σ.set i v):=λj y h k=>by
 refine adI λe=>?_
 subst e;rw[hi] at h;have h:=ads h;subst h;rw[hs] at k;cases k
def tR(X:Cx)(H0:Hp)(S:List Addr)(ak:List mP)(mR:St)(raw:Bool)(cn:XN)(ρ:aO):Prop:=∃ES:XS,(if raw=true then abj X ES else Qm X ES)/\
 ∀z σ H C,Ok X.K H0 S z ak ρ σ H->Kp X mR σ->PySem.W.nsIn X.K mainGlobals cn.1=some (some (.ref C))->ES (.ref C) cn.2 σ H
theorem tR.of(k:tR X H0 S ak σ raw cn ρ)(a:Kp X σ aC):tR X H0 S ak aC raw cn ρ:=
 let⟨ES,th,q⟩:=k;⟨ES,th,λz s H C ok b hC=>q z s H C ok (a.trans b) hC⟩
def mS(X:Cx)(H0:Hp)(S:List Addr)(ak:List mP)(mR:St)(E:Ends):Out->Prop
 |.nx ρ=>∀z σ H,Ok X.K H0 S z ak ρ σ H->Kp X mR σ->E.nx σ H
 |.bk ρ=>∀z σ H,Ok X.K H0 S z ak ρ σ H->Kp X mR σ->E.bk σ H
 |.ct ρ=>∀z σ H,Ok X.K H0 S z ak ρ σ H->Kp X mR σ->E.ct σ H
 |.er raw cn ρ=>tR X H0 S ak mR raw cn ρ
 |.rt d=>∀H v fp,(∀a o,H0 a=some o->a∉S->H a=some o)->Rep X.K H d v fp->fp.Nodup->(∀a∈fp,H0 a=none\/a∈S)->E.rt v H
def FS(X:Cx)(st:List Stmt)(f:SF):Prop:=∃t,gu X st t/\∀{H0} {S} {z} {ak} {ρ} {σ} {H} {E} {o},
 Ok X.K H0 S z ak ρ σ H->f ρ=some o->mS X H0 S ak σ E o->t E σ H
def eY(X:Cx)(st:Stmt)(f:SF):Prop:=∃t,PS X st t/\∀{H0} {S} {z} {ak} {ρ} {σ} {H} {E} {o},
 Ok X.K H0 S z ak ρ σ H->f ρ=some o->mS X H0 S ak σ E o->t E σ H
theorem mS.of(k:mS X H0 S ak σ E o)(a:Kp X σ aC):mS X H0 S ak aC E o:=by
 cases o with
 |nx ρ=>exact λz s H ok b=>k z s H ok (a.trans b)
 |bk ρ=>exact λz s H ok b=>k z s H ok (a.trans b)
 |ct ρ=>exact λz s H ok b=>k z s H ok (a.trans b)
 |rt d=>exact k
 |er raw cn ρ=>exact tR.of k a
noncomputable def d7:SF:=λρ=>some (.nx ρ)
noncomputable def bH(f g:SF):SF:=λρ=>match f ρ with
 |some (.nx ρ')=>g ρ'
 |o=>o
theorem cX:FS X [] d7:=⟨_,EW,@λ_ _ z _ _ σ H _ _ ok e k=>by cases e;exact k z σ H ok (.refl _ _)⟩
theorem aM{st:Stmt}(h:eY X st f):FS X [st] f:=let⟨t,p,q⟩:=h;⟨t,zQ p,q⟩
theorem aS{st:Stmt}{rest:List Stmt}(h1:eY X st f)(h2:FS X rest g):FS X (st::rest) (bH f g):=by
 obtain⟨t,p,q⟩:=h1;obtain⟨t',p',q'⟩:=h2;exists 23,r9 p p';unfold bH at e;exists h,f ρ,w,e,0;refine q ok h ?_;rw[h] at e;cases w with
 |nx ρ'=>exact λz' aC H' bu a=>q' bu e (k.of a)
 |rt d=>cases e;exact k
 |bk ρ'=>cases e;exact k
 |ct ρ'=>cases e;exact k
 |er _ _ _=>cases e;exact k
noncomputable def OB:SF:=λ_=>none
theorem OR{st:Stmt}:eY X st OB:=⟨_,Iz,@λ_ _ _ _ _ _ _ _ _ _ e _=>by cases e⟩
noncomputable def c9(c:TF)(f g:SF):SF:=λρ=>match c ρ with
 |some true=>f ρ
 |some false=>g ρ
 |none=>none
theorem dh(hc:FT X c tc)(ha:FS X a f)(hb:FS X b g):eY X (.If c a b pos) (c9 tc f g):=by
 obtain⟨t,p,q⟩:=hc;obtain⟨t1,p1,q1⟩:=ha;obtain⟨t2,p2,q2⟩:=hb;exists 23,xN p p1 p2;unfold c9 at e;exists h,tc ρ,y,e;refine q ok h λH1 s1=>?_
 cases y with
 |true=>rw[if_pos rfl];exact q1 (ok.same s1) e k
 |false=>rw[acZ abR];exact q2 (ok.same s1) e k
noncomputable def jV:Tag->Bool
 |.sh _=>false
 |_=>true
def iz(f:EF):SF:=λρ=>match f ρ with
 |some (d,t)=>if jV t=true then some (.rt d) else if aA d=true then some (.rt d) else none
 |none=>none
theorem aV(he:FP X e f):eY X (.Return (some e) pos) (iz f):=by
 obtain⟨t,p,q⟩:=he;exists 23,uf p;unfold iz at e;exists h,f ρ,w,e,0;obtain⟨d,tg⟩:=w;rw[h] at e;dsimp only at e;refine q ok h λH1 v fp s1 r1 g1=>?_
 have en:∀a o,H0 a=some o->a∉S->H1 a=some o:=λa o e n=>s1 _ _ (ok.en a o e n)
 by_cases ho:jV tg=true
 .rw[if_pos ho] at e;cases e;have g:fp.Nodup/\∀a∈fp,H a=none:=by cases tg<;>first|exact g1|cases ho
  refine k H1 v fp en r1 g.1 λa m=>?_
  cases h0:H0 a with
  |none=>exact .inl rfl
  |some o=>
   by_cases hs:a∈S
   .exact .inr hs
   .have w:=ok.en a o h0 hs;rw[g.2 a m] at w;cases w
 .rw[acZ ho] at e;obtain⟨hi,e⟩:=ci e;cases e;have hn:=r1.aA hi;subst hn;exact k H1 v [] en r1 adw λa m=>nomatch m
def rG(i:Nat):SF:=λρ=>match ρ[i]? with
 |some (some (d,t))=>if jV t=true then some (.rt d) else if aA d=true then some (.rt d) else none
 |_=>none
theorem tW(i:Nat)(va:VA X i x:=by walk_at "va"):eY X (.Return (some (.Name x pos')) pos) (rG i):=by
 exists 23,uf va.pe;unfold rG at e;exists h,ρ[i]?,w,e,0;cases w with
 |none=>rw[h] at e;cases e
 |some w=>
  obtain⟨d,tg⟩:=w;rw[h] at e;dsimp only at e;obtain⟨v,fp,hs,r,zz⟩:=ok.sl i d tg h;refine⟨v,hs,?_⟩
  by_cases ho:jV tg=true
  .rw[if_pos ho] at e;cases e;have g:fp.Nodup/\∀a∈fp,z a=some i:=by cases tg<;>first|exact zz|cases ho
   exact k H v fp ok.en r g.1 λa m=>(ok.zd a i (g.2 a m)).2
  .rw[acZ ho] at e;obtain⟨hi,e⟩:=ci e;cases e;have hn:=r.aA hi;subst hn;exact k H v [] ok.en r adw λa m=>nomatch m
noncomputable def h_(ρ:aO)(i:Nat)(d:D):Tag->aO
 |.sh o=>ρ.set i (some (d,.sh o))
 |_=>ρ.set i (some (d,.own))
def dO(i:Nat)(f:EF):SF:=λρ=>match f ρ with
 |some (d,t)=>some (.nx (h_ ρ i d t))
 |none=>none
theorem Ok.chg{K:PySem.W.Frag}{fp a_ fo:List Addr}(ok:Ok K H0 S z ak ρ σ H)(hi:ρ'[i]? = some (some (d,tg)))(hs:aC[i]? = some (some v))(h0:∀a∈a_,z a=some i)(im:aU H H')
  (keep:∀b o,b∉a_->H b=some o->H' b=some o) (r:Rep K H' d v fp) (hz:tE z' i tg fp) (zn:∀a,a∉fo->z a=some i/\z' a=none\/z' a=z a/\a∉a_/\(z a=some i->¬sL ρ i)) (B7:∀a∈fo,(a∈a_\/H a=none)/\∃o,H' a=some o)
  (ot:∀{j d t},j≠i->ρ'[j]? = some (some (d,t))->ρ[j]? = some (some (d,t))/\(a_=[]\/∀o,t=.sh o->i∉o)) (os:∀j,j≠i->aC[j]? = σ[j]?) (hh:a_=[]\/¬sL ρ i) (ln:ρ'.length=aC.length):Ok K H0 S z' ak ρ' aC H':=by
 have old:∀{a} {o},a∉a_->H a=some o->a∉fo:=λn e m=>(B7 _ m).1.elim n λq=>by rw[e] at q;cases q
 have at_:∀{a} {k},a∉fo->z' a=some k->z a=some k/\a∉a_/\(k=i->¬sL ρ i):=λ{a k} n e=>by
  rcases zn a n with⟨_,w⟩|⟨w,q,u⟩
  .rw[e] at w;cases w
  .rw[e] at w;exact⟨w.symm,q,λx=>u (x ▸ w.symm)⟩
 have S0:∀a∈a_,H0 a=none\/a∈S:=λa m=>(ok.zd a i (h0 a m)).2
 refine⟨λj d' t e=>?_,λp hp=>?_,λa j e=>?_,λa o e n=>keep a o (λm=>?_) (ok.en a o e n),ln⟩
 .by_cases hj:j=i
  .subst hj;rw[hi] at e;cases e;exact⟨v,fp,hs,r,hz⟩
  .obtain⟨e0,nd⟩:=ot hj e;obtain⟨v',i_,bZ,r',zz⟩:=ok.sl j d' t e0;have n0:∀a∈i_,a∉a_:=λa m q=>by
    have zi:=h0 a q;rcases nd with rfl|nd
    .cases q
    cases t with
    |sh o=>exact nd o rfl (zz a m i zi)
    |own=>rw[zz.2 a m] at zi;exact hj (ads zi)
    |lk=>rw[zz.2 a m] at zi;exact hj (ads zi)
   have n1:∀a∈i_,a∉fo:=λa m=>let⟨o,w,_⟩:=r'.cZ a m;old (n0 a m) w
   have o1:∀a∈i_,z a=some j->z' a=some j:=λa m e=>by
    rcases zn a (n1 a m) with⟨w,_⟩|⟨w,_⟩
    .rw[e] at w;exact(hj (ads w)).elim
    .rw[w,e]
   refine⟨v',i_,(os j hj).trans bZ,r'.frame (λa m=>?_) im,?_⟩
   .obtain⟨o,w,_⟩:=r'.cZ a m;rw[keep a o (n0 a m) w,w]
   .cases t with
    |sh o=>exact λa m k q=>zz a m k (at_ (n1 a m) q).1
    |own=>exact⟨zz.1,λa m=>o1 a m (zz.2 a m)⟩
    |lk=>exact⟨zz.1,λa m=>o1 a m (zz.2 a m)⟩
 .obtain⟨r',MK⟩:=ok.hl p hp;have n0:∀a∈p.fp,a∉a_:=λa m q=>by
   rcases hh with rfl|hh
   .cases q
   .exact hh (MK a m i (h0 a q)).2
  refine⟨r'.frame (λa m=>?_) im,λa m j q=>?_⟩
  .obtain⟨o,w,_⟩:=r'.cZ a m;rw[keep a o (n0 a m) w,w]
  .obtain⟨o,w,_⟩:=r'.cZ a m;obtain⟨q,_,hj⟩:=at_ (old (n0 a m) w) q;obtain⟨x,y⟩:=MK a m j q;exact⟨x,λd e=>y d (ot (λx=>hj x (x ▸ y)) e).1⟩
 .by_cases w:a∈fo
  .refine⟨(B7 a w).2,(B7 a w).1.elim (S0 a) λq=>?_⟩;cases h0:H0 a with
   |none=>exact .inl rfl
   |some o=>
    by_cases hs:a∈S
    .exact .inr hs
    .rw[ok.en a o h0 hs] at q;cases q
  .obtain⟨e,n,_⟩:=at_ w e;obtain⟨⟨o,x⟩,y⟩:=ok.zd a j e;exact⟨⟨o,keep a o n x⟩,y⟩
 .rcases S0 a m with q|q
  .rw[e] at q;cases q
  .exact n q
open Classical in
noncomputable def zN(fo:List Addr)(i:Nat)(z:Addr->Option Nat):Addr->Option Nat:=λa=>if a∈fo then some i else if z a=some i then none else z a
theorem Ez{fo a_:List Addr}(h:∀a∈a_,z a=some i)(a:Addr)(n:a∉fo):z a=some i/\zN fo i z a=none\/zN fo i z a=z a/\a∉a_/\(z a=some i->P):=by
 unfold zN
 by_cases w:z a=some i
 .exact .inl ⟨w,by rw[acZ n,if_pos w]⟩
 .exact .inr ⟨by rw[acZ n,acZ w],λm=>w (h a m),λq=>(w q).elim⟩
theorem Ok.set{K:PySem.W.Frag}{fp:List Addr}(ok:Ok K H0 S z ak ρ σ H)(hi:i<σ.length)(s:aE H H1)
  (r:Rep K H1 d v fp) (g:cJ z H t fp):∃z',Ok K H0 S z' ak (h_ ρ i d t) (σ.set i (some v)) H1:=by
 have n0:∀a∈([]:List Addr),z a=some i:=λa m=>nomatch m
 have main:∀(fo) (tg),(∀a∈fo,H a=none/\a∈fp)->tE (zN fo i z) i tg fp->∃z',Ok K H0 S z' ak (ρ.set i (some (d,tg))) (σ.set i (some v)) H1:=λfo tg h hz=>
  ⟨_,ok.chg (aeh (by rw[ok.ln];exact hi)) (aeh hi) n0 (.of s) (λb o _ e=>s b o e) r hz (Ez n0) (λa m=>⟨.inr (h a m).1,let⟨o,w,_⟩:=r.cZ a (h a m).2;⟨o,w⟩⟩)
   (λhj e=>⟨(adI (aez hj)).symm.trans e,.inl rfl⟩) (λj hj=>adI (aez hj)) (.inl rfl) (by rw[afB,afB];exact ok.ln)⟩
 cases t with
 |own=>exact main fp .own (λa m=>⟨g.2 a m,m⟩) ⟨g.1,λa m=>if_pos m⟩
 |lk=>exact main fp .own (λa m=>⟨g.2 a m,m⟩) ⟨g.1,λa m=>if_pos m⟩
 |sh o=>
  refine main [] (.sh o) (λa m=>nomatch m) λa m j q=>?_
  rcases Ez (fo:=[]) (P:=True) n0 a (λw=>nomatch w) with⟨_,w⟩|⟨w,_⟩
  .rw[q] at w;cases w
  .exact g a m j (w ▸ q)
theorem Ok.stored{K:PySem.W.Frag}{G:Prop}(ok:Ok K H0 S z ak ρ σ H)(s:aE H H1)
  (r:Rep K H1 d v fp) (g:cJ z H t fp) (k:∀z',Ok K H0 S z' ak (h_ ρ i d t) (σ.set i (some v)) H1->G):G:=by
 by_cases hi:i<σ.length
 .obtain⟨z',bu⟩:=ok.set hi s r g;exact k z' bu
 .have e1:σ.set i (some v)=σ:=List.set_eq_of_length_le (Nat.le_of_not_lt hi);have e2:∀w,ρ.set i w=ρ:=λw=>List.set_eq_of_length_le (by rw[ok.ln];exact Nat.le_of_not_lt hi)
  have e3:h_ ρ i d t=ρ:=by cases t<;>exact e2 _
  refine k z ?_;rw[e1,e3];exact ok.same s
theorem dH(i:Nat){x:Str}{e:Expr}(he:FP X e f)(hN:X.N.Nodup)(hi:X.N[i]? = some x:=by rfl)(hx:Loc X.env.scope x:=by first|exact Or.inl rfl|exact Or.inr rfl)
  (hs:swapsWith e (some (.Name x pos')) pos.line X.env=pure false:=by rfl) (hf:X.fn x=true\/X.env.scope.names.lookup x=some .local:=by first|exact .inl rfl|exact .inr rfl) (qL:kP X x=false:=by rfl):eY X (.Assign [.Name x pos'] e pos) (dO i f):=by
 obtain⟨t,p,q⟩:=he;exists 23,ye hN hi hx p hs hf;unfold dO at e;exists h,f ρ,w,e,0;obtain⟨d,tg⟩:=w;rw[h] at e;cases e;refine q ok h λH1 v fp s1 r1 g1=>?_
 exact ok.stored s1 r1 g1 λz' bu=>k z' _ H1 bu (.set hi qL)
abbrev GF:=D->Tag->aO->Option aO
def FG(X:Cx)(tg:Expr)(g:GF)(is:List Nat):Prop:=(∀i∈is,∀x,X.N[i]? = some x->kP X x=false)/\∃t,PG X tg t/\∀{H0} {S} {z} {ak} {ρ} {σ} {H H1} {v} {d} {tag} {fp} {Q} {ρ'},
 Ok X.K H0 S z ak ρ σ H->aE H H1->Rep X.K H1 d v fp->cJ z H tag fp->g d tag ρ=some ρ'->(∀z' aC,Ok X.K H0 S z' ak ρ' aC H1->(aC.length=σ.length/\∀j,j∉is->aC[j]? = σ[j]?)->Q aC H1)->t v σ H1 Q
def gN(i:Nat):GF:=λd t ρ=>some (h_ ρ i d t)
abbrev uA:=List D->aO->Option aO
theorem Kp.off{is:List Nat}(hk:∀i∈is,∀x,X.N[i]? = some x->kP X x=false)(h:∀j,j∉is->aC[j]? = σ[j]?):Kp X σ aC:=λi x e k=>h i λm=>by rw[hk i m x e] at k;cases k
def zK(X:Cx)(ts:List Expr)(g:uA)(is:List Nat):Prop:=(∀i∈is,∀x,X.N[i]? = some x->kP X x=false)/\∃t,uL X ts t/\(∀ds ρ ρ',g ds ρ=some ρ'->ds.length=ts.length)/\∀{H0} {S} {z} {ak} {ρ} {σ} {H} {vs} {ds} {fp} {Q} {ρ'},
 Ok X.K H0 S z ak ρ σ H->ay X.K H ds vs fp->g ds ρ=some ρ'->(∀z' aC,Ok X.K H0 S z' ak ρ' aC H->(aC.length=σ.length/\∀j,j∉is->aC[j]? = σ[j]?)->Q aC H)->t vs σ H Q
noncomputable def m9:uA:=λds ρ=>match ds with
 |[]=>some ρ
 |_=>none
def eK(g:GF)(gs:uA):uA:=λds ρ=>match ds with
 |d::r=>if aA d=true then(g d .own ρ).bind λρ'=>gs r ρ' else none
 |_=>none
theorem IX(e:eK g gs ds ρ=some ρ'):∃d r aF,ds=d::r/\aA d=true/\g d .own ρ=some aF/\gs r aF=some ρ':=by
 cases ds with
 |nil=>cases e
 |cons d r=>
  unfold eK at e;dsimp only at e;obtain⟨hi,e⟩:=ci e;exists h,g d .own ρ,aF,e,0;rw[h,adH] at e;exact⟨d,r,aF,rfl,hi,h,e⟩
noncomputable def gT(gs:uA):GF:=λd _ ρ=>match d with
 |.tup ds=>gs ds ρ
 |_=>none
theorem bO(i:Nat)(hN:X.N.Nodup)(hi:X.N[i]? = some x:=by rfl)(hx:Loc X.env.scope x:=by first|exact Or.inl rfl|exact Or.inr rfl)(hf:X.fn x=true\/X.env.scope.names.lookup x=some .local:=by first|exact .inl rfl|exact .inr rfl)(qL:kP X x=false:=by rfl):FG X (.Name x pos) (gN i) [i]:=by
 refine⟨λj m y e=>by rw[aaS.mp m,hi] at e;have e:=ads e;subst e;exact qL,_,KH hN hi hx hf,@λH0 S z ak ρ σ H H1 v d tag fp Q ρ' ok s r g e k=>?_⟩;cases e;exact ok.stored s r g λz' bu=>k z' _ bu ⟨afB ..,λj hj=>adI λe=>hj (by rw[e];exact aat)⟩
theorem qX:zK X [] m9 []:=by
 refine⟨λj m=>(nomatch m),_,ZA,λds ρ ρ' e=>?_,@λH0 S z ak ρ σ H vs ds fp Q ρ' ok r e k=>?_⟩
 .cases ds with
  |nil=>rfl
  |cons _ _=>cases e
 .cases ds with
  |nil=>cases r;cases e;exact⟨rfl,k z σ ok ⟨rfl,λ_ _=>rfl⟩⟩
  |cons _ _=>cases e
theorem gP(h1:FG X e g is)(h2:zK X es gs ks)(hs:(assignEach (e::es) X.env).map (·.2)=assign e X.env::(assignEach es X.env).map (·.2):=by rfl):zK X (e::es) (eK g gs) (is++ks):=by
 obtain⟨n1,t,p,q⟩:=h1;obtain⟨n2,t',p',l',q'⟩:=h2;refine⟨λj m=>(ada.mp m).elim (n1 j) (n2 j),_,VM p p' hs,λds ρ ρ' e=>?_,@λH0 S z ak ρ σ H vs ds fp Q ρ' ok r e k=>?_⟩
 .obtain⟨d,r,aF,rfl,_,_,h⟩:=IX e;rw[adu,adu,l' r aF ρ' h]
 .obtain⟨d,dr,aF,rfl,hi,h1,h2⟩:=IX e;cases r with
  | @cons _ v _ vr f1 f2 r1 r2=>
   have hn:=r1.aA hi;subst hn;exact⟨v,vr,rfl,q ok (aE.refl H) r1 .nil h1 λz1 ng bJ a1=>q' bJ r2 h2 λz2 gS jI a2=>k z2 gS jI ⟨a2.1.trans a1.1,λj hj=>(a2.2 j λm=>hj (aaY _ m)).trans (a1.2 j λm=>hj (abT _ m))⟩⟩
theorem rK(hc:X.calm=true)(h:zK X es gs is)(hn:(assignEach es X.env).length=es.length:=by rfl)(gW:(assignEach es X.env).findIdx? (·.1)=none:=by rfl):FG X (.Tuple es k pos) (gT gs) is:=by
 obtain⟨n1,t,p,l,q⟩:=h;refine⟨n1,_,Rq hc p hn gW,@λH0 S z ak ρ σ H H1 v d tag fp Q ρ' ok s r g e k=>?_⟩;cases r with
 | @tup a xs ds fp hq rs=>
  have e:=e;exact⟨a,xs,rfl,hq,by rw[<- rs.length];exact l ds ρ ρ' e,q (ok.same s) rs e k⟩
 |_=>cases e
structure Hv where
 d:D
 v:V
 fp:List Addr
def qz(K:PySem.W.Frag)(J:It)(ds:List D)(hv:List Hv):Prop:=∀(H) (i),(∀h∈hv,Rep K H h.d h.v h.fp)->
 (∀d,ds[i]? = some d->J.go i H/\∀x H1,J.w6 i H x H1->aE H H1/\∃fp,Rep K H1 d x fp/\∀a∈fp,∃h∈hv,a∈h.fp)/\(ds.length<=i->J.stop i H)
abbrev IF:=aO->Option (List D×Tag)
def FI(X:Cx)(tg iter:Expr)(f:IF):Prop:=∃wi,PI X tg iter wi/\∀{H0} {S} {z} {ak} {ρ} {σ} {H} {R} {ds} {t},
 Ok X.K H0 S z ak ρ σ H->f ρ=some (ds,t)->(∀H1 J hv,aE H H1->(∀h∈hv,Rep X.K H1 h.d h.v h.fp/\∀a∈h.fp,∀j,z a=some j->∃o,t=.sh o/\j∈o)->qz X.K J ds hv->R J H1)->wi σ H R
noncomputable def gA(f:EF):IF:=λρ=>match f ρ with
 |some (.lst ds,t)=>some (ds,t)
 |some (.gH ds,t)=>some (ds,t)
 |some (.tup ds,t)=>some (ds,t)
 |_=>none
def Wb(K:PySem.W.Frag)(tl:TE):TI:=λσ H R=>tl σ H λx H1=>∃a,x=.ref a/\(((∃xs,bK K H1 a xs)/\R (zc K a) H1)\/((∃xs,bN K H1 a xs)/\R (BH K a) H1))
theorem aaM(hl:PE X l tl):PI X tg l (Wb X.K tl):=by
 intro af s σ H R I h;refine hl.n I h λv s1 x H1 I1 r1 q1=>?_
 obtain⟨a,e,q⟩:=q1;subst e;cases r1;rcases q with⟨⟨xs,hq⟩,q⟩|⟨⟨xs,hq⟩,q⟩
 .obtain⟨ao,rv,p,hz⟩:=I1.list hq;refine wpAny_pyIter_list p.isList ?_;refine⟨s1.heap.objs.size,[s1.heap.objs.size],_,_,H1,rfl,I1.kept (λb o e=>aaf _ e),QT a _,⟨_,ac9 _ rfl,rfl,rfl⟩,λb hb=>?_,q⟩;obtain rfl:b=s1.heap.objs.size:=by simpa using hb
  exact I1.nM (acy _) (I1.aD.fresh (acy _))
 .obtain⟨ao,rv,p,hz⟩:=I1.tuple hq;refine wpAny_pyIter_tuple (show s1.heap.IsTuple a ao.toArray from p) ?_;refine⟨s1.heap.objs.size,[s1.heap.objs.size],_,_,H1,rfl,I1.kept (λb o e=>aaf _ e),abU a _,⟨_,ac9 _ rfl,rfl,rfl⟩,λb hb=>?_,q⟩;obtain rfl:b=s1.heap.objs.size:=by simpa using hb
  exact I1.nM (acy _) (I1.aD.fresh (acy _))
theorem Rep.dW{K:PySem.W.Frag}(r:Rep K H (.lst ds) v fp):∃a xs f,v=.ref a/\bK K H a xs/\ay K H ds xs f/\∀b∈f,b∈fp:=by
 cases r with
 |lst h rs=>exact⟨_,_,_,rfl,bK.of h,rs,λb m=>aad _ m⟩
theorem Rep.pV{K:PySem.W.Frag}(r:Rep K H (.gH ds) v fp):∃a xs,v=.ref a/\bK K H a xs/\ay K H ds xs fp:=by
 cases r with
 |Ay h rs=>exact⟨_,_,rfl,h.sq,rs⟩
theorem Rep.gJ{K:PySem.W.Frag}(r:Rep K H (.tup ds) v fp):∃a xs,v=.ref a/\bN K H a xs/\ay K H ds xs fp:=by
 cases r with
 |tup h rs=>exact⟨_,_,rfl,h,rs⟩
theorem abO{K:PySem.W.Frag}:qz K (zc K a) ds [⟨.lst ds,.ref a,fp⟩]:=by
 intro H i hh;have r:=hh ⟨.lst ds,.ref a,fp⟩ aat;obtain⟨a',xs,f,e,hq,rs,sub⟩:=r.dW;cases e;refine⟨λd hd=>?_,λhl=>⟨xs,hq,by rw[<- rs.length];exact hl⟩⟩;obtain⟨v,f',hv,rv,s'⟩:=rs.get hd;refine⟨⟨xs,v,hq,hv⟩,λx H1 y=>?_⟩;obtain⟨e1,y⟩:=y;subst e1;have e2:=y xs hq;rw[hv] at e2;cases e2;exact⟨aE.refl _,f',rv,λb m=>⟨_,aat,sub b (s' b m)⟩⟩
theorem Q0{K:PySem.W.Frag}:qz K (zc K a) ds [⟨.gH ds,.ref a,fp⟩]:=by
 intro H i hh;have r:=hh ⟨.gH ds,.ref a,fp⟩ aat;obtain⟨a',xs,e,hq,rs⟩:=r.pV;cases e;refine⟨λd hd=>?_,λhl=>⟨xs,hq,by rw[<- rs.length];exact hl⟩⟩;obtain⟨v,f',hv,rv,s'⟩:=rs.get hd;refine⟨⟨xs,v,hq,hv⟩,λx H1 y=>?_⟩;obtain⟨e1,y⟩:=y;subst e1;have e2:=y xs hq;rw[hv] at e2;cases e2;exact⟨aE.refl _,f',rv,λb m=>⟨_,aat,s' b m⟩⟩
theorem abC{K:PySem.W.Frag}:qz K (BH K a) ds [⟨.tup ds,.ref a,fp⟩]:=by
 intro H i hh;have r:=hh ⟨.tup ds,.ref a,fp⟩ aat;obtain⟨a',xs,e,hq,rs⟩:=r.gJ;cases e;refine⟨λd hd=>?_,λhl=>⟨xs,hq,by rw[<- rs.length];exact hl⟩⟩;obtain⟨v,f',hv,rv,s'⟩:=rs.get hd;refine⟨⟨xs,v,hq,hv⟩,λx H1 y=>?_⟩;obtain⟨e1,y⟩:=y;subst e1;have e2:=y xs hq;rw[hv] at e2;cases e2;exact⟨aE.refl _,f',rv,λb m=>⟨_,aat,s' b m⟩⟩
theorem NX{K:PySem.W.Frag}{lo:Int}:qz K (wH lo n) ((List.range n).map λi:Nat=>D.int (lo+(i:Int))) []:=by
 intro H i _;refine⟨λd hd=>?_,λhl=>?_⟩
 .rw[adA] at hd
  by_cases hi:i<n
  .rw[List.getElem?_range hi] at hd;cases hd;refine⟨hi,λx H1 y=>?_⟩;obtain⟨e1,e2⟩:=y;subst e1 e2;exact⟨aE.refl _,[],.int _,λb m=>nomatch m⟩
  .rw[afe (by simpa using hi)] at hd;cases hd
 .rw[List.length_map,ae1] at hl;exact hl
theorem cJ.over{K:PySem.W.Frag}(ok:Ok K H0 S z ak ρ σ H)(g:cJ z H t fp):∀a∈fp,∀j,z a=some j->∃o,t=.sh o/\j∈o:=by
 intro a m j q;cases t with
 |sh o=>exact⟨o,rfl,g a m j q⟩
 |own=>obtain⟨⟨o,w⟩,_⟩:=ok.zd a j q;rw[g.2 a m] at w;cases w
 |lk=>obtain⟨⟨o,w⟩,_⟩:=ok.zd a j q;rw[g.2 a m] at w;cases w
theorem eO{l:Expr}{f:EF}(hl:FP X l f):FI X tg l (gA f):=by
 obtain⟨t,p,q⟩:=hl;exists 24,aaM p;unfold gA at e;exists h,f ρ,w,e,0;obtain⟨d,PN⟩:=w;rw[h] at e;cases d with
 |lst es=>
  cases e;refine q ok h λH1 v fp s1 r1 g1=>?_
  obtain⟨a,xs,f,rfl,hq,rs,sub⟩:=r1.dW;exact⟨a,rfl,.inl ⟨⟨xs,hq⟩,k H1 _ [⟨.lst ds,.ref a,fp⟩] s1 (λh m=>by cases aaS.mp m;exact⟨r1,g1.over ok⟩) abO⟩⟩
 |gH es=>
  cases e;refine q ok h λH1 v fp s1 r1 g1=>?_
  obtain⟨a,xs,rfl,hq,rs⟩:=r1.pV;exact⟨a,rfl,.inl ⟨⟨xs,hq⟩,k H1 _ [⟨.gH ds,.ref a,fp⟩] s1 (λh m=>by cases aaS.mp m;exact⟨r1,g1.over ok⟩) Q0⟩⟩
 |tup es=>
  cases e;refine q ok h λH1 v fp s1 r1 g1=>?_
  obtain⟨a,xs,rfl,hq,rs⟩:=r1.gJ;exact⟨a,rfl,.inr ⟨⟨xs,hq⟩,k H1 _ [⟨.tup ds,.ref a,fp⟩] s1 (λh m=>by cases aaS.mp m;exact⟨r1,g1.over ok⟩) abC⟩⟩
 |_=>cases e
noncomputable def small(i:Int):Bool:=decide (-(2 ^ 62)<=i)&&decide (i<2 ^ 62)
def mQ(g:EF):IF:=λρ=>match g ρ with
 |some (.int j,_)=>if small j=true then some ((List.range j.toNat).map λi:Nat=>D.int (0+(i:Int)),.own) else none
 |_=>none
def rm(f g:EF):IF:=λρ=>match f ρ,g ρ with
 |some (.int i,_),some (.int j,_)=>if(small i&&small j)=true then some ((List.range (j-i).toNat).map λk:Nat=>D.int (i+(k:Int)),.own) else none
 |_,_=>none
theorem rS(h:small i=true):-(2 ^ 62)<=i/\i<2 ^ 62:=by
 obtain⟨a,b⟩:=(abm _ _).mp h;exact⟨abd a,abd b⟩
theorem An(hm:X.mg "range"=none)(ha:FP X a g)(hg:Gl X "range":=by rfl)(hs:starEach [a] X.env=[(false,eval a X.env)]:=by rfl):FI X tg (.Call (.Name "range" p) [a] [] pos) (mQ g):=by
 obtain⟨t,pa,q⟩:=ha;exists 24,Ue hg hm (dU pa fC hs) hs;unfold mQ at e;exists h,g ρ,w,e,0;obtain⟨d,PN⟩:=w;rw[h] at e;cases d with
 |int j=>
  dsimp only at e;obtain⟨hj,e⟩:=ci e;cases e;refine q ok h λH1 v fp s1 r1 g1=>?_
  cases r1;exact⟨j,rfl,(rS hj).1,(rS hj).2,k H1 _ [] s1 (λh m=>nomatch m) NX⟩
 |_=>cases e
theorem Cp(hm:X.mg "range"=none)(ha:FP X a f)(hb:FP X b g)(hg:Gl X "range":=by rfl)(hs:starEach [a,b] X.env=[(false,eval a X.env),(false,eval b X.env)]:=by rfl)(cg:starEach [b] X.env=[(false,eval b X.env)]:=by rfl):
  FI X tg (.Call (.Name "range" p) [a,b] [] pos) (rm f g):=by
 obtain⟨t,pa,q⟩:=ha;obtain⟨t',pb,q'⟩:=hb;exists 24,UJ hg hm (dU pa (dU pb fC cg) (by rw[hs,cg])) hs cg;unfold rm at e;exists h,f ρ,w,e,0;obtain⟨d,PN⟩:=w;cases h2:g ρ with
 |none=>rw[h,h2] at e;cases d<;>cases e
 |some w=>
  obtain⟨d2,tg2⟩:=w;rw[h,h2] at e;cases d with
  |int i=>
   cases d2 with
   |int j=>
    dsimp only at e;obtain⟨hj,e⟩:=ci e;cases e;obtain⟨si,sj⟩:=(abm _ _).mp hj;refine q ok h λH1 v fp s1 r1 g1=>?_
    cases r1;refine q' (ok.same s1) h2 λH2 v fp s2 r2 g2=>?_
    cases r2;exact⟨i,j,rfl,⟨(rS si).1,(rS si).2,(rS sj).1,(rS sj).2⟩,k H2 _ [] (s1.trans s2) (λh m=>nomatch m) NX⟩
   |_=>cases e
  |_=>cases e
noncomputable def lF:Tag->List Nat
 |.sh o=>o
 |_=>[]
def jo(t:Tag):Tag:=.sh (lF t)
noncomputable def ownAt(ρ:aO)(j:Nat):Bool:=match ρ[j]? with
 |some (some (_,.own))=>true
 |_=>false
def lN(o:List Nat)(ρ:aO):List Nat:=o.filter (ownAt ρ)
noncomputable def LB:Tag->Tag
 |.own=>.lk
 |t=>t
noncomputable def Oh:Tag->Tag
 |.lk=>.own
 |t=>t
noncomputable def zV(f:Tag->Tag):Slot->Slot
 |some (d,t)=>some (d,f t)
 |none=>none
def nX:List Nat->aO->aO
 |[],ρ=>ρ
 |j::r,ρ=>nX r (ρ.modify j (zV LB))
def q_:List Nat->aO->aO
 |[],ρ=>ρ
 |j::r,ρ=>q_ r (ρ.modify j (zV Oh))
noncomputable def b_(g:GF)(t:Tag)(f:SF):List D->SF
 |[],ρ=>some (.nx ρ)
 |d::ds,ρ=>match g d t ρ with
  |none=>none
  |some aF=>match f aF with
   |some (.nx aQ)=>b_ g t f ds aQ
   |some (.ct aQ)=>b_ g t f ds aQ
   |some (.bk aQ)=>some (.nx aQ)
   |some (.rt r)=>some (.rt r)
   |some (.er raw cn aQ)=>some (.er raw cn aQ)
   |none=>none
def iD(it:IF)(g:GF)(f:SF):SF:=λρ=>match it ρ with
 |none=>none
 |some (ds,t)=>match b_ g (jo t) f ds (nX (lN (lF t) ρ) ρ) with
  |some (.nx ρ')=>some (.nx (q_ (lN (lF t) ρ) ρ'))
  |some (.rt d)=>some (.rt d)
  |some (.er raw cn ρ')=>some (.er raw cn (q_ (lN (lF t) ρ) ρ'))
  |_=>none
theorem zC:∀{ks} {ρ} {i} {d} {t},(nX ks ρ)[i]? = some (some (d,t))->∃t',ρ[i]? = some (some (d,t'))/\(t=t'\/(t'=.own/\t=.lk))/\(i∈ks->t≠.own)
 |[],ρ,i,d,t,h=>⟨t,h,.inl rfl,λm=>nomatch m⟩
 |j::r,ρ,i,d,t,h=>by
  obtain⟨t1,h1,h2,h3⟩:=zC (ks:=r) h;rw[List.getElem?_modify] at h1;exists e,ρ[i]?,s,h1;have gz:(if j=i then zV LB s else s)=some (d,t1):=ads h1
  by_cases hj:j=i
  .rw[if_pos hj] at gz;cases s with
   |none=>cases gz
   |some p=>
    obtain⟨d0,t0⟩:=p;cases gz;refine⟨t0,rfl,?_,λ_=>?_⟩
    .rcases h2 with h2|⟨h2,lW⟩
     .cases t0<;>first|exact .inl h2|exact .inr ⟨rfl,h2⟩
     .cases t0<;>cases h2
    .rcases h2 with h2|⟨h2,lW⟩
     .rw[h2];cases t0<;>(intro z;cases z)
     .rw[lW];intro z;cases z
  .rw[acZ hj] at gz;subst gz;refine⟨t1,rfl,h2,λm=>?_⟩;rcases abG.mp m with z|z
   .exact absurd z.symm hj
   .exact h3 z
theorem Kv:∀{ks} {ρ},(nX ks ρ).length=ρ.length
 |[],_=>rfl
 |_::r,ρ=>(Kv (ks:=r)).trans (List.length_modify ..)
theorem M4:∀{ks} {ρ},(q_ ks ρ).length=ρ.length
 |[],_=>rfl
 |_::r,ρ=>(M4 (ks:=r)).trans (List.length_modify ..)
theorem GK:∀{ks} {ρ} {i} {d} {t},(q_ ks ρ)[i]? = some (some (d,t))->∃t',ρ[i]? = some (some (d,t'))/\(t=t'\/(t'=.lk/\t=.own/\i∈ks))
 |[],ρ,i,d,t,h=>⟨t,h,.inl rfl⟩
 |j::r,ρ,i,d,t,h=>by
  obtain⟨t1,h1,h2⟩:=GK (ks:=r) h;rw[List.getElem?_modify] at h1;exists e,ρ[i]?,s,h1;have gz:(if j=i then zV Oh s else s)=some (d,t1):=ads h1
  by_cases hj:j=i
  .rw[if_pos hj] at gz;cases s with
   |none=>cases gz
   |some p=>
    obtain⟨d0,t0⟩:=p;cases gz;refine⟨t0,rfl,?_⟩;rcases h2 with h2|⟨h2,lW,h3⟩
    .cases t0<;>first|exact .inl h2|exact .inr ⟨rfl,h2,by rw[hj];exact aat⟩
    .cases t0<;>cases h2
  .rw[acZ hj] at gz;subst gz;refine⟨t1,rfl,?_⟩;rcases h2 with h2|⟨h2,lW,h3⟩
   .exact .inl h2
   .exact .inr ⟨h2,lW,aad _ h3⟩
noncomputable def sW(z:Addr->Option Nat)(hv:List Hv):List mP:=hv.map λh=>⟨h.d,h.v,h.fp,z⟩
noncomputable def wW(z:Addr->Option Nat)(ak:List mP):List mP:=ak.map λh=>{ h with z0:=z }
section
variable{K:PySem.W.Frag}
theorem Ok.begin(ok:Ok K H0 S z ak ρ σ H)(hh:∀h∈hv,Rep K H h.d h.v h.fp/\∀a∈h.fp,∀j,z a=some j->∃o,t=.sh o/\j∈o):
  Ok K H0 S z (sW z hv++wW z ak) (nX (lN (lF t) ρ) ρ) σ H:=by
 refine⟨λi d tg e=>?_,λp m=>?_,ok.zd,ok.en,by rw[Kv];exact ok.ln⟩
 .obtain⟨t',e',h,_⟩:=zC e;obtain⟨v,fp,a,b,c⟩:=ok.sl i d t' e';refine⟨v,fp,a,b,?_⟩;rcases h with h|⟨h,h'⟩
  .subst h;exact c
  .subst h h';exact c
 .have TY:∀j,sL ρ j->sL (nX (lN (lF t) ρ) ρ) j:=λj n d e=>by
   obtain⟨t',e',h,_⟩:=zC e;rcases h with h|⟨h,h'⟩
   .subst h;exact n d e'
   .cases h'
  rcases ada.mp m with m|m
  .obtain⟨h,hm,rfl⟩:=adp.mp m;refine⟨(hh h hm).1,λa ha j q=>⟨q,λd e=>?_⟩⟩;obtain⟨o,rfl,hj⟩:=(hh h hm).2 a ha j q;obtain⟨t',e',h',n⟩:=zC e;rcases h' with h'|⟨h',vK⟩
   .subst h';exact n (adz.mpr ⟨hj,by unfold ownAt;rw[e']⟩) rfl
   .cases vK
  .obtain⟨h,hm,rfl⟩:=adp.mp m;obtain⟨r,hz⟩:=ok.hl h hm;exact⟨r,λa ha j q=>⟨q,TY j (hz a ha j q).2⟩⟩
theorem Ok.fin(ok:Ok K H0 S z ak ρ σ H)(bu:Ok K H0 S z' (sW z hv++wW z ak) ρ' aC H'):Ok K H0 S z' ak (q_ (lN (lF t) ρ) ρ') aC H':=by
 refine⟨λi d tg e=>?_,λp m=>?_,bu.zd,bu.en,by rw[M4];exact bu.ln⟩
 .obtain⟨t',e',h⟩:=GK e;obtain⟨v,fp,a,b,c⟩:=bu.sl i d t' e';refine⟨v,fp,a,b,?_⟩;rcases h with h|⟨h,h',_⟩
  .subst h;exact c
  .subst h h';exact c
 .obtain⟨r,hz⟩:=bu.hl { p with z0:=z } (aaY _ (adp.mpr ⟨p,m,rfl⟩));refine⟨r,λa ha j q=>?_⟩;obtain⟨h1,h2⟩:=hz a ha j q;have h1:=h1;obtain⟨h3,h4⟩:=(ok.hl p m).2 a ha j h1;refine⟨h3,λd e=>?_⟩;obtain⟨t',e',h⟩:=GK e;rcases h with h|⟨h,_,hk⟩
  .subst h;exact h2 d e'
  .have ho:=(adz.mp hk).2;unfold ownAt at ho;exists e0,ρ[j]?,s,ho;cases s with
   |none=>cases ho
   |some p=>
    obtain⟨d0,t0⟩:=p;cases t0<;>first|exact h4 d0 e0|cases ho
end
theorem jj(hc:X.calm=true)(hi:FI X tg iter it)(hg:FG X tg g is)(hb:FS X body f)(hp:PassesOwn (model X.prog X.w) X.A X.env X.xe:=by exact PassesOwn.never)
  (hs:∀x,foldedSetIterable iter X.env x=pure x:=by intro _;rfl):eY X (.For tg iter body [] pos) (iD it g f):=by
 obtain⟨wi,pi,si⟩:=hi;obtain⟨n1,tgt,pg,sg⟩:=hg;obtain⟨tb,pb,sb⟩:=hb;exists 23,Xp hp hc pi pg pb hs;unfold iD at e;exists h,it ρ,w,e,0;obtain⟨ds,t⟩:=w;rw[h] at e;dsimp only at e;refine si ok h λH1 J hv s1 hh Ea=>?_
 exists ho,b_ g (jo t) f ds (nX (lN (lF t) ρ) ρ),out,e;have bJ:=ok.same s1;have jI:=bJ.begin hh;have fin:∀{z'} {ρ'} {aC} {H'},Ok X.K H0 S z' (sW z hv++wW z ak) ρ' aC H'->out=.nx ρ'->Kp X σ aC->E.nx aC H':=λ{z' ρ' aC H'} bu eo kp=>by
  subst eo;cases e;exact k z' aC H' (bJ.fin bu) kp
 refine⟨λi m aC H'=>m=ds.length-i/\∃z' ρ',Ok X.K H0 S z' (sW z hv++wW z ak) ρ' aC H'/\b_ g (jo t) f (ds.drop i) ρ'=some out/\Kp X σ aC,⟨ds.length,rfl,z,_,jI,ho,.refl _ _⟩,?_⟩
 rintro i m aC H' ⟨rfl,z',ρ',bu,e',kp⟩
 have hH:∀h∈hv,Rep X.K H' h.d h.v h.fp:=λh m=>(bu.hl _ (abT _ (adp.mpr ⟨h,m,rfl⟩))).1
 obtain⟨go,stop⟩:=Ea H' i hH
 by_cases hl:ds.length<=i
 .refine .inl ⟨stop hl,?_⟩;rw[List.drop_eq_nil_of_le hl] at e';cases e';exact fin bu rfl kp
 .have cN:=Nat.lt_of_not_le hl;rw[afr cN] at e';obtain⟨g1,g2⟩:=go ds[i] (acr cN);refine .inr ⟨g1,λgS H2=>∃z' ρ',Ok X.K H0 S z' (sW z hv++wW z ak) ρ' gS H2/\b_ g (jo t) f (ds.drop (i+1)) ρ'=some out/\Kp X σ gS,λgS H2 hn=>⟨ds.length-(i+1),by omega,rfl,hn⟩,λx H2 y=>?_⟩;obtain⟨s2,fp,r2,sub⟩:=g2 x H2 y;unfold b_ at e';cases qK:g ds[i] (jo t) ρ' with
  |none=>rw[qK] at e';cases e'
  |some aF=>
   rw[qK] at e';dsimp only at e';refine sg (tag:=jo t) bu s2 r2 (λa ha j q=>?_) qK λz2 gS i9 a3=>?_
   .obtain⟨h,hm,KO⟩:=sub a ha;obtain⟨_,hz⟩:=bu.hl _ (abT _ (adp.mpr ⟨h,hm,rfl⟩));obtain⟨q0,_⟩:=hz a KO j q;obtain⟨o',rfl,hj⟩:=(hh h hm).2 a KO j q0;exact hj
   .cases hf:f aF with
    |none=>rw[hf] at e';cases e'
    |some o1=>
     rw[hf] at e';refine sb i9 hf ?_;cases o1 with
     |nx aQ=>exact λz3 cH H3 g_ b=>⟨z3,aQ,g_,e',(kp.trans (.off n1 a3.2)).trans b⟩
     |ct aQ=>exact λz3 cH H3 g_ b=>⟨z3,aQ,g_,e',(kp.trans (.off n1 a3.2)).trans b⟩
     |bk aQ=>
      cases e';exact λz3 cH H3 g_ b=>fin g_ rfl ((kp.trans (.off n1 a3.2)).trans b)
     |rt d=>
      cases e';cases e;exact k
     |er raw cn aQ=>
      cases e';cases e;obtain⟨ES,th,q⟩:=k;exact⟨ES,th,λz3 cH H3 C g_ b hC=>q z3 cH H3 C (bJ.fin g_) ((kp.trans (.off n1 a3.2)).trans b) hC⟩
noncomputable def gU(c:TF)(f:SF):Nat->SF
 |0,_=>none
 |n+1,ρ=>match c ρ with
  |some false=>some (.nx ρ)
  |some true=>match f ρ with
   |some (.nx ρ')=>gU c f n ρ'
   |some (.ct ρ')=>gU c f n ρ'
   |some (.bk ρ')=>some (.nx ρ')
   |some (.rt d)=>some (.rt d)
   |some (.er raw cn ρ')=>some (.er raw cn ρ')
   |none=>none
  |none=>none
theorem Gb(n:Nat)(hc:FT X c tc)(hb:FS X body f)(hp:PassesOwn (model X.prog X.w) X.A X.env X.xe:=by exact PassesOwn.never):eY X (.While c body [] pos) (gU tc f n):=by
 obtain⟨t,p,q⟩:=hc;obtain⟨tb,pb,qb⟩:=hb;exists 23,Ht hp p pb;refine⟨λm aC H'=>∃z' ρ',Ok X.K H0 S z' ak ρ' aC H'/\gU tc f m ρ'=some o/\Kp X σ aC,⟨n,z,ρ,ok,e,.refl _ _⟩,?_⟩
 rintro m aC H' ⟨z',ρ',bu,e',kp⟩
 cases m with
 |zero=>cases e'
 |succ m=>
  unfold gU at e';exists hc,tc ρ',b,e';refine q bu hc λH1 s1=>?_
  cases b with
  |false=>
   cases e';rw[acZ abR];exact k z' aC H1 (bu.same s1) kp
  |true=>
   rw[if_pos rfl];dsimp only at e';exists hf,f ρ',o1,e';refine⟨λgS H2=>∃z2 aQ,Ok X.K H0 S z2 ak aQ gS H2/\gU tc f m aQ=some o/\Kp X σ gS,λgS H2 hn=>⟨m,ae7 m,hn⟩,?_⟩;refine qb (bu.same s1) hf ?_;cases o1 with
   |nx aQ=>exact λz3 cH H3 g_ b=>⟨z3,aQ,g_,e',kp.trans b⟩
   |ct aQ=>exact λz3 cH H3 g_ b=>⟨z3,aQ,g_,e',kp.trans b⟩
   |bk aQ=>
    cases e';exact λz3 cH H3 g_ b=>k z3 cH H3 g_ (kp.trans b)
   |rt d=>
    cases e';exact k
   |er raw cn aQ=>
    cases e';obtain⟨ES,th,q⟩:=k;exact⟨ES,th,λz3 cH H3 C g_ b hC=>q z3 cH H3 C g_ (kp.trans b) hC⟩
def CQ(K:PySem.W.Frag)(f:EF):TE:=λσ H Q=>∃H0 S z ak ρ d tg,Ok K H0 S z ak ρ σ H/\f ρ=some (d,tg)/\∀H' v fp,aE H H'->Rep K H' d v fp->cJ z H tg fp->Q v H'
def uN(K:PySem.W.Frag)(f:TF):TT:=λσ H Q=>∃H0 S z ak ρ b,Ok K H0 S z ak ρ σ H/\f ρ=some b/\∀H',aE H H'->Q b H'
def DK(K:PySem.W.Frag)(g:GF)(is:List Nat):TG:=λv σ H1 Q=>∃H0 S z ak ρ H d tag fp ρ',Ok K H0 S z ak ρ σ H/\aE H H1/\Rep K H1 d v fp/\cJ z H tag fp/\g d tag ρ=some ρ'/\
 ∀z' aC,Ok K H0 S z' ak ρ' aC H1->(aC.length=σ.length/\∀j,j∉is->aC[j]? = σ[j]?)->Q aC H1
theorem FP.pe(h:FP X e f):PE X e (CQ X.K f):=by
 obtain⟨t,p,q⟩:=h
 rintro af s σ H Q I ⟨H0,S,z,ak,ρ,d,tg,ok,e,k⟩
 exact p af s σ H Q I (q ok e k)
theorem FT.pt(h:FT X e f):PT X e (uN X.K f):=by
 obtain⟨t,p,q⟩:=h
 rintro af s σ H Q I ⟨H0,S,z,ak,ρ,b,ok,e,k⟩
 exact p af s σ H Q I (q ok e k)
theorem FG.pg(h:FG X e g is):PG X e (DK X.K g is):=by
 obtain⟨_,t,p,q⟩:=h
 rintro af s σ H1 v u Q I r ⟨H0,S,z,ak,ρ,H,d,tag,fp,ρ',ok,sm,rp,tk,e,k⟩
 exact p af s σ H1 v u Q I r (q ok sm rp tk e k)
def Ac(X:Cx)(ifs:List Expr)(f:TF):Prop:=qE X ifs (uN X.K f)
noncomputable def lu:TF:=λ_=>some true
theorem j5:Ac X [] lu:=by
 rintro af s σ H Q I ⟨H0,S,z,ak,ρ,b,ok,e,k⟩
 cases e;exact wpAny_tests_nil ⟨H,I,k H (aE.refl H)⟩
theorem rA(h:FT X c f):Ac X [c] f:=Hg h.pt
noncomputable def iM(js:List (Option Nat))(ρ:aO):aO:=js.map λj=>match j with
 |none=>none
 |some j=>match ρ[j]? with
  |some (some (d,_))=>some (d,.sh [])
  |_=>none
def iI(g:GF)(tt:TF)(te:EF)(ρ:aO)(d:D):Option (Option D):=match g d (.sh []) ρ with
 |none=>none
 |some aF=>match tt aF with
  |none=>none
  |some false=>some none
  |some true=>match te aF with
   |none=>none
   |some (e,t)=>if jV t=true then some (some e) else if aA e=true then some (some e) else none
noncomputable def nW(h:D->Option (Option D)):List D->Option (List D)
 |[]=>some []
 |d::ds=>match h d with
  |none=>none
  |some none=>nW h ds
  |some (some e)=>match nW h ds with
   |none=>none
   |some es=>some (e::es)
def fV(js:List (Option Nat))(it:IF)(g:GF)(tt:TF)(te:EF):EF:=λρ=>match it ρ with
 |none=>none
 |some (ds,_)=>if ds.length<sizeLine then(nW (iI g tt te (iM js ρ)) ds).map λes=>(.lst es,.own) else none
theorem L1:∀{ds},(∀d∈ds,h d=some (k d))->nW h ds=some (ds.filterMap k)
 |[],_=>rfl
 |d::ds,e=>by
  unfold nW;rw[e d aat,L1 λx m=>e x (aad _ m),aeb];cases k d<;>rfl
section
variable{X:Cx}
theorem LF(vF:∀i∈is,js[i]? = some none)
  (si:∀{H0} {S} {z} {ak} {ρ} {σ} {H} {R} {ds} {t},
   Ok X.K H0 S z ak ρ σ H->it ρ=some (ds,t)->(∀H1 J hv,aE H H1->(∀h∈hv,Rep X.K H1 h.d h.v h.fp/\∀a∈h.fp,∀j,z a=some j->∃o,t=.sh o/\j∈o)->qz X.K J ds hv->R J H1)->wi σ H R)
  (ok:Ok X.K H0 S z ak ρ σ H) (e:fV js it g tt te ρ=some (d,tg))
  (k:∀H' v fp,aE H H'->Rep X.K H' d v fp->cJ z H tg fp->Q v H'):Eo wi js (DK X.K g is) (uN X.K tt) (CQ X.K te) σ H Q:=by
 unfold fV at e;cases h:it ρ with
 |none=>rw[h] at e;cases e
 |some w=>
  obtain⟨ds,t⟩:=w;rw[h] at e;dsimp only at e
  by_cases hz:ds.length<sizeLine
  .rw[if_pos hz] at e;cases GH:nW (iI g tt te (iM js ρ)) ds with
   |none=>rw[GH] at e;cases e
   |some es=>
    rw[GH] at e;cases e;refine si ok h λH1 J hv s1 hh Ea Dd tF=>?_
    have bJ:=ok.same s1;have inner:∀(aC) (H2),aE H1 H2->(∃o,H2 Dd=some o)->aC.length=js.length->(∀j,j∉is->aC[j]? = (ko js σ)[j]?)->Ok X.K H1 [] (λa=>if a=Dd then some js.length else none) (sW (λ_=>none) hv) (iM js ρ) aC H2:=by
     intro aC H2 s2 Eh hlen zT;have nD:∀{a} {o},H1 a=some o->a≠Dd:=λe=>cu e tF
     refine⟨λi d t e=>?_,λp m=>?_,λa j e=>?_,λa o e _=>s2 _ _ e,by unfold iM;rw[List.length_map,hlen]⟩
     .unfold iM at e;rw[adA] at e;cases hj:js[i]? with
      |none=>rw[hj] at e;cases e
      |some o=>
       rw[hj] at e;cases o with
       |none=>cases e
       |some j=>
        have e:(match ρ[j]? with|some (some (d,_))=>some (d,Tag.sh [])|_=>none)=some (d,t):=ads e;cases hr:ρ[j]? with
        |none=>rw[hr] at e;cases e
        |some s=>
         rw[hr] at e;cases s with
         |none=>cases e
         |some p=>
          obtain⟨d0,t0⟩:=p;have e1:d0=d/\Tag.sh []=t:=Prod.mk.inj (ads e);obtain⟨rfl,rfl⟩:=e1;obtain⟨v,fp,hs,r,_⟩:=bJ.sl j d0 t0 hr;have hi:i∉is:=λm=>by rw[vF i m] at hj;cases hj
          refine⟨v,fp,?_,r.same s2,λa m q e=>?_⟩
          .rw[zT i hi];unfold ko;rw[adA,hj];show some ((σ[j]?).join)=some (some v);rw[hs];rfl
          .obtain⟨o,w,_⟩:=r.cZ a m;dsimp only at e;rw[acZ (nD w)] at e;cases e
     .obtain⟨h,hm,rfl⟩:=adp.mp m;refine⟨(hh h hm).1.same s2,λa ha q e=>?_⟩;obtain⟨o,w,_⟩:=(hh h hm).1.cZ a ha;rw[acZ (nD w)] at e;cases e
     .by_cases w:a=Dd
      .rw[w];exact⟨Eh,.inl tF⟩
      .rw[acZ w] at e;cases e
    refine⟨λi m aC H'=>m=ds.length - i/\aE H1 H'/\aC.length=js.length/\(∀j,j∉is->aC[j]? = (ko js σ)[j]?)/\∃done rest vs fp,H' Dd=some (.lst vs)/\ay X.K H' done vs fp/\fp.Nodup/\(∀a∈fp,H1 a=none/\a≠Dd)/\
     nW (iI g tt te (iM js ρ)) (ds.drop i)=some rest/\done++rest=es/\done.length<=i,?_,?_⟩
    .refine⟨ds.length,rfl,λb o e=>by rw[aG (cu e tF)];exact e,by unfold ko;rw[List.length_map],λ_ _=>rfl,[],es,[],[],bg,.nil,adw,(λa m=>nomatch m),GH,rfl,acy _⟩
    .rintro i m aC H' ⟨rfl,sH,hlen,zT,done,rest,vs,fp,hD,rs,nd,fr,hr,rfl,hle⟩
     obtain⟨go,stop⟩:=Ea H' i λh m=>(hh h m).1.same sH
     by_cases hl:ds.length<=i
     .refine .inl ⟨stop hl,?_⟩;rw[List.drop_eq_nil_of_le hl] at hr;cases hr;rw[adD] at k;refine k H' (.ref Dd) (Dd::fp) (s1.trans sH) (.lst hD rs) ⟨ado.mpr ⟨λm=>(fr Dd m).2 rfl,nd⟩,λa m=>?_⟩;rcases abG.mp m with e|m
      .rw[e];exact s1.free tF
      .exact s1.free (fr a m).1
     .have cN:i<ds.length:=Nat.lt_of_not_le hl;rw[afr cN] at hr;obtain⟨g1,g2⟩:=go ds[i] (acr cN);refine .inr ⟨g1,λx H2 y=>?_⟩;obtain⟨s2,l8,r2,sub⟩:=g2 x H2 y;have jI:=inner aC H' sH ⟨_,hD⟩ hlen zT;unfold nW at hr;cases hE:iI g tt te (iM js ρ) ds[i] with
      |none=>rw[hE] at hr;cases hr
      |some oe=>
       rw[hE] at hr;unfold iI at hE;cases qK:g ds[i] (.sh []) (iM js ρ) with
       |none=>rw[qK] at hE;cases hE
       |some aF=>
        rw[qK] at hE;dsimp only at hE;have UH:cJ (λa=>if a=Dd then some js.length else none) H' (.sh []) l8:=λa m j e=>by
         obtain⟨h,hm,ha⟩:=sub a m;obtain⟨o,w,_⟩:=(hh h hm).1.cZ a ha;dsimp only at e;rw[acZ (cu w tF)] at e;cases e
        refine⟨H1,[],_,_,iM js ρ,H',ds[i],.sh [],l8,aF,jI,s2,r2,UH,qK,λz3 cH i9 Ld=>?_⟩;have JX:cH.length=js.length:=Ld.1.trans hlen;have Il:∀j,j∉is->cH[j]? = (ko js σ)[j]? :=λj hj=>(Ld.2 j hj).trans (zT j hj)
        cases ht:tt aF with
        |none=>rw[ht] at hE;cases hE
        |some b=>
         rw[ht] at hE;refine⟨H1,[],z3,_,aF,b,i9,ht,λH4 s4=>?_⟩;have D6:aE H1 H4:=(sH.trans s2).trans s4;have uV:aE H' H4:=s2.trans s4;cases b with
         |false=>
          cases hE;refine Zw ?_;exact⟨ds.length-(i+1),by lia,rfl,D6,JX,Il,done,rest,vs,fp,uV _ _ hD,rs.same uV,nd,fr,hr,rfl,Nat.le_succ_of_le hle⟩
         |true=>
          refine Xx ?_;dsimp only at hE;cases Cv:te aF with
          |none=>rw[Cv] at hE;cases hE
          |some w=>
           obtain⟨y,ty⟩:=w;rw[Cv] at hE;dsimp only at hE;refine⟨H1,[],z3,_,aF,y,ty,i9.same s4,Cv,λH5 yv fy s5 ry gy=>?_⟩;have Tz:oe=some y/\fy.Nodup/\∀a∈fy,H4 a=none:=by
            by_cases ho:jV ty=true
            .rw[if_pos ho] at hE;cases hE;exact⟨rfl,by cases ty<;>first|exact gy|cases ho⟩
            .rw[acZ ho] at hE
             by_cases hi:aA y=true
             .rw[if_pos hi] at hE;cases hE;have hn:=ry.aA hi;subst hn;exact⟨rfl,adw,λa m=>nomatch m⟩
             .rw[acZ hi] at hE;cases hE
           obtain⟨rfl,ndy,E8⟩:=Tz;dsimp only at hr;cases vP:nW (iI g tt te (iM js ρ)) (ds.drop (i+1)) with
           |none=>rw[vP] at hr;cases hr
           |some r'=>
            rw[vP] at hr;cases hr;have NU:aE H' H5:=uV.trans s5;have NL:H5 Dd=some (.lst vs):=NU _ _ hD;have lv:vs.length<sizeLine:=by rw[<- rs.length];lia
            have im:aU H5 (upd H5 Dd (.lst (vs++[yv]))):=aU.upd NL rfl;have n1:∀a∈fp++fy,a≠Dd:=λa m=>by
             rcases ada.mp m with m|m
             .exact(fr a m).2
             .intro e;have:=E8 a m;rw[e,uV _ _ hD] at this;cases this
            have YY:ay X.K H5 (done++[y]) (vs++[yv]) (fp++fy):=by
             have q:=ay.append (rs.same NU) (ay.cons ry .nil);rw[adD] at q;exact q
            refine⟨vs,NL,lv,ds.length-(i+1),by lia,rfl,λb o e=>?_,JX,Il,done++[y],r',vs++[yv],fp++fy,bg,YY.frame (λa m=>aG (n1 a m)) im,?_,λa m=>?_,vP,?_,?_⟩
            .rw[aG (cu e tF)];exact s5 _ _ (D6 _ _ e)
            .refine adE.mpr ⟨nd,ndy,λa m b m' e=>?_⟩;subst e;obtain⟨o,w,_⟩:=(rs.same uV).cZ a m;rw[E8 a m'] at w;cases w
            .refine⟨?_,n1 a m⟩;rcases ada.mp m with m|m
             .exact(fr a m).1
             .exact D6.free (E8 a m)
            .rw[adT];rfl
            .rw[ab9,adY];lia
  .rw[acZ hz] at e;cases e
theorem iu{ifs:List Expr}{tt:TF}{te:EF}{is:List Nat}(S:lB X M js sc)(hc:X.calm=true)(hi:FI X tg iter it)(vF:∀i∈is,js[i]? = some none)
  (hb:∀s3 H3 fp,FG (dg X M sc s3 H3 fp) tg g is/\Ac (dg X M sc s3 H3 fp) ifs tt/\FP (dg X M sc s3 H3 fp) elt te) (hs:∀x,foldedSetIterable iter X.env x=pure x:=by intro _;rfl) :
  FP X (.ListComp elt [⟨tg,iter,ifs,0⟩] sc pos) (fV js it g tt te):=by
 obtain⟨wi,pi,si⟩:=hi;exact⟨_,Lo (tt:=uN X.K tt) S hc pi (λs3 H3 fp=>⟨(hb s3 H3 fp).1.pg,(hb s3 H3 fp).2.1,(hb s3 H3 fp).2.2.pe⟩) hs,@λH0 S z ak ρ σ H Q d tg ok e k=>LF vF si ok e k⟩
theorem Dw(i:Nat){ifs:List Expr}{js:List (Option Nat)}{it:IF}{is:List Nat}(hN:X.N.Nodup)(S:lB X M js sc)(hc:X.calm=true)(hi:FI X tg iter it)
  (vF:∀i∈is,js[i]? = some none) (hb:∀s3 H3 fp,FG (dg X M sc s3 H3 fp) tg g is/\Ac (dg X M sc s3 H3 fp) ifs tt/\FP (dg X M sc s3 H3 fp) elt te) (hy:X.N[i]? = some y:=by rfl) (hl:X.env.scope.names.lookup y=some .local:=by rfl)
  (jJ:swapsWith (.ListComp elt [⟨tg,iter,ifs,0⟩] sc pos) (some (.Name y py)) Fo.line X.env=pure true:=by rfl) (hs:∀x,foldedSetIterable iter X.env x=pure x:=by intro _;rfl) (qL:kP X y=false:=by rfl) :
  eY X (.Assign [.Name y py] (.ListComp elt [⟨tg,iter,ifs,0⟩] sc pos) Fo) (dO i (fV js it g tt te)):=by
 obtain⟨wi,pi,si⟩:=hi;exists 23,Vr (g:=DK X.K g is) (tt:=uN X.K tt) (te:=CQ X.K te) hN hy hl S hc pi (λs3 H3 fp=>⟨(hb s3 H3 fp).1.pg,(hb s3 H3 fp).2.1,(hb s3 H3 fp).2.2.pe⟩) jJ hs;unfold dO at e;exists h,fV js it g tt te ρ,w,e,0;obtain⟨d,tg⟩:=w;rw[h] at e;cases e;refine LF vF si ok h λH1 v fp s1 r1 g1=>?_
 exact ok.stored s1 r1 g1 λz' bu=>k z' _ H1 bu (.set hy qL)
end
noncomputable def Cg(n:Nat)(ds:List D):aO:=ds.map (λd=>some (d,.sh []))++List.replicate (n-ds.length) none
def bx(n N:Nat)(b:SF):List D->Option D:=λds=>if ds.length=n then(match b (Cg N ds) with
 |some (.rt d)=>some d
 |some (.nx _)=>some .aB
 |_=>none) else none
noncomputable abbrev CF:=List D->List D->Option D
noncomputable def xT(N:Nat)(es ds:List D):aO:=es.map (λd=>some (d,.own))++(ds.map (λd=>some (d,.sh []))++List.replicate (N-(ds.length+es.length)) none)
def runC(n N:Nat)(b:SF):CF:=λes ds=>if ds.length + es.length=n then(match b (xT N es ds) with
 |some (.rt d)=>some d
 |some (.nx _)=>some .aB
 |_=>none) else none
def RO(K:PySem.W.Frag)(G:CF):Sp:=λvs H Q _=>∃us ws es ds a_ eS d,vs=us++ws/\ay K H es us a_/\a_.Nodup/\ay K H ds ws eS/\(∀b∈eS,b∉a_)/\G es ds=some d/\
 ∀H' v fp,(∀a o,H a=some o->a∉a_->H' a=some o)->Rep K H' d v fp->fp.Nodup->(∀a∈fp,H a=none\/a∈a_)->Q v H'
theorem ay.own{K:PySem.W.Frag}:∀{es} {us} {fp} (k),ay K H es us fp->fp.Nodup->∃z:Addr->Option Nat,(∀i d,es[i]? = some d->∃v f,us[i]? = some v/\Rep K H d v f/\f.Nodup/\∀a∈f,z a=some (k+i))/\∀a j,z a=some j->a∈fp
 |_,_,_,_,.nil,_=>⟨λ_=>none,λi d e=>by simp at e,λ_ _ e=>nomatch e⟩
 |_,_,_,k,.cons (f1:=f1) (f2:=f2) r t,n=>by
  classical
  obtain⟨n1,n2,n3⟩:=adE.mp n;obtain⟨z,h1,h2⟩:=t.own (k+1) n2;refine⟨λa=>if a∈f1 then some k else z a,λi d e=>?_,λa j e=>?_⟩
  .cases i with
   |zero=>cases e;exact⟨_,f1,rfl,r,n1,λa m=>if_pos m⟩
   |succ i=>
    obtain⟨v,f,a1,a2,a3,a4⟩:=h1 i d e;exact⟨v,f,a1,a2,a3,λa m=>(acZ λq=>n3 a q a (h2 a _ (a4 a m)) rfl).trans ((a4 a m).trans (by rw[Nat.add_assoc,Nat.add_comm 1]))⟩
  .dsimp only at e
   split at e
   .exact abT _ (by assumption)
   .exact aaY _ (h2 a j e)
section
variable{K:PySem.W.Frag}
theorem Ok.i7{H:Hp}(r0:ay K H es us a_)(nd:a_.Nodup)(rs:ay K H ds ws eS)(dj:∀b∈eS,b∉a_):∃z,Ok K H a_ z [] (xT N.length es ds) (start N (us++ws)) H:=by
 obtain⟨z,h1,h2⟩:=r0.own 0 nd;have l0:=r0.length;have l1:=rs.length;unfold xT start;rw[adQ,adT];refine⟨z,λi d' t' e'=>?_,(λp m=>by cases m),(λa j e=>⟨let⟨o,w,_⟩:=r0.cZ a (h2 a j e);⟨o,w⟩,.inr (h2 a j e)⟩),(λa o e _=>e),?_⟩
 .by_cases hi:i<es.length
  .rw[aej (by rw[List.length_map];exact hi),adA,acr hi] at e';cases e';obtain⟨v,g,hv,rv,n',hz⟩:=h1 i _ (acr hi);rw[afw] at hz;exact⟨v,g,(aej (by rw[List.length_map];lia)).trans (by rw[adA,hv];rfl),rv,n',hz⟩
  .rw[aex (by rw[List.length_map];lia),List.length_map] at e';rw[aex (by rw[List.length_map];lia),List.length_map,<- l0];generalize i-es.length=i at e' ⊢
   by_cases hi:i<ds.length
   .rw[aej (by rw[List.length_map];exact hi),adA,acr hi] at e';cases e';obtain⟨v,g,hv,rv,sub⟩:=rs.get (acr hi);exact⟨v,g,(aej (by rw[List.length_map];lia)).trans (by rw[adA,hv];rfl),rv,λa m j e=>(dj a (sub a m) (h2 a j e)).elim⟩
   .rw[aex (by rw[List.length_map];lia),List.getElem?_replicate] at e'
    split at e'<;>cases e'
 .simp only[ab9,List.length_map,List.length_replicate]
  lia
theorem UE{st:Stmt}(F:iy K x qual st f fd)(S:nG N ps (cT st))
  (hb:∀(aT:{c:Value // c=fd.code}) (A) (outer) (s) (H) (E),bh k (A.deeper (envOfC qual (cT st) s.heap.objs.size f aT)) cm->FS (jF cR P w K mg base N qual (cT st) f aT A outer s H E cm).k_ (g7 st) b) :
  bP P w K mg base cR (k+1) f fd ps (RO K (runC ps.length N.length b)) cm:=by
 refine F.ok S (λvs H Q E h=>?_) (λaT A outer s H vs Q E hr h=>?_)<;>obtain⟨us,ws,es,ds,a_,eS,d,e0,r0,nd,rs,dj,e,q⟩:=h
 .unfold runC at e
  split at e
  .rename_i h;rw[e0,ab9,<- r0.length,<- rs.length,Nat.add_comm,h]
  .cases e
 .obtain⟨t,p,sd⟩:=hb aT A outer s H E hr;refine⟨t,p,?_⟩;obtain⟨z,ok⟩:=Ok.i7 r0 nd rs dj;rw[e0];unfold runC at e
  split at e
  .cases ho:b (xT N.length es ds) with
   |none=>rw[ho] at e;cases e
   |some o=>
    rw[ho] at e;refine sd ok ho ?_;cases o with
    |rt d'=>cases e;exact q
    |nx ρ'=>cases e;exact λz' aC H' bu _=>q H' .aB [] bu.en .aB adw λa m=>nomatch m
    |bk _=>cases e
    |ct _=>cases e
    |er _ _ _=>cases e
  .cases e
theorem FL{st:Stmt}(F:iy K x qual st f fd)(S:nG N ps (cT st))
  (hb:∀(aT:{c:Value // c=fd.code}) (A) (outer) (s) (H) (E),bh k (A.deeper (envOfC qual (cT st) s.heap.objs.size f aT)) cm->FS (jF cR P w K mg base N qual (cT st) f aT A outer s H E cm).k_ (g7 st) b) :
  bP P w K mg base cR (k+1) f fd ps (aZ K (bx ps.length N.length b)) cm:=
 (UE F S hb).imp λvs H Q E ⟨ds,fp,d,rs,e,q⟩=>⟨[],vs,[],ds,[],fp,d,rfl,.nil,.nil,rs,(λ_ _ m=>nomatch m),e,λH' v fp en r n fr=>q H' v fp (λa o e=>en a o e λm=>nomatch m) r n λa m=>(fr a m).resolve_right λm=>nomatch m⟩
end
noncomputable def ur(f:Int->Int->Int):D->D->Option D
 |.int i,.int j=>some (.int (f i j))
 |_,_=>none
noncomputable def tG(C:Int->Int->Bool)(f:Int->Int->Int):D->D->Option D
 |.int i,.int j=>if C i j=true then some (.int (f i j)) else none
 |_,_=>none
noncomputable def r_(f:Int->Int->Bool):D->D->Option D
 |.int i,.int j=>some (.bl (f i j))
 |_,_=>none
noncomputable def nC(i j:Int):Bool:=(decide (-(2 ^ 64)<i)&&decide (i<2 ^ 64))||(decide (-(2 ^ 64)<j)&&decide (j<2 ^ 64))
noncomputable def DU(_ j:Int):Bool:=decide (0<j)
def lG:=ur λi j=>i+j
def kq:=ur λi j=>i-j
def ED:=tG nC λi j=>i*j
def oMod:=tG DU λi j=>i % j
def oLt:=r_ λi j=>decide (i<j)
def oLe:=r_ λi j=>decide (i<=j)
def u9:=r_ λi j=>decide (j<i)
def zw:=r_ λi j=>decide (j<=i)
noncomputable def oEq:D->D->Option D
 |.int i,.int j=>some (.bl (i==j))
 |.bl i,.bl j=>some (.bl (i==j))
 |.str i,.str j=>some (.bl (i==j))
 |.aB,.aB=>some (.bl true)
 |_,_=>none
noncomputable def iG:D->D->Option D
 |.int i,.int j=>some (.bl (!(i==j)))
 |.bl i,.bl j=>some (.bl (!(i==j)))
 |.str i,.str j=>some (.bl (!(i==j)))
 |.aB,.aB=>some (.bl false)
 |_,_=>none
noncomputable def nv:D->Bool
 |.aB=>true
 |_=>false
def gI:D->D->Option D
 |d,.aB=>some (.bl (nv d))
 |_,_=>none
def yR:D->D->Option D
 |d,.aB=>some (.bl (!nv d))
 |_,_=>none
section
variable{K:PySem.W.Frag}
theorem Ci:d8 K (lM λi j=>.int (g i j)) (ur g):=by
 intro H x y d1 d2 f1 f2 d Q r1 r2 e k;unfold ur at e
 split at e
 .cases e;exact⟨_,_,r1.iO.1,r2.iO.1,k H _ (aE.refl H) (.int _)⟩
 .cases e
theorem oE:d8 K (lM λi j=>.bl (g i j)) (r_ g):=by
 intro H x y d1 d2 f1 f2 d Q r1 r2 e k;unfold r_ at e
 split at e
 .cases e;exact⟨_,_,r1.iO.1,r2.iO.1,k H _ (aE.refl H) (.bl _)⟩
 .cases e
theorem AW(h:∀i j,c i j=true->C i j):d8 K (rI C λi j=>.int (g i j)) (tG c g):=by
 intro H x y d1 d2 f1 f2 d Q r1 r2 e k;unfold tG at e
 split at e
 .rename_i i j;obtain⟨hc,e⟩:=ci e;cases e;exact⟨i,j,r1.iO.1,r2.iO.1,h i j hc,k H _ (aE.refl H) (.int _)⟩
 .cases e
theorem aa0(i j:Int)(h:nC i j=true):uU i j:=by
 unfold nC at h;unfold uU;rcases(Bool.or_eq_true _ _).mp h with h|h
 .obtain⟨a,b⟩:=(abm _ _).mp h;exact .inl ⟨abd a,abd b⟩
 .obtain⟨a,b⟩:=(abm _ _).mp h;exact .inr ⟨abd a,abd b⟩
theorem Kw:d8 K EJ oEq:=by
 intro H x y d1 d2 f1 f2 d Q r1 r2 e k;unfold oEq at e
 split at e
 .cases e;rw[r1.iO.1,r2.iO.1];refine⟨rfl,?_⟩;rw[zY];exact k H _ (aE.refl H) (.bl _)
 .cases e;rw[r1.Am.1,r2.Am.1];refine⟨rfl,?_⟩;rw[zo];exact k H _ (aE.refl H) (.bl _)
 .cases e;rw[r1.xh.1,r2.xh.1];refine⟨rfl,?_⟩;rw[yc];exact k H _ (aE.refl H) (.bl _)
 .cases e;rw[r1.yH.1,r2.yH.1];exact⟨rfl,by have:=k H (.bl true) (aE.refl H) (.bl _);simpa using this⟩
 .cases e
theorem L_:d8 K JT iG:=by
 intro H x y d1 d2 f1 f2 d Q r1 r2 e k;unfold iG at e
 split at e
 .cases e;rw[r1.iO.1,r2.iO.1];refine⟨rfl,?_⟩;rw[zY];exact k H _ (aE.refl H) (.bl _)
 .cases e;rw[r1.Am.1,r2.Am.1];refine⟨rfl,?_⟩;rw[zo];exact k H _ (aE.refl H) (.bl _)
 .cases e;rw[r1.xh.1,r2.xh.1];refine⟨rfl,?_⟩;rw[yc];exact k H _ (aE.refl H) (.bl _)
 .cases e;rw[r1.yH.1,r2.yH.1];exact⟨rfl,by have:=k H (.bl false) (aE.refl H) (.bl _);simpa using this⟩
 .cases e
theorem Rep.nv(r:Rep K H d v fp):decide (v=.aB)=nv d:=by
 cases r<;>first|rfl|exact adt (λe=>nomatch e)
theorem KA:d8 K (λx y H Q=>y=.aB/\Q (.bl (decide (x=.aB))) H) gI:=by
 intro H x y d1 d2 f1 f2 d Q r1 r2 e k;unfold gI at e
 split at e
 .cases e;cases r2;refine⟨rfl,?_⟩;rw[r1.nv];exact k H _ (aE.refl H) (.bl _)
 .cases e
theorem TM:d8 K (λx y H Q=>y=.aB/\Q (.bl (!decide (x=.aB))) H) yR:=by
 intro H x y d1 d2 f1 f2 d Q r1 r2 e k;unfold yR at e
 split at e
 .cases e;cases r2;refine⟨rfl,?_⟩;rw[r1.nv];exact k H _ (aE.refl H) (.bl _)
 .cases e
end
section
variable{X:Cx}
theorem iw(ha:FP X a fa)(hb:FP X b fb):FP X (.BinOp a .Add b pos) (e2 lG fa fb):=rQ IA Ci ha hb
theorem w_(ha:FP X a fa)(hb:FP X b fb):FP X (.BinOp a .Sub b pos) (e2 kq fa fb):=rQ PY Ci ha hb
theorem qV(ha:FP X a fa)(hb:FP X b fb):FP X (.BinOp a .Mult b pos) (e2 ED fa fb):=rQ Su (AW aa0) ha hb
theorem vH(ha:FP X a fa)(hb:FP X b fb):FP X (.BinOp a .Mod b pos) (e2 oMod fa fb):=rQ N9 (AW λ_ _ h=>abd h) ha hb
theorem BU(ha:FP X a fa)(hb:FP X b fb):FT X (.Compare a [.Lt] [b] pos) (tV (e2 oLt fa fb)):=iW Lx oE ha hb (g8 _)
theorem Mq(ha:FP X a fa)(hb:FP X b fb):FT X (.Compare a [.Gt] [b] pos) (tV (e2 u9 fa fb)):=iW OO oE ha hb (g8 _)
theorem zG(ha:FP X a fa)(hb:FP X b fb):FT X (.Compare a [.GtE] [b] pos) (tV (e2 zw fa fb)):=iW XX oE ha hb (g8 _)
theorem pY(ha:FP X a fa)(hb:FP X b fb):FT X (.Compare a [.Eq] [b] pos) (tV (e2 oEq fa fb)):=iW Bq Kw ha hb (g8 _)
theorem j0(ha:FP X a fa)(hb:FP X b fb):FT X (.Compare a [.NotEq] [b] pos) (tV (e2 iG fa fb)):=iW NC L_ ha hb (g8 _)
theorem vY(ha:FP X a fa)(hb:FP X b fb):FT X (.Compare a [.Is] [b] pos) (tV (e2 gI fa fb)):=iW IG KA ha hb (g8 _)
theorem Vv(ha:FP X a fa)(hb:FP X b fb):FT X (.Compare a [.IsNot] [b] pos) (tV (e2 yR fa fb)):=iW aa6 TM ha hb (g8 _)
theorem F2(ha:FP X a fa)(hb:FP X b fb):FP X (.Compare a [.Eq] [b] pos) (e2 oEq fa fb):=n9 Bq Kw ha hb (g8 _)
noncomputable def e1(op:D->Option D)(fa:EF):EF:=λρ=>match fa ρ with
 |some (d1,_)=>(op d1).map λd=>(d,.own)
 |none=>none
theorem qq(e:e1 op fa ρ=some (d,tg)):∃d1 t1,fa ρ=some (d1,t1)/\op d1=some d/\tg=.own:=by
 unfold e1 at e;exists h1,fa ρ,p,e,0;obtain⟨d1,t1⟩:=p;rw[h1] at e;dsimp only at e;exists h3,op d1,d3,e;cases e;exact⟨d1,t1,rfl,h3,rfl⟩
def oj(K:PySem.W.Frag)(r:List V->Hp->VK->Prop)(op:D->Option D):Prop:=∀(H) (x) (d1) (f1) (d) (Q),Rep K H d1 x f1->op d1=some d->
 (∀H' v fp,aE H H'->Rep K H' d v fp->fp.Nodup->(∀a∈fp,H a=none)->Q v H')->r [x] H Q
theorem fp_1(dd:oj X.K r op)(ha:FP X a fa)(he:∀ta,PE X a ta->PE X e (Cu r (L7 ta x9))):FP X e (e1 op fa):=by
 obtain⟨t,p,q⟩:=ha;exists 21,he t p;obtain⟨d1,t1,h1,h2,rfl⟩:=qq e;refine q ok h1 λH1 x f1 s1 r1 _=>?_
 exact dd H1 x d1 f1 d Q r1 h2 λH2 v fp s2 r2 nd fr=>k H2 v fp (s1.trans s2) r2 ⟨nd,λa m=>s1.free (fr a m)⟩
noncomputable def dR:D->Option D
 |.lst ds=>some (.int ds.length)
 |.gH ds=>some (.int ds.length)
 |.tup ds=>some (.int ds.length)
 |.bG es=>some (.int es.length)
 |_=>none
theorem fN.or'(h:fN X f r)(h':fN X f r'):fN X f (λxs H Q=>r xs H Q\/r' xs H Q):=by
 intro af s σ H xs us Q I rv q;rcases q with q|q
 .exact h af s σ H xs us Q I rv q
 .exact h' af s σ H xs us Q I rv q
theorem Zn:oj X.K (λxs H Q=>(∃p ys,xs=[V.ref p]/\(bK X.K H p ys\/bN X.K H p ys)/\Q (.int ys.length) H)\/(∃a ah,xs=[V.ref a]/\H a=some (.dK ah)/\Q (.int ah.length) H)) dR:=by
 intro H x d1 f1 d Q r e k;have fin:∀n:Nat,d=.int n->Q (.int n) H:=λn e=>by subst e;exact k H _ [] (aE.refl H) (.int _) adw λa m=>nomatch m
 cases d1 with
 |lst ds=>
  obtain⟨a,xs,f,rfl,hq,rs,_⟩:=r.dW;cases e;exact .inl ⟨a,xs,rfl,.inl hq,by rw[<- rs.length];exact fin _ rfl⟩
 |gH ds=>
  obtain⟨a,xs,rfl,hq,rs⟩:=r.pV;cases e;exact .inl ⟨a,xs,rfl,.inl hq,by rw[<- rs.length];exact fin _ rfl⟩
 |tup ds=>
  obtain⟨a,xs,rfl,hq,rs⟩:=r.gJ;cases e;exact .inl ⟨a,xs,rfl,.inr hq,by rw[<- rs.length];exact fin _ rfl⟩
 |bG es=>
  cases r with
  |bG h hk rs=>
   cases e;refine .inr ⟨_,_,rfl,h,?_⟩;have hl:=congrArg List.length hk;rw[List.length_map,List.length_map] at hl;rw[<- hl];exact fin _ rfl
 |_=>cases e
theorem fU(hm:X.mg "len"=none)(ha:FP X a fa)(hg:Gl X "len":=by rfl)(hs:starEach [a] X.env=[(false,eval a X.env)]:=by rfl):FP X (.Call (.Name "len" p) [a] [] pos) (e1 dR fa):=
 fp_1 Zn ha λta pa=>rP (fN.or' SJ abN) hg hm PySem.boot_len (dU pa fC hs) (he:=hs)
def tH:D->Option D
 |.lst ds=>if aI ds=true then some (.lst ds) else none
 |.tup ds=>if aI ds=true then some (.lst ds) else none
 |_=>none
theorem abE:oj X.K (λxs H Q=>∃p ys,xs=[V.ref p]/\(bK X.K H p ys\/bN X.K H p ys)/\∀l,H l=none->Q (.ref l) (upd H l (.lst ys))) tH:=by
 intro H x d1 f1 d Q r e k;have fin:∀{ds} {xs} {f},ay X.K H ds xs f->(if aI ds=true then some (D.lst ds) else none)=some d->∀l,H l=none->Q (.ref l) (upd H l (.lst xs)):=λ{ds xs f} rs e l hl=>by
  obtain⟨hi,e⟩:=ci e;cases e;have hn:=rs.aA hi;subst hn;have s2:aE H (upd H l (.lst xs)):=λb o e=>by rw[aG (cu e hl)];exact e
  exact k _ _ [l] s2 (.lst bg (rs.same s2)) (ado.mpr ⟨(λm=>by cases m),adw⟩) λa m=>by cases aaS.mp m;exact hl
 cases d1 with
 |lst ds=>
  obtain⟨a,xs,f,rfl,hq,rs,_⟩:=r.dW;exact⟨a,xs,rfl,.inl hq,fin rs e⟩
 |tup ds=>
  obtain⟨a,xs,rfl,hq,rs⟩:=r.gJ;exact⟨a,xs,rfl,.inr hq,fin rs e⟩
 |_=>cases e
theorem j7(hm:X.mg "list"=none)(ha:FP X a fa)(hg:Gl X "list":=by rfl)(hs:starEach [a] X.env=[(false,eval a X.env)]:=by rfl):FP X (.Call (.Name "list" p) [a] [] pos) (e1 tH fa):=
 fp_1 abE ha λta pa=>vU WR hg hm (by rfl) (dU pa fC hs) (he:=hs)
end
def cL:D->D->Option D
 |.gH ds,.int i=>(d_ ds i).bind λd=>if aA d=true then some d else none
 |.lst ds,.int i=>(d_ ds i).bind λd=>if aA d=true then some d else none
 |.tup ds,.int i=>(d_ ds i).bind λd=>if aA d=true then some d else none
 |_,_=>none
theorem YA{K:PySem.W.Frag}:d8 K (λx y H Q=>EH K x y H Q\/E3 K x y H Q\/B5 x y H Q) cL:=by
 intro H x y d1 d2 f1 f2 d Q r1 r2 e k;have key:∀{ds} {xs} {f} {i},ay K H ds xs f->((d_ ds i).bind λd=>if aA d=true then some d else none)=some d->∃v,d_ xs i=some v/\Rep K H d v []:=λ{ds xs f i} rs e=>by
  unfold d_ at e ⊢;rw[<- rs.length];exists h,nQ ds.length i,j,e,0;rw[h,adH] at e;rw[adH];exists h2,ds[j]?,d',e,0;rw[h2,adH] at e
  by_cases hi:aA d'=true
  .rw[if_pos hi] at e;cases e;obtain⟨v,f',hv,rv,_⟩:=rs.get h2;have hn:=rv.aA hi;subst hn;exact⟨v,hv,rv⟩
  .rw[acZ hi] at e;cases e
 unfold cL at e
 split at e
 .obtain⟨a,xs,rfl,hq,rs⟩:=r1.pV;obtain⟨v,hv,rv⟩:=key rs e;exact .inl ⟨a,xs,_,v,rfl,r2.iO.1,hq,hv,k H v (aE.refl H) rv⟩
 .obtain⟨a,xs,f,rfl,hq,rs,_⟩:=r1.dW;obtain⟨v,hv,rv⟩:=key rs e;exact .inl ⟨a,xs,_,v,rfl,r2.iO.1,hq,hv,k H v (aE.refl H) rv⟩
 .obtain⟨a,xs,rfl,hq,rs⟩:=r1.gJ;obtain⟨v,hv,rv⟩:=key rs e;exact .inr (.inl ⟨a,xs,_,v,rfl,r2.iO.1,hq,hv,k H v (aE.refl H) rv⟩)
 .cases e
theorem cV(ha:FP X a fa)(hb:FP X b fb)(hs:JE b:=by exact λ_ _=>rfl):FP X (.Subscript a b pos) (e2 cL fa fb):=fp_2 YA ha hb λ_ _ pa pb=>Yx Rj pa pb hs
theorem GA:eC d ρ=some (d,.own):=rfl
noncomputable def k1(op:D->Option D):Option (D×Tag)->Option (D×Tag)
 |some (d,_)=>(op d).map λd=>(d,.own)
 |none=>none
theorem xy:e1 GP fa ρ=k1 GP (fa ρ):=by unfold e1 k1;cases fa ρ<;>rfl
theorem Kg:k1 GP (some (d,t))=(GP d).map λd=>(d,.own):=rfl
noncomputable def k2(op:D->D->Option D):Option (D×Tag)->Option (D×Tag)->Option (D×Tag)
 |some (d1,_),some (d2,_)=>(op d1 d2).map λd=>(d,.own)
 |_,_=>none
theorem jH:e2 G2 fa fb ρ=k2 G2 (fa ρ) (fb ρ):=by unfold e2 k2;cases fa ρ<;>cases fb ρ<;>rfl
theorem xE:k2 G2 (some (d1,t1)) (some (d2,t2))=(G2 d1 d2).map λd=>(d,.own):=rfl
theorem JP:(some a).map f=some (f a):=rfl
noncomputable def kV:Option (D×Tag)->Option Bool
 |some (.bl b,_)=>some b
 |_=>none
theorem v8:tV fa ρ=Ev.kV (fa ρ):=by
 unfold tV Ev.kV;cases fa ρ with
 |none=>rfl
 |some p=>obtain⟨d,t⟩:=p;cases d<;>rfl
theorem BL(h:tf ρ=some true):jy tf tg ρ=tg ρ:=by unfold jy;rw[h]
theorem PB(h:tf ρ=some false):jy tf tg ρ=some false:=by unfold jy;rw[h]
theorem J8(h:tf ρ=some true):jM tf tg ρ=some true:=by unfold jM;rw[h]
theorem mC(h:tf ρ=some false):jM tf tg ρ=tg ρ:=by unfold jM;rw[h]
theorem Hl(h:tf ρ=some a)(h2:tg ρ=some b):jy tf tg ρ=some (a&&b):=by unfold jy;rw[h];cases a<;>first|exact h2|rfl
theorem M3(h:tf ρ=some a)(h2:tg ρ=some b):jM tf tg ρ=some (a||b):=by unfold jM;rw[h];cases a<;>first|exact h2|rfl
theorem Ei:kC tf ρ=(tf ρ).map λb=>!b:=rfl
theorem aaV:d7 ρ=some (.nx ρ):=rfl
noncomputable def AG(g:SF):Option Out->Option Out
 |some (.nx ρ)=>g ρ
 |o=>o
theorem iZ:bH sf sg ρ=AG sg (sf ρ):=by
 unfold bH AG;cases sf ρ with
 |none=>rfl
 |some o=>cases o<;>rfl
theorem nY:AG sg (some (.nx ρ))=sg ρ:=rfl
noncomputable def ym(sf sg:SF)(ρ:aO):Option Bool->Option Out
 |some true=>sf ρ
 |some false=>sg ρ
 |none=>none
theorem iC:c9 tf sf sg ρ=ym sf sg ρ (tf ρ):=by unfold c9 ym;cases tf ρ<;>rfl
theorem JN:ym sf sg ρ (some true)=sf ρ:=rfl
theorem HE:ym sf sg ρ (some false)=sg ρ:=rfl
def IU:Option (D×Tag)->Option Out
 |some (d,t)=>if jV t=true then some (.rt d) else if aA d=true then some (.rt d) else none
 |none=>none
theorem JI:iz fa ρ=IU (fa ρ):=by unfold iz IU;cases fa ρ<;>rfl
def AH(i:Nat)(ρ:aO):Option (D×Tag)->Option Out
 |some (d,t)=>some (.nx (h_ ρ i d t))
 |none=>none
theorem r6:dO i fa ρ=AH i ρ (fa ρ):=by unfold dO AH;cases fa ρ<;>rfl
theorem vq:aH ρ=some []:=rfl
noncomputable def lH:Option (D×Tag)->Option (List (D×Tag))->Option (List (D×Tag))
 |some p,some ps=>some (p::ps)
 |_,_=>none
theorem aY:au fa a ρ=lH (fa ρ) (a ρ):=by unfold au lH;cases fa ρ<;>cases a ρ<;>rfl
theorem yO:lH (some p) (some ps)=some (p::ps):=rfl
theorem s_call:cC F a ρ=(a ρ).bind λps=>(F (ps.map (·.1))).map λd=>(d,.own):=rfl
theorem K9:(some a).bind f=f a:=rfl
theorem qo:j_ a ρ=(a ρ).map λps=>(.tup (ps.map (·.1)),jh ps):=rfl
theorem j9:lG (.int m) (.int n)=some (.int (m+n)):=rfl
theorem qW(h:nC m n=true):ED (.int m) (.int n)=some (.int (m*n)):=by show(if nC m n=true then some (D.int (m*n)) else none)=_;rw[if_pos h]
theorem vR(h:0<n):oMod (.int m) (.int n)=some (.int (m % n)):=by show(if DU m n=true then some (D.int (m % n)) else none)=_;rw[if_pos (show DU m n=true from abL h)]
theorem Y9:oLt (.int m) (.int n)=some (.bl (decide (m<n))):=rfl
theorem QD:oLe (.int m) (.int n)=some (.bl (decide (m<=n))):=rfl
theorem aag:zw (.int m) (.int n)=some (.bl (decide (n<=m))):=rfl
theorem JG:iG (.int m) (.int n)=some (.bl (!(m==n))):=rfl
theorem uP:dR (.lst ds)=some (.int ds.length):=rfl
theorem vL(h:d_ ds m=some d)(hi:aA d=true):cL (.lst ds) (.int m)=some d:=by show((d_ ds m).bind λd=>if aA d=true then some d else none)=_;rw[h,adH,if_pos hi]
theorem Kf(h:d_ ds m=some d)(hi:aA d=true):cL (.tup ds) (.int m)=some d:=by show((d_ ds m).bind λd=>if aA d=true then some d else none)=_;rw[h,adH,if_pos hi]
theorem b8(hl:ds.length=n)(h:b (Cg N ds)=some (.rt d)):bx n N b ds=some d:=by unfold bx;rw[if_pos hl,h]
noncomputable def dI(ns:List Int):D:=.gH (ns.map D.int)
theorem XC{ns:List Int}{i:Int}(h0:0<=i)(h1:i<ns.length):d_ (ns.map D.int) i=some (.int (ns.getD i.toNat 0)):=by
 unfold d_ nQ;have h2:i.toNat<ns.length:=by omega
 rw[List.length_map,if_pos h0,if_pos h1,adH,adA,acr h2,adJ,acr h2];rfl
section
variable[DecidableEq κ]
noncomputable def aW(es:List (κ×D))(k:κ):Option D:=(es.find? λkv=>decide (kv.1=k)).map (·.2)
noncomputable def putD(es:List (κ×D))(k:κ)(d:D):List (κ×D):=
 if(es.any λkv=>decide (kv.1=k))=true then es.map (λkv=>if kv.1=k then(kv.1,d) else kv) else es++[(k,d)]
theorem pB{K:PySem.W.Frag}:∀{es}{ah:List (κ×V)} {fp},es.map (·.1)=ah.map (·.1)->ay K H (es.map (·.2)) (ah.map (·.2)) fp->
  (∀d,aW es k=some d->∃v f,dG ah k=some v/\Rep K H d v f/\∀a∈f,a∈fp)/\(aW es k=none->dG ah k=none)
 |[],[],_,_,_=>⟨λd e=>(nomatch e),λ_=>rfl⟩
 |[],_::_,_,e,_=>by simp at e
 |_::_,[],_,e,_=>by simp at e
 |(q,d0)::es,(q',v0)::ah,fp,e,r=>by
  simp only[aax,aes] at e;obtain⟨rfl,e⟩:=e;simp only[aax] at r;cases r with
  | @cons _ _ _ _ f1 f2 r1 r2=>
   obtain⟨i1,i2⟩:=pB e r2
   by_cases h:q=k
   .have e1:aW ((q,d0)::es) k=some d0:=by unfold aW;rw[adN,abL h];rfl
    refine⟨λd ed=>?_,λen=>?_⟩
    .rw[e1] at ed;cases ed;exact⟨v0,f1,xq h,r1,λa m=>abT _ m⟩
    .rw[e1] at en;cases en
   .have e1:aW ((q,d0)::es) k=aW es k:=by unfold aW;rw[adN,adt h]
    rw[e1,wu h];exact⟨λd ed=>let⟨v,f,a,b,c⟩:=i1 d ed;⟨v,f,a,b,λx m=>aaY _ (c x m)⟩,i2⟩
theorem xw{k:κ}(e:es.map (·.1)=ah.map (·.1)):(putD es k d).map (·.1)=(putK ah k v).map (·.1):=by
 have any:(es.any λkv=>decide (kv.1=k))=ah.any λkv=>decide (kv.1=k):=by
  have h1:(es.any λkv=>decide (kv.1=k))=(es.map (·.1)).any λx=>decide (x=k):=by rw[ae3];rfl
  have h2:(ah.any λkv=>decide (kv.1=k))=(ah.map (·.1)).any λx=>decide (x=k):=by rw[ae3];rfl
  rw[h1,h2,e]
 have m1:∀l:List (κ×D),(l.map λkv=>if kv.1=k then(kv.1,d) else kv).map (·.1)=l.map (·.1):=λl=>by
  rw[adG];congr 1;funext kv;show(if kv.1=k then(kv.1,d) else kv).1=kv.1;split<;>rfl
 have m2:∀l:List (κ×V),(l.map λkv=>if kv.1=k then(kv.1,v) else kv).map (·.1)=l.map (·.1):=λl=>by
  rw[adG];congr 1;funext kv;show(if kv.1=k then(kv.1,v) else kv).1=kv.1;split<;>rfl
 unfold putD putK;rw[any]
 by_cases h:(ah.any λkv=>decide (kv.1=k))=true
 .rw[if_pos h,if_pos h,m1,m2,e]
 .rw[acZ h,acZ h,adQ,adQ,e];rfl
theorem xS{K:PySem.W.Frag}{ah:List (κ×V)}(e:es.map (·.1)=ah.map (·.1))(r:ay K H (es.map (·.2)) (ah.map (·.2)) [])(rv:Rep K H d v []):
  ay K H ((putD es k d).map (·.2)) ((putK ah k v).map (·.2)) []:=by
 have any:(es.any λkv=>decide (kv.1=k))=ah.any λkv=>decide (kv.1=k):=by
  have h1:(es.any λkv=>decide (kv.1=k))=(es.map (·.1)).any λx=>decide (x=k):=by rw[ae3];rfl
  have h2:(ah.any λkv=>decide (kv.1=k))=(ah.map (·.1)).any λx=>decide (x=k):=by rw[ae3];rfl
  rw[h1,h2,e]
 have go:∀(es:List (κ×D)) (ah:List (κ×V)),es.map (·.1)=ah.map (·.1)->ay K H (es.map (·.2)) (ah.map (·.2)) []->ay K H ((es.map λkv=>if kv.1=k then(kv.1,d) else kv).map (·.2)) ((ah.map λkv=>if kv.1=k then(kv.1,v) else kv).map (·.2)) []:=by
  intro es
  induction es with
  |nil=>
   intro ah e r;cases ah with
   |nil=>exact .nil
   |cons _ _=>simp at e
  |cons p es ih=>
   intro ah e r;cases ah with
   |nil=>simp at e
   |cons p' ah=>
    obtain⟨q,d0⟩:=p;obtain⟨q',v0⟩:=p';simp only[aax,aes] at e;obtain⟨rfl,e⟩:=e;simp only[aax] at r ⊢;generalize hf:([]:List Addr)=fp at r;cases r with
    | @cons _ _ _ _ f1 f2 r1 r2=>
     obtain⟨h1,h2⟩:=aey.mp hf.symm;subst h1 h2;have t:=ih ah e r2
     by_cases h:q=k
     .rw[if_pos h,if_pos h];exact ay.cons rv t
     .rw[acZ h,acZ h];exact ay.cons r1 t
 unfold putD putK;rw[any]
 by_cases h:(ah.any λkv=>decide (kv.1=k))=true
 .rw[if_pos h,if_pos h];exact go es ah e r
 .rw[acZ h,acZ h,adQ,adQ];exact ay.append r (ay.cons rv .nil)
end
noncomputable def gR:D->Option Key
 |.int i=>some (.inl i)
 |.str x=>some (.inr x)
 |_=>none
theorem Rep.key{K:PySem.W.Frag}(r:Rep K H d y fp)(e:gR d=some k):y=L2.kV k:=by
 cases r<;>cases e<;>rfl
def lQ:D->D->Option D
 |.bG es,kd=>match gR kd with
  |some k=>(aW es k).bind λd=>if aA d=true then some d else none
  |none=>none
 |_,_=>none
def RE:R2:=λx y H Q=>∃a v,x=.ref a/\fP H a y (some v)/\Q v H
theorem aaU{K:PySem.W.Frag}:d8 K RE lQ:=by
 intro H x y d1 d2 f1 f2 d Q r1 r2 e k;cases r1 with
 | @bG a ah es fp h hk rs=>
  have e:(match gR d2 with|some k=>(aW es k).bind λd=>if aA d=true then some d else none|none=>none)=some d:=e;exists uF,gR d2,key,e;dsimp only at e;exists hv,aW es key,d',e,0;rw[hv,adH] at e
  by_cases hi:aA d'=true
  .rw[if_pos hi] at e;cases e;obtain⟨v,f,h1,r,_⟩:=(pB hk rs).1 d hv;have hn:=r.aA hi;subst hn;have ek:=r2.key uF;subst ek;have g:=fP.k (k:=key) h;rw[h1] at g;exact⟨a,v,rfl,g,k H v (aE.refl H) r⟩
  .rw[acZ hi] at e;cases e
 |_=>cases e
theorem BV(hu:X.A.units+1<cLine)(ha:FP X a fa)(hb:FP X b fb)(hs:wQ b:=by exact λ_ _=>rfl):FP X (.Subscript a b pos) (e2 lQ fa fb):=
 fp_2 aaU ha hb λ_ _ pa pb=>OS hu pa pb hs
def sX(d1 d2 d3:D):Option D:=match d1,gR d2 with
 |.bG es,some k=>match aW es k with
  |some d=>if aA d=true then some d else none
  |none=>if aA d3=true then some d3 else none
 |_,_=>none
noncomputable def e3(op:D->D->D->Option D)(fa fb fc:EF):EF:=λρ=>match fa ρ,fb ρ,fc ρ with
 |some (d1,_),some (d2,_),some (d3,_)=>(op d1 d2 d3).map λd=>(d,.own)
 |_,_,_=>none
theorem K8(e:e3 op fa fb fc ρ=some (d,tg)):∃d1 t1 d2 t2 d3 t3,fa ρ=some (d1,t1)/\fb ρ=some (d2,t2)/\fc ρ=some (d3,t3)/\op d1 d2 d3=some d/\tg=.own:=by
 unfold e3 at e;exists h1,fa ρ,p,e,0;cases h2:fb ρ with
 |none=>rw[h1,h2] at e;cases e
 |some q=>
  cases h3:fc ρ with
  |none=>rw[h1,h2,h3] at e;cases e
  |some r=>
   obtain⟨d1,t1⟩:=p;obtain⟨d2,t2⟩:=q;obtain⟨d3,t3⟩:=r;rw[h1,h2,h3] at e;dsimp only at e;exists h4,op d1 d2 d3,d4,e;cases e;exact⟨d1,t1,d2,t2,d3,t3,rfl,rfl,rfl,h4,rfl⟩
theorem ZH{apos dQ:Pos}(hu:X.A.units+1<cLine)(ha:FP X a fa)(hb:FP X b fb)(hc:FP X c fc)(m:M2 X a "get" apos b c dQ:=by exact⟨rfl,rfl,rfl,rfl⟩):FP X (.Call (.Attribute a "get" apos) [b,c] [] dQ) (e3 sX fa fb fc):=by
 obtain⟨ta,pa,sa⟩:=ha;obtain⟨tb,pb,sb⟩:=hb;obtain⟨tc,pc,sc⟩:=hc;exists 21,I_ hu pa pb pc m;obtain⟨d1,t1,d2,t2,d3,t3,h1,h2,h3,h4,rfl⟩:=K8 e;refine sa ok h1 λH1 x f1 s1 r1 _=>?_
 cases d1 with
 |bG es=>
  cases r1 with
  | @bG p ah _ fp h hk rs=>
   refine⟨p,rfl,.inl ⟨ah,.inl h⟩,?_⟩;refine sb (ok.same s1) h2 λH2 y f2 s2 r2 _=>?_
   refine sc ((ok.same s1).same s2) h3 λH3 w f3 s3 r3 _=>?_
   unfold sX at h4;exists uF,gR d2,key,h4;dsimp only at h4;have ek:=r2.key uF;subst ek;have yq:=s3 _ _ (s2 _ _ h);have g:=fP.k (k:=key) yq;refine⟨_,g,?_⟩;have Jw:=(s1.trans s2).trans s3;obtain⟨i1,i2⟩:=pB hk ((rs.same s2).same s3);cases hv:aW es key with
   |some d'=>
    rw[hv] at h4;dsimp only at h4;obtain⟨hi,h4⟩:=ci h4;cases h4;obtain⟨v,f,e1,r,_⟩:=i1 d hv;have hn:=r.aA hi;subst hn;rw[e1];exact k H3 v [] Jw r .nil
   |none=>
    rw[hv] at h4;dsimp only at h4;obtain⟨hi,h4⟩:=ci h4;cases h4;rw[i2 hv];have hn:=r3.aA hi;subst hn;exact k H3 w [] Jw r3 .nil
 |_=>cases h4
theorem Vo:FP X (.Dict [] [] pos) (eC (.bG [])):=by
 refine⟨_,P4,@λH0 S z ak ρ σ H Q d tg ok e k p hp=>?_⟩;cases e;have s2:aE H (upd H p (.dK [])):=λb o e=>by rw[aG (cu e hp)];exact e
 exact k _ _ [p] s2 (.bG bg rfl .nil) ⟨ado.mpr ⟨(λm=>by cases m),adw⟩,λa m=>by cases aaS.mp m;exact hp⟩
noncomputable def j4(i:Nat):Slot->Slot
 |some (d,.sh o)=>if o.contains i=true then none else some (d,.sh o)
 |s=>s
def bB(ρ:aO)(i:Nat)(d:D):aO:=(ρ.map (j4 i)).set i (some (d,.own))
theorem WG(e:j4 i s=some (d,t)):s=some (d,t)/\∀o,t=.sh o->i∉o:=by
 cases s with
 |none=>cases e
 |some w=>
  obtain⟨d',t'⟩:=w;cases t' with
  |sh o=>
   have e:(if o.contains i=true then none else some (d',Tag.sh o))=some (d,t):=e
   split at e
   .cases e
   .rename_i hc;cases e;exact⟨rfl,λo' eo m=>by cases eo;exact hc (aeZ.mpr m)⟩
  |own=>cases e;exact⟨rfl,λo eo=>by cases eo⟩
  |lk=>cases e;exact⟨rfl,λo eo=>by cases eo⟩
theorem K2(hj:j≠i)(e:(bB ρ i d1)[j]? = some (some (d,t))):ρ[j]? = some (some (d,t))/\(P\/∀o,t=.sh o->i∉o):=by
 unfold bB at e;rw[adI (aez hj),adA] at e;obtain⟨s,e0,e⟩:=adC.mp e;obtain⟨rfl,n⟩:=WG e;exact⟨e0,.inr n⟩
theorem N7(h:ρ[i]? = some d0):(bB ρ i d1)[i]? = some (some (d1,.own)):=aeh (by rw[List.length_map];exact(adO.mp h).1)
theorem LH:(bB ρ i d1).length=ρ.length:=by unfold bB;rw[afB,List.length_map]
theorem Ok.put{K:PySem.W.Frag}(ok:Ok K H0 S z ak ρ σ H)(h:ρ[i]? = some (some (d0,.own)))
  (hs:σ[i]? = some (some v)) (zz:tE z i .own a_) (im:aU H H') (keep:∀b o,b∉a_->H b=some o->H' b=some o) (r1:Rep K H' d1 v bC) (nd:bC.Nodup) (fr:∀b∈bC,b∈a_\/H b=none):∃z',Ok K H0 S z' ak (bB ρ i d1) σ H':=
 ⟨_,ok.chg (N7 h) hs zz.2 im keep r1 ⟨nd,λa m=>if_pos m⟩ (Ez zz.2) (λa m=>⟨fr a m,let⟨o,w,_⟩:=r1.cZ a m;⟨o,w⟩⟩) K2 (λ_ _=>rfl) (.inr λn=>n _ h) (LH.trans ok.ln)⟩
theorem Ok.uC{K:PySem.W.Frag}(ok:Ok K H0 S z ak ρ σ H)(h:ρ[i]? = some (some (d0,.own)))
  (hs:σ[i]? = some (some v)) (zz:tE z i .own fp) (hp:p∈fp) (ho:H p=some o) (mo:k8 o=true) (r1:Rep K (upd H p o') d1 v fp):Ok K H0 S z ak (bB ρ i d1) σ (upd H p o'):=
 ok.chg (N7 h) hs zz.2 (aU.upd ho mo) (λb o n e=>by rw[aG λq:b=p=>n (q ▸ hp)];exact e) r1 zz (λa n=>.inr ⟨rfl,n,λ_ n=>n _ h⟩) (λa m=>⟨.inl m,let⟨o,w,_⟩:=r1.cZ a m;⟨o,w⟩⟩) K2 (λ_ _=>rfl) (.inr λn=>n _ h) (LH.trans ok.ln)
def qT(i:Nat)(fk fv:EF):SF:=λρ=>match fv ρ,ρ[i]?,fk ρ with
 |some (d,_),some (some (.bG es,.own)),some (kd,_)=>match gR kd with
  |some k=>if(aA d&&aI (es.map (·.2))&&decide (es.length<sizeLine))=true then some (.nx (bB ρ i (.bG (putD es k d)))) else none
  |none=>none
 |_,_,_=>none
theorem OM(i:Nat){x:Str}{k v:Expr}(hu:X.A.units+1<cLine)(hk:FP X k fk)(hv:FP X v fv)(va:VA X i x:=by walk_at "va")(hs:swapsWith v (some (.Subscript (.Name x p1) k pos')) pos.line X.env=pure false:=by rfl):
  eY X (.Assign [.Subscript (.Name x p1) k pos'] v pos) (qT i fk fv):=by
 obtain⟨tk,pk,sk⟩:=hk;obtain⟨tv,kF,sv⟩:=hv;exists 25,yK hu va.pe pk kF hs;unfold qT at e
 split at e
 .rename_i d td es kd Km h1 h2 h3;exists h4,gR kd,key,e;dsimp only at e;obtain⟨hc,e⟩:=ci e;cases e;obtain⟨qd,C5⟩:=(abm _ _).mp hc;obtain⟨qd,vp⟩:=(abm _ _).mp qd;have hz:=abd C5;refine sv ok h1 λH1 v NN s1 rv _=>?_
  obtain⟨xv,fp,bZ,r,zz⟩:=(ok.same s1).sl i _ _ h2;refine⟨xv,bZ,?_⟩;refine sk (ok.same s1) h3 λH2 y KP s2 rk _=>?_
  have ek:=rk.key h4;subst ek;have r':=r.same s2;cases r' with
  | @bG a ah _ f h eN rs=>
   have hn:=rs.aA vp;subst hn;have vm:=rv.aA qd;subst vm;have hl:ah.length=es.length:=by have:=congrArg List.length eN;simpa using this.symm
   refine⟨a,_,rfl,m5.k h (by rw[hl];exact hz),?_⟩;have im:aU H2 (upd H2 a (.dK (putK ah key v))):=aU.upd h rfl;refine q z σ _ (Ok.uC ((ok.same s1).same s2) h2 bZ zz aat h rfl (.bG bg (xw eN) ?_)) (.refl _ _);exact xS eN (rs.frame (λa m=>nomatch m) im) ((rv.same s2).frame (λa m=>nomatch m) im)
 .cases e
noncomputable def s_(x:Int):List Int->List Int
 |[]=>[x]
 |y::r=>if x<=y then x::y::r else y::s_ x r
def cB:List Int->List Int
 |[]=>[]
 |x::r=>s_ x (cB r)
theorem DW(x:Int):∀l:List Int,(s_ x l).Perm (x::l)
 |[]=>.refl _
 |y::r=>by
  unfold s_
  split
  .exact .refl _
  .exact((DW x r).cons y).trans (.swap x y r)
theorem pZ:∀l:List Int,(cB l).Perm l
 |[]=>.refl _
 |x::r=>(DW x (cB r)).trans ((pZ r).cons x)
theorem Ih(x:Int):∀{l},l.Pairwise (·<=·)->(s_ x l).Pairwise (·<=·)
 |[],_=>List.pairwise_singleton _ _
 |y::r,h=>by
  obtain⟨h1,h2⟩:=adU.mp h;unfold s_
  split
  .rename_i hx;exact adU.mpr ⟨λz m=>(abG.mp m).elim (λe=>e ▸ hx) λm=>afL hx (h1 z m),h⟩
  .rename_i hx;refine adU.mpr ⟨λz m=>?_,Ih x h2⟩;rcases abG.mp ((DW x r).mem_iff.mp m) with e|m
   .rw[e];lia
   .exact h1 z m
theorem Bt:∀l:List Int,(cB l).Pairwise (·<=·)
 |[]=>.nil
 |x::r=>Ih x (Bt r)
theorem u_(p:a.Perm b)(s:a.Pairwise (·<=·)):a=cB b:=by
 have q:=p.trans (pZ b).symm;exact q.eq_of_pairwise (λx y _ _ h1 h2=>Int.le_antisymm h1 h2) s (Bt b)
theorem yZ(l:List Int):(cB l).length=l.length:=(pZ l).length_eq
noncomputable def cU:List D->Option (List Int)
 |[]=>some []
 |.int i::r=>(cU r).map (i::·)
 |_=>none
noncomputable def jz{α:Type}:List (Key×α)->Option (List Int)
 |[]=>some []
 |(.inl i,_)::r=>(jz r).map (i::·)
 |_=>none
theorem oi{K:PySem.W.Frag}:∀{ds} {xs} {fp} {ns},ay K H ds xs fp->cU ds=some ns->xs=ns.map V.int
 |_,_,_,ns,.nil,e=>by cases e;rfl
 |_,_,_,ns,.cons (d:=d) h t,e=>by
  cases d with
  |int i=>
   unfold cU at e;exists q,cU _,r,e;cases e;cases h;rw[oi t q];rfl
  |_=>cases e
theorem rX(ns:List Int):cU (ns.map D.int)=some ns:=by
 induction ns with
 |nil=>rfl
 |cons n r ih=>rw[aax];unfold cU;rw[ih];rfl
theorem Le:∀{es:List (Key×α)} {ks},jz es=some ks->es.map (·.1)=ks.map Sum.inl
 |[],ks,e=>by cases e;rfl
 |(.inl i,_)::r,ks,e=>by
  unfold jz at e;exists q,jz r,l,e;cases e;rw[aax,Le q];rfl
 |(.inr _,_)::_,_,e=>by cases e
def lA:D->Option D
 |.lst ds=>match cU ds with
  |some ns=>if ns.length<64 then some (.lst ((cB ns).map D.int)) else none
  |none=>none
 |.bG es=>match jz es with
  |some ns=>if ns.length<64 then some (.lst ((cB ns).map D.int)) else none
  |none=>none
 |_=>none
theorem pU{K:PySem.W.Frag}:∀ns:List Int,ay K H (ns.map D.int) (ns.map V.int) []
 |[]=>.nil
 |n::r=>ay.cons (.int n) (pU r)
theorem Yc{K:PySem.W.Frag}:oj K (Ik K) lA:=by
 intro H x d1 f1 d Q r e k;have fin:∀(ns:List Int),(if ns.length<64 then some (D.lst ((cB ns).map D.int)) else none)=some d->ns.length<64/\∀l (nk:List Int),H l=none->nk.Perm ns->nk.Pairwise (·<=·)->Q (.ref l) (upd H l (.lst (nk.map V.int))):=λns e=>by
  by_cases h:ns.length<64
  .rw[if_pos h] at e;cases e;refine⟨h,λl nk hl p s=>?_⟩;have eq:=u_ p s;subst eq;have s2:aE H (upd H l (.lst ((cB ns).map V.int))):=λb o e=>by rw[aG (cu e hl)];exact e
   exact k _ _ [l] s2 (.lst bg (pU _)) (ado.mpr ⟨(λm=>by cases m),adw⟩) λa m=>by cases aaS.mp m;exact hl
  .rw[acZ h] at e;cases e
 cases d1 with
 |lst ds=>
  obtain⟨a,xs,f,rfl,hq,rs,_⟩:=r.dW;have e:(match cU ds with|some ns=>if ns.length<64 then some (D.lst ((cB ns).map D.int)) else none|none=>none)=some d:=e;cases h:cU ds with
  |none=>rw[h] at e;cases e
  |some ns=>
   rw[h] at e;obtain⟨h1,h2⟩:=fin ns e;have ex:=oi rs h;subst ex;exact⟨a,ns,rfl,h1,.inr hq,h2⟩
 |bG es=>
  cases r with
  | @bG a ah _ fp h hk rs=>
   have e:(match jz es with|some ns=>if ns.length<64 then some (D.lst ((cB ns).map D.int)) else none|none=>none)=some d:=e;cases h':jz es with
   |none=>rw[h'] at e;cases e
   |some ns=>
    rw[h'] at e;obtain⟨h1,h2⟩:=fin ns e;exact⟨a,ns,rfl,h1,.inl ⟨ah,h,by rw[<- hk];exact Le h'⟩,h2⟩
 |_=>cases e
def ja:List D->Option (List (Key×D))
 |[]=>some []
 |.tup [kd,d]::r=>match gR kd,ja r with
  |some k,some ps=>if aA d=true then some ((k,d)::ps) else none
  |_,_=>none
 |_=>none
def yF:D->Option D
 |.lst ds=>(ja ds).map λps=>.bG (ps.foldl (λm p=>putD m p.1 p.2) [])
 |.tup ds=>(ja ds).map λps=>.bG (ps.foldl (λm p=>putD m p.1 p.2) [])
 |.bG es=>if aI (es.map (·.2))=true then some (.bG es) else none
 |_=>none
theorem P5:bootBuiltins "min"=some (.builtin "min"):=by decide +kernel
theorem Zz:bootBuiltins "sorted"=some (.builtin "sorted"):=by decide +kernel
theorem tS(hc:X.calm=true)(hm:X.mg "sorted"=none)(ha:FP X a fa)(hg:Gl X "sorted":=by rfl)(hs:starEach [a] X.env=[(false,eval a X.env)]:=by rfl):FP X (.Call (.Name "sorted" p) [a] [] pos) (e1 lA fa):=
 fp_1 Yc ha λta pa=>rP (QO hc) hg hm Zz (dU pa fC hs) (he:=hs)
def zZ:D->D->Option D:=ur λi j=>if j<i then j else i
noncomputable def jC:List Int->Int
 |[]=>0
 |[x]=>x
 |x::r=>if x<=jC r then x else jC r
theorem Gq:∀{l},l≠[]->jC l∈l/\∀x∈l,jC l<=x
 |[x],_=>⟨aat,λy m=>by rw[aaS.mp m];exact Int.le_refl _⟩
 |x::y::r,_=>by
  obtain⟨h1,h2⟩:=Gq (l:=y::r) (by simp);show(if x<=jC (y::r) then x else jC (y::r))∈_/\∀z∈_,(if x<=jC (y::r) then x else jC (y::r))<=z
  by_cases h:x<=jC (y::r)
  .rw[if_pos h];exact⟨aat,λz m=>(abG.mp m).elim (λe=>by rw[e];exact Int.le_refl _) λm=>afL h (h2 z m)⟩
  .rw[acZ h];exact⟨aad _ h1,λz m=>(abG.mp m).elim (λe=>by rw[e];lia) λm=>h2 z m⟩
def abz:D->D->Option D
 |.lst ds,z=>match cU ds with
  |some []=>if aA z=true then some z else none
  |some (n::r)=>some (.int (jC (n::r)))
  |none=>none
 |_,_=>none
theorem Rb(hc:X.calm=true)(hm:X.mg "min"=none)(ha:FP X a fa)(hb:FP X b fb)(hg:Gl X "min":=by rfl)(hs:starEach [a,b] X.env=[(false,eval a X.env),(false,eval b X.env)]:=by rfl)(cg:starEach [b] X.env=[(false,eval b X.env)]:=by rfl)(hpl:(backTo pos (starEach [b] X.env)).any (·.1)=false:=by rfl):
  FP X (.Call (.Name "min" p) [a,b] [] pos) (e2 zZ fa fb):=by
 obtain⟨ta,pa,sa⟩:=ha;obtain⟨tb,pb,sb⟩:=hb;exists 21,rP (Z1 hc) hg hm P5 (dU pa (dU pb fC cg) (by rw[hs,cg])) (he:=by rw[hs,cg]) (hpl:=hpl);obtain⟨d1,t1,d2,t2,h1,h2,h3,rfl⟩:=pP e;refine sa ok h1 λH1 x f1 s1 r1 _=>?_
 refine sb (ok.same s1) h2 λH2 y f2 s2 r2 _=>?_
 unfold zZ ur at h3
 split at h3
 .cases h3;exact⟨_,_,by rw[r1.iO.1,r2.iO.1],k H2 _ [] (s1.trans s2) (.int _) .nil⟩
 .cases h3
theorem Tf(hc:X.calm=true)(hm:X.mg "min"=none)(ha:FP X a fa)(hb:FP X b fb)(hg:Gl X "min":=by rfl)(hs:starEach [a] X.env=[(false,eval a X.env)]:=by rfl)
  (h1:backTo pos (starEach [a] X.env)=(false,eval a X.env)::backTo pos (starEach [] X.env):=by rfl) (h2:(backTo pos (starEach [a] X.env)).any (·.1)=false:=by rfl)
  (h3:(backToKw pos (keywordEach [⟨some "default",b,kp⟩] X.env)).all (·.1.isSome)=true:=by rfl) (h4:(backToKw pos (keywordEach [⟨some "default",b,kp⟩] X.env)).any (·.1.isNone)=false:=by rfl)
  (h5:(backToKw pos (keywordEach [⟨some "default",b,kp⟩] X.env)).filterMap (·.1)=[("default":Str)]:=by rfl) :
  FP X (.Call (.Name "min" p) [a] [⟨some "default",b,kp⟩] pos) (e2 abz fa fb):=by
 obtain⟨ta,pa,sa⟩:=ha;obtain⟨tb,pb,sb⟩:=hb;exists 21,aak hc hm pa pb hg hs h1 h2 h3 h4 h5;obtain⟨d1,t1,d2,t2,g1,g2,g3,rfl⟩:=pP e;refine sa ok g1 λH1 x f1 s1 r1 _=>?_
 refine sb (ok.same s1) g2 λH2 y f2 s2 r2 _=>?_
 cases d1 with
 |lst ds=>
  obtain⟨l,xs,f,rfl,hq,rs,_⟩:=(r1.same s2).dW;have g3:(match cU ds with|some []=>if aA d2=true then some d2 else none|some (n::r)=>some (.int (jC (n::r)))|none=>none)=some d:=g3;cases h:cU ds with
  |none=>rw[h] at g3;cases g3
  |some ns=>
   rw[h] at g3;have ex:=oi rs h;subst ex;refine⟨l,ns,rfl,hq,?_⟩;cases ns with
   |nil=>
    have g3:=g3
    by_cases hi:aA d2=true
    .rw[if_pos hi] at g3;cases g3;have hn:=r2.aA hi;subst hn;exact .inl ⟨rfl,k H2 y [] (s1.trans s2) r2 .nil⟩
    .rw[acZ hi] at g3;cases g3
   |cons n r=>
    cases g3;refine .inr ⟨by simp,λm nO jk=>?_⟩;obtain⟨q1,q2⟩:=Gq (l:=n::r) (by simp);have em:=Int.le_antisymm (jk _ q1) (q2 m nO);rw[em];exact k H2 _ [] (s1.trans s2) (.int _) .nil
 |_=>cases g3
theorem L6{K:PySem.W.Frag}:∀{ds} {xs} {fp} {ps},ay K H ds xs fp->ja ds=some ps->
  ∃qs:List (Key×V),Paired (λy (q:Key×V)=>∃a,y=.ref a/\bN K H a [L2.kV q.1,q.2]) xs qs/\ps.map (·.1)=qs.map (·.1)/\ay K H (ps.map (·.2)) (qs.map (·.2)) []
 |_,_,_,ps,.nil,e=>by cases e;exact⟨[],.nil,rfl,.nil⟩
 |_,_,_,ps,.cons (d:=d) (ds:=dr) h t,e=>by
  unfold ja at e
  split at e
  .rename_i heq;cases heq
  .rename_i kd d' r heq;cases heq;exists h1,gR kd,k,e,0;cases h2:ja dr with
   |none=>rw[h1,h2] at e;cases e
   |some pr=>
    rw[h1,h2] at e;dsimp only at e;obtain⟨hi,e⟩:=ci e;cases e;obtain⟨qs,a1,a2,a3⟩:=L6 t h2;obtain⟨a,ys,rfl,hq,rs⟩:=h.gJ;cases rs with
    |cons rk rs=>
     cases rs with
     |cons rv rs=>
      cases rs with
      |nil=>
       have ek:=rk.key h1;subst ek;have hn:=rv.aA hi;subst hn;exact⟨(k,_)::qs,.cons ⟨a,rfl,hq⟩ a1,by rw[aax,aax,a2],ay.cons rv a3⟩
  .cases e
theorem J9{K:PySem.W.Frag}:∀{ps:List (Key×D)}{qs:List (Key×V)} {es} {ah},ps.map (·.1)=qs.map (·.1)->ay K H (ps.map (·.2)) (qs.map (·.2)) []->es.map (·.1)=ah.map (·.1)->ay K H (es.map (·.2)) (ah.map (·.2)) []->
  (ps.foldl (λm p=>putD m p.1 p.2) es).map (·.1)=(qs.foldl (λm q=>putK m q.1 q.2) ah).map (·.1)/\ay K H ((ps.foldl (λm p=>putD m p.1 p.2) es).map (·.2)) ((qs.foldl (λm q=>putK m q.1 q.2) ah).map (·.2)) []
 |[],[],_,_,_,_,h1,h2=>⟨h1,h2⟩
 |[],_::_,_,_,e,_,_,_=>by simp at e
 |_::_,[],_,_,e,_,_,_=>by simp at e
 |(k,d)::ps,(k',v)::qs,es,ah,e,r,h1,h2=>by
  simp only[aax,aes] at e;obtain⟨rfl,e⟩:=e;simp only[aax] at r;generalize hf:([]:List Addr)=fp at r;cases r with
  | @cons _ _ _ _ f1 f2 r1 r2=>
   obtain⟨z1,z2⟩:=aey.mp hf.symm;subst z1 z2;rw[ad9,ad9];exact J9 e r2 (xw h1) (xS h1 h2 r1)
theorem aau{K:PySem.W.Frag}:oj K (λxs H Q=>F6 K xs H Q\/∃a ah,xs=[V.ref a]/\H a=some (.dK ah)/\∀l,H l=none->Q (.ref l) (upd H l (.dK ah))) yF:=by
 intro H x d1 f1 d Q r e k;have fresh:∀{o:HO} {l},H l=none->aE H (upd H l o):=λhl b o e=>by rw[aG (cu e hl)];exact e
 have JH:∀l:Addr,([l]:List Addr).Nodup:=λl=>ado.mpr ⟨(λm=>by cases m),adw⟩
 have seq:∀{ds} {xs} {f} {p},ay K H ds xs f->(bK K H p xs\/bN K H p xs)->((ja ds).map λps=>D.bG (ps.foldl (λm p=>putD m p.1 p.2) []))=some d->F6 K [.ref p] H Q:=λ{ds xs f p} rs hq e=>by
  exists h,ja ds,ps,e;cases e;obtain⟨qs,a1,a2,a3⟩:=L6 rs h;refine⟨p,xs,qs,rfl,hq,a1,λl hl=>?_⟩;obtain⟨b1,b2⟩:=J9 (es:=[]) (ah:=[]) a2 a3 rfl .nil;exact k _ _ [l] (fresh hl) (.bG bg b1 (b2.same (fresh hl))) (JH l) λa m=>by cases aaS.mp m;exact hl
 cases d1 with
 |lst ds=>
  obtain⟨a,xs,f,rfl,hq,rs,_⟩:=r.dW;exact .inl (seq rs (.inl hq) e)
 |tup ds=>
  obtain⟨a,xs,rfl,hq,rs⟩:=r.gJ;exact .inl (seq rs (.inr hq) e)
 |bG es=>
  cases r with
  | @bG a ah _ fp h hk rs=>
   have e:(if aI (es.map (·.2))=true then some (D.bG es) else none)=some d:=e;obtain⟨hi,e⟩:=ci e;cases e;have hn:=rs.aA hi;subst hn;exact .inr ⟨a,ah,rfl,h,λl hl=>k _ _ [l] (fresh hl) (.bG bg hk (rs.same (fresh hl))) (JH l) λa m=>by cases aaS.mp m;exact hl⟩
 |_=>cases e
section
variable{X:Cx}
theorem Q3:fN X (.type "dict") (λxs H Q=>∃a ah,xs=[V.ref a]/\H a=some (.dK ah)/\∀l,H l=none->Q (.ref l) (upd H l (.dK ah))):=by
 intro af s σ H xs us Q I r h;obtain⟨a,ah,rfl,ha,q⟩:=h;obtain⟨u,rfl,ru⟩:=vals1 r;cases ru;exact WJ I (.inl ha) λp s' hp I'=>⟨.ref p,_,I',rfl,q p hp⟩
theorem za{p:Pos}(hc:X.calm=true)(hm:X.mg "dict"=none)(ha:FP X a fa)(hg:Gl X "dict":=by rfl)(hs:starEach [a] X.env=[(false,eval a X.env)]:=by rfl):FP X (.Call (.Name "dict" p) [a] [] pos) (e1 yF fa):=
 fp_1 aau ha λta pa=>vU (fN.or' (acB hc) Q3) hg hm (show bootBuiltins "dict"=some (.type "dict") by decide +kernel) (dU pa fC hs) (he:=hs)
def yu:D->Option D
 |.lst ds=>if aI ds=true then some (.tup ds) else none
 |.tup ds=>if aI ds=true then some (.tup ds) else none
 |_=>none
theorem YJ:oj X.K (λxs H Q=>∃p ys,xs=[V.ref p]/\((bK X.K H p ys/\∀l,H l=none->Q (.ref l) (upd H l (.tup ys)))\/(bN X.K H p ys/\Q (.ref p) H))) yu:=by
 intro H x d1 f1 d Q r e k;cases d1 with
 |lst ds=>
  obtain⟨a,xs,f,rfl,hq,rs,_⟩:=r.dW;have e:(if aI ds=true then some (D.tup ds) else none)=some d:=e;obtain⟨hi,e⟩:=ci e;cases e;have hn:=rs.aA hi;subst hn;refine⟨a,xs,rfl,.inl ⟨hq,λl hl=>?_⟩⟩;have s2:aE H (upd H l (.tup xs)):=λb o e=>by rw[aG (cu e hl)];exact e
  exact k _ _ [] s2 (.tup (bN.of bg) (rs.same s2)) adw λa m=>nomatch m
 |tup ds=>
  obtain⟨a,xs,rfl,hq,rs⟩:=r.gJ;have e:(if aI ds=true then some (D.tup ds) else none)=some d:=e;obtain⟨hi,e⟩:=ci e;cases e;have hn:=rs.aA hi;subst hn;exact⟨a,xs,rfl,.inr ⟨hq,k H _ [] (aE.refl H) (.tup hq rs) adw λa m=>nomatch m⟩⟩
 |_=>cases e
theorem v9{p:Pos}(hm:X.mg "tuple"=none)(ha:FP X a fa)(hg:Gl X "tuple":=by rfl)(hs:starEach [a] X.env=[(false,eval a X.env)]:=by rfl):FP X (.Call (.Name "tuple" p) [a] [] pos) (e1 yu fa):=
 fp_1 YJ ha λta pa=>vU aaE hg hm (show bootBuiltins "tuple"=some (.type "tuple") by decide +kernel) (dU pa fC hs) (he:=hs)
end
def vV(N:List Str)(uq sc:Scope)(M:List Str)(js:List (Option Nat)):Bool:=
 (sc.kind == .function)&&sc.names.all (λy=>y.2 != .cell)&&sc.names.all (λy=>if y.2 == .local then sc.names.lookup y.1==some .local else true)&&nF N sc M js&&(frees sc).all (λx=>uq.names.lookup x==some .cell||uq.names.lookup x==some .free)&&decide M.Nodup
theorem acX(h1:X.N=N)(h2:X.env.scope=uq)(h3:X.env.kindOf=λx=>uq.names.lookup x)(h:vV N uq sc M js=true):lB X M js sc:=by
 unfold vV at h;obtain⟨h,a6⟩:=(abm _ _).mp h;obtain⟨h,a5⟩:=(abm _ _).mp h;obtain⟨h,a4⟩:=(abm _ _).mp h;obtain⟨h,a3⟩:=(abm _ _).mp h;obtain⟨a1,a2⟩:=(abm _ _).mp h;refine⟨?_,λy hy=>?_,λy hy hl=>?_,?_,λx hx=>?_,abd a6⟩
 .cases hk:sc.kind<;>rw[hk] at a1<;>first|rfl|exact absurd a1 (by decide)
 .have:=adW.mp a2 y hy;intro z;rw[z] at this;exact absurd this (by decide)
 .have:=adW.mp a3 y hy;rw[hl] at this;have this:=this;cases q:sc.names.lookup y.1 with
  |none=>rw[q] at this;exact absurd this (by decide)
  |some k=>rw[q] at this;cases k<;>first|rfl|exact absurd this (by decide)
 .rw[h1];exact a4
 .have:=adW.mp a5 x hx;rw[h3];dsimp only;cases q:uq.names.lookup x with
  |none=>rw[q] at this;exact absurd this (by decide)
  |some k=>rw[q] at this;cases k<;>first|exact .inl rfl|exact .inr rfl|exact absurd this (by decide)
theorem cJ.back(g:cJ z H1 t fp)(s:aE H H1):cJ z H t fp:=by
 cases t with
 |sh o=>exact g
 |own=>exact⟨g.1,λa m=>s.free (g.2 a m)⟩
 |lk=>exact⟨g.1,λa m=>s.free (g.2 a m)⟩
noncomputable def pA(fa fb:EF):EF:=λρ=>match fa ρ with
 |some (.bl true,_)=>fb ρ
 |some (.bl false,_)=>some (.bl false,.own)
 |_=>none
noncomputable def Jx:D->Option D
 |.bl b=>some (.bl (!b))
 |_=>none
theorem ow{op}(h:FP X a fa):FP X (.BoolOp op [a] pos) fa:=let⟨t,p,q⟩:=h;⟨t,Of p,q⟩
theorem lC{rest:List Expr}(ha:FP X a fa)(hb:FP X (.BoolOp .And (b::rest) pos) fb):FP X (.BoolOp .And (a::b::rest) pos) (pA fa fb):=by
 obtain⟨t,p,q⟩:=ha;obtain⟨t',p',q'⟩:=hb;exists 21,abl p p';unfold pA at e
 split at e
 .rename_i tt h;refine q ok h λH1 v fp s1 r1 _=>?_
  cases r1;refine⟨true,rfl,?_⟩;rw[if_pos rfl];exact q' (ok.same s1) e λH2 v fp s2 r2 g2=>k H2 v fp (s1.trans s2) r2 (g2.back s1)
 .rename_i tt h;cases e;refine q ok h λH1 v fp s1 r1 _=>?_
  cases r1;refine⟨false,rfl,?_⟩;rw[acZ abR];exact k H1 _ [] s1 (.bl _) .nil
 .cases e
theorem Pf(ha:FP X a fa):FP X (.UnaryOp .Not a pos) (e1 Jx fa):=by
 obtain⟨t,p,q⟩:=ha;exists 21,Xy p;obtain⟨d1,t1,h1,h2,rfl⟩:=qq e;refine q ok h1 λH1 v fp s1 r1 _=>?_
 cases r1<;>cases h2
 exact⟨_,rfl,k H1 _ [] s1 (.bl _) .nil⟩
def fT:D->D->Option D
 |.lst ds,.lst es=>if(aI ds&&aI es&&decide (ds.length+es.length<=sizeLine))=true then some (.lst (ds++es)) else none
 |_,_=>none
theorem tQ(ha:FP X a fa)(hb:FP X b fb):FP X (.BinOp a .Add b pos) (e2 fT fa fb):=by
 obtain⟨ta,pa,sa⟩:=ha;obtain⟨tb,pb,sb⟩:=hb;exists 20,uJ RB pa pb;obtain⟨d1,t1,d2,t2,e1,kg,e3,rfl⟩:=pP e;refine sa ok e1 λH1 x f1 s1 r1 _=>?_
 refine sb (ok.same s1) kg λH2 y f2 s2 r2 _=>?_
 unfold fT at e3
 split at e3
 .rename_i ds es;obtain⟨hc,e3⟩:=ci e3;cases e3;obtain⟨c1,c3⟩:=(abm _ _).mp hc;obtain⟨c1,c2⟩:=(abm _ _).mp c1;have r1:=r1.same s2;cases r1 with
  | @lst p xs _ f h rs=>
   cases r2 with
   | @lst p' ys _ f' h' mU=>
    have n1:=rs.aA c1;have n2:=mU.aA c2;subst n1 n2;refine⟨p,p',xs,ys,rfl,rfl,h,h',by rw[<- rs.length,<- mU.length];exact abd c3,λl hl=>?_⟩;have s3:aE H2 (upd H2 l (.lst (xs++ys))):=λb o e=>by rw[aG (cu e hl)];exact e
    have rr:=ay.append rs mU;refine q _ _ [l] ((s1.trans s2).trans s3) (.lst bg (rr.same s3)) ⟨ado.mpr ⟨(λm=>by cases m),adw⟩,λa m=>?_⟩;cases aaS.mp m;exact(s1.trans s2).free hl
 .cases e3
noncomputable def A3:D->Option String
 |.int _=>some "int"
 |.bl _=>some "bool"
 |.str _=>some "str"
 |.aB=>some "NoneType"
 |.lst _=>some "list"
 |.bG _=>some "dict"
 |_=>none
def mE(T:String)(d:D):Option D:=match A3 d with
 |some t=>some (.bl (t==T||(t == "bool"&&T == "int")))
 |none=>none
def qQ(T:String):Prop:=∀(K) (t),t∈["int","bool","str","NoneType","list","dict"]->PySem.W.kitOne K (.type t) (.type T)=some (t==T||(t == "bool"&&T == "int"))
theorem H_:qQ "int":=by
 intro K t m;simp only[abG,adX,afk] at m;rcases m with rfl|rfl|rfl|rfl|rfl|rfl<;>rfl
theorem Li:qQ "bool":=by
 intro K t m;simp only[abG,adX,afk] at m;rcases m with rfl|rfl|rfl|rfl|rfl|rfl<;>rfl
theorem MY:qQ "list":=by
 intro K t m;simp only[abG,adX,afk] at m;rcases m with rfl|rfl|rfl|rfl|rfl|rfl<;>rfl
theorem OG(T:String):fN X (.builtin "isinstance") (λxs H Q=>∃x t b,xs=[x,V.ty T]/\iV X.K H x t/\PySem.W.kitOne X.K t (.type T)=some b/\Q (.bl b) H):=by
 intro af s σ H xs us Q I r h;obtain⟨x,t,bb,rfl,ty,e,q⟩:=h;obtain⟨u,w',rfl,ru,d9⟩:=vals2 r;cases d9;exact WX I ru ty e λtk=>⟨.bl bb,H,I.tok tk,rfl,q⟩
theorem Rep.ty{K:PySem.W.Frag}(r:Rep K H d v fp)(e:A3 d=some t):iV K H v (.type t)/\t∈["int","bool","str","NoneType","list","dict"]:=by
 cases r with
 |aB=>cases e;exact⟨.aB,by decide⟩
 |bl b=>cases e;exact⟨.bl b,by decide⟩
 |int i=>cases e;exact⟨.int i,by decide⟩
 |str x=>cases e;exact⟨.str x,by decide⟩
 |lst h _=>cases e;exact⟨.lst h,by decide⟩
 |bG h _ _=>cases e;exact⟨.dK h,by decide⟩
 |tup _ _=>cases e
 |Ay _ _=>cases e
 |cQ _ _ _=>cases e
 |ins _ _ _ _=>cases e
 |exc _ _ _=>cases e
theorem oJ{T:String}(hT:qQ T)(hm:X.mg "isinstance"=none)(Ca:X.mg x=none)(ha:FP X a fa)(CT:bootBuiltins x=some (.type T):=by decide +kernel)(hg:Gl X "isinstance":=by rfl)(Ds:Gl X x:=by rfl)(hn:x≠"__name__":=by decide)(jL:(x==("__debug__":Str))=false:=by decide)
  (hs:starEach [a,.Name x p2] X.env=[(false,eval a X.env),(false,eval (.Name x p2) X.env)]:=by rfl) (hpl:(backTo pos (starEach [.Name x p2] X.env)).any (·.1)=false:=by rfl):FP X (.Call (.Name "isinstance" p) [a,.Name x p2] [] pos) (e1 (mE T) fa):=by
 obtain⟨ta,pa,sa⟩:=ha;have cg:starEach [.Name x p2] X.env=[(false,eval (.Name x p2) X.env)]:=rfl;exists 21,rP (OG T) hg hm (show bootBuiltins "isinstance"=some (.builtin "isinstance") by decide +kernel) (dU pa (dU (MU (v:=.ty T) Ds Ca CT rfl hn jL) fC) (by rw[hs,cg])) (he:=by rw[hs,cg]);obtain⟨d1,t1,h1,h2,rfl⟩:=qq e;refine sa ok h1 λH1 v fp s1 r1 _=>?_
 unfold mE at h2;exists ht,A3 d1,t,h2;cases h2;obtain⟨ty,mem⟩:=r1.ty ht;exact⟨v,_,_,rfl,ty,hT X.K t mem,k H1 _ [] s1 (.bl _) .nil⟩
end L2.Ev
namespace L2.Ev
open PySem
noncomputable def k3(op:D->D->D->Option D):Option (D×Tag)->Option (D×Tag)->Option (D×Tag)->Option (D×Tag)
 |some (d1,_),some (d2,_),some (d3,_)=>(op d1 d2 d3).map λd=>(d,.own)
 |_,_,_=>none
theorem Sf:e3 VY fa fb fc ρ=k3 VY (fa ρ) (fb ρ) (fc ρ):=by unfold e3 k3;cases fa ρ<;>cases fb ρ<;>cases fc ρ<;>rfl
noncomputable def JD(fb:EF)(ρ:aO):Option (D×Tag)->Option (D×Tag)
 |some (.bl true,_)=>fb ρ
 |some (.bl false,_)=>some (.bl false,.own)
 |_=>none
theorem Wg:pA fa fb ρ=JD fb ρ (fa ρ):=by
 unfold pA JD;cases fa ρ with
 |none=>rfl
 |some w=>obtain⟨d,t⟩:=w;cases d<;>first|rfl|(rename_i b;cases b<;>rfl)
theorem aas:gI d .aB=some (.bl (nv d)):=rfl
theorem Ng(P:Nat->aO->Prop):∀{ds} {ρ} {n},P n ρ->(∀j ρ d,ds[j]? = some d->P (n+j) ρ->∃aF aQ,g d t ρ=some aF/\(f aF=some (.nx aQ)\/f aF=some (.ct aQ))/\P (n+j+1) aQ)->
  ∃ρ',b_ g t f ds ρ=some (.nx ρ')/\P (n+ds.length) ρ'
 |[],ρ,n,h,_=>⟨ρ,rfl,h⟩
 |d::ds,ρ,n,h,hs=>by
  obtain⟨aF,aQ,h1,h2,h3⟩:=hs 0 ρ d rfl h;obtain⟨ρ',h4,h5⟩:=Ng P h3 λj ρ d hd hp=>by
   have:=hs (j+1) ρ d hd (by rw[show n+(j+1)=n+1+j by lia];exact hp);rw[show n+(j+1)+1=n+1+j+1 by lia] at this;exact this
  refine⟨ρ',?_,by rw[adu,show n+(ds.length+1)=n+1+ds.length by lia];exact h5⟩;unfold b_;rw[h1];rcases h2 with h2|h2<;>(dsimp only;rw[h2];exact h4)
theorem Jm(P:Nat->aO->Prop)(R:Nat->D->Prop):∀{ds} {ρ} {n},P n ρ->(∀j ρ d,ds[j]? = some d->P (n+j) ρ->∃aF,g d t ρ=some aF/\((∃aQ,(f aF=some (.nx aQ)\/f aF=some (.ct aQ))/\P (n+j+1) aQ)\/∃r,f aF=some (.rt r)/\R (n+j) r))->
  (∃ρ',b_ g t f ds ρ=some (.nx ρ')/\P (n+ds.length) ρ')\/∃j r,b_ g t f ds ρ=some (.rt r)/\R (n+j) r/\j<ds.length
 |[],ρ,n,h,_=>.inl ⟨ρ,rfl,h⟩
 |d::ds,ρ,n,h,hs=>by
  obtain⟨aF,h1,⟨aQ,h2,h3⟩|⟨r,h2,h3⟩⟩:=hs 0 ρ d rfl h
  .have e:b_ g t f (d::ds) ρ=b_ g t f ds aQ:=by
    rw[b_,h1];rcases h2 with h2|h2<;>(dsimp only;rw[h2])
   rw[e];rcases Jm P R h3 (λj ρ d hd hp=>by
    have:=hs (j+1) ρ d hd (by rw[show n+(j+1)=n+1+j by omega];exact hp);rw[show n+(j+1)+1=n+1+j+1 by omega,show n+(j+1)=n+1+j by omega] at this;exact this) with⟨ρ',h4,h5⟩|⟨j,r,h4,h5,h6⟩
   .exact .inl ⟨ρ',h4,by rw[adu,show n+(ds.length+1)=n+1+ds.length by omega];exact h5⟩
   .exact .inr ⟨j+1,r,h4,by rw[show n+(j+1)=n+1+j by omega];exact h5,by rw[adu];omega⟩
  .refine .inr ⟨0,r,?_,h3,by rw[adu];omega⟩;rw[b_,h1];dsimp only;rw[h2]
theorem se(hi:it ρ=some (ds,t))(h:b_ g (jo t) f ds (nX (lN (lF t) ρ) ρ)=some (.nx ρ')):iD it g f ρ=some (.nx (q_ (lN (lF t) ρ) ρ')):=by unfold iD;rw[hi];dsimp only;rw[h]
theorem A8(hi:it ρ=some (ds,t))(h:b_ g (jo t) f ds (nX (lN (lF t) ρ) ρ)=some (.rt r)):iD it g f ρ=some (.rt r):=by unfold iD;rw[hi];dsimp only;rw[h]
theorem wZ(hi:it ρ=some (ds,.own))(h:b_ g (.sh []) f ds ρ=some (.nx ρ')):iD it g f ρ=some (.nx ρ'):=se hi h
theorem O3(hi:it ρ=some (ds,.own))(h:b_ g (.sh []) f ds ρ=some (.rt r)):iD it g f ρ=some (.rt r):=A8 hi h
theorem ir1(h:e ρ=some (.int n,t))(hs:small n=true):mQ e ρ=some ((List.range n.toNat).map λi:Nat=>D.int (0+(i:Int)),.own):=by unfold mQ;rw[h];dsimp only;rw[if_pos hs]
theorem iF(h:e ρ=some (.lst ds,t)):gA e ρ=some (ds,t):=by unfold gA;rw[h]
theorem Hy(h:e ρ=some (.tup ds,t)):gA e ρ=some (ds,t):=by unfold gA;rw[h]
theorem jx(hi:it ρ=some (ds,t))(hl:ds.length<sizeLine)(h:∀d∈ds,iI g tt te (iM js ρ) d=some (k d)):
  fV js it g tt te ρ=some (.lst (ds.filterMap k),.own):=by unfold fV;rw[hi];dsimp only;rw[if_pos hl,L1 h];rfl
theorem zJ(h1:g d (.sh []) ρ=some aF)(h2:tt aF=some false):iI g tt te ρ d=some none:=by unfold iI;rw[h1];dsimp only;rw[h2]
theorem nI(h1:g d (.sh []) ρ=some aF)(h2:tt aF=some true)(h3:te aF=some (e,.own)):iI g tt te ρ d=some (some e):=by unfold iI;rw[h1];dsimp only;rw[h2];dsimp only;rw[h3];rfl
theorem ua(h1:g d (.sh []) ρ=some aF)(h2:tt aF=some true)(h3:te aF=some (e,tg))(hi:aA e=true):iI g tt te ρ d=some (some e):=by
 unfold iI;rw[h1];dsimp only;rw[h2];dsimp only;rw[h3];dsimp only
 by_cases ho:jV tg=true
 .rw[if_pos ho]
 .rw[acZ ho,if_pos hi]
noncomputable def kI(p:Int×Int):Key×D:=(Sum.inl p.1,.int p.2)
def bU(es:List (Int×Int)):D:=.bG (es.map kI)
noncomputable def bA(es:List (Int×Int))(k:Int):Option Int:=(es.find? λp=>decide (p.1=k)).map (·.2)
noncomputable def fL(es:List (Int×Int))(k v:Int):List (Int×Int):=if(es.any λp=>decide (p.1=k))=true then es.map (λp=>if p.1=k then(p.1,v) else p) else es++[(k,v)]
theorem tP:((Sum.inl a:Key)=Sum.inl k)↔a=k:=⟨λh=>Sum.inl.inj h,λh=>by rw[h]⟩
theorem OL(es:List (Int×Int))(k:Int):aW (es.map kI) (Sum.inl k:Key)=(bA es k).map D.int:=by
 unfold aW bA
 induction es with
 |nil=>rfl
 |cons p r ih=>
  rw[aax,adN,adN]
  by_cases h:p.1=k
  .rw[abL (show(kI p).1=Sum.inl k from tP.mpr h),abL h];rfl
  .rw[adt (show ¬(kI p).1=Sum.inl k from λe=>h (tP.mp e)),adt h];exact ih
theorem Kq(es:List (Int×Int))(k v:Int):putD (es.map kI) (Sum.inl k:Key) (.int v)=(fL es k v).map kI:=by
 unfold putD fL;have e:((es.map kI).any λkv=>decide (kv.1=(Sum.inl k:Key)))=es.any λp=>decide (p.1=k):=by
  rw[ae3]
  congr 1
  funext p
  exact ae8.mpr tP
 rw[e]
 by_cases h:(es.any λp=>decide (p.1=k))=true
 .rw[if_pos h,if_pos h,adG,adG]
  congr 1
  funext p
  show(if(kI p).1=Sum.inl k then((kI p).1,D.int v) else kI p)=kI (if p.1=k then(p.1,v) else p)
  by_cases hp:p.1=k
  .rw[if_pos hp,if_pos (show(kI p).1=Sum.inl k from tP.mpr hp)];rfl
  .rw[acZ hp,acZ (show ¬(kI p).1=Sum.inl k from λe=>hp (tP.mp e))]
 .rw[acZ h,acZ h,adQ];rfl
theorem VP:sX (bU es) (.int k) (.int z)=some (.int ((bA es k).getD z)):=by
 show(match aW (es.map kI) (Sum.inl k:Key) with|some d=>if aA d=true then some d else none|none=>if aA (.int z)=true then some (.int z) else none)=_;rw[OL];cases bA es k<;>rfl
theorem Zu(h:bA es k=some v):lQ (bU es) (.int k)=some (.int v):=by
 show((aW (es.map kI) (Sum.inl k:Key)).bind λd=>if aA d=true then some d else none)=_;rw[OL,h];rfl
theorem Kr:∀es:List (Int×Int),jz (es.map kI)=some (es.map (·.1))
 |[]=>rfl
 |p::r=>by rw[aax];show(jz (r.map kI)).map (p.1::·)=_;rw[Kr r];rfl
theorem V6(h:es.length<64):lA (bU es)=some (.lst ((cB (es.map (·.1))).map D.int)):=by
 show(match jz (es.map kI) with|some ns=>if ns.length<64 then some (D.lst ((cB ns).map D.int)) else none|none=>none)=_;rw[Kr];dsimp only;rw[if_pos (by rw[List.length_map];exact h)]
theorem IK:∀es:List (Int×Int),aI ((es.map kI).map (·.2))=true
 |[]=>rfl
 |p::r=>by rw[aax,aax];unfold aI;rw[IK r];rfl
theorem Lc(h1:fv ρ=some (.int v,t1))(h2:ρ[i]? = some (some (bU es,.own)))(h3:fk ρ=some (.int k,t2))(hl:es.length<sizeLine):
  qT i fk fv ρ=some (.nx (bB ρ i (bU (fL es k v)))):=by
 unfold qT;rw[h1,h2,h3];unfold bU;dsimp only[gR];rw[if_pos (by rw[IK,List.length_map,abL hl];rfl),Kq]
theorem z5(es:List (Int×Int))(k v j:Int):bA (fL es k v) j=if j=k then some v else bA es j:=by
 unfold fL
 by_cases h:(es.any λp=>decide (p.1=k))=true
 .rw[if_pos h];unfold bA
  induction es with
  |nil=>cases h
  |cons p r ih=>
   rw[aax,adN,adN]
   by_cases hp:p.1=k
   .rw[if_pos hp];dsimp only
    by_cases hj:j=k
    .rw[abL (hp.trans hj.symm),if_pos hj];rfl
    .have gx:¬p.1=j:=λe=>hj (e.symm.trans hp)
     rw[adt gx,acZ hj];dsimp only
     by_cases hr:(r.any λp=>decide (p.1=k))=true
     .rw[ih hr,acZ hj]
     .congr 1
      have:r.map (λp=>if p.1=k then(p.1,v) else p)=r:=by
       conv=>rhs;rw[<- List.map_id r]
       refine aeA λq m=>?_
       rw[acZ λe=>hr (adS.mpr ⟨q,m,abL e⟩)];rfl
      rw[this]
   .rw[acZ hp];have hr:(r.any λp=>decide (p.1=k))=true:=by
     rw[ae4,adt hp] at h;exact h
    by_cases hj:p.1=j
    .rw[abL hj,acZ λe=>hp (hj.trans e)]
    .rw[adt hj];exact ih hr
 .rw[acZ h];unfold bA;rw[List.find?_append]
  by_cases hj:j=k
  .have:(es.find? λp=>decide (p.1=j))=none:=aet.mpr λq m hq=>h (adS.mpr ⟨q,m,by rw[<- hj];exact hq⟩)
   rw[this,if_pos hj,hj];simp
  .rw[acZ hj];have:([(k,v)].find? λp=>decide (p.1=j))=none:=aet.mpr λq m hq=>hj (by cases aaS.mp m;exact(abd hq).symm)
   rw[this,Option.or_none]
theorem MG(es:List (Int×Int))(k v:Int):(fL es k v).map (·.1)=if k∈es.map (·.1) then es.map (·.1) else es.map (·.1)++[k]:=by
 unfold fL
 by_cases h:(es.any λp=>decide (p.1=k))=true
 .have hm:k∈es.map (·.1):=by
   obtain⟨p,m,hp⟩:=adS.mp h;exact adp.mpr ⟨p,m,abd hp⟩
  rw[if_pos h,if_pos hm,adG];refine aeA λp m=>?_
  show(if p.1=k then(p.1,v) else p).1=p.1
  split<;>rfl
 .have hm:k∉es.map (·.1):=λm=>by
   obtain⟨p,m,hp⟩:=adp.mp m;exact h (adS.mpr ⟨p,m,abL hp⟩)
  rw[acZ h,acZ hm,adQ];rfl
theorem Hu(h:(es.map (·.1)).Nodup):((fL es k v).map (·.1)).Nodup:=by
 rw[MG]
 by_cases hm:k∈es.map (·.1)
 .rw[if_pos hm];exact h
 .rw[acZ hm];exact adE.mpr ⟨h,ado.mpr ⟨(λm=>by cases m),adw⟩,λa ha b hb e=>hm (by cases aaS.mp hb;exact e ▸ ha)⟩
theorem VF:(fL es k v).length<=es.length+1:=by
 have:=congrArg List.length (MG es k v);rw[List.length_map] at this;rw[this]
 split
 .rw[List.length_map];lia
 .rw[ab9,List.length_map];exact acy _
theorem pW:(∃v,bA es k=some v)↔k∈es.map (·.1):=by
 unfold bA;constructor
 .rintro⟨v,h⟩
  cases e:es.find? λp=>decide (p.1=k) with
  |none=>rw[e] at h;cases h
  |some p=>exact adp.mpr ⟨p,ad4 e,abd (afC e :)⟩
 .intro h;obtain⟨p,m,hp⟩:=adp.mp h;cases e:es.find? λp=>decide (p.1=k) with
  |none=>exact absurd (abL hp) (aet.mp e p m)
  |some q=>exact⟨q.2,rfl⟩
def i8(ps:List (Int×Int)):List (Int×Int):=ps.foldl (λm p=>fL m p.1 p.2) []
theorem foldI:∀(ps m:List (Int×Int)),(ps.map kI).foldl (λm p=>putD m p.1 p.2) (m.map kI)=(ps.foldl (λm p=>fL m p.1 p.2) m).map kI
 |[],_=>rfl
 |p::r,m=>by rw[aax,ad9,ad9];show(r.map kI).foldl _ (putD (m.map kI) (Sum.inl p.1) (.int p.2))=_;rw[Kq];exact foldI r _
noncomputable def dP(p:Int×Int):D:=.tup [.int p.1,.int p.2]
theorem HK:∀ps:List (Int×Int),ja (ps.map dP)=some (ps.map kI)
 |[]=>rfl
 |p::r=>by
  rw[aax];show(match gR (.int p.1),ja (r.map dP) with|some k,some ps=>if aA (.int p.2)=true then some ((k,D.int p.2)::ps) else none|_,_=>none)=_;rw[HK r];rfl
theorem Io:yF (.lst (ps.map dP))=some (bU (i8 ps)):=by
 show(ja (ps.map dP)).map _=_;rw[HK];show some (D.bG ((ps.map kI).foldl (λm p=>putD m p.1 p.2) []))=_;rw[show([]:List (Key×D))=([]:List (Int×Int)).map kI from rfl,foldI];rfl
theorem Ml(hn:(ps.map (·.1)).Nodup)(k:Int):bA (i8 ps) k=bA ps k:=by
 have go:∀(ps m),(ps.map (·.1)).Nodup->bA (ps.foldl (λm p=>fL m p.1 p.2) m) k=(bA ps k).or (bA m k):=by
  intro ps
  induction ps with
  |nil=>intro m _;rfl
  |cons p r ih=>
   intro m h;rw[aax] at h;obtain⟨h1,h2⟩:=ado.mp h;rw[ad9,ih _ h2,z5]
   by_cases hk:k=p.1
   .have hr:bA r k=none:=by
     cases e:bA r k with
     |none=>rfl
     |some v=>exact absurd (pW.mp ⟨v,e⟩) (hk ▸ h1)
    rw[hr,if_pos hk];unfold bA;rw[adN,abL hk.symm];rfl
   .rw[acZ hk];have:bA (p::r) k=bA r k:=by unfold bA;rw[adN,adt λe=>hk e.symm]
    rw[this]
 unfold i8;rw[go ps [] hn];cases bA ps k<;>rfl
open PySem PySem.Spec PyProof.Rows
mutual
noncomputable def py:D->PyData
 |.bl b=>.bool b
 |.int i=>.int i
 |.str x=>.str x
 |.tup ds=>.tuple (eX ds)
 |.lst ds=>.list (eX ds)
 |.gH ds=>.list (eX ds)
 |_=>.none
noncomputable def eX:List D->List PyData
 |[]=>[]
 |d::ds=>py d::eX ds
end
mutual
noncomputable def fS:D->Bool
 |.aB|.bl _|.int _|.str _=>true
 |.tup ds|.lst ds|.gH ds=>m8 ds
 |_=>false
noncomputable def m8:List D->Bool
 |[]=>true
 |d::ds=>fS d&&m8 ds
end
mutual
theorem mZ(I:Inv X af σ H s):∀{d} {v} {f} {u},Rep X.K H d v f->RelV v u->fS d=true->∃as,Reads s.heap u (py d) as
 |.aB,_,_,_,r,q,_=>by cases r;cases q;exact⟨_,by unfold py;exact .none⟩
 |.bl b,_,_,_,r,q,_=>by cases r;cases q;exact⟨_,by unfold py;exact .bool b⟩
 |.int i,_,_,_,r,q,_=>by cases r;obtain⟨t,rfl⟩:=q;exact⟨_,by unfold py;exact .int i t⟩
 |.str x,_,_,_,r,q,_=>by cases r;obtain⟨t,rfl⟩:=q;exact⟨_,by unfold py;exact .str x t⟩
 |.tup ds,_,_,_,r,q,e=>by
  obtain⟨a,xs,rfl,hq,rs⟩:=r.gJ;cases q;obtain⟨us,v1,⟨o,h1,h2,n,h3⟩,_⟩:=I.tuple hq;obtain⟨as,ra⟩:=x_ I rs v1 (by unfold fS at e;exact e);exact⟨_,by unfold py;exact .tuple h1 h2 h3 (by simpa using ra)⟩
 |.lst ds,_,_,_,r,q,e=>by
  obtain⟨a,xs,f,rfl,hq,rs,_⟩:=r.dW;cases q;obtain⟨us,v1,⟨o,n,h1,h2,_,h3⟩,_⟩:=I.list hq;obtain⟨as,ra⟩:=x_ I rs v1 (by unfold fS at e;exact e);exact⟨_,by unfold py;exact .list h1 h2 h3 (by simpa using ra)⟩
 |.gH ds,_,_,_,r,q,e=>by
  obtain⟨a,xs,rfl,hq,rs⟩:=r.pV;cases q;obtain⟨us,v1,⟨o,n,h1,h2,_,h3⟩,_⟩:=I.list hq;obtain⟨as,ra⟩:=x_ I rs v1 (by unfold fS at e;exact e);exact⟨_,by unfold py;exact .list h1 h2 h3 (by simpa using ra)⟩
 |.bG _,_,_,_,_,_,e=>by unfold fS at e;cases e
 |.cQ _,_,_,_,_,_,e=>by unfold fS at e;cases e
 |.ins _ _,_,_,_,_,_,e=>by unfold fS at e;cases e
 |.exc _,_,_,_,_,_,e=>by unfold fS at e;cases e
theorem x_(I:Inv X af σ H s):∀{ds} {xs} {f} {us},ay X.K H ds xs f->aN xs us->m8 ds=true->∃as,ReadsAll s.heap us (eX ds) as
 |[],_,_,_,r,q,_=>by cases r;cases q;exact⟨_,by unfold eX;exact .nil⟩
 |d::ds,_,_,_,r,q,e=>by
  cases r with
  |cons r1 r2=>
   cases q with
   |cons q1 q2=>
    unfold m8 at e;obtain⟨e1,e2⟩:=(abm _ _).mp e;obtain⟨as,h1⟩:=mZ I r1 q1 e1;obtain⟨bs,h2⟩:=x_ I r2 q2 e2;exact⟨_,by unfold eX;exact .cons h1 h2⟩
end
noncomputable def tL(r:List Int):D:=.tup (r.map D.int)
def cK(rs:List (List Int)):List D:=rs.map tL
theorem uH:∀r:List Int,eX (r.map D.int)=r.map PyData.int
 |[]=>rfl
 |i::r=>by rw[aax,aax];unfold eX;rw[uH r];unfold py;rfl
theorem yQ:∀r:List Int,m8 (r.map D.int)=true
 |[]=>rfl
 |i::r=>by rw[aax];unfold m8;rw[yQ r];rfl
theorem depthAll_ints:∀r:List Int,PyData.depthAll (r.map PyData.int)=0
 |[]=>rfl
 |i::r=>by rw[aax];simp only[PyData.depthAll,PyData.depth,depthAll_ints r];rfl
noncomputable def jf(r:List Int):PyData:=.tuple (r.map PyData.int)
theorem aaZ(r:List Int):py (tL r)=jf r:=by unfold tL jf;unfold py;rw[uH]
theorem E9:∀rs:List (List Int),eX (cK rs)=rs.map jf
 |[]=>rfl
 |r::rs=>by
  show eX (tL r::cK rs)=jf r::rs.map jf;unfold eX;rw[aaZ,E9 rs]
theorem HM:∀rs:List (List Int),m8 (cK rs)=true
 |[]=>rfl
 |r::rs=>by
  show m8 (tL r::cK rs)=true;unfold m8;rw[HM rs,Bool.and_true];unfold tL fS;exact yQ r
def cM(d:D):Bool:=fS d&&(py d).canLay0&&decide ((py d).depth<=40)
def GV(d1 d2:D):Option D:=if(cM d1&&cM d2)=true then some (.bl (PyData.eqv (py d1) (py d2))) else none
def jD(d1 d2:D):Option D:=if(cM d1&&cM d2)=true then some (.bl (!PyData.eqv (py d1) (py d2))) else none
def x8(K:PySem.W.Frag)(neg:Bool):R2:=λx y H Q=>∃d1 d2 f1 f2,Rep K H d1 x f1/\Rep K H d2 y f2/\cM d1=true/\cM d2=true/\Q (.bl (if neg=true then !PyData.eqv (py d1) (py d2) else PyData.eqv (py d1) (py d2))) H
theorem lay_of(h:cM d=true):fS d=true/\(py d).canLay0=true/\(py d).depth<=40:=by
 unfold cM at h;obtain⟨h,h3⟩:=(abm _ _).mp h;obtain⟨h1,h2⟩:=(abm _ _).mp h;exact⟨h1,h2,abd h3⟩
theorem O9(hu:X.A.units+64<cLine):cD X (compareOp .NotEq) (x8 X.K true):=by
 intro af s σ H x y v u Q I rx ry h;obtain⟨d1,d2,f1,f2,r1,r2,l1,l2,q⟩:=h;obtain⟨a1,a2,a3⟩:=lay_of l1;obtain⟨b1,b2,b3⟩:=lay_of l2;obtain⟨as,ra⟩:=mZ I r1 rx a1;obtain⟨bs,rb⟩:=mZ I r2 ry b1;exact SeqAt.compareNe_reads ra rb a2 b2 (by omega) ⟨.bl _,H,I,rfl,q⟩
theorem WZ(hu:X.A.units+64<cLine):cD X (compareOp .Eq) (x8 X.K false):=by
 intro af s σ H x y v u Q I rx ry h;obtain⟨d1,d2,f1,f2,r1,r2,l1,l2,q⟩:=h;obtain⟨a1,a2,a3⟩:=lay_of l1;obtain⟨b1,b2,b3⟩:=lay_of l2;obtain⟨as,ra⟩:=mZ I r1 rx a1;obtain⟨bs,rb⟩:=mZ I r2 ry b1;exact SeqAt.compareEq_reads ra rb a2 b2 (by omega) ⟨.bl _,H,I,rfl,q⟩
theorem Lq{K:PySem.W.Frag}:d8 K (x8 K true) jD:=by
 intro H x y d1 d2 f1 f2 d Q r1 r2 e k;unfold jD at e
 by_cases hc:(cM d1&&cM d2)=true
 .rw[if_pos hc] at e;cases e;obtain⟨c1,c2⟩:=(abm _ _).mp hc;exact⟨d1,d2,f1,f2,r1,r2,c1,c2,k H _ (aE.refl H) (.bl _)⟩
 .rw[acZ hc] at e;cases e
theorem Rl{K:PySem.W.Frag}:d8 K (x8 K false) GV:=by
 intro H x y d1 d2 f1 f2 d Q r1 r2 e k;unfold GV at e;obtain⟨hc,e⟩:=ci e;cases e;obtain⟨c1,c2⟩:=(abm _ _).mp hc;exact⟨d1,d2,f1,f2,r1,r2,c1,c2,k H _ (aE.refl H) (.bl _)⟩
theorem wJ(hu:X.A.units+64<cLine)(ha:FP X a fa)(hb:FP X b fb):FT X (.Compare a [.NotEq] [b] pos) (tV (e2 jD fa fb)):=iW (O9 hu) Lq ha hb (g8 _)
theorem SS(hu:X.A.units+64<cLine)(ha:FP X a fa)(hb:FP X b fb):FT X (.Compare a [.Eq] [b] pos) (tV (e2 GV fa fb)):=iW (WZ hu) Rl ha hb (g8 _)
theorem QN(hu:X.A.units+64<cLine)(ha:FP X a fa)(hb:FP X b fb):FP X (.Compare a [.NotEq] [b] pos) (e2 jD fa fb):=n9 (O9 hu) Lq ha hb (g8 _)
theorem Bs{d:D}(h:cM d=true):jD d d=some (.bl false):=by unfold jD;rw[h,aeD,if_pos rfl,SeqAt.eqv_refl _ (lay_of h).2.1];rfl
theorem yy:∀r:List Int,PyData.canLayAll0 (r.map PyData.int)=true
 |[]=>rfl
 |i::r=>by rw[aax];simp only[PyData.canLayAll0,PyData.canLay0,yy r,aeD]
theorem JA:∀rs:List (List Int),PyData.canLayAll0 (rs.map jf)=true/\PyData.depthAll (rs.map jf)<=1
 |[]=>⟨rfl,by simp[PyData.depthAll]⟩
 |r::rs=>by
  obtain⟨h1,h2⟩:=JA rs;rw[aax];refine⟨by simp only[PyData.canLayAll0,jf,PyData.canLay0,h1,Bool.and_true];exact yy r,?_⟩;simp only[PyData.depthAll,jf,PyData.depth,depthAll_ints r];omega
theorem IS(rs:List (List Int)):cM (.lst (cK rs))=true:=by
 obtain⟨h1,h2⟩:=JA rs;have e:py (.lst (cK rs))=.list (rs.map jf):=by unfold py;rw[E9]
 unfold cM;rw[e];have a1:fS (.lst (cK rs))=true:=by unfold fS;exact HM rs
 have a2:(PyData.list (rs.map jf)).canLay0=true:=by simp only[PyData.canLay0];exact h1
 have a3:(PyData.list (rs.map jf)).depth<=40:=by simp only[PyData.depth];omega
 rw[a1,a2,abL a3];rfl
end L2.Ev
namespace L2.Ev
open PySem PySem.Spec PyProof.Rows
theorem A7:qQ "tuple":=by
 intro K t m;simp only[abG,adX,afk] at m;rcases m with rfl|rfl|rfl|rfl|rfl|rfl<;>rfl
theorem HP:qQ "str":=by
 intro K t m;simp only[abG,adX,afk] at m;rcases m with rfl|rfl|rfl|rfl|rfl|rfl<;>rfl
noncomputable def nA(t:TF)(fa fb:EF):EF:=λρ=>match t ρ with
 |some true=>fa ρ
 |some false=>fb ρ
 |none=>none
theorem IY(hc:FT X c tc)(ha:FP X a fa)(hb:FP X b fb):FP X (.IfExp c a b pos) (nA tc fa fb):=by
 obtain⟨t,p,q⟩:=hc;obtain⟨t1,p1,q1⟩:=ha;obtain⟨t2,p2,q2⟩:=hb;exists 21,SK p p1 p2;unfold nA at e;cases h:tc ρ with
 |none=>rw[h] at e;cases e
 |some y=>
  rw[h] at e;refine q ok h λH1 s1=>?_
  cases y with
  |true=>rw[if_pos rfl];exact q1 (ok.same s1) e λH2 v fp s2 r2 g2=>k H2 v fp (s1.trans s2) r2 (g2.back s1)
  |false=>rw[acZ abR];exact q2 (ok.same s1) e λH2 v fp s2 r2 g2=>k H2 v fp (s1.trans s2) r2 (g2.back s1)
theorem Jf(h:tc ρ=some true):nA tc fa fb ρ=fa ρ:=by unfold nA;rw[h]
theorem LO(h:tc ρ=some false):nA tc fa fb ρ=fb ρ:=by unfold nA;rw[h]
noncomputable def GN(_ j:Int):Bool:=decide (0<j)&&decide (j<1073741824)
noncomputable def Zk(i j:Int):Bool:=decide (0<=j)&&decide (j<=1000000)&&decide (i.natAbs<2 ^ 64)
def oDiv:=tG GN λi j=>i / j
def MX:=tG Zk λi j=>i ^ j.toNat
theorem LP(ha:FP X a fa)(hb:FP X b fb):FP X (.BinOp a .FloorDiv b pos) (e2 oDiv fa fb):=rQ aaw (AW λi j h=>by
 obtain⟨h1,h2⟩:=(abm _ _).mp h;exact⟨abd h1,abd h2⟩) ha hb
theorem U9(ha:FP X a fa)(hb:FP X b fb):FP X (.BinOp a .Pow b pos) (e2 MX fa fb):=rQ WS (AW λi j h=>by
 obtain⟨h,h3⟩:=(abm _ _).mp h;obtain⟨h1,h2⟩:=(abm _ _).mp h;exact⟨abd h1,abd h2,abd h3⟩) ha hb
theorem YR(h:0<n)(h2:n<1073741824):oDiv (.int m) (.int n)=some (.int (m / n)):=by
 show(if GN m n=true then some (D.int (m / n)) else none)=_;rw[if_pos (by unfold GN;rw[abL h,abL h2];rfl)]
def jW(neg:Bool):D->D->Option D
 |.int i,.lst ds=>(cU ds).map λns=>.bl (if neg=true then !(ns.any (· == i)) else ns.any (· == i))
 |_,_=>none
theorem Oc(i:Int)(ns:List Int):uu (.int i) (ns.map V.int)=ns.any (· == i):=by
 unfold uu;rw[ae3];rfl
theorem Hr(ns:List Int):(ns.map V.int).all lY=true:=by
 rw[afM];exact adW.mpr λ_ _=>rfl
theorem Ms{K:PySem.W.Frag}:d8 K (uz K neg) (jW neg):=by
 intro H x y d1 d2 f1 f2 d Q r1 r2 e k;cases d1 with
 |int i=>
  cases d2 with
  |lst ds=>
   have e:((cU ds).map λns=>D.bl (if neg=true then !(ns.any (· == i)) else ns.any (· == i)))=some d:=e;exists h,cU ds,ns,e;cases e;obtain⟨p,xs,f,rfl,hq,rs,_⟩:=r2.dW;cases r1;have ex:=oi rs h;subst ex;refine⟨p,_,rfl,.inl hq,rfl,Hr ns,?_⟩;rw[Oc];exact k H _ (aE.refl H) (.bl _)
  |_=>cases e
 |_=>cases e
theorem UL(ha:FP X a fa)(hb:FP X b fb)(hm:behindInMarks .NotIn b=false:=by rfl):FT X (.Compare a [.NotIn] [b] pos) (tV (e2 (jW true) fa fb)):=iW yL Ms ha hb hm
theorem ML(ha:FP X a fa)(hb:FP X b fb)(hm:behindInMarks .NotIn b=false:=by rfl):FP X (.Compare a [.NotIn] [b] pos) (e2 (jW true) fa fb):=n9 yL Ms ha hb hm
theorem Dk{ns:List Int}:jW neg (.int i) (.lst (ns.map D.int))=some (.bl (if neg=true then !(ns.any (· == i)) else ns.any (· == i))):=by
 show((cU (ns.map D.int)).map _)=_;rw[rX];rfl
def kT(i:Nat)(fv:EF):SF:=λρ=>match fv ρ,ρ[i]? with
 |some (d,_),some (some (.lst ds,.own))=>if(aA d&&aI ds&&decide (ds.length<sizeLine))=true then some (.nx (bB ρ i (.lst (ds++[d])))) else none
 |_,_=>none
theorem Be(i:Nat)(hv:FP X a fv)(va:VA X i x:=by walk_at "va")(hs:starEach [a] X.env=[(false,eval a X.env)]:=by rfl)
  (kR:attributeBase (.Name x p1) "append" X.env (eval (.Name x p1) X.env)=eval (.Name x p1) X.env:=by rfl)
  (nu:((backTo p3 (starEach [a] X.env)).all (λx=>!x.1)&&(backToKw p3 (keywordEach [] X.env)).all (λx=>x.1.isSome)&&decide ([a].length+([]:List Keyword).length+(if([]:List Keyword).isEmpty then 0 else 1)<30))=true:=by rfl)
  (kU:(p2.endLine==p3.line)=true:=by rfl) (jJ:swapsWith (.Call (.Attribute (.Name x p1) "append" p2) [a] [] p3) none pos.line X.env=pure false:=by rfl) :
  eY X (.Expr (.Call (.Attribute (.Name x p1) "append" p2) [a] [] p3) pos) (kT i fv):=by
 obtain⟨tv,kF,sv⟩:=hv;exists 25,zy (y_ PySem.F.plainAttrs_list PySem.F.slot_list_append PySem.F.type_list_append Dc va.pe (dU kF fC hs) kR nu kU hs rfl) jJ;unfold kT at e
 split at e
 .rename_i d td ds g1 g2;obtain⟨hc,e⟩:=ci e;cases e;obtain⟨c1,c3⟩:=(abm _ _).mp hc;obtain⟨c1,c2⟩:=(abm _ _).mp c1;obtain⟨xv,fp,bZ,r,zz⟩:=ok.sl i _ _ g2;refine⟨xv,bZ,?_⟩;obtain⟨l,xs,f,rfl,hq,_,_⟩:=r.dW;refine⟨.inl ⟨rfl,_,hq⟩,?_⟩;refine sv ok g1 λH1 v NN s1 rv _=>?_
  have r':=r.same s1;have bJ:=ok.same s1;generalize hw:(V.ref l)=w at r' bZ;cases r' with
  | @lst a' ys _ f' h rs=>
   cases hw;have hn:=rs.aA c2;subst hn;have vm:=rv.aA c1;subst vm;refine⟨_,ys,v,rfl,rfl,h,by rw[<- rs.length];exact abd c3,?_⟩;have im:aU H1 (upd H1 l (.lst (ys++[v]))):=aU.upd h rfl;refine q z σ _ (Ok.uC bJ g2 bZ zz aat h rfl (.lst bg ?_)) (.refl _ _);exact ay.append (rs.frame (λa m=>nomatch m) im) (ay.cons (rv.frame (λa m=>nomatch m) im) .nil)
 .cases e
theorem C8(h1:fv ρ=some (.int n,t1))(h2:ρ[i]? = some (some (.lst (ns.map D.int),.own)))(hl:ns.length<sizeLine):
  kT i fv ρ=some (.nx (bB ρ i (.lst ((ns++[n]).map D.int)))):=by
 unfold kT;rw[h1,h2];dsimp only;have D7:∀ns:List Int,aI (ns.map D.int)=true:=λns=>by
  induction ns with
  |nil=>rfl
  |cons n r ih=>rw[aax];unfold aI;rw[ih];rfl
 rw[if_pos (by rw[D7,List.length_map,abL hl];rfl),adQ];rfl
def cutD(ds:List D)(lo hi:Option Int):List D:=(ds.drop (HT.fB ds.length 0 lo)).take (HT.fB ds.length ds.length hi-HT.fB ds.length 0 lo)
def kh(lo hi:Option Int):D->Option D
 |.lst ds=>if aI ds=true then some (.lst (cutD ds lo hi)) else none
 |.gH ds=>if aI ds=true then some (.lst (cutD ds lo hi)) else none
 |_=>none
theorem ay.yE{K:PySem.W.Frag}:∀{ds} {xs} (n),ay K H ds xs []->ay K H (ds.drop n) (xs.drop n) []
 |ds,xs,0,r=>r
 |[],_,n+1,r=>by cases r;exact .nil
 |d::ds,xs,n+1,r=>by
  generalize hf:([]:List Addr)=fp at r;cases r with
  | @cons _ _ _ _ f1 f2 r1 r2=>
   obtain⟨z1,z2⟩:=aey.mp hf.symm;subst z1 z2;exact ay.yE n r2
theorem ay.zW{K:PySem.W.Frag}:∀{ds} {xs} (n),ay K H ds xs []->ay K H (ds.take n) (xs.take n) []
 |ds,xs,0,r=>.nil
 |[],_,n+1,r=>by cases r;exact .nil
 |d::ds,xs,n+1,r=>by
  generalize hf:([]:List Addr)=fp at r;cases r with
  | @cons _ _ _ _ f1 f2 r1 r2=>
   obtain⟨z1,z2⟩:=aey.mp hf.symm;subst z1 z2;exact ay.cons r1 (ay.zW n r2)
def AA(X:Cx)(e:Option Expr)(v:Option Int):Prop:=∃t,PO X e t/\∀σ H Q,Q v H->t σ H Q
theorem Gu:AA X none none:=⟨_,GQ,λ_ _ _ q=>q⟩
theorem Dh{j p}:AA X (some (.Constant (.int i) j p)) (some i):=⟨_,Ef Fd,λ_ _ _ q=>⟨i,rfl,q⟩⟩
theorem GR{lo hi:Option Expr}(hl:AA X lo l)(hh:AA X hi h)(ha:FP X a fa):FP X (.Subscript a (.Slice lo hi none p2) pos) (e1 (kh l h) fa):=by
 obtain⟨t,p,q⟩:=ha;obtain⟨tl,pl,ql⟩:=hl;obtain⟨th,ph,qh⟩:=hh;exists 21,EI EG p pl ph;obtain⟨d1,t1,g1,g2,rfl⟩:=qq e;refine q ok g1 λH1 x f1 s1 r1 _=>?_
 refine ql σ H1 _ (qh σ H1 _ ?_);have fin:∀{ds} {xs} {f} {w},ay X.K H1 ds xs f->bK X.K H1 w xs->(if aI ds=true then some (D.lst (cutD ds l h)) else none)=some d->Kl X.K (.ref w) l h H1 Q:=λ{ds xs f w} rs hq e=>by
  obtain⟨hi,e⟩:=ci e;cases e;have hn:=rs.aA hi;subst hn;refine⟨w,xs,rfl,hq,λp hp=>?_⟩;have s2:aE H1 (upd H1 p (.lst (j6 xs l h))):=λb o e=>by rw[aG (cu e hp)];exact e
  have rr:ay X.K H1 (cutD ds l h) (j6 xs l h) []:=by
   unfold cutD j6;rw[rs.length];exact ay.zW _ (ay.yE _ rs)
  refine k _ _ [p] (s1.trans s2) (.lst bg (rr.same s2)) ⟨ado.mpr ⟨(λm=>by cases m),adw⟩,λa m=>?_⟩;cases aaS.mp m;exact s1.free hp
 cases d1 with
 |lst ds=>
  obtain⟨w,xs,f,rfl,hq,rs,_⟩:=r1.dW;exact fin rs hq g2
 |gH ds=>
  obtain⟨w,xs,rfl,hq,rs⟩:=r1.pV;exact fin rs hq g2
 |_=>cases g2
end L2.Ev
namespace L2
open PySem PySem.Spec PyProof.Rows
namespace Rv
theorem slot_next:Slot "list_reverseiterator" "__next__" "list_reverseiterator.__next__":=.of (owner:="list_reverseiterator") (n:="__next__") (by rw[aeF,ad7];kernel_rfl) (by decide +kernel) (by decide +kernel) (by decide +kernel) (by first|exact .inl (by decide +kernel)|exact .inr (by decide +kernel)) (by rw[afo];kernel_rfl)
theorem Lm:Slot "list_reverseiterator" "__iter__" "list_reverseiterator.__iter__":=.of (owner:="list_reverseiterator") (n:="__iter__") (by rw[aeF,ad7];kernel_rfl) (by decide +kernel) (by decide +kernel) (by decide +kernel) (by first|exact .inl (by decide +kernel)|exact .inr (by decide +kernel)) (by rw[afo];kernel_rfl)
theorem entry_next:entryFor table "list_reverseiterator.__next__"=some Builtin.«list_reverseiterator.__next__»:=entryFor_of_tree (by kernel_rfl)
theorem Rr:entryFor table "list_reverseiterator.__iter__"=some Builtin.«dict_keyiterator.__iter__»:=entryFor_alias (id':="dict_keyiterator.__iter__") (by kernel_rfl) rfl (by decide +kernel) (by kernel_rfl)
theorem args_next(a:Value):argsOk "list_reverseiterator.__next__" ⟨[a],[]⟩:=by unfold argsOk;kernel_rfl
theorem ach(a:Value):argsOk "list_reverseiterator.__iter__" ⟨[a],[]⟩:=by unfold argsOk;kernel_rfl
theorem TQ:typeLookup (.type "list_reverseiterator") "__len__"=pure none:=by rw[aeF,ad7];kernel_rfl
theorem RU:typeLookup (.type "list_reverseiterator") "__length_hint__"=pure (some (.builtin "list_reverseiterator.__length_hint__")):=by rw[aeF,ad7];kernel_rfl
noncomputable abbrev l5(h:Heap)(it l:Addr)(i:Int):Prop:=h.get? it=some { cls:=.type "list_reverseiterator",data:=.fields #[.ref l,rawInt i] }
theorem next_item{i:Nat}{x:Value}{Q:Option Value->Shared->Prop}(h1:l5 s.heap it l i)(hl:s.heap.IsList l items)(hx:items[i]? = some x)
  (hQ:∀h',l5 h' it l ((i:Int)-1)->Heap.SameBut it s.heap h'->Q (some x) { s with heap:=h' }):wpAny (model prog w) A (pyNext (.ref it)) Q E s:=by
 obtain⟨ol,QI,_,nl,hdl⟩:=hl;have ty:s.TypeIs (.ref it) "list_reverseiterator":=⟨_,h1,rfl⟩
 unfold pyNext;refine aae (afx (aeP (name:=Str.ofString "__next__") ty slot_next (aeI slot_next ty entry_next ?_ (args_next _))));show wpAny _ _ (field (.ref it) 1 >>= λv=>_) _ _ s;refine aae (afE h1 rfl (x:=.int i 0) rfl ?_);show wpAny _ _ (if((i:Int)<0) then _ else _) _ _ s;rw[acZ (by lia)];show wpAny _ _ (field (.ref it) 0 >>= λv=>_) _ _ s;refine aae (afE h1 rfl (x:=.ref l) rfl ?_);refine aae (afp QI hdl ?_);simp only[afj,hx];refine aae (wpAny_setField_rec h1 (by simp) λh' e1 sb=>adg ⟨x,rfl,adg (hQ h' ?_ sb)⟩);exact e1
theorem next_end{Q:Option Value->Shared->Prop}(hh:A.handled=none)(h1:l5 s.heap it l (-1))(hQ:∀h',Heap.ExtBut it s.heap h'->Q none { s with heap:=h' }):wpAny (model prog w) A (pyNext (.ref it)) Q E s:=by
 have ty:s.TypeIs (.ref it) "list_reverseiterator":=⟨_,h1,rfl⟩
 unfold pyNext;refine aae (afx (aeP (name:=Str.ofString "__next__") ty slot_next (aeI slot_next ty entry_next ?_ (args_next _))));show wpAny _ _ (field (.ref it) 1 >>= λv=>_) _ _ s;refine aae (afE h1 rfl (x:=.int (-1) 0) rfl ?_);show wpAny _ _ (if((-1:Int)<0) then _ else _) _ _ s;rw[if_pos (by omega)];refine aae (afF ?_);refine aae ?_;unfold Builtin.SmallTypes.stopIteration;refine aae ?_;unfold newExc newTuple;refine aae (aed ?_ (by size_fits));refine aae (m:=firstArgMember _ _) (wpAny_of_eq (a:=Value.none) (by first|(simp only[firstArgMember];rfl)|rfl) ?_);refine aed ?_ (by size_fits);unfold raiseNew;refine aae (wpAny_handled ?_);have rH:A.in1.handled=none:=hh;rw[rH];refine aae (adg (wpAny_throw ?_));refine aae (ae6 (T:="StopIteration") (b:=true) ⟨_,ac9 _ rfl,rfl⟩ isSubtype_stop (adg (hQ _ ?_)));exact λb o _ e=>aaf _ (aaf _ e)
theorem walks(hh:A.handled=none)(gx:l≠it):Walks prog w A it [it,l] [it] items.size (λi v=>items[items.size-1-i]? = some v) (λi h=>l5 h it l ((items.size:Int)-1-(i:Nat))/\h.IsList l items) where
 sub:=λb hb=>by simp at hb;simp[hb]
 frame:=λ_ _ _ st hk=>⟨hk it (by simp) _ st.1,st.2.at λo e=>hk l (by simp) o e⟩
 item:=λi s Q E hi st hQ=>by
  have e1:l5 s.heap it l ((items.size-1-i:Nat):Int):=by
   have:=st.1;rw[show((items.size-1-i:Nat):Int)=(items.size:Int)-1-(i:Nat) by omega];exact this
  have hx:items[items.size-1-i]? = some items[items.size-1-i]:=by simp
  refine next_item e1 st.2 hx λh' r' sb=>hQ _ h' s.toks hx ⟨?_,st.2.extBut sb.extBut gx⟩ λb o hb e=>sb.extBut b o (λz=>hb (by simp[z])) e
  have:=r';rw[show((items.size-1-i:Nat):Int)-1=(items.size:Int)-1-((i+1:Nat):Int) by omega] at this;exact this
 done:=λs Q E st hQ=>by
  have e1:l5 s.heap it l (-1):=by
   have:=st.1;rw[show(items.size:Int)-1-((items.size:Nat):Int)=-1 by omega] at this;exact this
  exact next_end hh e1 λh' eb=>hQ h' s.toks λb o hb e=>eb b o (λz=>hb (by simp[z])) e
 self:=λi s Q E st hQ=>by
  have ty:s.TypeIs (.ref it) "list_reverseiterator":=⟨_,st.1,rfl⟩
  refine wpAny_pyIter_slot ty Lm (aeI Lm ty Rr ?_ (ach _));show wpAny _ _ (ret (.ref it)) _ _ s;exact adg ⟨_,rfl,"list_reverseiterator",_,ty,slot_next.lookup,hQ⟩
theorem hint{i:Int}{Q:Bool->Shared->Prop}(h1:l5 s.heap it l i)(h:Q false s):wpAny (model prog w) A (Builtin.List.listLengthHint (.ref it)) Q E s:=by
 have ty:s.TypeIs (.ref it) "list_reverseiterator":=⟨_,h1,rfl⟩
 unfold Builtin.List.listLengthHint;refine aae (afA ty TQ ?_);show wpAny _ _ (specialOf (.ref it) "__length_hint__" >>= λv=>_) _ _ s;refine aae (afA ty RU ?_);generalize pR:("list_reverseiterator.__length_hint__":String)=wB
 (fail_if_success (clear pR wB))
 wp_delta
 rw[show splitId wB=some ("list_reverseiterator","__length_hint__") from by subst pR;decide +kernel];subst pR;refine aae (ae6 (b:=true) ty (by rw[afo];kernel_rfl) ?_);refine afg (λz=>absurd z (by decide)) λ_=>?_
 refine afg (λ_=>?_) λz=>absurd (by decide +kernel) z
 exact afg (λz=>absurd z (by decide +kernel)) λ_=>adg h
theorem extend{R:Result->Shared->Prop}(hh:A.handled=none)(h1:l5 s.heap it l ((items.size:Int)-1))(hl:s.heap.IsList l items)(gx:l≠it)(hz:items.size<=sizeLine)(S:Addr)(Qa:S≠l)(Nu:S≠it)(res:Value)(c₀:Nat)(hS:s.heap.get? S=some { cls:=.type "list",data:=.seq #[] c₀ })
  (hR:∀h' tk jw c',(∀b o,b≠S->b≠it->s.heap.get? b=some o->h'.get? b=some o)->h'.get? S=some { cls:=.type "list",dict:=none,data:=.seq jw c',slots:=#[] }->ItemsOf (λi v=>items[items.size-1-i]? = some v) jw items.size->R (.ok (.ret res)) { s with heap:=h',toks:=tk }) :
  wpAny (model prog w) A.in1 (Builtin.List.listExtendWith (.ref S) (.ref it) res) (λfin s'=>match fin with|.done f=>R (.ok f) s'|.again c'=>c'.quiet=true/\codeAny (model prog w) A c' R s') (λe s'=>R (.error e) s') s:=by
 have ty:s.TypeIs (.ref it) "list_reverseiterator":=⟨_,h1,rfl⟩
 have W:=walks (prog:=prog) (w:=w) (A:=A.in1) (it:=it) (l:=l) (items:=items) hh gx;have st:l5 s.heap it l ((items.size:Int)-1-((0:Nat):Int))/\s.heap.IsList l items:=⟨by simpa using h1,hl⟩
 unfold Builtin.List.listExtendWith;refine aae (wpAny_typeOf ty ?_);have q1:Builtin.List.listSameRef (.ref S) (.ref it)=false:=by simp[Builtin.List.listSameRef,Nu]
 have q2:(Value.type "list_reverseiterator" == Value.type "list")=false:=by decide
 have q3:(Value.type "list_reverseiterator" == Value.type "tuple")=false:=by decide
 simp only[q1,q2,q3,Bool.or_self,aef,afu];refine aae (W.self 0 s _ _ st ?_);refine aae (aeC (hint h1 ?_));refine afg (λz=>absurd z (by decide +kernel)) λ_=>adg ⟨aeY F.plain_extend_loop _,?_⟩
 refine codeAny_extend_loopS W.toS hz S (λm=>?_) res items.size 0 s #[] c₀ rfl (adZ _) st hS (ItemsOf.nil _) λs' jw c' hm n8 nq=>?_
 .rcases abG.mp m with z|z
  .exact Nu z
  .exact Qa (aaS.mp z)
 .rw[Moved.eq_with hm];refine hR s'.heap s'.toks jw c' (λb o hb hi e=>hm.heap b o (λz=>?_) e) n8 nq;rcases abG.mp z with z|z
  .exact hb z
  .exact hi (aaS.mp z)
theorem adl{Q:Value->Shared->Prop}(hh:A.handled=none)(h1:l5 s.heap it l ((items.size:Int)-1))(hl:s.heap.IsList l items)(gx:l≠it)(hz:items.size<=sizeLine)
  (hQ:∀h' tk jw c',(∀b o,b≠it->s.heap.get? b=some o->h'.get? b=some o)->h'.get? s.heap.objs.size=some { cls:=.type "list",dict:=none,data:=.seq jw c',slots:=#[] }->ItemsOf (λi v=>items[items.size-1-i]? = some v) jw items.size->Q (.ref s.heap.objs.size) { s with heap:=h',toks:=tk }) :
  wpAny (model prog w) A (call (.type "list") [.ref it]) Q E s:=by
 have li:it<s.heap.objs.size:=aco h1;have ll:l<s.heap.objs.size:=let⟨o,e,_⟩:=hl;aco e
 refine callType_codes (Q₁:=λobj bq=>obj=.ref s.heap.objs.size/\bq={ s with heap:=s.heap.push { cls:=.type "list",data:=.seq #[] } }) F.called_list (F.typeCall_list_1 _) F.entry_list_init (code_list_new _ ⟨rfl,rfl⟩) λobj bq g=>?_
 obtain⟨rfl,rfl⟩:=g;have hS:(s.heap.push { cls:=.type "list",data:=.seq #[] }).get? s.heap.objs.size=some { cls:=.type "list",data:=.seq #[] }:=ac9 _ rfl;refine⟨⟨_,hS,rfl⟩,F.args_list_init_2 _ _,?_⟩;show wpAny _ _ (Builtin.List.listItems (.ref s.heap.objs.size) >>= λold=>Builtin.List.listUpdate (.ref s.heap.objs.size) (λ_=>#[]) >>= λ_=>letGo old.toList.reverse >>= λ_=>Builtin.List.listExtendWith (.ref s.heap.objs.size) (.ref it) .none) _ _ _;refine aae ?_;unfold Builtin.List.listItems;refine aae (afp hS rfl (adg ?_));refine aae ?_;show wpAny _ _ (updateSeq s.heap.objs.size (λ_=>#[])) _ _ _;refine afd hS rfl ?_;have Qn:=aem (Obj.mapSeq (λ_=>(#[]:Array Value))) hS rfl;have old:∀b o,s.heap.get? b=some o->((s.heap.push { cls:=.type "list",data:=.seq #[] }).update s.heap.objs.size (Obj.mapSeq (λ_=>(#[]:Array Value)))).get? b=some o:=λb o e=>
  (adV _ _ (aeo (aco e))).trans (aaf _ e)
 refine aae (wpAny_letGo ?_);refine extend (A:=A.in1) hh (old _ _ h1) (hl.at λo e=>old _ _ e) gx hz _ (aeo ll) (aeo li) .none _ Qn λh' tk jw c' hk n8 nq=>?_
 exact⟨rfl,hQ h' tk jw c' (λb o hb e=>hk b o (ady (aco e)) hb (old b o e)) n8 nq⟩
end Rv
namespace Rv
theorem KD:isSubtype (.type "reversed") (.type "reversed")=pure true:=by rw[afo];kernel_rfl
theorem RV:typeLookup (.type "list") "__reversed__"=pure (some (.builtin "list.__reversed__")):=by rw[aeF,ad7];kernel_rfl
theorem Zs(l:Addr)(items:Array Value)(n:Nat):Meets (Builtin.«reversed.__new__» ⟨[.type "reversed",.ref l],[]⟩) (λ_ R s=>s.heap.get? l=some { cls:=.type "list",data:=.seq items n }/\
  R (.ok (.ret (.ref s.heap.objs.size))) { s with heap:=s.heap.push { cls:=.type "list_reverseiterator",data:=.fields #[.ref l,rawInt ((items.size:Int)-1)] } }):=.of_wp λprog w A R s h=>by
 obtain⟨hp,g,d,tk,os⟩:=s;obtain⟨hl,h⟩:=h;have acN:=KD;have ty:Shared.TypeIs ⟨hp,g,d,tk,os⟩ (.ref l) "list":=⟨_,hl,rfl⟩
 wp_walk using afA ty RV
 refine wpAny_of_eq (F.slot_list_reversed.bind (.ref l)) ?_;refine afg (λz=>absurd z (by decide)) λ_=>?_
 refine aae (afF ?_);refine aae (call_meets F.slot_list_reversed ty F.entry_list_reversed (F.args_list_reversed_1 _) (AutoListH.list___reversed___list_0 l items n) ⟨hl,?_⟩);exact adg ⟨_,rfl,h⟩
theorem M7:mroOf (.type "reversed")=pure [.type "reversed",.type "object"]:=by rw[mroOf_type];kernel_rfl
theorem aa4:typeLookup (.type "reversed") "__new__"=pure (some (.builtin "reversed.__new__")):=by rw[aeF,ad7];kernel_rfl
theorem Qf:Bind.madeBy (.type "reversed")=pure (some "reversed.__new__"):=madeBy_type M7 aa4 (by decide +kernel)
theorem Wj:entryFor table "reversed.__new__"=some Builtin.«reversed.__new__»:=entryFor_of_tree (by kernel_rfl)
theorem Rk(a:Value):checkTypeCall "reversed" ⟨[a],[]⟩=pure ():=by kernel_rfl
theorem Q9(a:Value):checkBuiltinCall "reversed.__new__" ⟨[.type "reversed",a],[]⟩=pure ():=by kernel_rfl
theorem NV:isSubtype (.type "list_reverseiterator") (.type "reversed")=pure false:=by rw[afo];kernel_rfl
theorem Qy{Q:Value->Shared->Prop}(hl:s.heap.get? l=some { cls:=.type "list",data:=.seq items n })
  (hQ:Q (.ref s.heap.objs.size) { s with heap:=s.heap.push { cls:=.type "list_reverseiterator",data:=.fields #[.ref l,rawInt ((items.size:Int)-1)] } }):wpAny (model prog w) A (call (.type "reversed") [.ref l]) Q E s:=by
 have adP:=M7;have adv:=Qf;have acN:=KD;have qY:=NV;have hct:=Rk (.ref l);refine wpAny_call (codeAny_of_tree ?_);refine adg ⟨Code.quiet_builtin _ (by decide +kernel),aeE F.entry_type_call ?_⟩;rw[Around.under_plain (weight_type_call_type "reversed" [.ref l] []) rfl];have g1:(Value.type "reversed" == Value.type "type")=false:=by decide +kernel
 have g2:((Manifest.find? "reversed").bind (·.mro.findSome? λt=>(Manifest.find? t).bind λb=>if b.noNew then some true else if b.attrs.any (·.1 == "__new__") then some false else none)).getD false=false:=by decide +kernel
 repeat (any_goals (first|assumption|wp_step))
 have hn:codeAny (model prog w) A.in1 (.call (.builtin "reversed.__new__") ⟨[.type "reversed",.ref l],[]⟩) (λr s'=>r=.ok (.ret (.ref s.heap.objs.size))/\s'={ s with heap:=s.heap.push { cls:=.type "list_reverseiterator",data:=.fields #[.ref l,rawInt ((items.size:Int)-1)] } }) s:=
  codeAny_call_builtin (by decide +kernel) Wj (wpAny_of_eq (Q9 (.ref l)) (Zs l items n prog w A.in1 (λr s'=>r=.ok (.ret (.ref s.heap.objs.size))/\s'={ s with heap:=s.heap.push { cls:=.type "list_reverseiterator",data:=.fields #[.ref l,rawInt ((items.size:Int)-1)] } }) s ⟨hl,rfl,rfl⟩))
 refine codeAny_mono hn λr bq hr=>?_
 obtain⟨rfl,rfl⟩:=hr;have ty:Shared.TypeIs { s with heap:=s.heap.push { cls:=.type "list_reverseiterator",data:=.fields #[.ref l,rawInt ((items.size:Int)-1)] } } (.ref s.heap.objs.size) "list_reverseiterator":=⟨_,ac9 _ rfl,rfl⟩
 refine aae (ae6 ty NV ?_);refine afg (λ_=>?_) λz=>absurd rfl z
 refine aae (afF ?_);exact adg hQ
end Rv
def Rp(ta:TE):TE:=λσ H Q=>ta σ H λx H1=>∃p xs,x=.ref p/\H1 p=some (.lst xs)/\∀l,H1 l=none->Q (.ref l) (upd H1 l (.lst xs.reverse))
theorem Zh{xs:List V}{ao:List Value}{acc:Array Value}(hv:aN xs ao)(h:ItemsOf (λi v=>ao.toArray[ao.toArray.size-1-i]? = some v) acc ao.toArray.size):aN xs.reverse acc.toList:=by
 have e:acc.toList=ao.reverse:=by
  have h1:acc.size=ao.length:=by have:=h.1;simpa using this
  have h2:=h.2;refine List.ext_getElem? λi=>?_
  by_cases hi:i<ao.length
  .have hs:acc[i]? = some (acc[i]'(by lia)):=by simp
   have:=h2 i _ hs;dsimp only at this;rw[adn,List.getElem?_toArray] at this;rw[List.getElem?_reverse hi,this,afc,hs]
  .rw[afe (by rw[ad3];lia),afe (by rw[List.length_reverse];lia)]
 rw[e];exact hv.reverse
theorem Inv.IC{ch:List Addr}{o:HO}(I:Inv X af σ H s)(hf:∀b∈ch,g9 X af H b)(k:∀b o,b∉ch->s.heap.get? b=some o->h'.get? b=some o)
  (hT:s.heap.objs.size<=T) (new:cP X.prog X.w (upd H T o) h' T o):Inv X af σ (upd H T o) { s with heap:=h',toks:=t' }:=by
 have nT:=I.aD.fresh hT;have lD:∀b u,H b=some u->b∉ch:=λb u e m=>by rw[(hf b m).1] at e;cases e
 refine I.step (λb m=>⟨(hf b m).2.2.2.1,(hf b m).2.1,(hf b m).2.2.2.2.1,(hf b m).2.2.2.2.2⟩) (λb o _ _ m e _=>k b o m e) (λb o _ _ m e _=>⟨o.slots,k b o m e⟩)
  (λb o _ e n=>by rw[aG (ady (adF (aco e) hT))];exact n) (λb o m e=>⟨o,k b o m e⟩) (λb xs e=>by rw[aG (cu e nT)];exact e) (λb o u e=>by rw[aG (cu e nT)];exact e)
  (λb ps e=>⟨#[],by rw[aG (cu e nT),e];simp⟩) (λm hm=>?_) (λb u e=>?_) I.bare
 .obtain⟨o,es,ep,ho,r⟩:=hm;exact⟨o,es,ep,k _ o (λm=>(hf _ m).2.1 rfl) ho,r⟩
 .by_cases hb:b=T
  .subst hb;rw[bg] at e;cases e;exact new
  .rw[aG hb] at e;refine(I.aD b u e).iE (λc v hc q=>k c v ?_ q) (λc q=>by rw[aG (cu q nT)];exact q) λc xs q=>by rw[aG (cu q nT)];exact q
   rcases hc with z|z
   .rw[z];exact lD b u e
   .exact lD c _ z
theorem Inv.JL{ch:List Addr}(I:Inv X af σ H s)(hf:∀b∈ch,g9 X af H b)(k:∀b o,b∉ch->s.heap.get? b=some o->h'.get? b=some o):Inv X af σ H { s with heap:=h',toks:=t' }:=by
 have lD:∀b u,H b=some u->b∉ch:=λb u e m=>by rw[(hf b m).1] at e;cases e
 refine I.step (λb m=>⟨(hf b m).2.2.2.1,(hf b m).2.1,(hf b m).2.2.2.2.1,(hf b m).2.2.2.2.2⟩) (λb o _ _ m e _=>k b o m e) (λb o _ _ m e _=>⟨o.slots,k b o m e⟩)
  (λb o _ e n=>n) (λb o m e=>⟨o,k b o m e⟩) (λb xs e=>e) (λb o u e=>e) (λb ps e=>⟨#[],by rw[e];simp⟩) (λm hm=>?_) (λb u e=>?_) I.bare
 .obtain⟨o,es,ep,ho,r⟩:=hm;exact⟨o,es,ep,k _ o (λm=>(hf _ m).2.1 rfl) ho,r⟩
 .refine(I.aD b u e).iE (λc v hc q=>k c v ?_ q) (λc q=>q) λc xs q=>q
  rcases hc with z|z
  .rw[z];exact lD b u e
  .exact lD c _ z
theorem Vl(hc:X.calm=true)(hm:X.mg "list"=none)(jk:X.mg "reversed"=none)(ha:PE X a ta)(hg:Gl X "list":=by rfl)(qp:Gl X "reversed":=by rfl)(hs:starEach [a] X.env=[(false,eval a X.env)]:=by rfl)
  (cg:starEach [.Call (.Name "reversed" p2) [a] [] p3] X.env=[(false,eval (.Call (.Name "reversed" p2) [a] [] p3) X.env)]:=by rfl):PE X (.Call (.Name "list" p1) [.Call (.Name "reversed" p2) [a] [] p3] [] pos) (Rp ta):=by
 intro af s σ H Q I h;refine aea (kG I hg hm (show bootBuiltins "list"=some (.type "list") by decide +kernel) ?_);refine ad6 ?_ cg rfl;rw[cg];refine aeX ?_;refine aea (kG I qp jk boot_reversed ?_);refine ad6 ?_ hs rfl;rw[hs];refine aeX (ha.n I h λu s1 x H1 I1 r1 q1=>?_);refine afi ?_;obtain⟨p,xs,rfl,hp,q⟩:=q1;cases r1;obtain⟨z,ao,n,hv,hl,e⟩:=I1.ug hp;refine Rv.Qy e ?_;refine afi ?_;have lp:p<s1.heap.objs.size:=aco e;have I2:Inv X af σ H1 { s1 with heap:=s1.heap.push { cls:=.type "list_reverseiterator",data:=.fields #[.ref p,rawInt ((ao.toArray.size:Int)-1)] } }:=I1.kept λb o e=>aaf _ e
 refine Rv.adl (I2.ok.hd hc) (ac9 _ rfl) ⟨_,aaf _ e,rfl,_,rfl⟩ (ady lp) (by rw[adn];lia) λh' tk jw c' hk n8 nq=>?_
 have f:=I1.nM (acy _) (I1.aD.fresh (acy _));refine⟨.ref _,_,I2.IC (λb m=>by rw[aaS.mp m];exact f) (λb o m e=>hk b o (λz=>m (by rw[z];exact aaS.mpr rfl)) e) (acy _) (show cP X.prog X.w _ h' _ (.lst xs.reverse) from⟨by rw[List.length_reverse];exact z,jw.toList,c',Zh hv nq,by simpa using n8⟩),rfl,q _ (I2.aD.fresh (acy _))⟩
def Dr(K:PySem.W.Frag)(l1 l2:Addr):It:=
  ⟨λi H=>∃xs ys x y,bK K H l1 xs/\bK K H l2 ys/\xs[i]? = some x/\ys[i]? = some y,
   λi H v H'=>∃T a b,H T=none/\v=.ref T/\H'=upd H T (.tup [a,b])/\(∀xs,bK K H l1 xs->xs[i]? = some a)/\∀ys,bK K H l2 ys->ys[i]? = some b,
   λi H=>∃xs ys,bK K H l1 xs/\bK K H l2 ys/\(xs.length<=i\/ys.length<=i),false⟩
def Yo(z TI TO i1 i2 l1 l2:Addr)(i:Nat)(h:Heap):Prop:=IsZip h z TI TO .none/\IsPair h TI (.ref i1) (.ref i2)/\(∃a b,IsPair h TO a b)/\h.IsListIter i1 l1 i/\h.IsListIter i2 l2 i
theorem abo{K:PySem.W.Frag}{x1}{z TI TO i1 i2 l1 l2:Addr}(D:ZipApart z TI TO i1 i2 l1 l2):
  Turn P w K (.Tuple elts x1 pos) (Dr K l1 l2) [z,TI,TO,i1,i2] z (Yo z TI TO i1 i2 l1 l2) where
 mem:=by simp
 obj:=λi h st b hb=>by
  obtain⟨s1,s2,⟨a,b',s3⟩,⟨o4,e4,c4,d4⟩,⟨o5,e5,c5,d5⟩⟩:=st;simp only[abG,adX,afk] at hb;rcases hb with rfl|rfl|rfl|rfl|rfl
  .exact⟨_,s1,λv q=>by cases q⟩
  .exact⟨_,s2,λv q=>by cases q⟩
  .exact⟨_,s3,λv q=>by cases q⟩
  .exact⟨o4,e4,λv q=>by rw[d4] at q;cases q⟩
  .exact⟨o5,e5,λv q=>by rw[d5] at q;cases q⟩
 keep:=λi h h' st k=>by
  obtain⟨s1,s2,⟨a,b',s3⟩,s4,s5⟩:=st;exact⟨k _ (by simp) _ s1,k _ (by simp) _ s2,⟨a,b',k _ (by simp) _ s3⟩,s4.at λo e=>k _ (by simp) o e,s5.at λo e=>k _ (by simp) o e⟩
 item:=by
  intro X hP hw hK hc i af s σ H E I hf st hg;subst hP hw hK;obtain⟨s1,s2,⟨a,b',s3⟩,s4,s5⟩:=st;obtain⟨xs,ys,x,y,q1,q2,e1,e2⟩:=hg;obtain⟨us,v1,p1,z1⟩:=I.list q1;obtain⟨ws,v2,p2,z2⟩:=I.list q2;obtain⟨u,hu,ru⟩:=v1.get e1;obtain⟨t,ht,rt⟩:=v2.get e2;refine wpAny_pyNext_zip_item D s1 s2 s3 s4 s5 p1.isList p2.isList (by simpa using hu) (by simpa using ht) λh' a1 a2 a3 a4 a5 a6 a7=>⟨_,rfl,?_⟩
  refine wpAny_letOwnedTupleGo_zip a1 λvK b1 b2=>?_
  have lz:=aco s1;have nz:=aeo lz;have T2:=b2.extBut _ _ nz a5;have nT:=I.aD.fresh (acy _);have I1:Inv X af σ (upd H s.heap.objs.size (.tup [x,y])) { s with heap:=vK }:=I.IC (ch:=[z,TO,i1,i2]) (λb m=>hf b (by
    simp only[abG,adX,afk] at m ⊢;rcases m with rfl|rfl|rfl|rfl<;>simp)) (λb o m e=>by
    simp only[abG,adX,afk,not_or] at m;exact b2.extBut _ _ m.1 (a7 b o m.1 m.2.1 m.2.2.1 m.2.2.2 e)) (acy _) (show cP X.prog X.w _ vK _ (.tup [x,y]) from⟨show 2<=sizeLine by unfold sizeLine;lia,[u,t],.cons ru (.cons rt .nil),⟨_,T2,rfl,rfl,_,rfl⟩⟩)
  refine⟨.ref s.heap.objs.size,_,I1,rfl,⟨_,x,y,nT,rfl,rfl,λV0 h=>by rw[I.DN h q1];exact e1,λys' h=>by rw[I.DN h q2];exact e2⟩,?_,λb m=>?_⟩
  .have up:∀c o,c≠z->h'.get? c=some o->vK.get? c=some o:=λc o n e=>b2.extBut _ _ n e
   exact⟨b1,up _ _ D.TIz (a7 TI _ D.TIz D.TITO D.TIi1 D.TIi2 s2),⟨u,t,up _ _ D.TOz a2⟩,a3.at λo e=>up _ o D.i1z e,a4.at λo e=>up _ o D.i2z e⟩
  .rw[aG]
   .exact(hf b m).1
   .rintro rfl
    obtain⟨o4,e4,_⟩:=id s4;obtain⟨o5,e5,_⟩:=id s5;simp only[abG,adX,afk] at m;rcases m with m|m|m|m|m
    .exact nz m
    .exact absurd (aco s2) (by rw[<- m];exact ad8 _)
    .exact absurd (aco s3) (by rw[<- m];exact ad8 _)
    .exact absurd (aco e4) (by rw[<- m];exact ad8 _)
    .exact absurd (aco e5) (by rw[<- m];exact ad8 _)
 done:=by
  intro X hP hw hK hc i af s σ H E I hf st hg;subst hP hw hK;obtain⟨s1,s2,⟨a,b',s3⟩,s4,s5⟩:=st;obtain⟨xs,ys,q1,q2,e⟩:=hg;obtain⟨us,v1,p1,z1⟩:=I.list q1;obtain⟨ws,v2,p2,z2⟩:=I.list q2;have l1:=v1.length;have l2:=v2.length;refine wpAny_pyNext_zip_end (I.ok.hd (hc.resolve_right λz=>abR z)) D s1 s2 s3 s4 s5 p1.isList p2.isList (e.imp (λe=>by simp;lia) λe=>by simp;lia) λh' k=>⟨rfl,I.JL (ch:=[z,TO,i1,i2]) (λb m=>hf b (by
    simp only[abG,adX,afk] at m ⊢;rcases m with rfl|rfl|rfl|rfl<;>simp)) λb o m e=>?_⟩
  simp only[abG,adX,afk,not_or] at m;exact k b o m.1 m.2.1 m.2.2.1 m.2.2.2 e
 self:=λ_ _ _ _ _ st h=>wpAny_pyIter_zip st.1 h
def SO(K:PySem.W.Frag)(ta:TA):TI:=λσ H R=>ta σ H λvs H1=>∃l1 l2 xs ys,vs=[.ref l1,.ref l2]/\bK K H1 l1 xs/\bK K H1 l2 ys/\R (Dr K l1 l2) H1
theorem ab8{x1}(hg:Gl X "zip")(hm:X.mg "zip"=none)(ha:PA X [a,b] ta)(hs:starEach [a,b] X.env=[(false,eval a X.env),(false,eval b X.env)]:=by rfl)(cg:starEach [b] X.env=[(false,eval b X.env)]:=by rfl):
  PI X (.Tuple elts x1 tp) (.Call (.Name "zip" p) [a,b] [] pos) (SO X.K ta):=by
 intro af s σ H R I h;refine aea (kG I hg hm boot_zip (ad6 (ha.n I h λus s1 vs H1 I1 r1 q1=>?_) (by rw[hs,cg]) (by rw[cg];rfl)));obtain⟨l1,l2,xs,ys,rfl,h1,h2,q⟩:=q1;obtain⟨u,v,rfl,ru,rv⟩:=vals2 r1;cases ru;cases rv;obtain⟨us,v1,p1,z1⟩:=I1.list h1;obtain⟨ws,v2,p2,z2⟩:=I1.list h2;have b1:l1<s1.heap.objs.size:=let⟨o,n,e,_⟩:=p1;aco e
 have b2:=let⟨o,n,e,_⟩:=p2;aco e
 refine call_zip_2 p1.isList p2.isList λh' g1 g2 g3 g4 g5 g6 k=>?_
 refine wpAny_pyIter_zip g1 ?_;refine⟨_,_,_,_,H1,rfl,I1.kept k,abo (zipApart_new b1 b2),⟨g1,g2,⟨_,_,g3⟩,g4,g5⟩,λc hc=>?_,q⟩;have up:∀j,g9 X af H1 (s1.heap.objs.size+j):=λj=>I1.nM (Nat.le_add_right _ _) (I1.aD.fresh (Nat.le_add_right _ _))
 simp only[abG,adX,afk] at hc;rcases hc with rfl|rfl|rfl|rfl|rfl
 .exact up 4
 .exact up 2
 .exact up 3
 .exact up 0
 .exact up 1
end L2
namespace L2.Ev
open PySem PySem.Spec PyProof.Rows
def o8(fa fb:EF):IF:=λρ=>match fa ρ,fb ρ with
 |some (.lst ds,t1),some (.lst es,t2)=>if(aI ds&&aI es)=true then some ((ds.zip es).map λp=>.tup [p.1,p.2],jh [(.lst ds,t1),(.lst es,t2)]) else none
 |_,_=>none
theorem ay.Jy{K:PySem.W.Frag}{i:Nat}(r:ay K H ds vs [])(e:ds[i]? = some d):∃v,vs[i]? = some v/\Rep K H d v []:=by
 obtain⟨v,f,e1,r1,s⟩:=r.get e;have:f=[]:=List.eq_nil_iff_forall_not_mem.mpr λa m=>by have:=s a m;cases this
 subst this;exact⟨v,e1,r1⟩
theorem VW{K:PySem.W.Frag}{f1 f2:List Addr}(c1:aI ds=true)(c2:aI es=true):
  qz K (Dr K l1 l2) ((ds.zip es).map λp=>.tup [p.1,p.2]) [⟨.lst ds,.ref l1,f1⟩,⟨.lst es,.ref l2,f2⟩]:=by
 intro H i hh;obtain⟨p1,xs,g1,e1,q1,r1,_⟩:=(hh _ aat).dW;obtain⟨p2,ys,g2,e2,q2,r2,_⟩:=(hh _ (aad _ aat)).dW;cases e1;cases e2;have n1:=r1.aA c1;have n2:=r2.aA c2;subst n1 n2;refine⟨λd hd=>?_,λhl=>?_⟩
 .rw[adA] at hd;cases hz:(ds.zip es)[i]? with
  |none=>rw[hz] at hd;cases hd
  |some pr=>
   rw[hz] at hd;cases hd;obtain⟨k1,k2⟩:=List.getElem?_zip_eq_some.mp hz;obtain⟨x,hx,rx⟩:=r1.Jy k1;obtain⟨y,hy,ry⟩:=r2.Jy k2;refine⟨⟨xs,ys,x,y,q1,q2,hx,hy⟩,λv H1 hv=>?_⟩;obtain⟨T,a,b,hT,rfl,rfl,ha,hb⟩:=hv;have ea:=ha xs q1;have eb:=hb ys q2;rw[hx] at ea;rw[hy] at eb;cases ea;cases eb;have s2:aE H (upd H T (.tup [x,y])):=λb o e=>by rw[aG (cu e hT)];exact e
   exact⟨s2,[],.tup (bN.of bg) (ay.cons (rx.same s2) (ay.cons (ry.same s2) .nil)),λa m=>nomatch m⟩
 .rw[List.length_map,List.length_zip,r1.length,r2.length] at hl;exact⟨xs,ys,q1,q2,by lia⟩
theorem Jj{x1}(hm:X.mg "zip"=none)(ha:FP X a fa)(hb:FP X b fb)(hg:Gl X "zip":=by rfl)(hs:starEach [a,b] X.env=[(false,eval a X.env),(false,eval b X.env)]:=by rfl)(cg:starEach [b] X.env=[(false,eval b X.env)]:=by rfl):
  FI X (.Tuple elts x1 tp) (.Call (.Name "zip" p) [a,b] [] pos) (o8 fa fb):=by
 obtain⟨t,pa,hlen,q⟩:=aq ha (aq hb aJ cg) (by rw[hs,cg]);exists 24,ab8 hg hm pa hs cg;unfold o8 at e
 split at e
 .rename_i d1 t1 d2 t2 h1 h2;obtain⟨hc,e⟩:=ci e;cases e;obtain⟨c1,c2⟩:=(abm _ _).mp hc;refine q ok (by unfold au aH;rw[h1,h2]) λH1 vs fp s1 r g=>?_
  cases r with
  | @cons _ v1 _ _ f1 _ r1 r=>
   cases r with
   | @cons _ v2 _ _ f2 _ r2 r=>
    cases r;obtain⟨l1,xs,g1,rfl,q1,_,_⟩:=r1.dW;obtain⟨l2,ys,g2,rfl,q2,_,_⟩:=r2.dW;refine⟨l1,l2,xs,ys,rfl,q1,q2,k H1 _ [⟨.lst d1,.ref l1,f1⟩,⟨.lst d2,.ref l2,f2⟩] s1 (λh m=>?_) (VW c1 c2)⟩;have go:=g.over ok;rcases abG.mp m with rfl|m
    .exact⟨r1,λa ma=>go a (abT _ ma)⟩
    .cases aaS.mp m;exact⟨r2,λa ma=>go a (aaY _ (abT _ ma))⟩
 .cases e
def J5:D->Option D
 |.lst ds=>if aI ds=true then some (.lst ds.reverse) else none
 |_=>none
theorem ay.Np{K:PySem.W.Frag}:∀{ds} {xs},ay K H ds xs []->ay K H ds.reverse xs.reverse []
 |[],_,r=>by cases r;exact .nil
 |d::ds,xs,r=>by
  generalize hf:([]:List Addr)=fp at r;cases r with
  | @cons _ _ _ _ f1 f2 r1 r2=>
   obtain⟨z1,z2⟩:=aey.mp hf.symm;subst z1 z2;rw[afG,afG];exact ay.append (ay.Np r2) (ay.cons r1 .nil)
theorem Qq(hc:X.calm=true)(hm:X.mg "list"=none)(jk:X.mg "reversed"=none)(ha:FP X a fa)(hg:Gl X "list":=by rfl)(qp:Gl X "reversed":=by rfl)(hs:starEach [a] X.env=[(false,eval a X.env)]:=by rfl)
  (cg:starEach [.Call (.Name "reversed" p2) [a] [] p3] X.env=[(false,eval (.Call (.Name "reversed" p2) [a] [] p3) X.env)]:=by rfl):FP X (.Call (.Name "list" p) [.Call (.Name "reversed" p2) [a] [] p3] [] pos) (e1 J5 fa):=by
 obtain⟨t,pa,q⟩:=ha;exists 21,Vl hc hm jk pa hg qp hs cg;obtain⟨d1,t1,g1,g2,rfl⟩:=qq e;refine q ok g1 λH1 x f1 s1 r1 _=>?_
 cases r1 with
 | @lst l xs ds f h rs=>
  have g2:(if aI ds=true then some (D.lst ds.reverse) else none)=some d:=g2
  by_cases hi:aI ds=true
  .rw[if_pos hi] at g2;cases g2;have hn:=rs.aA hi;subst hn;refine⟨l,xs,rfl,h,λl' hl=>?_⟩;have s2:aE H1 (upd H1 l' (.lst xs.reverse)):=λb o e=>by rw[aG (cu e hl)];exact e
   refine k _ _ [l'] (s1.trans s2) (.lst bg ((ay.Np rs).same s2)) ⟨ado.mpr ⟨(λm=>by cases m),adw⟩,λa m=>?_⟩;cases aaS.mp m;exact s1.free hl
  .rw[acZ hi] at g2;cases g2
 |_=>cases g2
end L2.Ev
namespace L2
open PySem PySem.Spec PyProof.Rows
theorem Nc:∀{bs:List Bool} {us},aN (bs.map V.bl) us->us=bs.map Value.bool
 |[],_,r=>by rw[afK] at r;cases r;rfl
 |b::bs,_,r=>by
  rw[aax] at r;cases r with
  |cons r1 r2=>cases r1;rw[Nc r2];rfl
theorem range_all(bs:List Bool):(List.range bs.length).all (λj=>bs.getD j true)=bs.all id:=by
 induction bs with
 |nil=>rfl
 |cons b r ih=>
  rw[adu,List.range_succ_eq_map,afz,afM,afz,<- ih];rfl
theorem V9(hc:X.calm=true):fN X (.builtin "all") (λxs H Q=>∃(p:Addr) (bs:List Bool),xs=[V.ref p]/\bK X.K H p (bs.map V.bl)/\Q (.bl (bs.all id)) H):=by
 intro af s σ H xs us Q I r h;obtain⟨p,bs,rfl,hq,q⟩:=h;obtain⟨u,rfl,ru⟩:=vals1 r;cases ru;obtain⟨ao,v1,pl,hz⟩:=I.list hq;have ei:=Nc v1;subst ei;have lp:=let⟨o,n,e,_⟩:=pl;aco e
 have hh:X.A.in1.handled=none:=I.ok.hd hc;refine call_all_walk (wpAny_pyIter_list pl.isList ?_);refine⟨s.heap.objs.size,_,_,_,_,_,λj=>bs.getD j true,rfl,Walks.list hh s.heap.objs.size p (ady lp) (bs.map Value.bool).toArray,⟨⟨_,ac9 _ rfl,rfl,rfl⟩,pl.isList.at λo e=>aaf _ e⟩,?_,λh' tk hk=>?_⟩
 .intro i v s' Q' E' hv hQ;rw[List.getElem?_toArray,adA] at hv;exists e,bs[i]?,b,hv;cases hv;dsimp only at hQ;rw[adJ,e] at hQ;exact aee hQ
 .have f:=I.nM (acy s.heap.objs.size) (I.aD.fresh (acy _));have I1:Inv X af σ H { s with heap:=s.heap.push { cls:=.type "list_iterator",data:=.fields #[.ref p,.int 0 0] } }:=I.kept λb o e=>aaf _ e
  rw[adn,List.length_map,range_all];exact⟨.bl _,H,I1.JL (λb m=>by rw[aaS.mp m];exact f) λb o m e=>hk b o m e,rfl,q⟩
end L2
namespace L2.Ev
open PySem PySem.Spec PyProof.Rows
noncomputable def lU:List D->Option (List Bool)
 |[]=>some []
 |.bl b::r=>(lU r).map (b::·)
 |_=>none
theorem Jp{K:PySem.W.Frag}:∀{ds} {xs} {fp} {bs},ay K H ds xs fp->lU ds=some bs->xs=bs.map V.bl
 |[],_,_,bs,r,e=>by cases r;cases e;rfl
 |d::ds,_,_,bs,r,e=>by
  cases r with
  |cons h t=>
   cases d<;>try (cases e;done)
   cases h;unfold lU at e;exists q,lU ds,r,e;cases e;rw[Jp t q];rfl
def oA:D->Option D
 |.lst ds=>(lU ds).map λbs=>.bl (bs.all id)
 |_=>none
theorem ZT{K:PySem.W.Frag}:oj K (λxs H Q=>∃(p:Addr) (bs:List Bool),xs=[V.ref p]/\bK K H p (bs.map V.bl)/\Q (.bl (bs.all id)) H) oA:=by
 intro H x d1 f1 d Q r e k;cases d1 with
 |lst ds=>
  obtain⟨p,xs,f,rfl,hq,rs,_⟩:=r.dW;have e:(lU ds).map (λbs=>D.bl (bs.all id))=some d:=e;exists h,lU ds,bs,e;cases e;have ex:=Jp rs h;subst ex;exact⟨p,bs,rfl,hq,k H _ [] (aE.refl H) (.bl _) adw λa m=>nomatch m⟩
 |_=>cases e
theorem wz(hc:X.calm=true)(hm:X.mg "all"=none)(ha:FP X a fa)(hg:Gl X "all":=by rfl)(hs:starEach [a] X.env=[(false,eval a X.env)]:=by rfl):FP X (.Call (.Name "all" p) [a] [] pos) (e1 oA fa):=
 fp_1 ZT ha λta pa=>rP (V9 hc) hg hm boot_all (dU pa fC hs) (he:=hs)
abbrev XF:=aO->Option (D×aO)
abbrev lX:=aO->Option (List D×aO)
def m6(z:Addr->Option Nat)(H H':Hp):Prop:=aU H H'/\∀a o,z a=none->H a=some o->H' a=some o
theorem m6.of{z:Addr->Option Nat}{H H':Hp}(s:aE H H'):m6 z H H':=⟨.of s,λa o _ e=>s _ _ e⟩
theorem m6.trans{z:Addr->Option Nat}{H H1 H2:Hp}(a:m6 z H H1)(b:m6 z H1 H2):m6 z H H2:=⟨a.1.trans b.1,λc o e q=>b.2 c o e (a.2 c o e q)⟩
theorem Rep.iE{K:PySem.W.Frag}{z:Addr->Option Nat}{H H':Hp}{d:D}{v:V}(r:Rep K H d v [])(s:m6 z H H'):Rep K H' d v []:=r.frame (λa m=>nomatch m) s.1
def FX(X:Cx)(e:Expr)(f:XF):Prop:=∃t,PE X e t/\∀{H0:Hp}{S:List Addr}{z:Addr->Option Nat}{ak:List mP}{ρ:aO}{σ:St}{H:Hp}{Q:VK}{d:D}{ρ':aO},
 Ok X.K H0 S z ak ρ σ H->f ρ=some (d,ρ')->(∀H' v,Ok X.K H0 S z ak ρ' σ H'->m6 z H H'->Rep X.K H' d v []->Q v H')->t σ H Q
def zf(X:Cx)(es:List Expr)(f:lX):Prop:=∃t,PA X es t/\(∀ρ ds ρ',f ρ=some (ds,ρ')->ds.length=es.length)/\∀{H0:Hp}{S:List Addr}{z:Addr->Option Nat}{ak:List mP}{ρ:aO}{σ:St}{H:Hp}{Q:List V->Hp->Prop}{ds:List D}{ρ':aO},
 Ok X.K H0 S z ak ρ σ H->f ρ=some (ds,ρ')->(∀H' vs,Ok X.K H0 S z ak ρ' σ H'->m6 z H H'->ay X.K H' ds vs []->Q vs H')->t σ H Q
def xP(f:EF):XF:=λρ=>match f ρ with
 |some (d,_)=>if aA d=true then some (d,ρ) else none
 |none=>none
theorem vQ{f:EF}(h:FP X e f):FX X e (xP f):=by
 obtain⟨t,p,q⟩:=h;refine⟨t,p,@λH0 S z ak ρ σ H Q d ρ' ok e k=>?_⟩;unfold xP at e;cases h:f ρ with
 |none=>rw[h] at e;cases e
 |some w=>
  obtain⟨d0,t0⟩:=w;rw[h] at e;dsimp only at e
  by_cases hi:aA d0=true
  .rw[if_pos hi] at e;cases e;refine q ok h λH1 v fp s1 r1 _=>?_
   have hn:=r1.aA hi;subst hn;exact k H1 v (ok.same s1) (.of s1) r1
  .rw[acZ hi] at e;cases e
noncomputable def x2(op:D->D->Option D)(f g:XF):XF:=λρ=>match f ρ with
 |some (d1,aF)=>match g aF with
  |some (d2,aQ)=>(op d1 d2).map λd=>(d,aQ)
  |none=>none
 |none=>none
theorem Sq{op:D->D->Option D}{ρ ρ':aO}{d:D}(e:x2 op f g ρ=some (d,ρ')):∃d1 aF d2,f ρ=some (d1,aF)/\g aF=some (d2,ρ')/\op d1 d2=some d:=by
 unfold x2 at e;cases h1:f ρ with
 |none=>rw[h1] at e;cases e
 |some w=>
  obtain⟨d1,aF⟩:=w;rw[h1] at e;dsimp only at e;cases h2:g aF with
  |none=>rw[h2] at e;cases e
  |some w=>
   obtain⟨d2,aQ⟩:=w;rw[h2] at e;dsimp only at e;cases h3:op d1 d2 with
   |none=>rw[h3] at e;cases e
   |some d3=>rw[h3] at e;cases e;exact⟨d1,aF,d2,rfl,h2,h3⟩
theorem ack{op:Operator}{r:R2}{o:D->D->Option D}(ho:cD X (binaryOp op) r)(dd:d8 X.K r o)(ha:FX X a f)(hb:FX X b g):FX X (.BinOp a op b pos) (x2 o f g):=by
 obtain⟨ta,pa,sa⟩:=ha;obtain⟨tb,pb,sb⟩:=hb;refine⟨_,uJ ho pa pb,@λH0 S z ak ρ σ H Q d ρ' ok e k=>?_⟩;obtain⟨d1,aF,d2,e1,e2,e3⟩:=Sq e;refine sa ok e1 λH1 x bJ s1 r1=>?_
 refine sb bJ e2 λH2 y jI s2 r2=>?_
 exact dd H2 x y d1 d2 [] [] d Q (r1.iE s2) r2 e3 λH3 v s3 r3=>k H3 v (jI.same s3) ((s1.trans s2).trans (.of s3)) r3
theorem RG(ha:FX X a f)(hb:FX X b g):FX X (.BinOp a .Add b pos) (x2 lG f g):=ack IA Ci ha hb
noncomputable def wo:lX:=λρ=>some ([],ρ)
noncomputable def qg(f:XF)(g:lX):lX:=λρ=>match f ρ with
 |some (d,aF)=>match g aF with
  |some (ds,aQ)=>some (d::ds,aQ)
  |none=>none
 |none=>none
theorem KY{g:lX}{ρ ρ':aO}{ds:List D}(e:qg f g ρ=some (ds,ρ')):∃d aF r,f ρ=some (d,aF)/\g aF=some (r,ρ')/\ds=d::r:=by
 unfold qg at e;cases h1:f ρ with
 |none=>rw[h1] at e;cases e
 |some w=>
  obtain⟨d,aF⟩:=w;rw[h1] at e;dsimp only at e;cases h2:g aF with
  |none=>rw[h2] at e;cases e
  |some w=>
   obtain⟨r,aQ⟩:=w;rw[h2] at e;cases e;exact⟨d,aF,r,rfl,h2,rfl⟩
theorem xR:zf X [] wo:=⟨_,fC,λ_ _ _ e=>by cases e;rfl,@λ_ _ _ _ _ _ H _ _ _ ok e q=>by cases e;exact q H _ ok (.of (aE.refl H)) .nil⟩
theorem zq{g:lX}(ha:FX X e f)(hr:zf X es g)(hs:starEach (e::es) X.env=(false,eval e X.env)::starEach es X.env:=by rfl):zf X (e::es) (qg f g):=by
 obtain⟨t,p,q⟩:=ha;obtain⟨t',p',l',q'⟩:=hr;refine⟨_,dU p p' hs,λρ ds ρ' e=>by obtain⟨d,aF,r,e1,e2,rfl⟩:=KY e;rw[adu,adu,l' _ _ _ e2],@λH0 S z ak ρ σ H Q ds ρ' ok e k=>?_⟩;obtain⟨d,aF,r,e1,e2,rfl⟩:=KY e;refine q ok e1 λH1 v bJ s1 r1=>?_
 refine q' bJ e2 λH2 vs jI s2 r2=>?_
 exact k H2 (v::vs) jI (s1.trans s2) (ay.cons (r1.iE s2) r2)
def ux(K:PySem.W.Frag)(G:List Int->List D->Option (D×List Int)):Sp:=λvs H Q _=>∃a ns ws es d cj,vs=V.ref a::ws/\H a=some (.lst (ns.map V.int))/\ay K H es ws []/\G ns es=some (d,cj)/\
 ∀H' v,(∀b o,b≠a->H b=some o->H' b=some o)->H' a=some (.lst (cj.map V.int))->Rep K H' d v []->Q v H'
def xM(i:Nat)(G:List Int->List D->Option (D×List Int))(g:lX):XF:=λρ=>match ρ[i]?,g ρ with
 |some (some _),some (es,aF)=>match aF[i]? with
  |some (some (.lst ds,.own))=>match cU ds with
   |some ns=>(G ns es).map λw=>(w.1,bB aF i (.lst (w.2.map D.int)))
   |none=>none
  |_=>none
 |_,_=>none
theorem Mh:∀{ds:List D}{ns:List Int},cU ds=some ns->aI ds=true
 |[],_,_=>rfl
 |d::r,ns,h=>by
  cases d<;>try (cases h;done)
  unfold cU at h;cases q:cU r with
  |none=>rw[q] at h;cases h
  |some m=>unfold aI;rw[Mh q];rfl
theorem yI(i:Nat){x xn:Str}{p p1:Pos}{k:Nat}{fa:Addr}{fd:FuncData}{ps:List Str}{G:List Int->List D->Option (D×List Int)}{g:lX}(GG:bP X.prog X.w X.K X.mg X.base cR k fa fd ps (ux X.K G))(hr:bh k X.A)(hm:X.mg x=some (.ref fa))(hk:PySem.W.keepIn X.K (.ref fa)=true)(hb:Binds X.K fd ps [])(ha:zf X es g)
  (va:VA X i xn:=by walk_at "va")
  (hg:GD X x:=by exact⟨rfl,by decide⟩) (he:starEach (.Name xn p1::es) X.env=(false,eval (.Name xn p1) X.env)::starEach es X.env:=by rfl) (hpl:(backTo pos (starEach es X.env)).any (·.1)=false:=by rfl) :
  FX X (.Call (.Name x p) (.Name xn p1::es) [] pos) (xM i G g):=by
 obtain⟨t,pa,_,sa⟩:=ha;refine⟨_,Lz GG hr hg.1 hm hk hb .nil mG (dU va.pe pa he) hg.2 he hpl,@λH0 S z ak ρ σ H Q d ρ' ok e0 q=>?_⟩;unfold xM at e0
 split at e0
 .rename_i w0 cG aF h0 h1
  split at e0
  .rename_i ds h2;cases h3:cU ds with
   |none=>rw[h3] at e0;cases e0
   |some ns=>
    rw[h3] at e0;dsimp only at e0;cases h4:G ns cG with
    |none=>rw[h4] at e0;cases e0
    |some w=>
     obtain⟨d',cj⟩:=w;rw[h4] at e0;cases e0;obtain⟨d0,t0⟩:=w0;obtain⟨v,fp,hs,_,_⟩:=ok.sl i d0 t0 h0;refine⟨v,hs,?_⟩;refine sa ok h1 λH1 vs bJ s1 r1=>?_
     obtain⟨v',i_,bZ,r',zz⟩:=bJ.sl i _ _ h2;rw[hs] at bZ;cases bZ;rw[adD];cases r' with
     | @lst l xs _ f h rs=>
      have ex:=oi rs h3;subst ex;have D7:f=[]:=by
       have hm:aI ds=true:=Mh h3;exact rs.aA hm
      subst D7;refine⟨l,ns,vs,cG,_,cj,rfl,h,r1,h4,λH' v kp hl rv=>?_⟩;have s2:aE (upd H1 l (.lst (cj.map V.int))) H':=λb o e=>by
       by_cases hb:b=l
       .subst hb;rw[bg] at e;cases e;exact hl
       .rw[aG hb] at e;exact kp b o hb e
      have jI:=Ok.uC bJ h2 hs zz aat h rfl (.lst bg (pU cj));refine q H' v (jI.same s2) (s1.trans ⟨(aU.upd h rfl).trans (.of s2),λb o zb e=>?_⟩) rv;exact kp b o (λhb=>by subst hb;rw[zz.2 _ aat] at zb;cases zb) e
  .cases e0
 .cases e0
noncomputable def nE:List Int->List D->Option (D×List Int)
 |ns,[.int m]=>if ns=[] then some (.int 0,[]) else if 0<m then some (.int (ns.getLastD 0 % m),ns.dropLast) else none
 |_,_=>none
theorem L8{K:PySem.W.Frag}{vs:List V}{H:Hp}{Q:VK}{E:XK}(h:ux K nE vs H Q E):vs.length=2:=by
 obtain⟨a,ns,ws,es,d,cj,rfl,h1,h2,h3,_⟩:=h;rw[adu,<- h2.length];cases es with
 |nil=>cases h3
 |cons e es=>
  cases es with
  |nil=>rfl
  |cons e' es=>cases e<;>cases h3
theorem ZO{X:Cx}{c z e:Expr}{p1 p2 p3:Pos}{N:List Str}{vs:List V}{H:Hp}{Q:VK}{E:XK}(hN:N.length=2)(hc:FT X c (tV (e2 oEq (e1 dR (aj 0)) (eC (.int 0)))))(hz:PE X z (tC (.int 0)))
  (hp:PE X e (o9 (rI (λ_ j=>0<j) λi j=>.int (i % j)) (IZ X.K "list" Om (kH 0)) (kH 1))) (h:ux X.K nE vs H Q E) :
  ∃t,gu X [.If c [.Return (some z) p1] [] p2,.Return (some e) p3] t/\t { nx:=λ_ H'=>Q .aB H',rt:=Q } (start N vs) H:=by
 have hl:=L8 h;obtain⟨a,ns,ws,es,d,cj,rfl,h1,h2,h3,q⟩:=h;obtain⟨tt,pt,qt⟩:=hc;refine⟨_,r9 (xN pt (zQ (uf hz)) EW) (zQ (uf hp)),?_⟩;generalize hf:([]:List Addr)=fp at h2;cases h2 with
 |nil=>cases h3
 | @cons d0 v0 ds0 Z9 f1 f2 r1 r2=>
  obtain⟨z1,z2⟩:=aey.mp hf.symm;subst z1 z2;have hv:Z9=[]:=ad1 (by simpa using hl);subst hv;cases r2;cases r1<;>try (cases h3;done)
  rename_i m;have st:start N [V.ref a,V.int m]=[some (.ref a),some (.int m)]:=by unfold start;rw[hN];rfl
  rw[st];have ok:Ok X.K H [] (λ_=>none) [] [some (.lst (ns.map D.int),.sh []),some (.int m,.sh [])] [some (.ref a),some (.int m)] H:=by
   refine⟨λi d t e=>?_,(λp m=>nomatch m),(λa j e=>nomatch e),(λa o e _=>e),rfl⟩
   match i,e with
   |0,e=>cases e;exact⟨_,_,rfl,.lst h1 (pU ns),λb _ j e=>nomatch e⟩
   |1,e=>cases e;exact⟨_,_,rfl,.int m,λb m=>nomatch m⟩
  by_cases hn:ns=[]
  .subst hn;have h3:some (D.int 0,([]:List Int))=some (d,cj):=h3;cases h3;refine qt (b:=true) ok rfl λH1 s1=>?_
   rw[if_pos rfl];exact q H1 _ (λb o _ e=>s1 _ _ e) (s1 _ _ h1) (.int 0)
  .have h3:(if ns=[] then some (D.int 0,([]:List Int)) else if 0<m then some (D.int (ns.getLastD 0 % m),ns.dropLast) else none)=some (d,cj):=h3;rw[acZ hn] at h3
   by_cases hm:0<m
   .rw[if_pos hm] at h3;cases h3;have hb:tV (e2 oEq (e1 dR (aj 0)) (eC (.int 0))) [some (.lst (ns.map D.int),.sh []),some (.int m,.sh [])]=some false:=by
     show some ((((ns.map D.int).length:Int))==0)=some false;have:((ns.map D.int).length:Int)≠0:=by
      rw[List.length_map];intro z;exact hn (ad1 (by lia))
     rw[adR.mpr this]
    refine qt ok hb λH1 s1=>?_
    rw[acZ abR];have g1:=s1 _ _ h1;have hlen:0<ns.length:=List.length_pos_iff.mpr hn;have hy:(ns.map V.int)[(ns.map V.int).length-1]? = some (.int (ns.getLastD 0)):=by
     rw[List.length_map,adA,acr (by lia),List.getLastD_eq_getLast?,List.getLast?_eq_getElem?,acr (by lia)];rfl
    refine⟨.ref a,rfl,.inl ⟨rfl,_,bK.of g1⟩,a,_,_,rfl,rfl,g1,hy,.int m,rfl,ns.getLastD 0,m,rfl,rfl,hm,?_⟩;refine q _ _ (λb o hb e=>by rw[aG hb];exact s1 _ _ e) ?_ (.int _);rw[bg,List.map_dropLast]
   .rw[acZ hm] at h3;cases h3
theorem ab3{P:Program}{w:World}{K:PySem.W.Frag}{mg:Str->Option Value}{base:Heap}{x qual:Str}{st:Stmt}{f:Addr}{fd:FuncData}{N ps:List Str}{k:Nat}(F:iy K x qual st f fd)(S:nG N ps (cT st)):
  bP P w K mg base cR (k+1) f fd ps (aZ K λ_=>none):=F.ok S (λvs H Q E ⟨_,_,_,_,e,_⟩=>nomatch e) λaT A outer s H vs Q E hr ⟨_,_,_,_,e,_⟩=>nomatch e
theorem abD(ha:FP X a fa)(hb:FP X b fb):FP X (.Compare a [.Lt] [b] pos) (e2 oLt fa fb):=n9 Lx oE ha hb (g8 _)
theorem Mm(ha:FP X a fa)(hb:FP X b fb):FP X (.Compare a [.LtE] [b] pos) (e2 oLe fa fb):=n9 G0 oE ha hb (g8 _)
theorem abx(ha:FP X a fa)(hb:FP X b fb):FP X (.Compare a [.Gt] [b] pos) (e2 u9 fa fb):=n9 OO oE ha hb (g8 _)
theorem K0(ha:FP X a fa)(hb:FP X b fb):FP X (.Compare a [.Is] [b] pos) (e2 gI fa fb):=n9 IG KA ha hb (g8 _)
end L2.Ev
namespace L2.Ev
open PySem
theorem RP(h:f ρ=some (d,t))(hi:aA d=true):xP f ρ=some (d,ρ):=by unfold xP;rw[h];dsimp only;rw[if_pos hi]
theorem ZG(h1:f ρ=some (d1,aF))(h2:g aF=some (d2,aQ))(h:op d1 d2=some d):x2 op f g ρ=some (d,aQ):=by unfold x2;rw[h1];dsimp only;rw[h2];dsimp only;rw[h];rfl
theorem dY:∀ns:List Int,aI (ns.map D.int)=true
 |[]=>rfl
 |n::r=>by rw[aax];unfold aI;rw[dY r];rfl
theorem uv{as bs:List Int}(h:as.length+bs.length<=PySem.sizeLine):fT (.lst (as.map D.int)) (.lst (bs.map D.int))=some (.lst ((as++bs).map D.int)):=by
 show(if(aI (as.map D.int)&&aI (bs.map D.int)&&decide ((as.map D.int).length+(bs.map D.int).length<=PySem.sizeLine))=true then some (D.lst (as.map D.int++bs.map D.int)) else none)=_;rw[dY,dY,List.length_map,List.length_map,abL h,adQ];rfl
theorem Eb(h:ns.length<64):lA (.lst (ns.map D.int))=some (.lst ((cB ns).map D.int)):=by
 show(match cU (ns.map D.int) with|some ns=>if ns.length<64 then some (D.lst ((cB ns).map D.int)) else none|none=>none)=_;rw[rX];dsimp only;rw[if_pos h]
theorem um{ns:List Int}:tH (.lst (ns.map D.int))=some (.lst (ns.map D.int)):=by show(if aI (ns.map D.int)=true then some (D.lst (ns.map D.int)) else none)=_;rw[if_pos (dY ns)]
theorem KC{ns:List Int}:tH (.tup (ns.map D.int))=some (.lst (ns.map D.int)):=by show(if aI (ns.map D.int)=true then some (D.lst (ns.map D.int)) else none)=_;rw[if_pos (dY ns)]
theorem DY{ns:List Int}:yu (.lst (ns.map D.int))=some (.tup (ns.map D.int)):=by show(if aI (ns.map D.int)=true then some (D.tup (ns.map D.int)) else none)=_;rw[if_pos (dY ns)]
theorem acK(h:ns.length<=63):kh none (some 200) (dI ns)=some (.lst (ns.map D.int)):=by
 show(if aI (ns.map D.int)=true then some (D.lst (cutD (ns.map D.int) none (some 200))) else none)=_;rw[if_pos (dY ns)];have:cutD (ns.map D.int) none (some 200)=ns.map D.int:=by
  unfold cutD;have e:HT.fB (ns.map D.int).length (ns.map D.int).length (some 200)=(ns.map D.int).length:=by
   have q:=HT.Aq (ns.map D.int).length (ns.map D.int).length 200;rw[show((200:Nat):Int)=200 from rfl] at q;rw[q,List.length_map];lia
  rw[HT.xJ,e,List.drop_zero,Nat.sub_zero,List.take_length]
 rw[this]
open PySem PySem.Spec PyProof.Rows
theorem ay.look{K:PySem.W.Frag}:∀{es:List (Str×D)}{fs:List (Str×V)} {fp} {f} {d},es.map (·.1)=fs.map (·.1)->ay K H (es.map (·.2)) (fs.map (·.2)) fp->es.lookup f=some d->∃v g,fs.lookup f=some v/\Rep K H d v g/\∀a∈g,a∈fp
 |[],[],_,_,_,_,_,e=>by cases e
 |[],_::_,_,_,_,k,_,_=>by simp at k
 |_::_,[],_,_,_,k,_,_=>by simp at k
 |(x,d0)::es,(y,v0)::fs,fp,f,d,k,r,e=>by
  simp only[aax,aes] at k;obtain⟨rfl,k⟩:=k;cases r with
  |cons r1 r2=>
   by_cases hx:(f==x)=true
   .simp only[List.lookup,hx] at e ⊢;cases e;exact⟨v0,_,rfl,r1,λa m=>abT _ m⟩
   .have hx:(f==x)=false:=by simpa using hx
    simp only[List.lookup,hx] at e ⊢;obtain⟨v,g,h1,h2,h3⟩:=ay.look k r2 e;exact⟨v,g,h1,h2,λa m=>aaY _ (h3 a m)⟩
theorem tM:∀{es:List (Str×D)}{fs:List (Str×V)} {f},es.map (·.1)=fs.map (·.1)->es.lookup f=none->fs.lookup f=none
 |[],[],_,_,_=>rfl
 |[],_::_,_,k,_=>by simp at k
 |_::_,[],_,k,_=>by simp at k
 |(x,d0)::es,(y,v0)::fs,f,k,e=>by
  simp only[aax,aes] at k;obtain⟨rfl,k⟩:=k
  by_cases hx:(f==x)=true
  .simp only[List.lookup,hx] at e;cases e
  .have hx:(f==x)=false:=by simpa using hx
   simp only[List.lookup,hx] at e ⊢;exact tM k e
structure ClsAt(K:PySem.W.Frag)(cn:Str)(C:Addr):Prop where
 ns:PySem.W.nsIn K mainGlobals cn=some (some (.ref C))
 cl:jY K C
theorem Rep.lO{K:PySem.W.Frag}(r:Rep K H (.ins cn es) v fp)(hn:PySem.W.nsIn K mainGlobals cn=some (some (.ref C))):
  ∃a dx fs g,v=.ref a/\fp=a::dx::g/\H a=some (.ins C dx fs)/\H dx=some (.own a)/\es.map (·.1)=fs.map (·.1)/\ay K H (es.map (·.2)) (fs.map (·.2)) g:=by
 cases r with
 | @ins _ a C' dx fs _ g h0 h1 h2 h3 h4=>
  rw[hn] at h0;cases h0;exact⟨a,dx,fs,g,rfl,rfl,h1,h2,h3,h4⟩
def bS(cn f:Str)(fa:EF):EF:=λρ=>match fa ρ with
 |some (.ins c es,t)=>if c=cn then(es.lookup f).map λd=>(d,jo t) else none
 |_=>none
theorem cJ.sub(hz:∀a j,z a=some j->∃o,H a=some o)(h:cJ z H t f)(s:∀a∈g,a∈f):cJ z H (jo t) g:=by
 cases t with
 |sh o=>exact λa m j q=>h a (s a m) j q
 |own=>exact λa m j q=>by obtain⟨o,w⟩:=hz a j q;rw[h.2 a (s a m)] at w;cases w
 |lk=>exact λa m j q=>by obtain⟨o,w⟩:=hz a j q;rw[h.2 a (s a m)] at w;cases w
theorem bI{cn f:Str}{C:Addr}(hC:ClsAt X.K cn C)(na:iS X.K C f)(ha:FP X a fa)(hb:attributeBase a f X.env (eval a X.env)=eval a X.env:=by rfl):FP X (.Attribute a f pos) (bS cn f fa):=by
 obtain⟨t,p,q⟩:=ha;exists 21,sR p hb;unfold bS at e;exists h,fa ρ,w,e,0;obtain⟨d0,t0⟩:=w;rw[h] at e;cases d0<;>try (cases e;done)
 rename_i c es;dsimp only at e
 by_cases hc:c=cn
 .subst hc;rw[if_pos rfl] at e;exists hl,es.lookup f,d1,e;cases e;refine q ok h λH1 v fp s1 r1 g1=>?_
  obtain⟨b,dx,fs,g,rfl,rfl,h1,h2,h3,h4⟩:=r1.lO hC.ns;obtain⟨u,gf,h5,h6,h7⟩:=ay.look h3 h4 hl;exact⟨b,C,dx,fs,u,rfl,h1,hC.cl,na,h5,k H1 u gf s1 h6 (cJ.sub (λa j e=>(ok.zd a j e).1) g1 λa m=>aad _ (aad _ (h7 a m)))⟩
 .rw[acZ hc] at e;cases e
noncomputable def cE(cn m:Str)(F:List D->Option D)(fo:EF)(g:AF):EF:=λρ=>match fo ρ with
 |some (.ins c es,_)=>if c=cn/\es.lookup m=none then(g ρ).bind λps=>(F (.ins c es::ps.map (·.1))).map λd=>(d,.own) else none
 |_=>none
section
variable{X:Cx}
theorem JO(hC:ClsAt X.K cn C)(q:∀{H0} {S} {z} {ak} {ρ} {σ} {H} {Q} {d} {tg},Ok X.K H0 S z ak ρ σ H->fo ρ=some (d,tg)->(∀H' v fp,aE H H'->Rep X.K H' d v fp->cJ z H tg fp->Q v H')->t σ H Q)
  (qa:∀{H0} {S} {z} {ak} {ρ} {σ} {H} {Q} {ps},Ok X.K H0 S z ak ρ σ H->g ρ=some ps->(∀H' vs fp,aE H H'->ay X.K H' (ps.map (·.1)) vs fp->cJ z H (jh ps) fp->Q vs H')->ta σ H Q)
  (ok:Ok X.K H0 S z ak ρ σ H) (e0:cE cn m F fo g ρ=some (d,tg)) (kk:∀H' v fp,aE H H'->Rep X.K H' d v fp->cJ z H tg fp->Q v H') :
  Ao C m (aZ X.K F) [] E0 t ta σ H Q:=by
 unfold cE at e0;cases h:fo ρ with
 |none=>rw[h] at e0;cases e0
 |some w=>
  obtain⟨d0,t0⟩:=w;rw[h] at e0;cases d0<;>try (cases e0;done)
  rename_i c Ae;dsimp only at e0
  by_cases hc:c=cn/\Ae.lookup m=none
  .rw[if_pos hc] at e0;obtain⟨rfl,hm⟩:=hc;cases h2:g ρ with
   |none=>rw[h2] at e0;cases e0
   |some qs=>
    rw[h2,adH] at e0;cases h3:F (.ins c Ae::qs.map (·.1)) with
    |none=>rw[h3] at e0;cases e0
    |some d1=>
     rw[h3] at e0;cases e0;refine q ok h λH1 v fp s1 r1 g1=>?_
     obtain⟨b,dx,fs,gf,rfl,rfl,h4,h5,h6,h7⟩:=r1.lO hC.ns;refine⟨b,dx,fs,rfl,h4,tM h6 hm,?_⟩;refine qa (ok.same s1) h2 λH2 vs l8 s2 r2 _=>?_
     rw[adD];exact⟨_,_,d,.cons (r1.same s2) r2,h3,λH3 u i_ s3 r3 nd fr=>kk H3 u i_ ((s1.trans s2).trans s3) r3 ⟨nd,λa m=>s1.free (s2.free (fr a m))⟩⟩
  .rw[acZ hc] at e0;cases e0
theorem fj(hC:ClsAt X.K cn C)(hm:ly X.K C m f)(G:bP X.prog X.w X.K X.mg X.base cR k f fd ps (aZ X.K F))(hr:bh k X.A)(hb:Binds X.K fd ps [])(ho:FP X o fo)(ha:FA X (e::es) g)
  (gW:SE X e es pos:=by exact⟨rfl,rfl⟩)
  (ht:vG X o m apos (e::es) pos pl:=by exact rfl):FP X (.Call (.Attribute o m apos) (e::es) [] pos) (cE cn m F fo g):=by
 obtain⟨t,p,q⟩:=ho;obtain⟨ta,pa,_,qa⟩:=ha;exact⟨_,y9 p hC.cl hm G hr hb .nil mG pa gW.1 gW.2 ht,@λH0 S z ak ρ σ H Q d tg ok e0 kk=>JO hC q qa ok e0 kk⟩
theorem fE(hC:ClsAt X.K cn C)(hm:ly X.K C m f)(G:bP X.prog X.w X.K X.mg X.base cR k f fd ps (aZ X.K F))(hr:bh k X.A)(hb:Binds X.K fd ps [])(ho:FP X o fo)
  (ht:vG X o m apos [] pos pl:=by exact rfl):FP X (.Call (.Attribute o m apos) [] [] pos) (cE cn m F fo aH):=by
 obtain⟨t,p,q⟩:=ho;obtain⟨ta,pa,_,qa⟩:=aJ (X:=X);refine⟨_,OJ p hC.cl hm G hr hb .nil mG ht,@λH0 S z ak ρ σ H Q d tg ok e0 kk=>JO hC q (@λ_ _ _ _ _ _ H _ _ _ e q=>by cases e;exact q H _ _ (aE.refl H) .nil .nil) ok e0 kk⟩
end
noncomputable abbrev MF:=D->List D->Option (D×D)
def dN(K:PySem.W.Frag)(G:MF):Sp:=λvs H Q _=>∃a ws d0 a_ ds eS r d1,vs=V.ref a::ws/\Rep K H d0 (.ref a) a_/\a_.Nodup/\ay K H ds ws eS/\(∀b∈eS,b∉a_)/\G d0 ds=some (r,d1)/\
 ∀H' v bC,aU H H'->(∀b o,b∉a_->H b=some o->H' b=some o)->Rep K H' d1 (.ref a) bC->bC.Nodup->(∀b∈bC,b∈a_\/H b=none)->Rep K H' r v []->Q v H'
def apart(i:Nat)(ps:List (D×Tag)):Bool:=match jh ps with
 |.sh o=>!o.contains i
 |_=>true
theorem Gw{K:PySem.W.Frag}(ok:Ok K H0 S z ak ρ σ H)(h:apart i ps=true)(g:cJ z H (jh ps) fp)(zz:tE z i .own a_):∀b∈fp,b∉a_:=by
 intro b m n;unfold apart at h;have zb:=zz.2 b n;cases ht:jh ps with
 |sh o=>
  rw[ht] at h g;have:=g b m i zb;simp at h;exact h this
 |own=>
  rw[ht] at g;obtain⟨⟨o,w⟩,_⟩:=ok.zd b i zb;rw[g.2 b m] at w;cases w
 |lk=>
  rw[ht] at g;obtain⟨⟨o,w⟩,_⟩:=ok.zd b i zb;rw[g.2 b m] at w;cases w
def xO(i:Nat)(cn m:Str)(G:MF)(g:AF):XF:=λρ=>match ρ[i]?,g ρ with
 |some (some (.ins c es,.own)),some ps=>if c=cn/\es.lookup m=none/\apart i ps=true then(G (.ins c es) (ps.map (·.1))).map λw=>(w.1,bB ρ i w.2) else none
 |_,_=>none
theorem Pr(e:xO i cn m G g ρ=some (r,ρ')):∃es ps d1,ρ[i]? = some (some (.ins cn es,.own))/\g ρ=some ps/\es.lookup m=none/\apart i ps=true/\G (.ins cn es) (ps.map (·.1))=some (r,d1)/\ρ'=bB ρ i d1:=by
 unfold xO at e
 split at e
 .rename_i c es ps h1 h2
  by_cases hc:c=cn/\es.lookup m=none/\apart i ps=true
  .rw[if_pos hc] at e;obtain⟨rfl,hm,ha⟩:=hc;exists h3,G (.ins c es) (ps.map (·.1)),w,e;cases e;exact⟨es,ps,w.2,h1,h2,hm,ha,h3,rfl⟩
  .rw[acZ hc] at e;cases e
 .cases e
def FZ(X:Cx)(e:Expr)(f:XF):Prop:=∃t,PE X e t/\∀{H0} {S} {z} {ak} {ρ} {σ} {H} {Q} {d} {ρ'},
 Ok X.K H0 S z ak ρ σ H->f ρ=some (d,ρ')->(∀z' H' v,Ok X.K H0 S z' ak ρ' σ H'->Rep X.K H' d v []->Q v H')->t σ H Q
section
variable{X:Cx}
theorem Uj(hC:ClsAt X.K cn C)(hN:X.N[i]? = some x)
  (qa:∀{H0:Hp} {S} {z} {ak} {ρ} {σ} {H} {Q} {ps},Ok X.K H0 S z ak ρ σ H->g ρ=some ps->(∀H' vs fp,aE H H'->ay X.K H' (ps.map (·.1)) vs fp->cJ z H (jh ps) fp->Q vs H')->ta σ H Q)
  (ok:Ok X.K H0 S z ak ρ σ H) (e0:xO i cn m G g ρ=some (d,ρ')) (kk:∀z' H' v,Ok X.K H0 S z' ak ρ' σ H'->Rep X.K H' d v []->Q v H') :
  Ao C m (dN X.K G) [] E0 (kH i) ta σ H Q:=by
 obtain⟨Ae,qs,d1,h1,h2,hm,vj,hG,rfl⟩:=Pr e0;obtain⟨v,a_,hs,r0,zz⟩:=ok.sl i _ _ h1;refine⟨v,hs,?_⟩;obtain⟨b,dx,fs,gf,rfl,B_,h4,h5,h6,h7⟩:=r0.lO hC.ns;refine⟨b,dx,fs,rfl,h4,tM h6 hm,?_⟩;refine qa ok h2 λH2 vs l8 s2 r2 g2=>?_
 rw[adD];have jI:=ok.same s2;refine⟨b,vs,_,a_,_,l8,d,d1,rfl,r0.same s2,zz.1,r2,Gw ok vj g2 zz,hG,λH3 u bC im kp r1 nd fr rr=>?_⟩;obtain⟨z',i9⟩:=jI.put h1 hs zz im kp r1 nd fr;exact kk z' H3 u i9 rr
theorem qk(i:Nat)(hC:ClsAt X.K cn C)(hm:ly X.K C m f)(GG:bP X.prog X.w X.K X.mg X.base cR k f fd ps (dN X.K G))(hr:bh k X.A)(hb:Binds X.K fd ps [])(va:VA X i x:=by walk_at "va")
  (ht:vG X (.Name x p1) m apos [] pos pl:=by exact rfl):FZ X (.Call (.Attribute (.Name x p1) m apos) [] [] pos) (xO i cn m G aH):=
 ⟨_,OJ va.pe hC.cl hm GG hr hb .nil mG ht,@λH0 S z ak ρ σ H Q d ρ' ok e0 kk=>Uj hC va.N (@λ_ _ _ _ _ _ H _ _ _ e q=>by cases e;exact q H _ _ (aE.refl H) .nil .nil) ok e0 kk⟩
noncomputable def sZ(f:XF):SF:=λρ=>(f ρ).map λw=>.nx w.2
theorem wm(he:FZ X e fx)(jJ:swapsWith e none pos.line X.env=pure false:=by rfl):eY X (.Expr e pos) (sZ fx):=by
 obtain⟨t,p,q⟩:=he;exists 23,zy p jJ;unfold sZ at e;exists h,fx ρ,w,e,0;obtain⟨d,aF⟩:=w;rw[h] at e;cases e;exact q ok h λz' H1 v bJ r1=>k z' σ H1 bJ (.refl _ _)
def zm(i:Nat)(f:XF):SF:=λρ=>match f ρ with
 |some (d,ρ')=>some (.nx (h_ ρ' i d .own))
 |none=>none
theorem uW(i:Nat)(he:FZ X e fx)(hN:X.N.Nodup)(hi:X.N[i]? = some x:=by rfl)(hx:Loc X.env.scope x:=by first|exact Or.inl rfl|exact Or.inr rfl)
  (hs:swapsWith e (some (.Name x pos')) pos.line X.env=pure false:=by rfl) (hf:X.fn x=true\/X.env.scope.names.lookup x=some .local:=by first|exact .inl rfl|exact .inr rfl) (qL:kP X x=false:=by rfl):eY X (.Assign [.Name x pos'] e pos) (zm i fx):=by
 obtain⟨t,p,q⟩:=he;exists 23,ye hN hi hx p hs hf;unfold zm at e;cases h:fx ρ with
 |none=>rw[h] at e;cases e
 |some w=>
  obtain⟨d,aF⟩:=w;rw[h] at e;cases e;refine q ok h λz1 H1 v bJ r1=>?_
  exact bJ.stored (aE.refl H1) r1 .nil λz' bu=>k z' _ H1 bu (.set hi qL)
end
noncomputable def oz(cn:Str)(G:MF)(g:AF):EF:=λρ=>(g ρ).bind λps=>match G (.ins cn []) (ps.map (·.1)) with
 |some (.aB,d)=>some (d,.own)
 |_=>none
section
variable{X:Cx}
theorem make_core{Q:VK}(hn:PySem.W.nsIn X.K mainGlobals cn=some (some (.ref C)))(r1:ay X.K H1 ds vs fp)(h3:G (.ins cn []) ds=some (.aB,d))(kk:∀H' v fp,aE H1 H'->Rep X.K H' d v fp->fp.Nodup->(∀a∈fp,H1 a=none)->Q v H'):
  ∀x dx,H1 x=none->H1 dx=none->dx≠x->dN X.K G (.ref x::(vs++[])) (upd (upd H1 dx (.own x)) x (.ins C dx [])) (λv H2=>v=.aB/\Q (.ref x) H2) E0:=by
 intro b dx nb zh ne;rw[adD];have s2:aE H1 (upd (upd H1 dx (.own b)) b (.ins C dx [])):=λc o e=>by rw[aG (cu e nb),aG (cu e zh)];exact e
 refine⟨b,vs,.ins cn [],[b,dx],_,fp,.aB,d,rfl,.ins hn bg (by rw[aG ne];exact bg) rfl .nil,?_,r1.same s2,λc m n=>?_,h3,λH3 u bC im kp r3 nd fr rr=>?_⟩
 .exact ado.mpr ⟨λm=>ne (aaS.mp m).symm,ado.mpr ⟨(λm=>nomatch m),adw⟩⟩
 .obtain⟨o,w,_⟩:=r1.cZ c m;rcases abG.mp n with e|n
  .rw[e,nb] at w;cases w
  .rw[aaS.mp n,zh] at w;cases w
 .cases rr;refine⟨rfl,kk H3 _ bC (λc o e=>?_) r3 nd λc m=>?_⟩
  .refine kp c o (λn=>?_) (s2 c o e);rcases abG.mp n with q|n
   .rw[q,nb] at e;cases e
   .rw[aaS.mp n,zh] at e;cases e
  .rcases fr c m with q|q
   .rcases abG.mp q with q|q
    .rw[q];exact nb
    .rw[aaS.mp q];exact zh
   .exact s2.free q
theorem NH(hn:PySem.W.nsIn X.K mainGlobals cn=some (some (.ref C)))
  (qa:∀{H0} {S} {z} {ak} {ρ} {σ} {H} {Q} {ps},Ok X.K H0 S z ak ρ σ H->g ρ=some ps->(∀H' vs fp,aE H H'->ay X.K H' (ps.map (·.1)) vs fp->cJ z H (jh ps) fp->Q vs H')->ta σ H Q)
  (ok:Ok X.K H0 S z ak ρ σ H) (e0:oz cn G g ρ=some (d,tg)) (kk:∀H' v fp,aE H H'->Rep X.K H' d v fp->cJ z H tg fp->Q v H') :
  DO C (dN X.K G) [] E0 ta σ H Q:=by
 unfold oz at e0;exists h2,g ρ,qs,e0,0;rw[h2,adH] at e0;exists h3,G (.ins cn []) (qs.map (·.1)),w,e0,0;obtain⟨r,d1⟩:=w;rw[h3] at e0;cases r<;>try (cases e0;done)
 cases e0;refine qa ok h2 λH1 vs fp s1 r1 _=>?_
 exact make_core hn r1 h3 λH' v fp s2 r3 nd fr=>kk H' v fp (s1.trans s2) r3 ⟨nd,λa m=>s1.free (fr a m)⟩
theorem Yi(hn:PySem.W.nsIn X.K mainGlobals cn=some (some (.ref C)))(M:Mk X.K C f)(GG:bP X.prog X.w X.K X.mg X.base cR k f fd ps (dN X.K G))(hr:bh (k+1) X.A)(hm:X.mg x=some (.ref C))(hb:Binds X.K fd ps [])(hg:GD X x:=by exact⟨rfl,by decide⟩):
  FP X (.Call (.Name x p) [] [] pos) (oz cn G aH):=
 ⟨_,WY M GG hr hg.1 hm hb .nil mG hg.2,@λH0 S z ak ρ σ H Q d tg ok e0 kk=>NH hn (@λ_ _ _ _ _ _ H _ _ _ e q=>by cases e;exact q H _ _ (aE.refl H) .nil .nil) ok e0 kk⟩
theorem MR(hn:PySem.W.nsIn X.K mainGlobals cn=some (some (.ref C)))(M:Mk X.K C f)(GG:bP X.prog X.w X.K X.mg X.base cR k f fd ps (dN X.K G))(hr:bh (k+1) X.A)(hm:X.mg x=some (.ref C))(hb:Binds X.K fd ps [])(ha:FA X (e::es) g)(hg:GD X x:=by exact⟨rfl,by decide⟩)
  (he:SE X e es pos:=by exact⟨rfl,rfl⟩):FP X (.Call (.Name x p) (e::es) [] pos) (oz cn G g):=by
 obtain⟨ta,pa,_,qa⟩:=ha;exact⟨_,ab2 M GG hr hg.1 hm hb .nil mG pa hg.2 he.1 he.2,@λH0 S z ak ρ σ H Q d tg ok e0 kk=>NH hn qa ok e0 kk⟩
end
end L2.Ev
namespace L2
open PySem PySem.Spec PyProof.Rows
noncomputable abbrev Cx.mT(X:Cx)(xs:List Str):Cx:={ X with fn:=λy=>!(xs.contains y) }
theorem gu.mT{st:List Stmt}(hX:X.fn=λ_=>true)(h:gu (X.mT xs) st t):gu X st t:=λaf s σ H W I hw=>by
 have I':Inv (X.mT xs) af σ H s:=⟨⟨I.ok.mod,I.ok.kind,I.ok.glob,I.ok.blt,I.ok.above,I.ok.inj,I.ok.has,λx c _ e=>I.ok.tU x c (by rw[hX]) e,I.ok.hd,I.ok.frames,I.ok.uX,I.ok.ze,I.ok.bs,I.ok.jv,I.ok.ue,I.ok.sM,I.ok.jG,I.ok.pK⟩,I.os,I.bare,I.base,I.loc,I.cell,I.free,I.iJ,I.pin,I.aD,I.len,I.hq⟩
 have back:∀{aC} {H'} {s'},Inv (X.mT xs) af aC H' s'->Inv X af aC H' s':=λJ=>⟨I.ok,J.os,J.bare,J.base,J.loc,J.cell,J.free,J.iJ,J.pin,J.aD,J.len,J.hq⟩
 refine aeu (h af s σ H W I' hw) (λf s' q=>?_) λ_ _ z=>z
 cases f with
 |next=>obtain⟨a,b,J,q⟩:=q;exact⟨a,b,back J,q⟩
 |brk=>obtain⟨a,b,J,q⟩:=q;exact⟨a,b,back J,q⟩
 |cont=>obtain⟨a,b,J,q⟩:=q;exact⟨a,b,back J,q⟩
 |ret u=>obtain⟨v,a,b,J,r,q⟩:=q;exact⟨v,a,b,back J,r,q⟩
end L2
namespace L2.Ev
open PySem PySem.Spec PyProof.Rows
noncomputable def ud:List Nat->aO->Option (List D)
 |[],_=>some []
 |i::J,ρ=>match ρ[i]? with
  |some (some (d,Tag.own))=>(ud J ρ).map (d::·)
  |_=>none
def wM(J:List Nat)(im:Bool)(X:Cx)(H0:Hp)(S:List Addr)(ak:List mP)(mR:St)(E:Ends):Out->Prop
 |.rt p=>∃r es,p=.tup (r::es)/\∀z ρ σ H v fY,Ok X.K H0 S z ak ρ σ H->ud J ρ=some es->Kp X mR σ->Rep X.K H r v fY->fY.Nodup->(∀b∈fY,(H0 b=none\/b∈S)/\∀i∈J,z b≠some i)->(im=true->fY=[])->E.rt v H
 |o=>mS X H0 S ak mR E o
def FJ(J:List Nat)(im:Bool)(X:Cx)(st:List Stmt)(f:SF):Prop:=∃t,gu X st t/\∀{H0} {S} {z} {ak} {ρ} {σ} {H} {E} {o},
 Ok X.K H0 S z ak ρ σ H->f ρ=some o->wM J im X H0 S ak σ E o->t E σ H
def qH(J:List Nat)(im:Bool)(X:Cx)(st:Stmt)(f:SF):Prop:=∃t,PS X st t/\∀{H0} {S} {z} {ak} {ρ} {σ} {H} {E} {o},
 Ok X.K H0 S z ak ρ σ H->f ρ=some o->wM J im X H0 S ak σ E o->t E σ H
noncomputable abbrev Bb:=FJ [0]
noncomputable abbrev FM:=FJ [0] true
theorem wM.of(k:wM J im X H0 S ak σ E o)(a:Kp X σ aC):wM J im X H0 S ak aC E o:=by
 cases o with
 |nx ρ=>exact mS.of (o:=.nx ρ) k a
 |bk ρ=>exact mS.of (o:=.bk ρ) k a
 |ct ρ=>exact mS.of (o:=.ct ρ) k a
 |er raw cn ρ=>exact tR.of k a
 |rt d=>obtain⟨r,d0,e,k⟩:=k;exact⟨r,d0,e,λz ρ s H v fY ok h b=>k z ρ s H v fY ok h (a.trans b)⟩
noncomputable def jZ(f:SF):SF:=λρ=>match f ρ with
 |some (.nx ρ')=>some (.nx ρ')
 |some (.bk ρ')=>some (.bk ρ')
 |some (.ct ρ')=>some (.ct ρ')
 |some (.er raw cn ρ')=>some (.er raw cn ρ')
 |_=>none
section
variable{st:Stmt}{rest:List Stmt}
theorem cz(h:eY X st f):qH J im X st (jZ f):=by
 obtain⟨t,p,q⟩:=h;refine⟨t,p,@λH0 S z ak ρ σ H E o ok e k=>?_⟩;unfold jZ at e;cases h:f ρ with
 |none=>rw[h] at e;cases e
 |some w=>
  rw[h] at e;refine q ok h ?_;cases w<;>first|(cases e;done)|(cases e;exact k)
theorem jX:FJ J im X [] d7:=⟨_,EW,@λ_ _ z _ _ σ H _ _ ok e k=>by cases e;exact k z σ H ok (.refl _ _)⟩
theorem ez(h:qH J im X st f):FJ J im X [st] f:=let⟨t,p,q⟩:=h;⟨t,zQ p,q⟩
theorem bV(h1:qH J im X st f)(h2:FJ J im X rest g):FJ J im X (st::rest) (bH f g):=by
 obtain⟨t,p,q⟩:=h1;obtain⟨t',p',q'⟩:=h2;exists 23,r9 p p';unfold bH at e;cases h:f ρ with
 |none=>rw[h] at e;cases e
 |some w=>
  refine q ok h ?_;rw[h] at e;cases w with
  |nx ρ'=>exact λz' aC H' bu a=>q' bu e (k.of a)
  |rt d=>cases e;exact k
  |bk ρ'=>cases e;exact k
  |ct ρ'=>cases e;exact k
  |er _ _ _=>cases e;exact k
theorem iA(hc:FT X c tc)(ha:FJ J im X a f)(hb:FJ J im X b g):qH J im X (.If c a b pos) (c9 tc f g):=by
 obtain⟨t,p,q⟩:=hc;obtain⟨t1,p1,q1⟩:=ha;obtain⟨t2,p2,q2⟩:=hb;exists 23,xN p p1 p2;unfold c9 at e;cases h:tc ρ with
 |none=>rw[h] at e;cases e
 |some y=>
  rw[h] at e;refine q ok h λH1 s1=>?_
  cases y with
  |true=>rw[if_pos rfl];exact q1 (ok.same s1) e k
  |false=>rw[acZ abR];exact q2 (ok.same s1) e k
theorem pQ:qH J im X st OB:=⟨_,Iz,@λ_ _ _ _ _ _ _ _ _ _ e _=>by cases e⟩
def sA(f:EF)(J:List Nat:=[0]):SF:=λρ=>match f ρ,ud J ρ with
 |some (r,_),some es=>if aA r=true then some (.rt (.tup (r::es))) else none
 |_,_=>none
theorem oU(he:FP X e f):qH J im X (.Return (some e) pos) (sA f J):=by
 obtain⟨t,p,q⟩:=he;exists 23,uf p;unfold sA at e
 split at e
 .rename_i r tg es h1 h2
  by_cases hi:aA r=true
  .rw[if_pos hi] at e;cases e;obtain⟨r',tN,ee,k⟩:=k;cases ee;refine q ok h1 λH1 v fp s1 r1 _=>?_
   have hn:=r1.aA hi;subst hn;exact k z ρ σ H1 v [] (ok.same s1) h2 (.refl _ _) r1 adw (λb m=>nomatch m) λ_=>rfl
  .rw[acZ hi] at e;cases e
 .cases e
def xQ(f:XF)(J:List Nat:=[0]):SF:=λρ=>match f ρ with
 |some (r,ρ')=>(ud J ρ').map λes=>.rt (.tup (r::es))
 |none=>none
theorem acg(he:FZ X e f):qH J im X (.Return (some e) pos) (xQ f J):=by
 obtain⟨t,p,q⟩:=he;exists 23,uf p;unfold xQ at e;cases h1:f ρ with
 |none=>rw[h1] at e;cases e
 |some w=>
  rw[h1] at e;obtain⟨es,h2,rfl⟩:=adC.mp e;obtain⟨r',tN,ee,k⟩:=k;cases ee;exact q ok h1 λz' H1 v bJ r1=>k z' w.2 σ H1 v [] bJ h2 (.refl _ _) r1 adw (λb m=>nomatch m) λ_=>rfl
end
noncomputable def xX(n:Nat)(d0:D)(ds:List D):aO:=some (d0,.own)::(ds.map (λd=>some (d,.sh []))++List.replicate (n-(ds.length+1)) none)
def runM(n N:Nat)(b:SF):MF:=λd0 ds=>if ds.length + 1=n then(match b (xX N d0 ds) with
 |some (.rt (.tup [r,d1]))=>some (r,d1)
 |some (.nx ρ)=>match ρ[0]? with
  |some (some (d1,Tag.own))=>some (.aB,d1)
  |_=>none
 |_=>none) else none
theorem acR(h:ud [0] ρ=some [d]):ρ[0]? = some (some (d,.own)):=by
 unfold ud at h
 split at h
 .rename_i d' e;cases h;exact e
 .cases h
def Cn(im:Bool)(K:PySem.W.Frag)(G:MF):Sp:=λvs H Q _=>∃v0 ws d0 a_ ds eS r d1,vs=v0::ws/\Rep K H d0 v0 a_/\a_.Nodup/\ay K H ds ws eS/\(∀b∈eS,b∉a_)/\G d0 ds=some (r,d1)/\
 ∀H' v bC fY,aU H H'->(∀b o,b∉a_->H b=some o->H' b=some o)->Rep K H' d1 v0 bC->bC.Nodup->(∀b∈bC,b∈a_\/H b=none)->Rep K H' r v fY->fY.Nodup->(∀b∈fY,(b∈a_\/H b=none)/\b∉bC)->(im=true->fY=[])->Q v H'
section
variable{K:PySem.W.Frag}
theorem Yg:∀vs H Q E,dN K G vs H Q E->Cn true K G vs H Q E:=by
 rintro _ _ _ _ ⟨a,ws,d0,a_,ds,eS,r,d1,h1,h2,h3,h4,h5,h6,q⟩
 exact⟨.ref a,ws,d0,a_,ds,eS,r,d1,h1,h2,h3,h4,h5,h6,λH' v bC fY a1 a2 a3 a4 a5 a6 _ _ e=>q H' v bC a1 a2 a3 a4 a5 (by rw[<- e rfl];exact a6)⟩
theorem Z7{st:Stmt}(F:iy K x qual st f fd)(S:nG N ps (cT st))(h0:N[0]? = some x0)
  (hb:∀(aT) (A) (outer) (s) (H) (E),bh k (A.deeper (envOfC qual (cT st) s.heap.objs.size f aT))->Bb im ((jF cR P w K mg base N qual (cT st) f aT A outer s H E).k_.mT [x0]) (g7 st) b) :
  bP P w K mg base cR (k+1) f fd ps (Cn im K (runM ps.length N.length b)):=by
 have yp:∀{d0} {ds} {r},runM ps.length N.length b d0 ds=some r->ds.length+1=ps.length:=λ{d0 ds r} e=>by
  unfold runM at e
  split at e
  .assumption
  .cases e
 refine F.ok S (λvs H Q E h=>?_) λaT A outer s H vs Q E hr h=>?_<;>obtain⟨v0,ws,d0,a_,ds,eS,r,d1,e0,r0,nd0,rs,dj,e,q⟩:=h
 .rw[e0,adu,<- rs.length,yp e]
 .obtain⟨t,pt,sd⟩:=hb aT A outer s H E hr;refine⟨t,pt.mT rfl,?_⟩;have r0':ay K H [d0] [v0] a_:=by have:=ay.cons r0 .nil;rwa [adD] at this
  obtain⟨z,ok⟩:=Ok.i7 r0' nd0 rs dj;rw[e0];have fin:∀{z} {ρ} {σ} {H'} {v} {fY},Ok K H a_ z [] ρ σ H'->ρ[0]? = some (some (d1,.own))->Kp ((jF cR P w K mg base N qual (cT st) f aT A outer s H E).k_.mT [x0]) (start N (v0::ws)) σ->Rep K H' r v fY->fY.Nodup->(∀b∈fY,(H b=none\/b∈a_)/\z b≠some 0)->(im=true->fY=[])->Q v H':=by
   intro z ρ σ H' v fY bu h1 kp rr YG Kc hi;obtain⟨u,bC,hs,r1,zz⟩:=bu.sl 0 d1 .own h1;have hk:=kp 0 _ h0 (by
    show(x0==("self":Str)||(!([x0].contains ("self":Str))&&!(!([x0].contains x0))))=true
    by_cases h:x0=("self":Str)
    .rw[h];rfl
    .simp[aez h])
   rw[hk] at hs;cases hs;have st:∀{c} {o},H c=some o->k8 o=false->H' c=some o:=λ{c o} e' mo=>bu.en c _ e' λm=>by
    obtain⟨o',w,LZ⟩:=r0.cZ c m;rw[e'] at w;cases w;rw[mo] at LZ;cases LZ
   exact q H' v bC fY ⟨λc xs e'=>st e' rfl,λc o u e'=>st e' rfl,λc φ e'=>st e' rfl⟩ (λc o n e'=>bu.en c o e' n) r1 zz.1 (λc m=>((bu.zd c 0 (zz.2 c m)).2).symm.imp id id) rr YG (λc m=>⟨(Kc c m).1.symm.imp id id,λm'=>(Kc c m).2 (zz.2 c m')⟩) hi
  have hl:=yp e;unfold runM at e;rw[if_pos hl] at e;cases ho:b (xX N.length d0 ds) with
  |none=>rw[ho] at e;cases e
  |some o=>
   rw[ho] at e;refine sd ok ho ?_;cases o with
   |rt p=>
    have hp:p=.tup [r,d1]:=by
     split at e<;>rename_i hh
     .cases e;cases hh;rfl
     .cases hh
     .cases e
    exact⟨r,[d1],hp,λz ρ σ H' v fY bu h1 kp rr nd fr=>fin bu (acR h1) kp rr nd λb m=>⟨(fr b m).1,(fr b m).2 0 aat⟩⟩
   |nx ρ'=>
    dsimp only at e
    split at e
    .rename_i dd h1;cases e;exact λz σ H' bu kp=>fin bu h1 kp .aB adw (λb m=>nomatch m) λ_=>rfl
    .cases e
   |bk _=>cases e
   |ct _=>cases e
   |er _ _ _=>cases e
end
noncomputable def dw(f:Str)(d:D):List (Str×D)->List (Str×D)
 |[]=>[(f,d)]
 |(g,x)::r=>if g=f then(g,d)::r else(g,x)::dw f d r
theorem Pg:∀{es} {fs},es.map (·.1)=fs.map (·.1)->(dw f d es).map (·.1)=(dZ f v fs).map (·.1)
 |[],[],_=>rfl
 |[],_::_,k=>by simp at k
 |_::_,[],k=>by simp at k
 |(x,d0)::es,(y,v0)::fs,k=>by
  simp only[aax,aes] at k;obtain⟨rfl,k⟩:=k;unfold dw dZ
  by_cases hx:x=f
  .rw[if_pos hx,if_pos hx,aax,aax,k]
  .rw[acZ hx,acZ hx,aax,aax,Pg k]
theorem O0:∀{es},es.lookup f=some d0->(dw f d es).map (·.1)=es.map (·.1)
 |[],e=>by cases e
 |(x,d1)::es,e=>by
  unfold dw
  by_cases hx:x=f
  .rw[if_pos hx];rfl
  .have hb:=adR.mpr λq=>hx q.symm
   simp only[List.lookup,hb] at e;rw[acZ hx,aax,O0 e];rfl
section
variable{K:PySem.W.Frag}
theorem ay.dZ(rd:Rep K H d v fd):∀{es} {fs} {g},es.map (·.1)=fs.map (·.1)->ay K H (es.map (·.2)) (fs.map (·.2)) g->
  ∃g',ay K H ((dw f d es).map (·.2)) ((L2.dZ f v fs).map (·.2)) g'/\(∀a∈g',a∈g\/a∈fd)/\(g.Nodup->fd.Nodup->(∀a∈fd,a∉g)->g'.Nodup)
 |[],[],_,_,r=>by
  cases r;exact⟨fd++[],.cons rd .nil,λa m=>.inr (by simpa using m),λ_ n _=>by simpa using n⟩
 |[],_::_,_,k,_=>by simp at k
 |_::_,[],_,k,_=>by simp at k
 |(x,d0)::es,(y,v0)::fs,_,k,r=>by
  simp only[aax,aes] at k;obtain⟨rfl,k⟩:=k;cases r with
  | @cons _ _ _ _ f1 f2 r1 r2=>
   unfold dw L2.dZ
   by_cases hx:x=f
   .rw[if_pos hx,if_pos hx];refine⟨fd++f2,.cons rd r2,λa m=>(ada.mp m).elim .inr λm=>.inl (aaY _ m),λn1 n2 n3=>?_⟩;exact adE.mpr ⟨n2,(adE.mp n1).2.1,λa ma b mb e=>n3 a ma (aaY _ (e ▸ mb))⟩
   .rw[acZ hx,acZ hx];obtain⟨g',h1,h2,h3⟩:=ay.dZ rd k r2;refine⟨f1++g',.cons r1 h1,λa m=>?_,λn1 n2 n3=>?_⟩
    .rcases ada.mp m with m|m
     .exact .inl (abT _ m)
     .exact(h2 a m).imp (aaY _) id
    .obtain⟨a1,a2,a3⟩:=adE.mp n1;refine adE.mpr ⟨a1,h3 a2 n2 (λa m q=>n3 a m (aaY _ q)),λa ma b mb e=>?_⟩;rcases h2 b mb with q|q
     .exact a3 a ma b q e
     .exact n3 b q (abT _ (e ▸ ma))
theorem ay.place:∀{es}{fs:List (Str×V)} {g},es.map (·.1)=fs.map (·.1)->ay K H (es.map (·.2)) (fs.map (·.2)) g->g.Nodup->es.lookup f=some d0->
  ∃v gf,fs.lookup f=some v/\Rep K H d0 v gf/\gf.Nodup/\(∀a∈gf,a∈g)/\∀(H') (d1) (g1),aU H H'->(∀b o,b∉gf->H b=some o->H' b=some o)->Rep K H' d1 v g1->g1.Nodup->(∀b∈g1,b∈gf\/H b=none)->
   ∃g',ay K H' ((dw f d1 es).map (·.2)) (fs.map (·.2)) g'/\g'.Nodup/\∀b∈g',b∈g\/H b=none
 |[],_,_,_,_,_,e=>by cases e
 |_::_,[],_,k,_,_,_=>by simp at k
 |(x,d)::es,(y,v0)::fs,_,k,r,nd,e=>by
  simp only[aax,aes] at k;obtain⟨rfl,k⟩:=k;cases r with
  | @cons _ _ _ _ f1 f2 r1 r2=>
   obtain⟨a1,a2,a3⟩:=adE.mp nd
   by_cases hx:x=f
   .subst hx;have hb:=aew x;simp only[List.lookup,hb] at e ⊢;cases e;refine⟨v0,f1,rfl,r1,a1,λa m=>abT _ m,λH' d1 g1 im kp rr n1 fr=>?_⟩;refine⟨g1++f2,?_,adE.mpr ⟨n1,a2,λa ma b mb e=>?_⟩,λb m=>?_⟩
    .unfold dw;rw[if_pos rfl];refine .cons rr (r2.frame (λa m=>?_) im);obtain⟨o,w,_⟩:=r2.cZ a m;rw[kp a o (λq=>a3 a q a m rfl) w,w]
    .subst e;obtain⟨o,w,_⟩:=r2.cZ a mb;rcases fr a ma with q|q
     .exact a3 a q a mb rfl
     .rw[q] at w;cases w
    .rcases ada.mp m with m|m
     .exact(fr b m).imp (abT _) id
     .exact .inl (aaY _ m)
   .have hb:=adR.mpr λq=>hx q.symm
    simp only[List.lookup,hb] at e ⊢;obtain⟨v,gf,h1,h2,h3,h4,h5⟩:=ay.place k r2 a2 e;refine⟨v,gf,h1,h2,h3,λa m=>aaY _ (h4 a m),λH' d1 g1 im kp rr n1 fr=>?_⟩;obtain⟨g',c1,c2,c3⟩:=h5 H' d1 g1 im kp rr n1 fr;refine⟨f1++g',?_,adE.mpr ⟨a1,c2,λa ma b mb e=>?_⟩,λb m=>?_⟩
    .unfold dw;rw[acZ hx];refine .cons (r1.frame (λa m=>?_) im) c1;obtain⟨o,w,_⟩:=r1.cZ a m;rw[kp a o (λq=>a3 a m a (h4 a q) rfl) w,w]
    .subst e;obtain⟨o,w,_⟩:=r1.cZ a ma;rcases c3 a mb with q|q
     .exact a3 a ma a q rfl
     .rw[q] at w;cases w
    .rcases ada.mp m with m|m
     .exact .inl (abT _ m)
     .exact(c3 b m).imp (aaY _) id
theorem Rep.JS(r:Rep K H (.ins cn es) v fp)(hn:PySem.W.nsIn K mainGlobals cn=some (some (.ref C)))(nd:fp.Nodup)(e:es.lookup f=some d0):
  ∃a dx fs u gf,(a∉gf/\dx∉gf)/\v=.ref a/\H a=some (.ins C dx fs)/\fs.lookup f=some u/\Rep K H d0 u gf/\gf.Nodup/\(∀b∈gf,b∈fp)/\∀(H':Hp) (d1) (g1),aU H H'->(∀b o,b∉gf->H b=some o->H' b=some o)->Rep K H' d1 u g1->g1.Nodup->(∀b∈g1,b∈gf\/H b=none)->
   ∃bC,Rep K H' (.ins cn (dw f d1 es)) v bC/\bC.Nodup/\∀b∈bC,b∈fp\/H b=none:=by
 obtain⟨a,dx,fs,g,rfl,rfl,h1,h2,h3,h4⟩:=r.lO hn;obtain⟨n1,n2⟩:=ado.mp nd;obtain⟨n3,n4⟩:=ado.mp n2;obtain⟨u,gf,c1,c2,c3,c4,c5⟩:=ay.place h3 h4 n4 e;refine⟨a,dx,fs,u,gf,⟨λm=>n1 (aad _ (c4 _ m)),λm=>n3 (c4 _ m)⟩,rfl,h1,c1,c2,c3,λb m=>aad _ (aad _ (c4 b m)),λH' d1 g1 im kp rr m1 fr=>?_⟩;obtain⟨g',e1,e2,e3⟩:=c5 H' d1 g1 im kp rr m1 fr;have ka:=kp a _ (λq=>n1 (aad _ (c4 a q))) h1;have kd:=kp dx _ (λq=>n3 (c4 dx q)) h2;refine⟨a::dx::g',.ins hn ka kd (by rw[O0 e];exact h3) e1,?_,λb m=>?_⟩
 .refine ado.mpr ⟨λm=>?_,ado.mpr ⟨λm=>?_,e2⟩⟩
  .rcases abG.mp m with q|m
   .exact n1 (by rw[q];exact aat)
   .rcases e3 a m with q|q
    .exact n1 (aad _ q)
    .rw[h1] at q;cases q
  .rcases e3 dx m with q|q
   .exact n3 q
   .rw[h2] at q;cases q
 .rcases abG.mp m with q|m
  .exact .inl (by rw[q];exact aat)
  .rcases abG.mp m with q|m
   .exact .inl (by rw[q];exact aad _ aat)
   .exact(e3 b m).imp (λq=>aad _ (aad _ q)) id
theorem Rep.place(r:Rep K H (.ins cn es) v fp)(hn:PySem.W.nsIn K mainGlobals cn=some (some (.ref C)))(nd:fp.Nodup)(e:es.lookup f=some d0):
  ∃a dx fs u gf,v=.ref a/\H a=some (.ins C dx fs)/\fs.lookup f=some u/\Rep K H d0 u gf/\gf.Nodup/\(∀b∈gf,b∈fp)/\∀(H') (d1) (g1),aU H H'->(∀b o,b∉gf->H b=some o->H' b=some o)->Rep K H' d1 u g1->g1.Nodup->(∀b∈g1,b∈gf\/H b=none)->
   ∃bC,Rep K H' (.ins cn (dw f d1 es)) v bC/\bC.Nodup/\∀b∈bC,b∈fp\/H b=none:=
 let⟨a,dx,fs,u,gf,_,h⟩:=r.JS hn nd e;⟨a,dx,fs,u,gf,h⟩
end
theorem Ok.fld{K:PySem.W.Frag}(hC:ClsAt K cn C)(ok:Ok K H0 S z ak ρ σ H)(h:ρ[i]? = some (some (.ins cn es,.own)))
  (hs:σ[i]? = some (some (.ref b))) (hb:H b=some (.ins C dx fs)) (s1:aE H H1) (r1:Rep K H1 d y fd) (nd:fd.Nodup) (fr:∀c∈fd,H c=none):∃z',Ok K H0 S z' ak (bB ρ i (.ins cn (dw f d es))) σ (upd H1 b (.ins C dx (L2.dZ f y fs))):=by
 obtain⟨v,a_,bZ,r0,zz⟩:=ok.sl i _ _ h;rw[hs] at bZ;cases bZ;obtain⟨b',vM,rY,g,e,rfl,h3,h4,h5,h6⟩:=(r0.same s1).lO hC.ns;cases e;rw[s1 _ _ hb] at h3;cases h3;have h3:=s1 _ _ hb;have yD:∀c∈fd,c∉b::dx::g:=λc m n=>by
  obtain⟨⟨o,w⟩,_⟩:=ok.zd c i (zz.2 c n);rw[fr c m] at w;cases w
 have me:b∈b::dx::g:=aat;have md:dx∈b::dx::g:=aad _ aat;have mg:∀{c},c∈g->c∈b::dx::g:=λm=>aad _ (aad _ m)
 obtain⟨n1,n2⟩:=ado.mp zz.1;obtain⟨n3,n4⟩:=ado.mp n2;have ne:∀{c},c∈g->c≠b:=λm q=>n1 (q ▸ aad _ m)
 have im:aU H1 (upd H1 b (.ins C dx (L2.dZ f y fs))):=aU.upd h3 rfl;obtain⟨g',c1,c2,c3⟩:=ay.dZ (r1.frame (λc m=>aG λq:c=b=>yD c m (q ▸ me)) im) h5 (h6.frame (λc m=>aG (ne m)) im);have out:∀{c},c∈g'->c∈g\/c∈fd:=λ{c} m=>c2 c m
 refine ok.put h hs zz ((aU.of s1).trans im) (λc o n e=>by rw[aG λq:c=b=>n (q ▸ me)];exact s1 c o e) (.ins hC.ns bg (by rw[aG λq:dx=b=>n1 (q ▸ aat)];exact h4) (Pg h5) c1) ?_ λc m=>?_
 .refine ado.mpr ⟨λm=>?_,ado.mpr ⟨λm=>(out m).elim n3 λq=>yD dx q md,c3 n4 nd λc m n=>yD c m (mg n)⟩⟩;rcases abG.mp m with q|m
  .exact n1 (q ▸ aat)
  .exact(out m).elim (λq=>n1 (aad _ q)) λq=>yD b q me
 .rcases abG.mp m with q|m
  .exact .inl (q ▸ me)
  .rcases abG.mp m with q|m
   .exact .inl (q ▸ md)
   .exact(out m).imp mg (fr c)
def vN(i:Nat)(cn f:Str)(fv:EF):SF:=λρ=>match fv ρ,ρ[i]? with
 |some (d,t),some (some (.ins c es,.own))=>if c=cn/\es.length<1000/\(jV t||aA d)=true then some (.nx (bB ρ i (.ins c (dw f d es)))) else none
 |_,_=>none
theorem fM(i:Nat)(hC:ClsAt X.K cn C)(na:iS X.K C f)(hv:FP X a fv)(va:VA X i x:=by walk_at "va")(hs:swapsWith a (some (.Attribute (.Name x p1) f pos')) pos.line X.env=pure false:=by rfl):eY X (.Assign [.Attribute (.Name x p1) f pos'] a pos) (vN i cn f fv):=by
 obtain⟨t,p,q⟩:=hv;exists 23,QZ va.pe p hs;unfold vN at e
 split at e
 .rename_i d tg c es h1 h2
  by_cases hc:c=cn/\es.length<1000/\(jV tg||aA d)=true
  .rw[if_pos hc] at e;cases e;obtain⟨rfl,hl,ho⟩:=hc;obtain⟨v,a_,bZ,r0,zz⟩:=ok.sl i _ _ h2;refine q ok h1 λH1 y fd s1 r1 g1=>⟨v,bZ,?_⟩
   obtain⟨b,dx,fs,g,rfl,rfl,h3,h4,h5,h6⟩:=r0.lO hC.ns;have lf:fs.length<1000:=by have:=congrArg List.length h5;rw[List.length_map,List.length_map] at this;lia
   refine⟨b,C,dx,fs,rfl,s1 _ _ h3,hC.cl,na,lf,?_⟩;have g:fd.Nodup/\∀a∈fd,H a=none:=by
    rcases(Bool.or_eq_true _ _).mp ho with h|h
    .cases tg<;>first|exact g1|cases h
    .rw[r1.aA h];exact⟨adw,λc m=>nomatch m⟩
   obtain⟨z',bu⟩:=ok.fld hC h2 bZ h3 s1 r1 g.1 g.2;exact k z' σ _ bu (.refl _ _)
  .rw[acZ hc] at e;cases e
 .cases e
noncomputable def AZ:D->Option D
 |.int i=>some (.int (-i))
 |_=>none
theorem Zy(ha:FP X a fa):FP X (.UnaryOp .USub a pos) (e1 AZ fa):=by
 obtain⟨t,pa,q⟩:=ha;exists 21,acO X5 pa;obtain⟨d1,t1,g1,g2,rfl⟩:=qq e;refine q ok g1 λH1 x f1 s1 r1 _=>?_
 cases r1<;>cases g2
 exact⟨_,rfl,k H1 _ [] s1 (.int _) .nil⟩
theorem Se(hm:X.mg x=some (.int n tk))(hg:GD X x:=by exact⟨rfl,by decide⟩):FP X (.Name x pos) (eC (.int n)):=
 ⟨_,G9 hg.1 hm (v:=.int n) ⟨_,rfl⟩ hg.2,@λ_ _ _ _ _ _ H _ _ _ _ e q=>by cases e;exact q H _ _ (aE.refl H) (.int n) .nil⟩
noncomputable def Df(o o':D->D->Option D)(fa fb fc:EF):EF:=λρ=>match fa ρ,fb ρ with
 |some (d1,_),some (d2,_)=>match o d1 d2 with
  |some (.bl true)=>match fc ρ with
   |some (d3,_)=>(o' d2 d3).map λd=>(d,.own)
   |none=>none
  |some (.bl false)=>some (.bl false,.own)
  |_=>none
 |_,_=>none
theorem Ro(ho:cD X (compareOp op) r)(jt:cD X (compareOp vg) r')(dd:d8 X.K r o)(pH:d8 X.K r' o')(ha:FP X a fa)(hb:FP X b fb)(hc:FP X c fc)(hm:lastMarks [op,vg] [b,c]=false:=by with_unfolding_all rfl):
  FP X (.Compare a [op,vg] [b,c] pos) (Df o o' fa fb fc):=by
 obtain⟨ta,pa,sa⟩:=ha;obtain⟨tb,pb,sb⟩:=hb;obtain⟨tc,pc,sc⟩:=hc;exists 21,S8 ho jt pa pb pc hm;unfold Df at e
 split at e
 .rename_i d1 t1 d2 t2 e1 e2;refine sa ok e1 λH1 x f1 s1 r1 _=>?_
  refine sb (ok.same s1) e2 λH2 y f2 s2 r2 _=>?_
  exists h,o d1 d2,w,e,0;refine dd H2 x y d1 d2 f1 f2 w _ (r1.same s2) r2 h λH3 u s3 r3=>?_
  rw[h] at e;cases w<;>try (cases e;done)
  rename_i b';cases r3;refine⟨b',rfl,?_⟩;cases b' with
  |false=>
   cases e;rw[acZ abR];exact k H3 _ [] ((s1.trans s2).trans s3) (.bl false) .nil
  |true=>
   rw[if_pos rfl];dsimp only at e;exists h3,fc ρ,w3,e,0;obtain⟨d3,t3⟩:=w3;rw[h3] at e;dsimp only at e;cases h4:o' d2 d3 with
   |none=>rw[h4] at e;cases e
   |some d4=>
    rw[h4] at e;cases e;refine sc (((ok.same s1).same s2).same s3) h3 λH4 w' f4 s4 r4 _=>?_
    exact pH H4 y w' d2 d3 f2 f4 d Q ((r2.same s3).same s4) r4 h4 λH5 v5 s5 r5=>k H5 v5 [] ((((s1.trans s2).trans s3).trans s4).trans s5) r5 .nil
 .cases e
theorem Xi(ha:FP X a fa)(hb:FP X b fb)(hc:FP X c fc)(hm:lastMarks [.LtE,.LtE] [b,c]=false:=by with_unfolding_all rfl):FP X (.Compare a [.LtE,.LtE] [b,c] pos) (Df oLe oLe fa fb fc):=Ro G0 G0 oE oE ha hb hc hm
def rJ(neg:Bool):D->D->Option D:=λkd dd=>match dd with
 |.bG es=>(gR kd).map λk=>.bl (if neg=true then !(aW es k).isSome else(aW es k).isSome)
 |_=>none
def HC(neg:Bool):R2:=λy x H Q=>∃a o,x=.ref a/\fP H a y o/\Q (.bl (if neg=true then !o.isSome else o.isSome)) H
theorem Cs{K:PySem.W.Frag}:d8 K (HC neg) (rJ neg):=by
 intro H y x d1 d2 f1 f2 d Q r1 r2 e k;cases r2 with
 | @bG a ah es fp h hk rs=>
  have e:((gR d1).map λk=>D.bl (if neg=true then !(aW es k).isSome else(aW es k).isSome))=some d:=e;exists uF,gR d1,key,e;cases e;have ek:=r1.key uF;subst ek;have ev:(dG ah key).isSome=(aW es key).isSome:=by
   obtain⟨h1,h2⟩:=pB hk rs;cases hv:aW es key with
   |none=>rw[h2 hv];rfl
   |some dv=>obtain⟨v,f,ic,_⟩:=h1 dv hv;rw[ic];rfl
  refine⟨a,dG ah key,rfl,fP.k h,?_⟩;rw[ev];exact k H _ (aE.refl H) (.bl _)
 |_=>cases e
theorem Ur(hu:X.A.units+1<cLine)(ha:FP X a fa)(hb:FP X b fb)(hm:behindInMarks .In b=false:=by rfl):FP X (.Compare a [.In] [b] pos) (e2 (rJ false) fa fb):=
 fp_2 Cs ha hb λta tb pa pb=>Ou (Nv hu pa pb) hm
theorem ZC(hu:X.A.units+1<cLine)(ha:FP X a fa)(hb:FP X b fb)(hm:behindInMarks .In b=false:=by rfl):FT X (.Compare a [.In] [b] pos) (tV (e2 (rJ false) fa fb)):=by
 obtain⟨ta,pa,sa⟩:=ha;obtain⟨tb,pb,sb⟩:=hb;exists 22,X8 (t:=o9 (HC false) ta tb) (Nv hu pa pb) hm;obtain⟨tg,e0⟩:=Fq e;obtain⟨d1,t1,d2,t2,e1,kg,e3,rfl⟩:=pP e0;refine sa ok e1 λH1 x f1 s1 r1 _=>?_
 refine sb (ok.same s1) kg λH2 y f2 s2 r2 _=>?_
 refine Cs H2 x y d1 d2 f1 f2 _ _ (r1.same s2) r2 e3 λH3 v s3 r3=>?_
 cases r3;exact⟨c,rfl,k H3 ((s1.trans s2).trans s3)⟩
def A6(i:Nat)(cn f:Str)(fv:EF):SF:=λρ=>match fv ρ,ρ[i]? with
 | some (d,_),some (some (.ins c es,.own))=>if c=cn then(match es.lookup f with
  |some (.lst ds)=>if(aA d&&aI ds&&decide (ds.length<sizeLine))=true then some (.nx (bB ρ i (.ins c (dw f (.lst (ds++[d])) es)))) else none
  |_=>none) else none
 |_,_=>none
theorem yN(i:Nat)(hC:ClsAt X.K cn C)(na:iS X.K C f)(hv:FP X a fv)(va:VA X i x:=by walk_at "va")(hs:starEach [a] X.env=[(false,eval a X.env)]:=by rfl)
  (hb:attributeBase (.Name x p) f X.env (eval (.Name x p) X.env)=eval (.Name x p) X.env:=by rfl)
  (kR:attributeBase (.Attribute (.Name x p) f p1) "append" X.env (eval (.Attribute (.Name x p) f p1) X.env)=eval (.Attribute (.Name x p) f p1) X.env:=by rfl)
  (nu:((backTo p3 (starEach [a] X.env)).all (λx=>!x.1)&&(backToKw p3 (keywordEach [] X.env)).all (λx=>x.1.isSome)&&decide ([a].length+([]:List Keyword).length+(if([]:List Keyword).isEmpty then 0 else 1)<30))=true:=by rfl)
  (kU:(p2.endLine==p3.line)=true:=by rfl) (jJ:swapsWith (.Call (.Attribute (.Attribute (.Name x p) f p1) "append" p2) [a] [] p3) none pos.line X.env=pure false:=by rfl) :
  eY X (.Expr (.Call (.Attribute (.Attribute (.Name x p) f p1) "append" p2) [a] [] p3) pos) (A6 i cn f fv):=by
 obtain⟨tv,kF,sv⟩:=hv;exists 25,zy (y_ PySem.F.plainAttrs_list PySem.F.slot_list_append PySem.F.type_list_append Dc (sR va.pe hb) (dU kF fC hs) kR nu kU hs rfl) jJ;unfold A6 at e
 split at e
 .rename_i d td c es g1 g2
  by_cases hc:c=cn
  .subst hc;rw[if_pos rfl] at e
   split at e
   .rename_i ds hl;obtain⟨hc,e⟩:=ci e;cases e;obtain⟨c1,c3⟩:=(abm _ _).mp hc;obtain⟨c1,c2⟩:=(abm _ _).mp c1;obtain⟨xv,fp,bZ,r,zz⟩:=ok.sl i _ _ g2;refine⟨xv,bZ,?_⟩;obtain⟨b0,dx,fs,u,gf,rfl,h1,h2,h3,h4,h5,h6⟩:=r.place hC.ns zz.1 hl;refine⟨b0,C,dx,fs,u,rfl,h1,hC.cl,na,h2,?_⟩;obtain⟨l,xs,f0,rfl,hq,_,_⟩:=h3.dW;refine⟨.inl ⟨rfl,_,hq⟩,?_⟩;refine sv ok g1 λH1 v fd s1 rv gv=>?_
    have hn:=rv.aA c1;subst hn;generalize hw:(V.ref l)=w at h3 h6;cases h3 with
    | @lst a' ys _ f' h rs=>
     cases hw;have hn:=rs.aA c2;subst hn;have EX:=s1 _ _ h;refine⟨_,ys,v,rfl,rfl,EX,by rw[<- rs.length];exact abd c3,?_⟩;have im:aU H1 (upd H1 l (.lst (ys++[v]))):=aU.upd EX rfl;obtain⟨bC,k1,k2,k3⟩:=h6 (upd H1 l (.lst (ys++[v]))) (.lst (ds++[d])) [l] ((aU.of s1).trans im) (λc o n e=>by rw[aG λq=>n (by rw[q];exact aat)];exact s1 c o e)
      (.lst bg (ay.append ((rs.same s1).frame (λa m=>nomatch m) im) (ay.cons (rv.frame (λa m=>nomatch m) im) .nil))) h4 (λc m=>.inl m)
     obtain⟨z',bu⟩:=ok.put g2 bZ zz ((aU.of s1).trans im) (λc o n e=>by rw[aG λq=>n (by rw[q];exact h5 l aat)];exact s1 c o e) k1 k2 k3;exact q z' σ _ bu (.refl _ _)
   .cases e
  .rw[acZ hc] at e;cases e
 .cases e
end L2.Ev
namespace L2
open PySem PySem.Spec PyProof.Rows
def YV:V->List V->Hp->VK->Prop:=λx vs H Q=>∃(l:Addr) (ns:List Int) (n:Int),x=.ref l/\vs=[.int n]/\H l=some (.lst (ns.map V.int))/\n∈ns/\Q .aB (upd H l (.lst ((ns.erase n).map V.int)))
noncomputable def SW(n:Int):Value->Bool
 |.int a _=>a==n
 |_=>false
theorem Gs{ns:List Int}(r:aN (ns.map V.int) us)(h:m<us.length)(h2:m<ns.length):∃t,us[m]=.int ns[m] t:=by
 obtain⟨u,hu,ru⟩:=r.get (by rw[adA,acr h2];rfl);rw[acr h] at hu;obtain⟨t,rt⟩:=ru;exact⟨t,by rw[<- rt];exact ads hu⟩
theorem Jt:∀{ns:List Int} {n} {m} (h:m<ns.idxOf n) (h2),ns[m]≠n
 |[],_,_,_,h2=>absurd h2 (Nat.not_lt_zero _)
 |a::ns,n,m,h,h2=>by
  rw[List.idxOf_cons] at h
  by_cases ha:(a==n)=true
  .rw[ha] at h;exact absurd h (Nat.not_lt_zero _)
  .have ha:(a==n)=false:=by simpa using ha
   rw[ha] at h;cases m with
   |zero=>exact adR.mp ha
   |succ m=>exact Jt (Nat.lt_of_succ_lt_succ h) (Nat.lt_of_succ_lt_succ h2)
theorem aar{l:List α}:(l.map f).eraseIdx k=(l.eraseIdx k).map f:=by
 rw[List.eraseIdx_eq_take_drop_succ,List.eraseIdx_eq_take_drop_succ,adQ,List.map_take,List.map_drop]
theorem Y7:Gn X "list.remove" YV:=by
 intro af s σ H x vs v us Q I rx rv h;obtain⟨l,ns,n,rfl,rfl,hH,hn,q⟩:=h;cases rx;obtain⟨u,rfl,ru⟩:=rv.one;obtain⟨t,rfl⟩:=ru;obtain⟨z,ao,nn,r,hl,e⟩:=I.ug hH;have hi:ns.idxOf n<ns.length:=List.idxOf_lt_length_of_mem hn;rw[List.length_map] at hl z;have hj:ns.idxOf n<ao.toArray.size:=by rw[adn];lia
 refine call_meets F.slot_list_remove ⟨_,e,rfl⟩ F.entry_list_remove (F.args_list_remove_2 _ _)
  (MeetsSeq.list_remove l ao.toArray nn (.int n t) (SW n) (λy my=>?_) (ns.idxOf n) hj ?_ (λm hm h2=>?_) (by rw[adn];lia)) ⟨e,?_⟩
 .obtain⟨m,hm,em⟩:=Array.mem_iff_getElem.mp my;rw[adn] at hm;rw[List.getElem_toArray] at em;obtain⟨t',et⟩:=Gs r hm (by lia);rw[<- em,et];exact MeetsSeq.EqGives.int _ _ _ _
 .rw[List.getElem_toArray];obtain⟨t',et⟩:=Gs r (by lia) hi;rw[et];rw[List.getElem_idxOf hi];exact aew n
 .rw[List.getElem_toArray];rw[adn] at hm;obtain⟨t',et⟩:=Gs r hm (by lia);rw[et];exact adR.mpr (Jt h2 (by lia))
 .refine⟨.aB,_,I.BX (its':=ao.eraseIdx (ns.idxOf n)) hH e ?_ ?_ ?_,rfl,q⟩
  .show ao.toArray.eraseIdxIfInBounds _=(ao.eraseIdx _).toArray;rw[List.eraseIdxIfInBounds_toArray]
  .rw[List.erase_eq_eraseIdx_of_idxOf rfl,<- aar];exact r.eraseIdx _
  .rw[List.length_map];have:=List.length_erase_le (a:=n) (l:=ns)
   lia
end L2
namespace L2.Ev
open PySem PySem.Spec PyProof.Rows
noncomputable def zg(env:Env):Str×NameKind->Str×NameKind:=λ(n,k)=>if(k==NameKind.free&&env.scope.kind == .function&&env.kindOf n==some .cell) then(n,NameKind.cell) else(n,k)
theorem G7:∀{names:List (Str×NameKind)} {x},(names.lookup x=some .cell\/names.lookup x=some .free)->(names.map (zg env)).lookup x=some .cell\/(names.map (zg env)).lookup x=some .free
 |[],_,h=>by simp at h
 |(n,k)::r,x,h=>by
  rw[aax];have e:zg env (n,k)=(n,.cell)\/zg env (n,k)=(n,k):=by
   show(if(k==NameKind.free&&env.scope.kind == .function&&env.kindOf n==some .cell)=true then(n,NameKind.cell) else(n,k))=_\/(if(k==NameKind.free&&env.scope.kind == .function&&env.kindOf n==some .cell)=true then(n,NameKind.cell) else(n,k))=_
   split
   .exact .inl rfl
   .exact .inr rfl
  cases hx:x==n with
  |true=>
   simp only[ad0,hx] at h;rcases e with e|e<;>rw[e]<;>simp only[ad0,hx]
   .exact .inl trivial
   .exact h
  |false=>
   simp only[ad0,hx] at h;have ih:=G7 (env:=env) h;rcases e with e|e<;>rw[e]<;>simp only[ad0,hx]<;>exact ih
theorem Yn(h:vV M0 Oe sc M js=true):lB (dg X M0 Oe s3 H3 fp) M js sc:=by
 unfold vV at h;obtain⟨h,a6⟩:=(abm _ _).mp h;obtain⟨h,a5⟩:=(abm _ _).mp h;obtain⟨h,a4⟩:=(abm _ _).mp h;obtain⟨h,a3⟩:=(abm _ _).mp h;obtain⟨a1,a2⟩:=(abm _ _).mp h;refine⟨?_,λy hy=>?_,λy hy hl=>?_,a4,λx hx=>?_,abd a6⟩
 .cases hk:sc.kind<;>rw[hk] at a1<;>first|rfl|exact absurd a1 (by decide)
 .have:=adW.mp a2 y hy;intro z;rw[z] at this;exact absurd this (by decide)
 .have:=adW.mp a3 y hy;rw[hl] at this;have this:=this;cases q:sc.names.lookup y.1 with
  |none=>rw[q] at this;exact absurd this (by decide)
  |some k=>rw[q] at this;cases k<;>first|rfl|exact absurd this (by decide)
 .have:=adW.mp a5 x hx;refine G7 ?_;cases q:Oe.names.lookup x with
  |none=>rw[q] at this;exact absurd this (by decide)
  |some k=>rw[q] at this;cases k<;>first|exact .inl rfl|exact .inr rfl|exact absurd this (by decide)
def vI(i:Nat)(fv:EF):SF:=λρ=>match fv ρ,ρ[i]? with
 |some (.int n,_),some (some (.lst ds,.own))=>match cU ds with
  |some ns=>if n∈ns then some (.nx (bB ρ i (.lst ((ns.erase n).map D.int)))) else none
  |none=>none
 |_,_=>none
theorem Nh:∀{ds} {ns},cU ds=some ns->ds=ns.map D.int
 |[],_,e=>by cases e;rfl
 |d::ds,ns,e=>by
  cases d<;>try (cases e;done)
  rename_i i;unfold cU at e;exists h,cU ds,r,e;cases e;rw[Nh h];rfl
theorem ZJ(i:Nat)(hv:FP X a fv)(va:VA X i x:=by walk_at "va")(hs:starEach [a] X.env=[(false,eval a X.env)]:=by rfl)
  (kR:attributeBase (.Name x p1) "remove" X.env (eval (.Name x p1) X.env)=eval (.Name x p1) X.env:=by rfl)
  (nu:((backTo p3 (starEach [a] X.env)).all (λx=>!x.1)&&(backToKw p3 (keywordEach [] X.env)).all (λx=>x.1.isSome)&&decide ([a].length+([]:List Keyword).length+(if([]:List Keyword).isEmpty then 0 else 1)<30))=true:=by rfl)
  (kU:(p2.endLine==p3.line)=true:=by rfl) (jJ:swapsWith (.Call (.Attribute (.Name x p1) "remove" p2) [a] [] p3) none pos.line X.env=pure false:=by rfl) :
  eY X (.Expr (.Call (.Attribute (.Name x p1) "remove" p2) [a] [] p3) pos) (vI i fv):=by
 obtain⟨tv,kF,sv⟩:=hv;exists 25,zy (y_ PySem.F.plainAttrs_list PySem.F.slot_list_remove PySem.F.type_list_remove Y7 va.pe (dU kF fC hs) kR nu kU hs rfl) jJ;unfold vI at e
 split at e
 .rename_i n td ds g1 g2;exists hI,cU ds,ns,e;dsimp only at e;obtain⟨hc,e⟩:=ci e;cases e;have:=Nh hI;subst this;obtain⟨xv,fp,bZ,r,zz⟩:=ok.sl i _ _ g2;refine⟨xv,bZ,?_⟩;obtain⟨l,xs,f,rfl,hq,_,_⟩:=r.dW;refine⟨.inl ⟨rfl,_,hq⟩,?_⟩;refine sv ok g1 λH1 v fd s1 rv gv=>?_
  cases rv;have r':=r.same s1;have bJ:=ok.same s1;generalize hw:(V.ref l)=w at r' bZ;cases r' with
  | @lst a' ys _ f' h rs=>
   cases hw;have ey:=oi rs hI;subst ey;have hn:=rs.aA (dY ns);subst hn;refine⟨_,ns,n,rfl,rfl,h,hc,?_⟩;have im:aU H1 (upd H1 l (.lst ((ns.erase n).map V.int))):=aU.upd h rfl;exact q z σ _ (Ok.uC bJ g2 bZ zz aat h rfl (.lst bg (pU _))) (.refl _ _)
 .cases e
def zO(fa fh:EF):EF:=λρ=>match fa ρ,fh ρ with
 |some (.lst ds,_),some (.int i,_)=>if aI ds=true then some (.lst (cutD ds none (some i)),.own) else none
 |_,_=>none
theorem ac6(ha:FP X a fa)(hh:FP X b fh):FP X (.Subscript a (.Slice none (some b) none p2) pos) (zO fa fh):=by
 obtain⟨t,p,q⟩:=ha;obtain⟨th,ph,qh⟩:=hh;exists 21,EI EG p GQ (Ef ph);unfold zO at e
 split at e
 .rename_i ds t1 i t2 e1 e2;obtain⟨hi,e⟩:=ci e;cases e;refine q ok e1 λH1 x f1 s1 r1 _=>?_
  refine qh (ok.same s1) e2 λH2 y f2 s2 r2 _=>?_
  cases r2;refine⟨i,rfl,?_⟩;obtain⟨w,xs,f,rfl,hq,rs,_⟩:=(r1.same s2).dW;have hn:=rs.aA hi;subst hn;refine⟨w,xs,rfl,hq,λp hp=>?_⟩;have s3:aE H2 (upd H2 p (.lst (j6 xs none (some i)))):=λb o e=>by rw[aG (cu e hp)];exact e
  have rr:ay X.K H2 (cutD ds none (some i)) (j6 xs none (some i)) []:=by
   unfold cutD j6;rw[rs.length];exact ay.zW _ (ay.yE _ rs)
  refine k _ _ [p] ((s1.trans s2).trans s3) (.lst bg (rr.same s3)) ⟨ado.mpr ⟨(λm=>by cases m),adw⟩,λa m=>?_⟩;cases aaS.mp m;exact s1.free (s2.free hp)
 .cases e
theorem aE.new{H:Hp}{l:Addr}{o:HO}(h:H l=none):aE H (upd H l o):=λb o' e=>by rw[aG (cu e h)];exact e
noncomputable def jE:List D->Option (List Str)
 |[]=>some []
 |.str x::r=>(jE r).map λm=>x::m
 |_::_=>none
theorem uM{K:PySem.W.Frag}:∀{ds} {xs} {fp} {ys},ay K H ds xs fp->jE ds=some ys->xs=ys.map V.str
 |_,_,_,_,.nil,e=>by cases e;rfl
 |_,_,_,ys,.cons (d:=d) h t,e=>by
  cases d with
  |str x=>
   unfold jE at e;cases q:jE _ with
   |none=>rw[q] at e;cases e
   |some m=>
    rw[q] at e;cases e;cases h;rw[uM t q];rfl
  |_=>cases e
theorem I0:∀ys:List Str,jE (ys.map D.str)=some ys
 |[]=>rfl
 |y::ys=>by
  show(jE (ys.map D.str)).map (λm=>y::m)=_;rw[I0 ys];rfl
theorem L0:∀{ys} {us},aN (ys.map V.str) us->StrsAre us ys
 |[],_,r=>by cases r;exact .nil
 |y::ys,_,r=>by
  cases r with
  |cons h t=>
   obtain⟨tk,rfl⟩:=h;exact .cons y tk (L0 t)
noncomputable def j3(k:Str)(ys:List Str):Nat:=ys.countP (· == k)
theorem count_eq(k:Str):∀ys:List Str,countIn (.str k) (ys.map PyData.str)=(j3 k ys:Int)
 |[]=>rfl
 |y::ys=>by
  rw[aax,countIn,count_eq k ys];unfold j3;rw[List.countP_cons];have e:same (.str y) (.str k)=(y==k):=by simp[same]
  rw[e];cases h:(y==k)
  .simp
  .simp;omega
def Tc(K:PySem.W.Frag):V->List V->Hp->VK->Prop:=λx vs H Q=>∃(l:Addr) (ys:List Str) (k:Str),x=.ref l/\vs=[.str k]/\bK K H l (ys.map V.str)/\Q (.int (j3 k ys)) H
theorem W_{X:Cx}:DL X "list.count" (Tc X.K):=by
 intro af s σ H x vs v us Q I rx rv h;obtain⟨l,ys,k,rfl,rfl,hH,q⟩:=h;cases rx;obtain⟨u,rfl,ru⟩:=rv.one;obtain⟨t,rfl⟩:=ru;obtain⟨ao,r,pl,hz⟩:=I.list hH;refine count_list_strs pl.isList (L0 r) ?_;rw[count_eq];exact⟨.int (j3 k ys),H,I.tok _,⟨_,rfl⟩,q⟩
def AM:D->D->Option D
 |.lst ds,.str k=>(jE ds).map λys=>.int (j3 k ys)
 |_,_=>none
theorem Pd(ho:FP X o fo)(ha:FP X a fa)(hs:starEach [a] X.env=[(false,eval a X.env)]:=by rfl)(kR:attributeBase o "count" X.env (eval o X.env)=eval o X.env:=by rfl)
  (nu:((backTo p3 (starEach [a] X.env)).all (λx=>!x.1)&&(backToKw p3 (keywordEach [] X.env)).all (λx=>x.1.isSome)&&decide ([a].length+([]:List Keyword).length+(if([]:List Keyword).isEmpty then 0 else 1)<30))=true:=by rfl)
  (kU:(p2.endLine==p3.line)=true:=by rfl):FP X (.Call (.Attribute o "count" p2) [a] [] p3) (e2 AM fo fa):=by
 obtain⟨to,po,so⟩:=ho;obtain⟨ta,pa,sa⟩:=ha;refine⟨_,y_ PySem.F.plainAttrs_list PySem.F.slot_list_count PySem.F.type_list_count W_ po (dU pa fC hs) kR nu kU hs rfl,@λH0 S z ak ρ σ H Q dd tg ok e k=>?_⟩;obtain⟨d1,t1,d2,t2,e1,kg,e3,rfl⟩:=pP e;unfold AM at e3
 split at e3
 .rename_i ds ky;cases hS:jE ds with
  |none=>rw[hS] at e3;cases e3
  |some ys=>
   rw[hS] at e3;cases e3;refine so ok e1 λH1 v fp s1 r1 _=>?_
   obtain⟨l,xs,f,rfl,hq,rs,_⟩:=r1.dW;have ex:=uM rs hS;subst ex;refine⟨.inl ⟨rfl,_,hq⟩,?_⟩;refine sa (ok.same s1) kg λH2 u l8 s2 r2 _=>?_
   cases r2;obtain⟨l',V0,f',e',ZD,wK,_⟩:=(r1.same s2).dW;cases e';have ex:=uM wK hS;subst ex;exact⟨l,ys,ky,rfl,rfl,ZD,k H2 _ [] (s1.trans s2) (.int _) .nil⟩
 .cases e3
def Af(K:PySem.W.Frag)(t:Addr)(ys:List Str):Prop:=∃(o:Obj) (ao:Array Value) (n:Nat),K.lookup t=some o/\o.cls=.type "tuple"/\o.dict=none/\o.data=.seq ao n/\ao.size<=sizeLine/\aN (ys.map V.str) ao.toList
theorem LY{K:PySem.W.Frag}:∀ys:List Str,ay K H (ys.map D.str) (ys.map V.str) []
 |[]=>.nil
 |y::ys=>.cons (.str y) (LY ys)
theorem SH(hm:X.mg x=some (.ref t))(ht:Af X.K t ys)(hg:GD X x:=by exact⟨rfl,by decide⟩):FP X (.Name x pos) (eC (.tup (ys.map D.str))):=
 ⟨_,G9 hg.1 hm (v:=.ref t) rfl hg.2,@λ_ _ _ _ _ _ H _ _ _ _ e q=>by cases e;exact q H _ _ (aE.refl H) (.tup (.inr ht) (LY ys)) .nil⟩
def uo(neg:Bool):D->D->Option D
 |.str i,.lst ds=>(jE ds).map λns=>.bl (if neg=true then !(ns.any (· == i)) else ns.any (· == i))
 |.str i,.tup ds=>(jE ds).map λns=>.bl (if neg=true then !(ns.any (· == i)) else ns.any (· == i))
 |_,_=>none
theorem Lg(i:Str)(ns:List Str):uu (.str i) (ns.map V.str)=ns.any (· == i):=by
 unfold uu;rw[ae3];rfl
theorem Nk(ns:List Str):(ns.map V.str).all lY=true:=by
 rw[afM];exact adW.mpr λ_ _=>rfl
theorem JM{K:PySem.W.Frag}{neg:Bool}:d8 K (uz K neg) (uo neg):=by
 intro H x y d1 d2 f1 f2 d Q r1 r2 e k;unfold uo at e
 split at e
 .rename_i i ds;cases hS:jE ds with
  |none=>rw[hS] at e;cases e
  |some ys=>
   rw[hS] at e;cases e;cases r1;obtain⟨l,xs,f,rfl,hq,rs,_⟩:=r2.dW;have ex:=uM rs hS;subst ex;refine⟨l,_,rfl,.inl hq,rfl,Nk ys,?_⟩;rw[Lg];exact k H _ (aE.refl H) (.bl _)
 .rename_i i ds;cases hS:jE ds with
  |none=>rw[hS] at e;cases e
  |some ys=>
   rw[hS] at e;cases e;cases r1;cases r2 with
   |tup hq rs=>
    have ex:=uM rs hS;subst ex;refine⟨_,_,rfl,.inr hq,rfl,Nk ys,?_⟩;rw[Lg];exact k H _ (aE.refl H) (.bl _)
 .cases e
theorem aaq(ha:FP X a fa)(hb:FP X b fb)(hm:behindInMarks .In b=false:=by rfl):FT X (.Compare a [.In] [b] pos) (tV (e2 (uo false) fa fb)):=iW ZF JM ha hb hm
theorem aah(ha:FP X a fa)(hb:FP X b fb)(hm:behindInMarks .NotIn b=false:=by rfl):FT X (.Compare a [.NotIn] [b] pos) (tV (e2 (uo true) fa fb)):=iW yL JM ha hb hm
def z_(fa fh:EF):EF:=λρ=>match fa ρ,fh ρ with
 |some (.lst ds,_),some (.int i,_)=>if aI ds=true then some (.lst (cutD ds (some i) none),.own) else none
 |_,_=>none
theorem Ww(ha:FP X a fa)(hh:FP X b fh):FP X (.Subscript a (.Slice (some b) none none p2) pos) (z_ fa fh):=by
 obtain⟨t,p,q⟩:=ha;obtain⟨th,ph,qh⟩:=hh;exists 21,EI EG p (Ef ph) GQ;unfold z_ at e
 split at e
 .rename_i ds t1 i t2 e1 e2;obtain⟨hi,e⟩:=ci e;cases e;refine q ok e1 λH1 x f1 s1 r1 _=>?_
  refine qh (ok.same s1) e2 λH2 y f2 s2 r2 _=>?_
  cases r2;refine⟨i,rfl,?_⟩;obtain⟨w,xs,f,rfl,hq,rs,_⟩:=(r1.same s2).dW;have hn:=rs.aA hi;subst hn;refine⟨w,xs,rfl,hq,λp hp=>?_⟩;have s3:aE H2 (upd H2 p (.lst (j6 xs (some i) none))):=λb o e=>by rw[aG (cu e hp)];exact e
  have rr:ay X.K H2 (cutD ds (some i) none) (j6 xs (some i) none) []:=by
   unfold cutD j6;rw[rs.length];exact ay.zW _ (ay.yE _ rs)
  refine k _ _ [p] ((s1.trans s2).trans s3) (.lst bg (rr.same s3)) ⟨ado.mpr ⟨(λm=>by cases m),adw⟩,λa m=>?_⟩;cases aaS.mp m;exact s1.free (s2.free hp)
 .cases e
def su(X:Cx)(e:Expr)(f:aO->Option (Bool×aO)):Prop:=∃t,PT X e t/\∀{H0} {S} {z} {ak} {ρ} {σ} {H} {Q} {b} {ρ'},
 Ok X.K H0 S z ak ρ σ H->f ρ=some (b,ρ')->(∀z' H',Ok X.K H0 S z' ak ρ' σ H'->Q b H')->t σ H Q
def A1(fx:XF)(fb:EF):aO->Option (Bool×aO):=λρ=>match fx ρ with
 |some (d1,ρ')=>match fb ρ' with
  |some (d2,_)=>match iG d1 d2 with
   |some (.bl b)=>some (b,ρ')
   |_=>none
  |none=>none
 |none=>none
noncomputable def Ak(c:aO->Option (Bool×aO))(f g:SF):SF:=λρ=>match c ρ with
 |some (true,ρ')=>f ρ'
 |some (false,ρ')=>g ρ'
 |none=>none
theorem Mg(ha:FZ X a fx)(hb:FP X b fb):su X (.Compare a [.NotEq] [b] pos) (A1 fx fb):=by
 obtain⟨ta,pa,sa⟩:=ha;obtain⟨tb,pb,sb⟩:=hb;refine⟨_,Fb NC pa pb (g8 _),@λH0 S z ak ρ σ H Q c ρ' ok e k=>?_⟩;unfold A1 at e;cases h1:fx ρ with
 |none=>rw[h1] at e;cases e
 |some w=>
  obtain⟨d1,aF⟩:=w;rw[h1] at e;dsimp only at e;cases h2:fb aF with
  |none=>rw[h2] at e;cases e
  |some w2=>
   obtain⟨d2,t2⟩:=w2;rw[h2] at e;dsimp only at e
   split at e
   .rename_i bb h3;cases e;refine sa ok h1 λz1 H1 x bJ r1=>?_
    refine sb bJ h2 λH2 y f2 s2 r2 _=>?_
    refine L_ H2 x y d1 d2 [] f2 _ _ (r1.same s2) r2 h3 λH3 v s3 r3=>?_
    cases r3;exact⟨_,rfl,k z1 H3 ((bJ.same s2).same s3)⟩
   .cases e
theorem Ol(hc:su X c tc)(ha:FS X s1 f)(hb:FS X s2 g):eY X (.If c s1 s2 pos) (Ak tc f g):=by
 obtain⟨t,p,q⟩:=hc;obtain⟨t1,p1,q1⟩:=ha;obtain⟨t2,p2,q2⟩:=hb;exists 23,xN p p1 p2;unfold Ak at e;cases h:tc ρ with
 |none=>rw[h] at e;cases e
 |some w=>
  obtain⟨y,aF⟩:=w;rw[h] at e;refine q ok h λz1 H1 bJ=>?_
  cases y with
  |true=>rw[if_pos rfl];exact q1 bJ e k
  |false=>rw[acZ abR];exact q2 bJ e k
section
variable(P:Program)(w:World)(K:PySem.W.Frag)(mg:Str->Option Value)(base:Heap)(CX:qO)(k:Nat)
def FN(x:Str)(ps:List Str)(sp:Sp)(cm:Bool:=true):Prop:=∃a fd,bP P w K mg base CX k a fd ps sp cm/\mg x=some (.ref a)/\PySem.W.keepIn K (.ref a)=true/\Binds K fd ps []
def MT(C:Addr)(x:Str)(ps:List Str)(sp:Sp)(cm:Bool:=true):Prop:=∃a fd,bP P w K mg base CX k a fd ps sp cm/\Binds K fd ps []/\ly K C x a
def MI(C:Addr)(ps:List Str)(sp:Sp)(cm:Bool:=true):Prop:=∃a fd,bP P w K mg base CX k a fd ps sp cm/\Binds K fd ps []/\Mk K C a
end
def GL(K:PySem.W.Frag)(x q:Str)(st:Stmt)(f:Addr):Prop:=∃oc od kV dc pm an cd ct sl,K.lookup f=some ⟨oc,od,.func (PySem.W.fnOf x q (kc st) (g7 st) (cT st) .none kV dc pm an cd ct),sl⟩/\PySem.W.codeIn K cd q=true/\PySem.W.keepIn K (.ref f)=true
def Az(K:PySem.W.Frag)(x:Str)(st:Stmt):Prop:=∃f,PySem.W.nsIn K mainGlobals x=some (some (.ref f))/\GL K x x st f
def GM(K:PySem.W.Frag)(C:Addr)(x q:Str)(st:Stmt):Prop:=∃f,PySem.W.findIn K (.ref C) x=some (some (.ref f))/\PySem.W.isFn K (.ref f)=true/\GL K x q st f
abbrev BA(x q:Str)(st:Stmt)(ps:List Str):Prop:=∀(kV doc pm) (an) (aT ct) (us),us.length=ps.length->bindArgs (PySem.W.fnOf x q (kc st) (g7 st) (cT st) .none kV doc pm an aT ct) ⟨us,[]⟩=pure (ps.zip us)
theorem zI{K:PySem.W.Frag}{x q:Str}{st:Stmt}{f:Addr}(l:GL K x q st f):PySem.W.keepIn K (.ref f)=true/\∃fd,iy K x q st f fd:=by
 obtain⟨oc,od,kV,dc,pm,an,cd,ct,sl,h1,h2,h3⟩:=l;exact⟨h3,_,II h1 h2 h3⟩
section
variable{K:PySem.W.Frag}{st:Stmt}
theorem Sb(X:K.In h)(G:h.Ns mainGlobals mg)(l:Az K x st)(ok:∀{f} {fd},iy K x x st f fd->bP P w K mg base CX k f fd ps sp cm)(b:BA x x st ps):FN P w K mg base CX k x ps sp cm:=by
 obtain⟨f,a,l⟩:=l;obtain⟨kp,fd,F⟩:=zI l;exact⟨f,fd,ok F,PySem.W.mg_of X G a,kp,F.binds b⟩
theorem RJ(l:GM K C x q st)(ok:∀{f} {fd},iy K x q st f fd->bP P w K mg base CX k f fd ps sp cm)(b:BA x q st ps):MT P w K mg base CX k C x ps sp cm:=by
 obtain⟨f,a,i,l⟩:=l;obtain⟨kp,fd,F⟩:=zI l;exact⟨f,fd,ok F,F.binds b,⟨a,i,kp⟩⟩
theorem V3{sp:Heap->Sp}(X:K.In h)(G:h.Ns mainGlobals mg)(Dz:mg "law"=some (.ref fa))(l:Az K "law" st)
  (b:∀(kV doc pm) (an) (aT ct) (s) (v),BindsTo s (PySem.W.fnOf "law" "law" (kc st) (g7 st) (cT st) .none kV doc pm an aT ct) ⟨[v],[]⟩ [(p,v)])
  (ok:∀base:Heap,K.In base->base.Ns mainGlobals mg->∀{f} {fd},iy K "law" "law" st f fd->bP P w K mg base CX k f fd [p] (sp base) cm) :
  ∃fd:FuncData,(∀(s) (v),BindsTo s fd ⟨[v],[]⟩ [(p,v)])/\∀base:Heap,K.In base->base.Ns mainGlobals mg->bP P w K mg base CX k fa fd [p] (sp base) cm:=by
 obtain⟨f,a,oc,od,kV,dc,pm,an,cd,ct,sl,h1,h2,h3⟩:=l;have e:=Dz.symm.trans (PySem.W.mg_of X G a);cases e;exact⟨_,b kV dc pm an cd ct,λbase K1 G1=>ok base K1 G1 (II h1 h2 h3)⟩
end
theorem mW(h1:g d t ρ=some aF)(h2:f aF=some (.nx aQ)):b_ g t f (d::ds) ρ=b_ g t f ds aQ:=by
 conv=>lhs;unfold b_
 rw[h1];dsimp only;rw[h2]
theorem O_(h1:g d t ρ=some aF)(h2:f aF=some (.rt r)):b_ g t f (d::ds) ρ=some (.rt r):=by
 unfold b_;rw[h1];dsimp only;rw[h2]
end L2.Ev
namespace L2
open PySem PySem.Spec PyProof.Rows
namespace Ev
noncomputable def uB(ft:TF)(fz:aO->Option (Bool×aO)):aO->Option (Bool×aO):=λρ=>match ft ρ with
 |some true=>fz ρ
 |some false=>some (false,ρ)
 |none=>none
theorem acj(ha:FT X a ft)(hb:su X b fz):su X (.BoolOp .And [a,b] pos) (uB ft fz):=by
 obtain⟨t,p,q⟩:=ha;obtain⟨t',p',q'⟩:=hb;refine⟨_,(G5 p (LS p')).pt,@λH0 S z ak ρ σ H Q c ρ' ok e k=>?_⟩;unfold uB at e
 split at e
 .rename_i h1;refine q ok h1 λH1 s1=>?_
  rw[if_pos rfl];exact q' (ok.same s1) e k
 .rename_i h1;cases e;refine q ok h1 λH1 s1=>?_
  rw[acZ abR];exact k z H1 (ok.same s1)
 .cases e
end Ev
end L2
namespace L2.Ev
open PySem PySem.Spec PyProof.Rows
section
variable{X:Cx}{elts:List Expr}{tp:Pos}{a b:Expr}{fa fb:EF}{p pos:Pos}
def yU(T:String):D->Option D
 |.tup _=>some (.bl ("tuple" == T))
 |.gH _=>some (.bl ("list" == T))
 |d=>mE T d
def Lv(T:String):Prop:=∀(K:PySem.W.Frag) (t:String),t∈["tuple","list"]->PySem.W.kitOne K (.type t) (.type T)=some (t==T)
theorem xY:Lv "tuple":=by
 intro K t m;simp only[abG,adX,afk] at m;rcases m with rfl|rfl<;>rfl
theorem Ux(T:String):fN X (.builtin "isinstance") (λxs H Q=>(∃x t b,xs=[x,V.ty T]/\iV X.K H x t/\PySem.W.kitOne X.K t (.type T)=some b/\Q (.bl b) H)\/
  (∃a ys b,xs=[.ref a,V.ty T]/\bN X.K H a ys/\PySem.W.kitOne X.K (.type "tuple") (.type T)=some b/\Q (.bl b) H)\/(∃a ys b,xs=[.ref a,V.ty T]/\bK X.K H a ys/\PySem.W.kitOne X.K (.type "list") (.type T)=some b/\Q (.bl b) H)):=by
 intro af s σ H xs us Q I r h;rcases h with h|⟨a,ys,bb,rfl,hq,e,q⟩|⟨a,ys,bb,rfl,hq,e,q⟩
 .exact OG T af s σ H xs us Q I r h
 .obtain⟨u,w',rfl,ru,d9⟩:=vals2 r;cases d9;cases(show u=Value.ref a from ru);obtain⟨ao,_,⟨o,h1,h2,_⟩,_⟩:=I.tuple hq;exact PySem.W.kia_one PySem.W.kitx_tuple I.dz ⟨o,h1,h2⟩ e (λz=>nomatch z) λtk=>⟨.bl bb,H,I.tok tk,rfl,q⟩
 .obtain⟨u,w',rfl,ru,d9⟩:=vals2 r;cases d9;cases(show u=Value.ref a from ru);obtain⟨ao,_,⟨o,n,h1,h2,_⟩,_⟩:=I.list hq;exact PySem.W.kia_one PySem.W.kitx_list I.dz ⟨o,h1,h2⟩ e (λz=>nomatch z) λtk=>⟨.bl bb,H,I.tok tk,rfl,q⟩
theorem yk{T:String}{x:Str}(hT:qQ T)(NG:Lv T)(hm:X.mg "isinstance"=none)(Ca:X.mg x=none)(ha:FP X a fa)(CT:bootBuiltins x=some (.type T):=by decide +kernel)(hg:Gl X "isinstance":=by rfl)(Ds:Gl X x:=by rfl)(hn:x≠"__name__":=by decide)(jL:(x==("__debug__":Str))=false:=by decide)
  (hs:starEach [a,.Name x p2] X.env=[(false,eval a X.env),(false,eval (.Name x p2) X.env)]:=by rfl) (hpl:(backTo pos (starEach [.Name x p2] X.env)).any (·.1)=false:=by rfl):FP X (.Call (.Name "isinstance" p) [a,.Name x p2] [] pos) (e1 (yU T) fa):=by
 obtain⟨ta,pa,sa⟩:=ha;have cg:starEach [.Name x p2] X.env=[(false,eval (.Name x p2) X.env)]:=rfl;exists 21,rP (Ux T) hg hm (show bootBuiltins "isinstance"=some (.builtin "isinstance") by decide +kernel) (dU pa (dU (MU (v:=.ty T) Ds Ca CT rfl hn jL) fC) (by rw[hs,cg])) (he:=by rw[hs,cg]) (hpl:=hpl);obtain⟨d1,t1,h1,h2,rfl⟩:=qq e;refine sa ok h1 λH1 v fp s1 r1 _=>?_
 unfold yU at h2
 split at h2
 .cases h2;obtain⟨w,xs,rfl,hq,_⟩:=r1.gJ;exact .inr (.inl ⟨w,xs,_,rfl,hq,NG X.K "tuple" (by decide),k H1 _ [] s1 (.bl _) .nil⟩)
 .cases h2;obtain⟨w,xs,rfl,hq,_⟩:=r1.pV;exact .inr (.inr ⟨w,xs,_,rfl,hq,NG X.K "list" (by decide),k H1 _ [] s1 (.bl _) .nil⟩)
 .unfold mE at h2;exists ht,A3 d1,t,h2;cases h2;obtain⟨ty,mem⟩:=r1.ty ht;exact .inl ⟨v,_,_,rfl,ty,hT X.K t mem,k H1 _ [] s1 (.bl _) .nil⟩
end
end L2.Ev
namespace L2.Ev
open PySem PySem.W
theorem XD(X:K.In h)(G:h.Ns mainGlobals mg)(l:Az K x st)(ok:∀{f} {fd},mg x=some (.ref f)->keepIn K (.ref f)=true->Binds K fd ps []->iy K x x st f fd->bP P w K mg base CX k f fd ps sp cm)(b:BA x x st ps):FN P w K mg base CX k x ps sp cm:=by
 obtain⟨f,a,l⟩:=l;obtain⟨kp,fd,F⟩:=zI l;exact⟨f,fd,ok (mg_of X G a) kp (F.binds b) F,mg_of X G a,kp,F.binds b⟩
end L2.Ev
namespace L2
open PySem PySem.Spec PyProof.Rows
section
variable{X:Cx}
theorem aaL:fN X (.type "int") (λxs H Q=>∃b,xs=[V.bl b]/\Q (.int (if b then 1 else 0)) H):=by
 intro af s σ H xs us Q I r h;obtain⟨b,rfl,q⟩:=h;obtain⟨u,rfl,ru⟩:=vals1 r;cases ru;exact call_int_bool ⟨.int _,H,I.tok _,⟨_,rfl⟩,q⟩
theorem Im{i:Int}:∀{n:Nat}{l:List Value}{k:Nat},l.length=n->(∀(m:Nat) (v:Value),l[m]? = some v->∃t,v=.int (i+((k+m:Nat):Int)) t)->aN ((List.range' k n).map λn:Nat=>V.int (i+n)) l
 |0,[],_,_,_=>.nil
 |n+1,v::l,k,h,hv=>by
  rw[List.range'_succ,aax];refine .cons ?_ (Im (k:=k+1) (by simpa using h) λm w e=>?_)
  .obtain⟨t,e⟩:=hv 0 v rfl;exact⟨t,by rw[e];simp⟩
  .obtain⟨t,e⟩:=hv (m+1) w (by simpa using e);exact⟨t,by rw[e];congr 2;lia⟩
def acE(ta:TA):TE:=λσ H Q=>ta σ H λvs H1=>∃i j:Int,vs=[.int i,.int j]/\∀l,H1 l=none->Q (.ref l) (upd H1 l (.bf i j))
theorem X4{a b:Expr}{ta:TA}{p2 p3:Pos}(jk:X.mg "range"=none)(ha:PA X [a,b] ta)(qp:Gl X "range":=by rfl)
  (hs:starEach [a,b] X.env=[(false,eval a X.env),(false,eval b X.env)]:=by rfl) (cg:starEach [b] X.env=[(false,eval b X.env)]:=by rfl):PE X (.Call (.Name "range" p2) [a,b] [] p3) (acE ta):=by
 intro af s σ H Q I h;refine Call_ (kG I qp jk boot_range (ad6 (zF (ha p3 af s σ H _ I h) λus s1 vs H1 I1 r1 q1=>?_) (by rw[hs,cg]) (by rw[cg];rfl)));obtain⟨i,j,e,q⟩:=q1;subst e;cases r1 with
 |cons r rr=>
  cases rr with
  |cons r' rr=>
   cases rr;obtain⟨t,rfl⟩:=r;obtain⟨t',rfl⟩:=r';refine call_range_2 ?_;exact⟨.ref s1.heap.objs.size,upd H1 s1.heap.objs.size (.bf i j),I1.laid (λb u e=>aaf _ e) (acy _) ⟨_,_,_,ac9 _ rfl⟩,rfl,q _ (I1.aD.fresh (acy _))⟩
theorem Vg(hc:X.calm=true):fN X (.type "list") (λxs H Q=>∃p i j,xs=[V.ref p]/\H p=some (.bf i j)/\(-(2 ^ 20)<=i/\i<2 ^ 20/\-(2 ^ 20)<=j/\j<2 ^ 20)/\(j-i).toNat<=sizeLine/\∀l,H l=none->Q (.ref l) (upd H l (.lst ((List.range (j-i).toNat).map λn:Nat=>V.int (i+n))))):=by
 intro af s σ H xs us Q I r h;obtain⟨p,i,j,rfl,hp,hb,hz,q⟩:=h;obtain⟨u,rfl,ru⟩:=vals1 r;cases ru;obtain⟨t,u',v,hr⟩:=(show ∃t u v,s.heap.get? p=some { cls:=.type "range",data:=.fields #[.int i t,.int j u,.int 1 v] } from I.aD p _ hp)
 have e2:Builtin.Range.rangeSize i j 1=((j-i).toNat:Int):=by rw[rangeSize_one];split<;>lia
 refine call_list_range (n:=(j-i).toNat) (I.ok.hd hc) hr (small_one (by lia) (by lia) (by lia) (by lia)) e2 (by lia) λh' tk acc c' kp he nq=>?_
 obtain⟨az,av⟩:=nq;have vv:aN ((List.range (j-i).toNat).map λn:Nat=>V.int (i+n)) acc.toList:=by
  rw[List.range_eq_range'];refine Im (k:=0) (by simpa using az) λm w e=>?_
  obtain⟨t,e⟩:=av m w (by simpa using e);exact⟨t,by rw[e];simp⟩
 exact⟨.ref s.heap.objs.size,_,I.laid (t':=tk) kp (acy _) (show cP X.prog X.w _ h' _ (.lst _) from⟨by rw[List.length_map,ae1];exact hz,acc.toList,c',vv,by simpa using he⟩),rfl,q _ (I.aD.fresh (acy _))⟩
end
end L2
namespace L2.Ev
open PySem PySem.Spec PyProof.Rows
section
variable{X:Cx}{a b e:Expr}{fa fb fv:EF}{p p1 p2 p3 pos:Pos}
noncomputable def yG(g:AF):EF:=λρ=>match g ρ with
 |some [(.int i,_),(.int j,_)]=>if -(2 ^ 20)<=i/\i<2 ^ 20/\-(2 ^ 20)<=j/\j<2 ^ 20 then some (.lst ((List.range (j-i).toNat).map λn:Nat=>D.int (i+n)),.own) else none
 |_=>none
theorem N5{K:PySem.W.Frag}{H:Hp}{i:Int}:∀(l:List Nat),ay K H (l.map λn:Nat=>D.int (i+n)) (l.map λn:Nat=>V.int (i+n)) []
 |[]=>.nil
 |n::l=>by rw[aax,aax];exact ay.cons (f1:=[]) (f2:=[]) (.int _) (N5 l)
theorem XO{g:AF}(hc:X.calm=true)(hm:X.mg "list"=none)(jk:X.mg "range"=none)(ha:FA X [a,b] g)(hg:Gl X "list":=by rfl)(qp:Gl X "range":=by rfl)
  (hs:starEach [a,b] X.env=[(false,eval a X.env),(false,eval b X.env)]:=by rfl) (cg:starEach [b] X.env=[(false,eval b X.env)]:=by rfl)
  (vA:starEach [.Call (.Name "range" p2) [a,b] [] p3] X.env=[(false,eval (.Call (.Name "range" p2) [a,b] [] p3) X.env)]:=by rfl) :
  FP X (.Call (.Name "list" p) [.Call (.Name "range" p2) [a,b] [] p3] [] pos) (yG g):=by
 obtain⟨ta,pa,_,qa⟩:=ha;exists 21,vU (Vg hc) hg hm (by rfl) (dU (X4 jk pa qp hs cg) fC vA) (he:=vA) (hpl:=rfl);unfold yG at e
 split at e
 .rename_i i t1 j t2 h1
  by_cases hb:-(2 ^ 20)<=i/\i<2 ^ 20/\-(2 ^ 20)<=j/\j<2 ^ 20
  .rw[if_pos hb] at e;cases e;refine qa ok h1 λH1 vs fp s1 r1 _=>?_
   cases r1 with
   |cons r r1=>
    cases r1 with
    |cons r' r1=>
     cases r1;cases r;cases r';refine⟨i,j,rfl,λr hr=>⟨r,i,j,rfl,bg,hb,?_,λl hl=>?_⟩⟩
     .unfold sizeLine;lia
     .have s2:=aE.new (o:=.bf i j) hr;have s3:=aE.new (o:=.lst ((List.range (j-i).toNat).map λn:Nat=>V.int (i+n))) hl;refine k _ _ [l] ((s1.trans s2).trans s3) (.lst bg (N5 _)) ⟨ado.mpr ⟨(λm=>by cases m),adw⟩,λc m=>?_⟩;cases aaS.mp m;exact(s1.trans s2).free hl
  .rw[acZ hb] at e;cases e
 .cases e
noncomputable def Gj:D->Option D
 |.bl b=>some (.int (if b then 1 else 0))
 |_=>none
theorem V7{K:PySem.W.Frag}:oj K (λxs H Q=>∃b,xs=[V.bl b]/\Q (.int (if b then 1 else 0)) H) Gj:=by
 intro H x d1 f1 d Q r e k;cases d1<;>try (cases e;done)
 cases e;cases r;exact⟨_,rfl,k H _ [] (aE.refl H) (.int _) adw λa m=>nomatch m⟩
theorem Zt(hm:X.mg "int"=none)(ha:FP X a fa)(hg:Gl X "int":=by rfl)(hs:starEach [a] X.env=[(false,eval a X.env)]:=by rfl):FP X (.Call (.Name "int" p) [a] [] pos) (e1 Gj fa):=
 fp_1 V7 ha λta pa=>vU aaL hg hm (show bootBuiltins "int"=some (.type "int") by decide +kernel) (dU pa fC hs) (he:=hs) (hpl:=rfl)
end
end L2.Ev
namespace L2.Ev
open PySem
theorem sq(h:sf ρ=some (.nx ρ'))(h2:sg ρ'=r):bH sf sg ρ=r:=by rw[iZ,h,nY,h2]
theorem jO(h:f ρ=some (d,t))(h2:sg (h_ ρ i d t)=r):bH (dO i f) sg ρ=r:=sq (by unfold dO;rw[h]) h2
theorem mz(h:tf ρ=some b)(h2:bH (if b=true then sf else d7) sg ρ=r):bH (c9 tf sf d7) sg ρ=r:=by
 have e:c9 tf sf d7 ρ=(if b=true then sf else d7) ρ:=by rw[iC,h];cases b<;>rfl
 rw[iZ,e,<- iZ,h2]
theorem fH(h:tf ρ=some false)(h2:sg ρ=r):bH (c9 tf sf d7) sg ρ=r:=sq (by rw[iC,h];rfl) h2
theorem bY(h:f ρ=some (d,t))(h2:op d=some d1):e1 op f ρ=some (d1,.own):=by rw[xy,h,Kg,h2];rfl
theorem aP(h:f ρ=some (d1,t1))(h2:g ρ=some (d2,t2))(h3:op d1 d2=some d):e2 op f g ρ=some (d,.own):=by rw[jH,h,h2,xE,h3];rfl
theorem c_(h:g ρ=some ps)(h2:F (ps.map (·.1))=some d):cC F g ρ=some (d,.own):=by rw[s_call,h,K9,h2];rfl
theorem bQ(h:f ρ=some (.bl b,t)):tV f ρ=some b:=by rw[v8,h];rfl
theorem kN(h:tf ρ=some b):kC tf ρ=some (!b):=by rw[Ei,h];rfl
open PySem PySem.Spec PyProof.Rows
def sJ(i:Nat)(cn f:Str)(fk fv:EF):SF:=λρ=>match fv ρ,ρ[i]?,fk ρ with
 | some (d,_),some (some (.ins c es,.own)),some (kd,_)=>if c=cn then(match es.lookup f,gR kd with
  |some (.bG ah),some k=>if(aA d&&aI (ah.map (·.2))&&decide (ah.length<sizeLine))=true then some (.nx (bB ρ i (.ins c (dw f (.bG (putD ah k d)) es)))) else none
  |_,_=>none) else none
 |_,_,_=>none
theorem EL(i:Nat)(hu:X.A.units+1<cLine)(hC:ClsAt X.K cn C)(na:iS X.K C f)(hk:FP X k fk)(hv:FP X v fv)(va:VA X i x:=by walk_at "va")
  (hb:attributeBase (.Name x p) f X.env (eval (.Name x p) X.env)=eval (.Name x p) X.env:=by rfl)
  (hs:swapsWith v (some (.Subscript (.Attribute (.Name x p) f p1) k pos')) pos.line X.env=pure false:=by rfl) :
  eY X (.Assign [.Subscript (.Attribute (.Name x p) f p1) k pos'] v pos) (sJ i cn f fk fv):=by
 obtain⟨tk,pk,sk⟩:=hk;obtain⟨tv,kF,sv⟩:=hv;exists 25,yK hu (sR va.pe hb) pk kF hs;unfold sJ at e
 split at e
 .rename_i d td c es kd Km g1 g2 g3
  by_cases hc:c=cn
  .subst hc;rw[if_pos rfl] at e
   split at e
   .rename_i ah key hl uw
    by_cases hc:(aA d&&aI (ah.map (·.2))&&decide (ah.length<sizeLine))=true
    .rw[if_pos hc] at e;cases e;obtain⟨c1,c3⟩:=(abm _ _).mp hc;obtain⟨c1,c2⟩:=(abm _ _).mp c1;refine sv ok g1 λH1 v fd s1 rv gv=>?_
     have hn:=rv.aA c1;subst hn;obtain⟨xv,fp,bZ,r,zz⟩:=(ok.same s1).sl i _ _ g2;refine⟨xv,bZ,?_⟩;obtain⟨b0,dx,fs,u,gf,rfl,h1,h2,h3,h4,h5,h6⟩:=r.place hC.ns zz.1 hl;refine⟨b0,C,dx,fs,u,rfl,h1,hC.cl,na,h2,?_⟩;refine sk (ok.same s1) g3 λH2 y KP s2 rk _=>?_
     have ek:=rk.key uw;subst ek;have r':=h3.same s2;generalize hw:u=w at r' h6;cases r' with
     | @bG l ks _ f' h eN rs=>
      have hn:=rs.aA c2;subst hn;have hlen:ks.length=ah.length:=by have:=congrArg List.length eN;simpa using this.symm
      refine⟨l,_,rfl,m5.k h (by rw[hlen];exact abd c3),?_⟩;have im:aU H2 (upd H2 l (.dK (putK ks key v))):=aU.upd h rfl;have kp:∀(c) o,c∉[l]->H1 c=some o->upd H2 l (.dK (putK ks key v)) c=some o:=λc o n e=>by rw[aG λq=>n (by rw[q];exact aat)];exact s2 c o e
      obtain⟨bC,k1,k2,k3⟩:=h6 (upd H2 l (.dK (putK ks key v))) (.bG (putD ah key d)) [l] ((aU.of s2).trans im) kp
       (.bG bg (xw eN) (xS eN (rs.frame (λa m=>nomatch m) im) ((rv.same s2).frame (λa m=>nomatch m) im))) h4 (λc m=>.inl m)
      obtain⟨z',bu⟩:=(ok.same s1).put g2 bZ zz ((aU.of s2).trans im) (λc o n e=>kp c o (λm=>n (h5 c m)) e) k1 k2 k3;exact q z' σ _ bu (.refl _ _)
    .rw[acZ hc] at e;cases e
   .cases e
  .rw[acZ hc] at e;cases e
 .cases e
def Aa(i:Nat)(cn f:Str)(fv:EF):SF:=λρ=>match fv ρ,ρ[i]? with
 | some (.int j,_),some (some (.ins c es,.own))=>if c=cn/\es.length < 1000 then(match es.lookup f with
  |some (.int k)=>some (.nx (bB ρ i (.ins c (dw f (.int (k+j)) es))))
  |_=>none) else none
 |_,_=>none
theorem aab(i:Nat)(hC:ClsAt X.K cn C)(na:iS X.K C f)(hv:FP X a fv)(va:VA X i x:=by walk_at "va"):eY X (.AugAssign (.Attribute (.Name x p1) f pos') .Add a pos) (Aa i cn f fv):=by
 obtain⟨t,p,q⟩:=hv;exists 23,YK va.pe p Vx;unfold Aa at e
 split at e
 .rename_i j tg c es h1 h2
  by_cases hc:c=cn/\es.length<1000
  .rw[if_pos hc] at e;obtain⟨rfl,hl⟩:=hc
   split at e
   .rename_i m hf;cases e;obtain⟨v,a_,bZ,r0,zz⟩:=ok.sl i _ _ h2;refine⟨v,bZ,?_⟩;obtain⟨b,dx,fs,u,gf,rfl,h3,e2,e3,_⟩:=r0.place hC.ns zz.1 hf;obtain⟨b',vM,rY,g,ev,rfl,yq,h4,h5,h6⟩:=r0.lO hC.ns;cases ev;rw[h3] at yq;cases yq;cases e3;have lf:fs.length<1000:=by have:=congrArg List.length h5;rw[List.length_map,List.length_map] at this;omega
    refine⟨b,C,dx,fs,_,rfl,h3,hC.cl,na,e2,q ok h1 λH1 y fd s1 r1 g1=>?_⟩;cases r1;refine⟨m,j,rfl,rfl,dx,fs,s1 _ _ h3,lf,?_⟩;obtain⟨z',bu⟩:=ok.fld hC h2 bZ h3 s1 (.int (m+j)) adw λc m=>nomatch m
    exact k z' σ _ bu (.refl _ _)
   .cases e
  .rw[acZ hc] at e;cases e
 .cases e
noncomputable def rj(f:EF):TF:=λρ=>match f ρ with
 |some (.lst ds,_)=>some (!ds.isEmpty)
 |_=>none
theorem Ll(h:FP X a f)(he:∀whole,isTrue a X.env whole=(do let v <- whole;standAt a.pos;holding [v] (truthy v)):=by intro _;rfl):FT X a (rj f):=by
 obtain⟨t,p,q⟩:=h;refine⟨_,Ti p he,@λH0 S z ak ρ σ H Q b ok e k=>?_⟩;unfold rj at e
 split at e
 .rename_i ds tg e1;cases e;refine q ok e1 λH1 v fp s1 r1 _=>?_
  obtain⟨w,xs,f,rfl,hq,rs,_⟩:=r1.dW;have he:(!ds.isEmpty)=!xs.isEmpty:=by cases rs<;>rfl
  exact⟨_,.inl ⟨xs,hq,rfl⟩,he ▸ k H1 s1⟩
 .cases e
theorem QK(hu:X.A.units+1<cLine)(ha:FP X a fa)(hb:FP X b fb)(hm:behindInMarks .NotIn b=false:=by rfl):FP X (.Compare a [.NotIn] [b] pos) (e2 (rJ true) fa fb):=
 fp_2 Cs ha hb λta tb pa pb=>Ou (Xf hu pa pb) hm
end L2.Ev
namespace L2
open PySem PySem.Spec PyProof.Rows
theorem HJ(I:Inv X af σ H s)(h:bN X.K H a (ks.map kV)):(tupleKind (eZ X.prog X.w)).is s.heap ks a:=by
 obtain⟨ao,r,⟨o,h1,h2,_,n,h3⟩,_⟩:=I.N6 h;exact⟨o,ao.toArray,n,h1,h2,h3,by simpa using DR r⟩
def HL(K:PySem.W.Frag)(neg:Bool):R2:=λx y H Q=>∃b a k ah,x=.ref b/\y=.ref a/\bN K H b (List.map kV k)/\H a=some (.dT ah)/\Q (.bl (if neg=true then !(dG ah k).isSome else(dG ah k).isSome)) H
theorem Qh(hu:X.A.units+1<cLine):cD X (compareOp .In) (HL X.K false):=by
 rintro af s σ H x y v u Q I rx ry ⟨b,a,k,ah,rfl,rfl,hq,e,q⟩
 obtain rfl:v=Value.ref b:=rx;obtain rfl:u=Value.ref a:=ry;obtain⟨z,hd,xs,rel,dd⟩:=lZ I.aD (.inl e);refine wpAny_in_heap (aer hu) (HJ I hq) hd dd ?_;have w:=(rel.val k).tK;rw[aeR] at w;rw[<- w];exact⟨.bl (dG ah k).isSome,H,I.tok _,rfl,q⟩
def WM(K:PySem.W.Frag)(td ty:TE):TE:=λσ H Q=>td σ H λx H1=>ty σ H1 λy H2=>∃a b k ah v,x=.ref a/\y=.ref b/\bN K H2 b (List.map kV k)/\H2 a=some (.dT ah)/\dG ah k=some v/\Q v H2
theorem abf(hu:X.A.units+1<cLine)(ho:PE X o td)(hi:PE X i ty)(hs:wQ i):PE X (.Subscript o i pos) (WM X.K td ty):=by
 intro af s σ H Q I h;refine Oq PySem.F.slot_dict_getitem.lookup hs (ho.n I h λu s1 x H1 I1 rx q1=>bX (hi af s1 σ H1 _ I1 q1) λiv s2 hq=>?_);obtain⟨y,H2,I2,ry,a,b,k,ah,v,ex,ey,hq,e,l,q2⟩:=hq;subst ex;subst ey;obtain rfl:u=Value.ref a:=rx;obtain rfl:iv=Value.ref b:=ry;obtain⟨z,hd,xs,rel,dd⟩:=lZ I2.aD (.inl e);obtain⟨w',hw,d9⟩:=gj.some_of (by rw[<- l];exact rel.val k);obtain⟨p,hp,vd⟩:=adC.mp hw;refine⟨dd.typeIs,wpAny_getItem_heap (aer hu) (HJ I2 hq) dd hp ?_⟩;rw[vd];exact⟨v,H2,I2.tok _,d9,q2⟩
namespace Ev
def gC:List D->Option (List Key)
 |[]=>some []
 |d::ds=>match gR d,gC ds with
  |some k,some ks=>some (k::ks)
  |_,_=>none
theorem ay.keys{K:PySem.W.Frag}:∀{ds} {xs} {fp} {ks},ay K H ds xs fp->gC ds=some ks->xs=ks.map L2.kV
 |[],_,_,_,.nil,e=>by cases e;rfl
 |d::ds,_,_,ks,.cons r rs,e=>by
  unfold gC at e
  split at e
  .rename_i k nk h1 h2;cases e;rw[r.key h1,ay.keys rs h2];rfl
  .cases e
def GW(neg:Bool):D->D->Option D
 |.tup ds,.cQ es=>(gC ds).map λk=>.bl (if neg=true then !(aW es k).isSome else(aW es k).isSome)
 |_,_=>none
theorem aaJ{neg:Bool}{K:PySem.W.Frag}:d8 K (HL K neg) (GW neg):=by
 intro H x y d1 d2 f1 f2 d Q r1 r2 e k;cases d1<;>try (cases e;done)
 cases d2<;>try (cases e;done)
 rename_i ds es;have e:((gC ds).map λk=>D.bl (if neg=true then !(aW es k).isSome else(aW es k).isSome))=some d:=e;obtain⟨w,xs,rfl,hq,rs⟩:=r1.gJ;cases hk:gC ds with
 |none=>rw[hk] at e;cases e
 |some ks=>
  rw[hk] at e;cases e;obtain rfl:=ay.keys rs hk;cases r2 with
  | @cQ a ah _ f h eN wK=>
   have ev:(dG ah ks).isSome=(aW es ks).isSome:=by
    obtain⟨h1,h2⟩:=pB eN wK;cases hv:aW es ks with
    |none=>rw[h2 hv];rfl
    |some dv=>obtain⟨v,f,ic,_⟩:=h1 dv hv;rw[ic];rfl
   refine⟨w,a,ks,ah,rfl,rfl,hq,h,?_⟩;rw[ev];exact k H _ (aE.refl H) (.bl _)
theorem LR(hu:X.A.units+1<cLine)(ha:FP X a fa)(hb:FP X b fb)(hm:behindInMarks .In b=false:=by rfl):FT X (.Compare a [.In] [b] pos) (tV (e2 (GW false) fa fb)):=iW (Qh hu) aaJ ha hb hm
def wN(fa fb:EF):EF:=λρ=>match fa ρ,fb ρ with
 |some (.cQ es,t),some (.tup ds,_)=>(gC ds).bind λk=>(aW es k).map λd=>(d,jo t)
 |_,_=>none
theorem BD(hu:X.A.units+1<cLine)(ha:FP X a fa)(hb:FP X b fb)(hs:wQ b):FP X (.Subscript a b pos) (wN fa fb):=by
 obtain⟨ta,pa,sa⟩:=ha;obtain⟨tb,pb,sb⟩:=hb;exists 20,abf hu pa pb hs;unfold wN at e
 split at e
 .rename_i es t ds t2 e1 kg;cases hk:gC ds with
  |none=>rw[hk] at e;cases e
  |some ks=>
   rw[hk,adH] at e;cases hv:aW es ks with
   |none=>rw[hv] at e;cases e
   |some dv=>
    rw[hv] at e;cases e;refine sa ok e1 λH1 x f1 s1 r1 g1=>?_
    refine sb (ok.same s1) kg λH2 y f2 s2 r2 _=>?_
    obtain⟨w,xs,rfl,hq,rs⟩:=r2.gJ;obtain rfl:=ay.keys rs hk;have Va:=r1.same s2;cases Va with
    | @cQ l ah _ f h eN wK=>
     obtain⟨h1,_⟩:=pB eN wK;obtain⟨v,f,ic,rv,sub⟩:=h1 _ hv;refine⟨l,w,ks,ah,v,rfl,rfl,hq,h,ic,?_⟩;exact q H2 v f (s1.trans s2) rv (cJ.sub (λa j e=>(ok.zd a j e).1) g1 λa m=>aad _ (sub a m))
 .cases e
def AJ(neg:Bool):D->D->Option D
 |d1,.lst ds=>if(cM d1&&cM (.lst ds))=true then some (.bl (if neg=true then !(eX ds).any λy=>PyData.eqv y (py d1) else(eX ds).any λy=>PyData.eqv y (py d1))) else none
 |_,_=>none
def ER(K:PySem.W.Frag)(neg:Bool):R2:=λx y H Q=>∃d1 ds f1 f2,Rep K H d1 x f1/\Rep K H (.lst ds) y f2/\cM d1=true/\cM (.lst ds)=true/\Q (.bl (if neg=true then !(eX ds).any λy=>PyData.eqv y (py d1) else(eX ds).any λy=>PyData.eqv y (py d1))) H
theorem Vs(hu:X.A.units+64<cLine):cD X (compareOp .In) (ER X.K false):=by
 intro af s σ H x y v u Q I rx ry h;obtain⟨d1,ds,f1,f2,r1,r2,l1,l2,q⟩:=h;obtain⟨a1,a2,a3⟩:=lay_of l1;obtain⟨b1,b2,b3⟩:=lay_of l2;obtain⟨as,ra⟩:=mZ I r1 rx a1;obtain⟨bs,rb⟩:=mZ I r2 ry b1;rw[py] at rb b2 b3;simp only[PyData.canLay0] at b2;exact SeqAt.in_list_reads rb ra b2 a2 (by have:=Nat.min_le_right (PyData.depthAll (eX ds)) (py d1).depth;omega) ⟨.bl _,H,I,rfl,q⟩
theorem XH(hu:X.A.units+64<cLine):cD X (compareOp .NotIn) (ER X.K true):=by
 intro af s σ H x y v u Q I rx ry h;obtain⟨d1,ds,f1,f2,r1,r2,l1,l2,q⟩:=h;obtain⟨a1,a2,a3⟩:=lay_of l1;obtain⟨b1,b2,b3⟩:=lay_of l2;obtain⟨as,ra⟩:=mZ I r1 rx a1;obtain⟨bs,rb⟩:=mZ I r2 ry b1;rw[py] at rb b2 b3;simp only[PyData.canLay0] at b2;exact SeqAt.notIn_list_reads rb ra b2 a2 (by have:=Nat.min_le_right (PyData.depthAll (eX ds)) (py d1).depth;omega) ⟨.bl _,H,I,rfl,q⟩
theorem KG{K:PySem.W.Frag}:d8 K (ER K neg) (AJ neg):=by
 intro H x y d1 d2 f1 f2 d Q r1 r2 e k;cases d2<;>try (cases e;done)
 rename_i ds;have e:(if(cM d1&&cM (.lst ds))=true then some (D.bl (if neg=true then !(eX ds).any λy=>PyData.eqv y (py d1) else(eX ds).any λy=>PyData.eqv y (py d1))) else none)=some d:=by cases d1<;>exact e
 by_cases hc:(cM d1&&cM (.lst ds))=true
 .rw[if_pos hc] at e;cases e;obtain⟨c1,c2⟩:=(abm _ _).mp hc;exact⟨d1,ds,f1,f2,r1,r2,c1,c2,k H _ (aE.refl H) (.bl _)⟩
 .rw[acZ hc] at e;cases e
theorem aba(hu:X.A.units+64<cLine)(ha:FP X a fa)(hb:FP X b fb)(hm:behindInMarks .NotIn b=false:=by rfl):FT X (.Compare a [.NotIn] [b] pos) (tV (e2 (AJ true) fa fb)):=iW (XH hu) KG ha hb hm
theorem abi(hu:X.A.units+64<cLine)(ha:FP X a fa)(hb:FP X b fb)(hm:behindInMarks .In b=false:=by rfl):FP X (.Compare a [.In] [b] pos) (e2 (AJ false) fa fb):=n9 (Vs hu) KG ha hb hm
theorem ND:FP X (.Dict [] [] pos) (eC (.cQ [])):=by
 refine⟨_,WI,@λH0 S z ak ρ σ H Q d tg ok e k p hp=>?_⟩;cases e;have s2:aE H (upd H p (.dT [])):=λb o e=>by rw[aG (cu e hp)];exact e
 exact k _ _ [p] s2 (.cQ bg rfl .nil) ⟨ado.mpr ⟨(λm=>by cases m),adw⟩,λa m=>by cases aaS.mp m;exact hp⟩
end Ev
end L2
namespace L2
open PySem PySem.W PyProof.Rows
structure nN(r:Nat->Nat->Bool)(n:Nat):Prop where
 tr:∀i j k,i<n->j<n->k<n->r i j=true->r j k=true->r i k=true
 tt:∀i j,i<n->j<n->i≠j->r i j=false->r j i=true
def jg(r:Nat->Nat->Bool)(p:Array Nat)(m:Nat):Prop:=∀i j,i<j->j<m->r (p.getD i 0) (p.getD j 0)=true
def vX(r:Nat->Nat->Bool)(p:Array Nat)(m:Nat):Prop:=∀i j,i<j->j<m->r (p.getD j 0) (p.getD i 0)=true
noncomputable abbrev aX(n:Nat)(p:Array Nat):Prop:=p.Perm (List.range n).toArray
section
variable{p:Array Nat}
theorem aX.sz(P:aX n p):p.size=n:=by rw[Array.Perm.size_eq P];simp
theorem getD_at(h:i<p.size):p.getD i 0=p[i]:=by simp[Array.getD,h]
theorem aX.lt(P:aX n p)(h:i<n):p.getD i 0<n:=by
 have hs:i<p.size:=by rw[aX.sz P];exact h
 rw[getD_at hs];have m:p[i]∈p.toList:=by simp
 have:=(aeU.mp P).mem_iff.mp m;simpa using this
theorem aX.ne(P:aX n p)(hi:i<n)(hj:j<n)(h:i≠j):p.getD i 0≠p.getD j 0:=λe'=>by
 have hs:i<p.size:=by rw[aX.sz P];exact hi
 have bZ:j<p.size:=by rw[aX.sz P];exact hj
 rw[getD_at hs,getD_at bZ] at e';have nd:=(aeU.mp P).nodup_iff.mpr (by simpa using List.nodup_range);have w:=afs.mp nd;rcases Nat.lt_or_gt_of_ne h with q|q
 .exact w i j (by simpa using hs) (by simpa using bZ) q (by simpa using e')
 .exact w j i (by simpa using bZ) (by simpa using hs) q (by simpa using e'.symm)
def tY(cmp:Nat->Nat->(Bool->Shared->Prop)->Shared->Prop)(r:Nat->Nat->Bool)(n:Nat)(s:Shared):Prop:=∀i j C,i<n->j<n->C (r i j) s->cmp i j C s
theorem jg.snoc(T:nN r n)(P:aX n p)(h:jg r p m)(h1:1<=m)(hm:m<n)(h2:r (p.getD (m-1) 0) (p.getD m 0)=true):jg r p (m+1):=λi j a b=>by
 by_cases e:j=m
 .subst e
  by_cases e':i=j-1
  .subst e';exact h2
  .exact T.tr _ _ _ (aX.lt P (by lia)) (aX.lt P (by lia)) (aX.lt P (by lia)) (h i (j-1) (by lia) (by lia)) h2
 .exact h i j a (by lia)
theorem vX.snoc(T:nN r n)(P:aX n p)(h:vX r p m)(h1:1<=m)(hm:m<n)(h2:r (p.getD m 0) (p.getD (m-1) 0)=true):vX r p (m+1):=λi j a b=>by
 by_cases e:j=m
 .subst e
  by_cases e':i=j-1
  .subst e';exact h2
  .exact T.tr _ _ _ (aX.lt P (by lia)) (aX.lt P (by lia)) (aX.lt P (by lia)) h2 (h i (j-1) (by lia) (by lia))
 .exact h i j a (by lia)
theorem CN(T:nN r n)(A:tY cmp r n s)(P:aX n p):∀(f m) {G},1<=m->m+f<=n->jg r p m->
  (∀m',m<=m'->m'<=m+f->jg r p m'->(m'=m+f\/r (p.getD m' 0) (p.getD (m'-1) 0)=true)->G m' s)->(kas_asc p f m).kasWp cmp G s
 |0,m,G,_,_,hs,g=>g m (acy _) (acy _) hs (.inl rfl)
 |f+1,m,G,h1,h2,hs,g=>by
  refine A _ _ _ (aX.lt P (by lia)) (aX.lt P (by lia)) ?_;cases c:r (p.getD m 0) (p.getD (m-1) 0) with
  |true=>exact g m (acy _) (by lia) hs (.inr c)
  |false=>
   exact CN T A P f (m+1) (by lia) (by lia) (hs.snoc T P h1 (by lia) (T.tt _ _ (aX.lt P (by lia)) (aX.lt P (by lia)) (aX.ne P (by lia) (by lia) (by lia)) c)) λm' a b c d=>g m' (by lia) (by lia) c (by rw[show m+1+f=m+(f+1) by lia] at d;exact d)
theorem MC(T:nN r n)(A:tY cmp r n s)(P:aX n p):∀(f m) {G},1<=m->m+f<=n->vX r p m->
  (∀m',m<=m'->m'<=m+f->vX r p m'->G (p,m',0) s)->(kas_desc f p m 0).kasWp cmp G s
 |0,m,G,_,_,hs,g=>g m (acy _) (acy _) hs
 |f+1,m,G,h1,h2,hs,g=>by
  refine A _ _ _ (aX.lt P (by lia)) (aX.lt P (by lia)) ?_;cases c:r (p.getD m 0) (p.getD (m-1) 0) with
  |true=>exact MC T A P f (m+1) (by lia) (by lia) (hs.snoc T P h1 (by lia) c) λm' a b d=>g m' (by lia) (by lia) d
  |false=>
   refine A _ _ _ (aX.lt P (by lia)) (aX.lt P (by lia)) ?_;rw[T.tt _ _ (aX.lt P (by lia)) (aX.lt P (by lia)) (aX.ne P (by lia) (by lia) (by lia)) c];exact g m (acy _) (by lia) hs
theorem rev_getD(hm:m<=p.size)(h:i<m):(kas_rev p 0 m).getD i 0=p.getD (m-1-i) 0:=by
 have e:=getElem?_mirror_all (i:=0) hm i;rw[if_pos ⟨adZ _,h⟩] at e;unfold kas_rev;rw[aec,aec,e]
 congr 2;lia
theorem ZX(T:nN r n)(A:tY cmp r n s)(P:aX n p)(h:1<=n)(g:∀m q,1<=m->m<=n->aX n q->jg r q m->G (m,q) s):(kas_count n p).kasWp cmp G s:=by
 unfold kas_count;rw[KasT.kasWp_bind];refine CN T A P (n-1) 1 (acy _) (by lia) (λi j a b=>by lia) λm a b hs d=>?_
 by_cases e:m=n
 .subst e;rw[if_pos (by simp)];exact g m p a (acy _) P hs
 .rw[acZ (by simpa using e)]
  by_cases e1:m > 1
  .rw[if_pos e1];refine A _ _ _ (aX.lt P (by lia)) (aX.lt P (by lia)) ?_;rw[hs 0 (m-1) (by lia) (by lia)];exact g m p a (by lia) P hs
  .rw[acZ e1];obtain rfl:m=1:=by lia
   have d:=d.resolve_left (by lia);unfold kas_descPart;rw[KasT.kasWp_bind];refine MC T A P (n - (1 + 1)) (1 + 1) (by lia) (by lia) (λi j a b=>by
    obtain⟨rfl,rfl⟩:i=0/\j=1:=by lia
    exact d) λm' a' b' hd=>?_
   dsimp only;rw[acZ (by lia)];unfold kas_tail3;rw[KasT.kasWp_bind];have Q:aX n (kas_rev p 0 m'):=(mirror_perm _ _ _ _).trans P;refine CN T A Q (n-m') m' (by lia) (by lia) (λi j a b=>?_) λm2 a2 b2 cg _=>g m2 _ (by lia) (by lia) Q cg
   rw[rev_getD (by rw[aX.sz P];lia) (by lia),rev_getD (by rw[aX.sz P];lia) (by lia)];exact hd _ _ (by lia) (by lia)
theorem DF(T:nN r n)(A:tY cmp r n s)(P:aX n p)(hx:x<n)(hs:jg r p x):∀(f l u) {G},u-l<=f->u<=x->l<=u->(∀i,i<l->r (p.getD i 0) (p.getD x 0)=true)->(∀i,u<=i->i<x->r (p.getD x 0) (p.getD i 0)=true)->
  (∀l,l<=x->(∀i,i<l->r (p.getD i 0) (p.getD x 0)=true)->(∀i,l<=i->i<x->r (p.getD x 0) (p.getD i 0)=true)->G l s)->(kas_place p x f l u).kasWp cmp G s
 |0,l,u,G,h1,h2,h3,lo,hi,g=>g l (by lia) lo λi a b=>hi i (by lia) b
 |f+1,l,u,G,h1,h2,h3,lo,hi,g=>by
  unfold kas_place
  by_cases c:l >= u
  .rw[if_pos c];exact g l (by lia) lo λi a b=>hi i (by lia) b
  .rw[acZ c];refine A _ _ _ (aX.lt P hx) (aX.lt P (by lia)) ?_;cases d:r (p.getD x 0) (p.getD ((l+u) / 2) 0) with
   |true=>
    refine DF T A P hx hs f l ((l+u) / 2) (by lia) (by lia) (by lia) lo (λi a b=>?_) g
    by_cases e:i=(l+u) / 2
    .rw[e];exact d
    .exact T.tr _ _ _ (aX.lt P (by lia)) (aX.lt P (by lia)) (aX.lt P (by lia)) d (hs _ i (by lia) b)
   |false=>
    have d:=T.tt _ _ (aX.lt P (by lia)) (aX.lt P (by lia)) (aX.ne P (by lia) (by lia) (by lia)) d;refine DF T A P hx hs f ((l+u) / 2+1) u (by lia) h2 (by lia) (λi a=>?_) hi g
    by_cases e:i=(l+u) / 2
    .rw[e];exact d
    .exact T.tr _ _ _ (aX.lt P (by lia)) (aX.lt P (by lia)) (aX.lt P (by lia)) (hs i _ (by lia) (by lia)) d
theorem HU(hx:x<p.size)(hl:l<=x):(bubble p x (x-l)).getD i 0=if i=l then p.getD x 0 else if l<i/\i<=x then p.getD (i-1) 0 else p.getD i 0:=by
 have e:=getElem?_bubble hx (x-l) (by lia) i;rw[show x-(x-l)=l by lia] at e;rw[aec,e]
 by_cases h1:i=l
 .rw[if_pos h1,if_pos h1,aec]
 .rw[acZ h1,acZ h1]
  by_cases h2:l<i/\i<=x
  .rw[if_pos h2,if_pos h2,aec]
  .rw[acZ h2,acZ h2,aec]
theorem NI(T:nN r n)(A:tY cmp r n s):∀(f) (p) (x) {G},aX n p->1<=x->x+f=n->jg r p x->(∀q,aX n q->jg r q n->G q s)->(kas_bin f p x).kasWp cmp G s
 |0,p,x,G,P,_,e,hs,g=>g p P (by rw[<- e];exact hs)
 |f+1,p,x,G,P,h1,e,hs,g=>by
  unfold kas_bin;rw[KasT.kasWp_bind];refine DF T A P (by lia) hs x 0 x (by lia) (acy _) (adZ _) (λi a=>by lia) (λi a b=>by lia) λl hl lo hi=>?_
  have hz:x<p.size:=by rw[aX.sz P];lia
  refine NI T A f _ (x+1) ((bubble_perm _ _ _).trans P) (by lia) (by lia) (λi j a b=>?_) g;rw[HU hz hl,HU hz hl]
  by_cases i1:i=l
  .rw[if_pos i1,acZ (by lia),if_pos (by lia)];exact hi _ (by lia) (by lia)
  .rw[acZ i1]
   by_cases j1:j=l
   .rw[if_pos j1,acZ (by lia)];exact lo _ (by lia)
   .rw[acZ j1]
    by_cases i2:l<i/\i<=x
    .rw[if_pos i2,if_pos (by lia)];exact hs _ _ (by lia) (by lia)
    .rw[acZ i2]
     by_cases j2:l<j/\j<=x
     .rw[if_pos j2];exact hs _ _ (by lia) (by lia)
     .rw[acZ j2];exact hs _ _ (by lia) (by lia)
theorem aaW(T:nN r n)(A:tY cmp r n s)(h:1<=n)(g:∀q,aX n q->jg r q n->G q s):(kas_sort n).kasWp cmp G s:=by
 unfold kas_sort;rw[KasT.kasWp_bind];refine ZX T A (Array.Perm.refl _) h λm q a b Q hs=>?_
 by_cases e:m<n
 .dsimp only;rw[if_pos e,Nat.max_eq_left a];exact NI T A _ q m Q a (by lia) hs g
 .dsimp only;rw[acZ e];obtain rfl:m=n:=by lia
  exact g q Q hs
end
open PySem PySem.Spec PySem.W PyProof.Rows
noncomputable def lex(x y:Int×Int):Bool:=decide (x.1<y.1\/x.1=y.1/\x.2<y.2)
def IsPair(h:Heap)(q:Addr)(x:Int×Int):Prop:=∃t u,IsTup h q #[.int x.1 t,.int x.2 u]
theorem SX{pr:Nat->Int×Int}(h:∀i j,i<n->j<n->pr i=pr j->i=j):nN (λi j=>lex (pr i) (pr j)) n where
 tr:=λi j k _ _ _ a b=>by
  have a:=abd a;have b:=abd b;exact abL (by lia)
 tt:=λi j a b ne e=>by
  have e:=of_decide_eq_false e;have n2:¬((pr i).1=(pr j).1/\(pr i).2=(pr j).2):=λz=>ne (h i j a b (Prod.ext z.1 z.2))
  exact abL (by lia)
theorem acD(hx:IsPair s.heap x a)(hy:IsPair s.heap y b)(h:Q (lex a b) s):wpAny (model prog w) A (keyLt' (tuples' true) (.ref x) (.ref y)) Q E s:=by
 obtain⟨t,u,o,h1,_,n,h2⟩:=hx;obtain⟨t',u',o',gz,_,n',lW⟩:=hy;refine kat_lt h1 h2 gz lW (kat_cons (wpAny_eqBool_int (kat_go (λe=>kat_yes (kat_cons (wpAny_eqBool_int (kat_go (λe2=>kat_yes (kat_nil ?_)) λe2=>kat_no (kat_one _ _ (lt_int ?_)))))) λe=>kat_no (oneLt_int ?_))))
 .have e:=eq_of_beq e;have e2:=eq_of_beq e2;have:lex a b=false:=adt (by omega);rw[this] at h;exact h
 .have e:=eq_of_beq e;have:lex a b=decide (a.2<b.2):=by unfold lex;congr 1;exact propext ⟨λz=>by omega,λz=>.inr ⟨e,z⟩⟩
  rw[this] at h;exact h
 .have e:=ne_of_beq_false e;have:lex a b=decide (a.1<b.1):=by unfold lex;congr 1;exact propext ⟨λz=>by omega,.inl⟩
  rw[this] at h;exact h
theorem Mz:∀{qs} {ps},Paired (IsPair h) qs ps->∃fs,KatTups h (qs.map Value.ref) fs/\fs.length=qs.length/\∀v∈fs,∃i t,v=Value.int i t
 |_,_,.nil=>⟨[],.nil,rfl,λ_ m=>nomatch m⟩
 |_,_,.cons r t=>by
  obtain⟨fs,h1,h2,h3⟩:=Mz t;obtain⟨t,u,o,e1,e2,n,e3⟩:=r;exact⟨_::fs,KatTups.cons e1 e2 e3 rfl h1,by rw[adu,adu,h2],λv m=>(abG.mp m).elim (λz=>⟨_,_,z⟩) (h3 v)⟩
theorem RC{a kS:Addr}{vs:List Value}(kK:vs.length<64)(hl:qs.length=vs.length)(hp:Paired (IsPair s.heap) qs ps)(nd:ps.Nodup)
  (hk:s.heap.get? kS=some (seqObj "list" (qs.map Value.ref).toArray e)) (ha:s.heap.get? a=some (seqObj "list" #[] e1)) (ne:a≠kS)
  (h:∀q:Array Nat,aX vs.length q->jg (λi j=>lex (ps.getD i (0,0)) (ps.getD j (0,0))) q vs.length->
   P (.done (.ret .none)) { s with heap:=(s.heap.update kS (Obj.mapSeq λ_=>#[])).update a (Obj.mapSeq λ_=>(q.toList.map λi=>vs.getD i Value.none).toArray) }) :
  wpAny (model prog w) A (ksk_end a false vs.toArray e1 (.ref kS) (qs.map Value.ref).toArray) P E s:=by
 have Al:(qs.map Value.ref).length=vs.length:=by rw[List.length_map];exact hl
 have tail:∀(st) (q),aX vs.length q->jg (λi j=>lex (ps.getD i (0,0)) (ps.getD j (0,0))) q vs.length->(arrOf st).map (·.2)=(q.toList.map λi=>vs.getD i Value.none).toArray->failedOf st=none->
   wpAny (model prog w) A (ksk_tail a false e1 (.ref kS) st) P E s:=by
  intro st q hq hs ho hf;have s1:=Heap.SameBut.update s.heap kS (Obj.mapSeq λ_=>(#[]:Array Value));have LI:=(s1.2 a ne).trans ha;unfold ksk_tail;dsimp only;refine aae (listUpdate_at hk rfl ?_ (by rw[adn,Al,aeJ];lia) (adZ _));refine aae (wpAny_letGo ?_);refine aae (seqEpoch_at LI rfl ?_);refine aae (listUpdate_at LI rfl ?_ (adZ _) ?_)
  .rw[hf];simp only[bne_self_eq_false,aef,afu];rw[ho];exact adg (h q hq hs)
  .simp only[aef,afu];rw[ho,adn,List.length_map,ad3,aX.sz hq,aeJ];lia
 unfold ksk_end;dsimp only;rw[acZ abR]
 by_cases h2:vs.toArray.size<2
 .rw[if_pos h2,if_pos h2];refine aae (adg ?_);rw[StateT.run_pure];refine aae (adg ?_);dsimp only;rw[adn] at h2;refine tail _ (List.range vs.length).toArray (Array.Perm.refl _) (λi j a b=>by lia) ?_ rfl;have e:=kat_snds Al (st:=kas_st general' ((qs.map Value.ref).toArray.zip vs.toArray) (List.range vs.length).toArray) rfl;have er:(List.range vs.length).toArray.map (kas_item ((qs.map Value.ref).toArray.zip vs.toArray))=(qs.map Value.ref).toArray.zip vs.toArray:=by
   have:=kas_range ((qs.map Value.ref).toArray.zip vs.toArray);rw[show((qs.map Value.ref).toArray.zip vs.toArray).size=vs.length by simp[hl]] at this;exact this
  rw[<- e];show((qs.map Value.ref).toArray.zip vs.toArray).map (·.2)=((List.range vs.length).toArray.map (kas_item ((qs.map Value.ref).toArray.zip vs.toArray))).map (·.2);rw[er]
 .rw[acZ h2,acZ h2];rw[adn] at h2;obtain⟨fs,k1,k2,k3⟩:=Mz hp;refine aae (kat_kind k1 (by lia) (λv m=>by obtain⟨i,t,rfl⟩:=k3 v m;exact Looks.of_pure rfl) (by decide) ?_);refine aae (aeu (kat_run (Q:=λst s'=>s'=s/\∃q:Array Nat,aX vs.length q/\jg (λi j=>lex (ps.getD i (0,0)) (ps.getD j (0,0))) q vs.length/\(arrOf st).map (·.2)=(q.toList.map λi=>vs.getD i Value.none).toArray/\failedOf st=none)
   (G:=λq s'=>s'=s/\aX vs.length q/\jg (λi j=>lex (ps.getD i (0,0)) (ps.getD j (0,0))) q vs.length) Al (by lia) kK (λq jP s' _ ha hf g=>⟨g.1,q,g.2.1,g.2.2,kat_snds Al ha,hf⟩) ?_) ?_ λ_ _ z=>z)
  .have lp:ps.length=vs.length:=by rw[<- Paired.length hp];exact hl
   refine aaW (SX λi j a b e=>?_) (λi j C hi hj hc=>?_) (by lia) λq a b=>⟨rfl,a,b⟩
   .have ei:i<ps.length:=by lia
    have ej:j<ps.length:=by lia
    simp only[adJ,acr ei,acr ej,aeV] at e;have w:=afs.mp nd;rcases Nat.lt_trichotomy i j with q|q|q
    .exact absurd e (w i j ei ej q)
    .exact q
    .exact absurd e.symm (w j i ej ei q)
   .have at_:∀i,i<vs.length->∃x,(qs.map Value.ref).getD i Value.none=.ref x/\IsPair s.heap x (ps.getD i (0,0)):=λi hi=>by
     have lq:i<qs.length:=by lia
     have Lu:i<ps.length:=by lia
     refine⟨qs[i],by simp[adJ,lq],?_⟩;rw[adJ,acr Lu,aeV];have go:∀{qs} {ps},Paired (IsPair s.heap) qs ps->∀(i) (a) (b:i<ps.length),IsPair s.heap qs[i] ps[i]:=by
      intro qs ps r
      induction r with
      |nil=>intro i a;exact absurd a (Nat.not_lt_zero _)
      |cons r t ih=>intro i a b;cases i with
       |zero=>exact r
       |succ i=>exact ih i (by simpa using a) (by simpa using b)
     exact go hp i lq Lu
    obtain⟨x,ex,hx⟩:=at_ i hi;obtain⟨y,ey,hy⟩:=at_ j hj;show wpAny (model prog w) A (keyLt' _ ((qs.map Value.ref).getD i Value.none) ((qs.map Value.ref).getD j Value.none)) C _ s;rw[ex,ey];exact acD hx hy hc
  .rintro⟨⟨⟩,st⟩ s' ⟨rfl,q,h1,h3,h4,h5⟩
   exact tail st q h1 h3 h4 h5
theorem A0:∀{K:PySem.W.Frag},K.lookup a=some o->(a,o)∈K
 |[],h=>by cases h
 |(b,u)::r,h=>by
  by_cases e:(a==b)=true
  .simp only[List.lookup,e] at h;cases h;rw[eq_of_beq e];exact aat
  .simp only[List.lookup,(by simpa using e:(a==b)=false)] at h;exact aad _ (A0 h)
theorem abZ(I:Inv X af σ H s)(lk:X.K.lookup f0=some o0)(sh:uc o0=some (cv,q,ji)):∃cc P,cv=.ref cc/\codeHdIn X.K cc P=true/\H P=some (.gQ q ji):=by
 obtain⟨bJ,ok⟩:=(abm _ _).mp I.hq.ok;have bJ:=adW.mp ((abm _ _).mp bJ).2 (f0,o0) (A0 lk);have bJ:=bJ;rw[sh] at bJ;obtain⟨⟨cc,P,q',pos'⟩,e⟩:=aeG.mp (show(yr X.K (f0,o0)).isSome=true from bJ);have hm:(cc,P,q',pos')∈iH X.K:=List.mem_filterMap.mpr ⟨_,A0 lk,e⟩;have e':=e;unfold yr at e';dsimp only at e';rw[sh] at e'
 split at e'
 .rename_i h;cases h
  split at e'
  .split at e'
   .cases e';refine⟨cc,P,rfl,?_,I.hq.lm _ hm⟩
    split at ok
    .rename_i e;rw[e] at hm;cases hm
    .rename_i r e;rw[e] at hm;cases aaS.mp hm;exact((abm _ _).mp ok).1
    .cases ok
   .cases e'
  .cases e'
 .cases e'
theorem ac3(I:Inv X af σ H s)(lk:X.K.lookup f0=some o0)(sh:uc o0=some (X.env.code,q,ji))(uE:defaultsOf args X.env=([],[]))(tX:closureFor sc X.env=pure nU)(hq:X.env.qual++"<lambda>"=q)
  (h:∀f c' gZ pm H' s',Inv X ((f,kla_obj "<lambda>" q args body sc nU pm c' gZ)::af) σ H' s'->aE H H'->H' c'=some (.ir q)->Q (.ref f) s'):wpAny (model X.prog X.w) A (eval (.Lambda args body sc ji) X.env) Q E s:=by
 refine kla_eval uE ?_;rw[hq];obtain⟨cc,P,Ke,hc,hP⟩:=abZ I lk sh;obtain⟨ps,eP,sS⟩:=I.aD P _ hP;have C:=codeHd_of_K I.dz hc;have g:=I.ok.mod.glob.keeps I.bk;obtain⟨bm,ob,b1,b2,b3,b4,b5,b6⟩:=I.ok.mod.X_;have nP:∀{b} {o},X.base.get? b=some o->b≠P:=λ{b o} e z=>by
  have:=(I.bs b o e).2;rw[z,hP] at this;cases this
 obtain⟨om,es,ep,em,dm,_⟩:=id I.ok.mod.glob;have hb:s.heap.BuiltinsAt X.mg P:=⟨bm,ob,b1,b2,(λz=>by rw[z,em] at b3;cases b3;rw[dm] at b6;cases b6),nP b3,I.bk _ _ b3,b4,b5,b6⟩
 have fin:∀(f) (o) (H') (s'),Inv X af σ H' s'->s'.heap.get? f=some o->s.heap.objs.size<=f->H' f=none->(∀v,o.data≠.cell v)->Inv X ((f,o)::af) σ H' s':=λf o H' s' J e hf hn hd=>by
  refine J.qN λp hp=>?_
  rcases abG.mp hp with rfl|hp
  .exact⟨e,hn,aeo (adF I.lt hf),I.Mr hf,hd⟩
  .exact J.pin p (aaY _ hp)
 rcases sS with rfl|⟨c',rfl,rB⟩
 .refine kla_makeFunction tX I.ok.glob g Ke C eP trivial rfl (nP em) hb λc' gZ h' tk hx zX cN RY M9=>?_
  have fc:=I.aD.fresh zX;have ff:=I.aD.fresh (aen (aeH zX cN));have up:∀{b} {o},H b=some o->upd H c' (.ir q) b=some o:=λ{b o} e=>by rw[aG (cu e fc)];exact e
  have pu:∀(b) (o),b≠P->s.heap.get? b=some o->(h'.push (kla_obj "<lambda>" q args body sc nU ((X.mg "__name__").getD .none) c' gZ)).get? b=some o:=λb o n e=>aaf _ (hx b o n e)
  have Mt:∀{b},H b=none->b≠P:=λ{b} e z=>by rw[z,hP] at e;cases e
  have J:Inv X af σ (upd H c' (.ir q)) { s with heap:=h'.push (kla_obj "<lambda>" q args body sc nU ((X.mg "__name__").getD .none) c' gZ),toks:=tk }:=by
   refine I.un ⟨λb o e n _ _=>pu b o (Mt n) e,λb o e n _ _=>⟨o.slots,pu b o (Mt n) e⟩,λb o e n _=>?_,λb o e _=>?_,λb t e=>up e,λb o u e=>up e,λb ps e=>⟨#[],by rw[up e];simp⟩⟩ λa o e=>?_
   .rw[aG (ady (adF (aco e) zX))];exact n
   .by_cases z:b=P
    .rw[z];exact⟨_,aaf _ M9⟩
    .exact⟨o,pu b o z e⟩
   .by_cases z:a=c'
    .subst z;rw[bg] at e;cases e;exact RY.push _
    .rw[aG z] at e
     by_cases z2:a=P
     .subst z2;rw[hP] at e;cases e;exact⟨_,aaf _ M9,.inr ⟨c',by simp,bg⟩⟩
     .refine(I.aD a o e).iE (λb u xD q=>pu b u ?_ q) (λb q=>up q) λb t q=>up q
      rcases xD with z3|z3
      .rw[z3];exact z2
      .intro z4;rw[z4,hP] at z3;cases z3
  refine h _ c' gZ _ _ _ (fin _ _ _ _ J (ac9 _ rfl) (aen (aeH zX cN)) ?_ (λv z=>by cases z)) (λb o e=>up e) bg;rw[aG (aeo cN)];exact ff
 .refine kla_makeFunctionHit tX I.ok.glob g Ke C eP (TriplesOk_snoc _ _ _ [] trivial) (codeAmong_snoc [] trivial rfl) hb λgZ h' tk hk hsz=>?_
  exact h _ c' gZ _ H _ (fin _ _ _ _ (I.kept λb u e=>aaf _ (hk b u e)) (ac9 _ rfl) hsz (I.aD.fresh hsz) λv z=>by cases z) (aE.refl H) rB
noncomputable def qD(X:Cx)(A:Around)(x y:Str)(q:Str)(sc:Scope)(f:Addr)(cd:Value)(nU:List (Str×Addr))(s:Shared)(H:Hp):Cx where
 prog:=X.prog
 w:=X.w
 K:=X.K
 mg:=X.mg
 base:=X.base
 A:=A.deeper (envX q sc s.heap.objs.size f cd nU)
 N:=[x,y]
 dM:=s
 mJ:=H
 env:=envX q sc s.heap.objs.size f cd nU
 outer:=X.stack
 stack:=envX q sc s.heap.objs.size f cd nU::X.stack
 ex:=[]
 fn:=λ_=>false
 calm:=X.calm
 pn:=[]
 xe:=λ_ _=>False
structure xZ(sc:Scope)(args:Arguments)(x y:Str):Prop where
 kind:sc.kind=.function
 co:sc.isCoroutine=false
 gen:sc.isGenerator=false
 uG:∀z∈sc.names,z.2≠.cell
 loc:sc.names.lookup x=some .local
 v7:sc.names.lookup y=some .free
 one:∀z∈sc.names,z.2=.free->z.1=y
 bnd:∀(q) (body) (nU) (pm aT gZ u),bindArgs (kla_fn "<lambda>" q args body sc nU pm aT gZ) ⟨[u],[]⟩=pure [(x,u)]
theorem aa2{j:Nat}(I:Inv X af σ H s)(S:xZ sc args x y)(hf:(f,kla_obj "<lambda>" q args body sc [(y,c)] pm c' gZ)∈af)(hc:H c'=some (.ir q))
  (mY:X.env.cells.lookup y=some c) (hj:X.N[j]? = some y) (hv:σ[j]? = some (some v1)) (pM:X.env.scope.names.lookup y=some .cell) (ru:RelV v0 u) (hA:A.frames=X.A.frames) (hh:A.handled=X.A.handled) (hr:A.depth<recursionLimit)
  (hb:PE (qD X A x y q sc f (.ref c') [(y,c)] s H) body te) (h:te [some v0,some v1] H Q):wpAny (model X.prog X.w) A (call (.ref f) [u]) (EP X af σ Q) E s:=by
 have Wx:=(I.pin _ (aaY _ hf)).1;refine wpAny_call (codeAny_mono (R:=λr s'=>match r with|.ok (.ret v)=>CE X.stack X.prog X.w H s Q v s'|_=>False) ?_ λr s' z=>?_)
 .refine kla_callFunE hr Wx rfl S.co S.gen rfl (I.aD c' _ hc) ?_;rw[S.bnd];refine adg (wpAny_newFunctionEnv S.uG (λz m=>by cases aaS.mp m;exact S.loc) (λzR qY Gy=>?_) S.kind);have xr:∀b o,s.heap.get? b=some o->zR.get? b=some o:=λb o e=>Gy.extBut b o (ady (aco e)) (aaf _ e)
  refine⟨(I.ok.mod.nolimit.keeps I.bk).keeps xr,?_⟩;have cl:∀{z} {d},List.lookup z [(y,c)]=some d->z=y/\d=c:=λ{z d} e=>by
   by_cases w:(z==y)=true
   .simp only[List.lookup,w] at e;cases e;exact⟨eq_of_beq w,rfl⟩
   .simp only[List.lookup,(by simpa using w:(z==y)=false)] at e;cases e
  have cy:List.lookup y [(y,c)]=some c:=by simp[List.lookup]
  have qM:∀b:Addr,b∉(qD X A x y q sc f (.ref c') [(y,c)] s H).ex:=λb z=>absurd (show b∈([]:List Addr) from z) (by simp)
  have J:Inv (qD X A x y q sc f (.ref c') [(y,c)] s H) [] [some v0,some v1] H { s with heap:=zR,toks:=s.toks+[(x,u)].length }:=by
   refine⟨⟨I.ok.mod,S.kind,rfl,rfl,acy _,λa b d h1 h2=>?_,λa ha=>?_,(λa d h _=>by cases h),λhc=>?_,Around.frames_deeper (hA.trans I.ok.frames),.inr ⟨rfl,rfl⟩,λb z=>absurd z (qM b),I.bs,ad5 I.ok.jv I.sz,λb _ _=>qM b,λb z=>absurd z (qM b),I.stack,I.D_⟩,
    rfl,I.bare,Un.kept xr,⟨_,qY,λi z v h1 h2 h3=>?_⟩,λz d e=>?_,I.aD.fresh (acy _),λz d e=>?_,λp hp=>absurd (show p∈([]:List (Addr×Obj)) from hp) (by simp),I.aD.kept xr,rfl,⟨?_,I.hq.ok,I.hq.lm⟩⟩
   .exact(cl h1).1.trans (cl h2).1.symm
   .have ha:=ha;rcases ha with ha|ha
    .exact absurd rfl (S.uG _ (PySem.mem_of_lookup ha))
    .have e:a=y:=S.one _ (PySem.mem_of_lookup ha) rfl;rw[e];exact⟨c,cy⟩
   .have:=I.ok.hd hc;exact hh.trans this
   .match i,h1,h2 with
    |0,h1,h2=>
     cases h1;cases h2;refine⟨u,ru,.inl ⟨S.loc,by simp[List.lookup]⟩⟩
    |1,h1,h2=>
     cases h1;cases h2;obtain⟨m,_,hl⟩:=I.loc;obtain⟨u1,r1,l⟩:=hl j y v1 hj hv (.inr (.inl pM));refine⟨u1,r1,.inr ⟨.inr S.v7,c,cy,?_⟩⟩;rcases l with⟨kk,_⟩|⟨_,d,e,o,ho,hd⟩
     .rw[show X.env.kindOf y=some .cell from pM] at kk;cases kk
     .rw[mY] at e;cases e;exact⟨o,xr _ _ ho,hd⟩
    |i+2,h1,h2=>exact absurd h2 (by simp)
   .rw[(cl e).2];obtain⟨w,o,ho,hd⟩:=I.cell y c mY;exact⟨w,o,xr _ _ ho,hd⟩
   .rw[(cl e).2];exact I.iJ y c mY
   .have:=I.hq.hd;unfold xg at this ⊢;rw[show(qD X A x y q sc f (.ref c') [(y,c)] s H).A.handled=X.A.handled from hh];exact this
  refine kla_codeExpr (aeu (hb [] _ _ H _ J h) (?_) λ_ _ z=>z.elim)
  rintro v s' ⟨v',H',J',rv,q'⟩
  exact⟨v',H',J'.os,J'.bare,J'.base,J'.aD,rv,q'⟩
 .cases r with
  |error e=>exact z.elim
  |ok fl=>
   cases fl with
   |ret w=>exact I.after z
   |next=>exact z
   |brk=>exact z
   |cont=>exact z
theorem R9(r:aN [.int a,.int b] ao):∃t u,ao=[.int a t,.int b u]:=by
 cases r with
 |cons h1 r=>cases r with
  |cons h2 r=>cases r;obtain⟨t,rfl⟩:=h1;obtain⟨u,rfl⟩:=h2;exact⟨t,u,rfl⟩
theorem IntsAre.at{vs:List Value}{ns:List Int}(h:IntsAre vs ns):∀{j:Nat} {v},vs[j]? = some v->∃n t,ns[j]? = some n/\v=.int n t:=by
 induction h with
 |nil=>intro j v e;simp at e
 |cons n t _ ih=>
  intro j v e;cases j with
  |zero=>cases e;exact⟨n,t,rfl,rfl⟩
  |succ j=>exact ih (by simpa using e)
theorem Paired.Yj{α β:Type}{R:α->β->Prop}{l:List α}{m:List β}{a:α}{b:β}(h:Paired R l m)(r:R a b):Paired R (l++[a]) (m++[b]):=by
 induction h with
 |nil=>exact .cons r .nil
 |cons r' _ ih=>exact .cons r' ih
theorem Ij(h:IntsAre ao ns):∀(l:List Nat),(∀i∈l,i<ns.length)->aN ((l.map λi=>ns.getD i 0).map V.int) (l.map λi=>ao.getD i Value.none)
 |[],_=>.nil
 |i::l,hl=>by
  have hi:=hl i aat;have Ja:i<ao.length:=by rw[h.length];exact hi
  obtain⟨n,t,e1,e2⟩:=IntsAre.at h (acr Ja);refine .cons ?_ (Ij h l λj m=>hl j (aad _ m));show RelV (V.int (ns.getD i 0)) (ao.getD i Value.none);rw[adJ,adJ,e1,acr Ja,e2];exact⟨t,rfl⟩
theorem abW{ns:List Int}{q:Array Nat}(P:aX ns.length q):(q.toList.map λi=>ns.getD i 0).Perm ns:=by
 have h:=(aeU.mp P).map λi=>ns.getD i 0
 have e:((List.range ns.length).toArray.toList.map λi=>ns.getD i 0)=ns:=by
  refine List.ext_getElem (by simp) λi h1 h2=>?_
  simp[adJ,h2]
 rw[e] at h;exact h
section
variable{j:Nat}{te:Addr->Addr->Shared->Hp->TE}
theorem Xk{H2:Hp}{p f c':Addr}{gZ pm:Value}{v1:V}{ns:List Int}{pr:Int->Int×Int}{Q:VK}(I:Inv X ((f,kla_obj "<lambda>" q args body sc [(y,c)] pm c' gZ)::af) σ H2 s)(S:xZ sc args x y)(hc:H2 c'=some (.ir q))
  (mY:X.env.cells.lookup y=some c) (hj:X.N[j]? = some y) (hv:σ[j]? = some (some v1)) (pM:X.env.scope.names.lookup y=some .cell) (uI:X.A.in1.in1.depth<recursionLimit)
  (hb:∀f c' s H,PE (qD X X.A.in1.in1 x y q sc f (.ref c') [(y,c)] s H) body (te f c' s H)) (hq:bK X.K H2 p (ns.map V.int)) (kK:ns.length<64) (nd:(ns.map pr).Nodup)
  (ht:∀s H3,aE H2 H3->∀n∈ns,te f c' s H3 [some (.int n),some v1] H3 λv H4=>∃k,v=.ref k/\bN X.K H4 k [.int (pr n).1,.int (pr n).2]/\aE H3 H4)
  (hQ:∀(Hf) (D) (cj:List Int),aE H2 Hf->H2 D=none->Hf D=some (.lst (cj.map V.int))->cj.Perm ns->cj.Pairwise (λa b=>lex (pr a) (pr b)=true)->Q (.ref D) Hf) :
  wpAny (model X.prog X.w) X.A (call (.builtin "sorted") [.ref p] [(Str.ofString "key",.ref f)]) (EP X af σ Q) X.xe s:=by
 obtain⟨ao,ri,pl,hz⟩:=I.list hq;have hi:=intsAre_of ri;have li:=hi.length;have zl:ao.length<=sizeLine:=by rw[aeJ];lia
 refine call_function_entry_kw kind_sorted plain_sorted entry_sorted (ksk_s1 _ _) ?_;unfold Builtin.«sorted»;refine aae (adg ?_);refine aae (collect_list pl.isList ?_ zl);refine aae (wpAny_newList ?_ zl);generalize Mp:(s.heap.push (seqObj "list" #[] 0)).update s.heap.objs.size (Obj.mapSeq (·++ao.toArray))=h3;have k3:∀b o,s.heap.get? b=some o->h3.get? b=some o:=λb o e=>by
  rw[<- Mp,aeS _ _ _ _ (ady (aco e))];exact aaf _ e
 have z3:h3.objs.size=s.heap.objs.size+1:=by rw[<- Mp,Heap.size_update,size_push']
 have hD:(h3.push (seqObj "list" ao.toArray 0)).get? h3.objs.size=some (seqObj "list" ao.toArray 0):=ac9 _ rfl;refine aae (aeC (wpAny_call_entry_kw slot_list_sort ⟨_,hD,rfl⟩ entry_list_sort ?body (ksk_l1 _ _)))
 case body=>
  rw[ksk_t1];obtain⟨e1,MA⟩:∃e1,((h3.push (seqObj "list" ao.toArray 0)).update h3.objs.size (Obj.mapSeq λ_=>(#[]:Array Value))).get? h3.objs.size=some (seqObj "list" #[] e1):=⟨_,get?_update_seq hD λ_=>#[]⟩
  unfold ksk_tree;refine aae (listItems_at hD rfl ?_);refine aae (listUpdate_at hD rfl ?_ (by rw[adn];exact zl) (adZ _));refine aae (seqEpoch_at MA rfl ?_);refine aae (wpAny_newTuple ?_ (by show ao.length<=_;exact zl));refine aae (wpAny_newList ?_ (adZ _));refine aeC ?_;generalize EB:((h3.push (seqObj "list" ao.toArray 0)).update h3.objs.size (Obj.mapSeq λ_=>(#[]:Array Value))).push (seqObj "tuple" ao.toArray 0)=h6;have z6:h6.objs.size=s.heap.objs.size+3:=by rw[<- EB,size_push',Heap.size_update,size_push',z3]
  have k6:∀b o,s.heap.get? b=some o->h6.get? b=some o:=λb o e=>by
   have cN:=aco e;rw[<- EB];refine aaf _ ?_;rw[aeS _ _ _ _ (ady (adF cN (by rw[z3];exact Nat.le_succ _)))];exact aaf _ (k3 b o e)
  have Qe:h6.get? h3.objs.size=some (seqObj "list" #[] e1):=by rw[<- EB];exact aaf _ MA
  generalize hDe:h3.objs.size=D at *;generalize Ys:h6.objs.size=kS at *;have fD:=I.nM (H':=λ_=>none) (b:=D) (by lia) rfl;have fK:=I.nM (H':=λ_=>none) (b:=kS) (by lia) rfl;have FF:D≠kS:=by lia
  have F8:∀{H:Hp}{s':Shared} {b} {o},g9 X ((f,kla_obj "<lambda>" q args body sc [(y,c)] pm c' gZ)::af) (λ_=>none) b->H b=none->s'.heap.get? b=some o->(∀v,o.data≠.cell v)->
    s'.heap.get? b=some o/\H b=none/\b≠X.env.locals/\b∉X.fs/\∀v,o.data≠.cell v:=λF a b d=>⟨b,a,F.2.1,F.2.2.1,d⟩
  have J0:Inv X ((kS,seqObj "list" (List.map Value.ref []).toArray 0)::(D,seqObj "list" #[] e1)::(f,kla_obj "<lambda>" q args body sc [(y,c)] pm c' gZ)::af) σ H2 { s with heap:=h6.push (seqObj "list" #[] 0) }:=by
   have J:=I.kept (h':=h6.push (seqObj "list" #[] 0)) (t':=s.toks) λb o e=>aaf _ (k6 b o e)
   refine J.qN λp hp=>?_
   rcases abG.mp hp with rfl|hp
   .exact F8 fK (I.aD.fresh (by lia)) (by rw[<- Ys];exact ac9 _ rfl) (λv z=>by cases z)
   .rcases abG.mp hp with rfl|hp
    .exact F8 fD (I.aD.fresh (by lia)) (aaf _ Qe) (λv z=>by cases z)
    .exact J.pin p (aaY _ hp)
  unfold ksk_rest;refine aae (afF ?_);rw[List.forIn_toArray];refine aae (ksk_fold (λi s'=>∃(H:Hp) (qs:List Addr) (e:Nat),Inv X ((kS,seqObj "list" (qs.map Value.ref).toArray e)::(D,seqObj "list" #[] e1)::(f,kla_obj "<lambda>" q args body sc [(y,c)] pm c' gZ)::af) σ H s'/\aE H2 H/\
   Paired (λk n=>bN X.K H k [.int (pr n).1,.int (pr n).2]) qs (ns.take i)) ao 0 _ ⟨H2,[],0,J0,aE.refl _,.nil⟩ (λi u s' hu hI=>?_) λs' hI=>?_)
  .rw[afw] at hI ⊢;obtain⟨H,qs,e,J,sm,pd⟩:=hI;obtain⟨n,t,en,rfl⟩:=IntsAre.at hi hu;have ln:=Paired.length pd;have sI:=(adO.mp en).1;rw[aft] at ln;refine aae (afx (aeu (aa2 (v0:=.int n) (E:=λ_ _=>False) J S (aad _ (aad _ aat)) (sm _ _ hc) mY hj hv pM ⟨t,rfl⟩ rfl rfl uI (hb f c' s' H) (ht s' H sm n (aeN en))) (λk qR hk=>?_) λ_ _ z=>z.elim));obtain⟨v,H',J',rv,k',rfl,sq,vE⟩:=hk;obtain rfl:k=.ref k':=rv;have pk:=(J'.pin _ (aaY _ aat))
   have ea:((qs.map Value.ref).toArray).push (.ref k')=((qs++[k']).map Value.ref).toArray:=by simp
   obtain⟨c2,vp⟩:∃c2,(qR.heap.update kS (Obj.mapSeq (·.push (.ref k')))).get? kS=some (seqObj "list" ((qs++[k']).map Value.ref).toArray c2):=⟨_,by rw[<- ea];exact get?_update_seq pk.1 (·.push (.ref k'))⟩
   dsimp only;refine aae (listUpdate_at pk.1 rfl ?_ (by rw[adn,List.length_map,ln,aeJ];lia) (ad5 (Nat.le_of_eq (Array.size_push ..)) (by rw[adn,List.length_map,ln,aeJ];lia)));refine adg ⟨rfl,H',qs++[k'],c2,?_,sm.trans vE,?_⟩
   .have J1:=J'.qN λp hp=>J'.pin p (aaY _ (aad _ hp))
    have J2:=J1.turned (h':=qR.heap.update kS (Obj.mapSeq (·.push (.ref k')))) (t':=qR.toks) (λb o n e=>(aeS _ _ _ _ n).trans e) pk.2.1 fK.2.1 fK.2.2.2.1 fK.2.2.2.2.1 λp hp=>by
     rcases ada.mp hp with hp|hp
     .exact fK.2.2.2.2.2 p (abT _ hp)
     .rcases abG.mp hp with rfl|hp
      .exact FF
      .exact fK.2.2.2.2.2 p (aaY _ hp)
    refine J2.qN λp hp=>?_
    rcases abG.mp hp with rfl|hp
    .exact F8 fK pk.2.1 vp (λv z=>by cases z)
    .exact J2.pin p (aaY _ hp)
   .rw[List.take_succ,en];exact Paired.Yj (Paired.zU pd λk n r=>by
     rcases r with(r|⟨o,r⟩)|r
     .exact .inl (.inl (vE _ _ r))
     .exact .inl (.inr ⟨o,vE _ _ r⟩)
     .exact .inr r) sq
  .rw[afw] at hI;obtain⟨H,qs,e,J,sm,pd⟩:=hI;rw[li,List.take_length] at pd;have lq:=Paired.length pd;have pk:=(J.pin _ (aaY _ aat))
   have pD:=(J.pin _ (aaY _ (aad _ aat)))
   refine aae (listItems_at pk.1 rfl ?_);have pp:∀{l} {qs},Paired (λk n=>bN X.K H k [.int (pr n).1,.int (pr n).2]) qs l->Paired (IsPair s'.heap) qs (l.map pr):=by
    intro l qs r
    induction r with
    |nil=>exact .nil
    |cons r _ ih=>
     refine .cons ?_ ih;obtain⟨it,rv,tp,_⟩:=J.tuple r;obtain⟨t,u,rfl⟩:=R9 rv;exact⟨t,u,tp⟩
   refine RC (by lia) (by rw[lq,li]) (pp pd) nd pk.1 pD.1 FF λq2 P2 S2=>?_
   rw[li] at P2 S2;have ql:∀i∈q2.toList,i<ns.length:=λi m=>by
    have:=(aeU.mp P2).mem_iff.mp m;simpa using this
   refine⟨_,rfl,adg ⟨_,rfl,?_⟩⟩;have J1:=J.qN λp hp=>J.pin p (aaY _ (aad _ (aad _ (aad _ hp))))
   have np:∀{b},g9 X ((f,kla_obj "<lambda>" q args body sc [(y,c)] pm c' gZ)::af) (λ_=>none) b->∀p∈X.pn++af,p.1≠b:=λF p hp=>F.2.2.2.2.2 p ((ada.mp hp).elim (λz=>abT _ z) λz=>aaY _ (aad _ z))
   have J2:=J1.turned (h':=s'.heap.update kS (Obj.mapSeq λ_=>#[])) (t':=s'.toks) (λb o n e=>(aeS _ _ _ _ n).trans e) pk.2.1 fK.2.1 fK.2.2.2.1 fK.2.2.2.2.1 (np fK);have J3:=J2.turned (h':=(s'.heap.update kS (Obj.mapSeq λ_=>#[])).update D (Obj.mapSeq λ_=>(q2.toList.map λi=>ao.getD i Value.none).toArray)) (t':=s'.toks) (λb o n e=>(aeS _ _ _ _ n).trans e) pD.2.1 fD.2.1 fD.2.2.2.1 fD.2.2.2.2.1 (np fD);have Yt:=get?_update_seq (h:=s'.heap.update kS (Obj.mapSeq λ_=>#[])) ((aeS _ _ _ _ FF).trans pD.1) λ_=>(q2.toList.map λi=>ao.getD i Value.none).toArray
   refine⟨.ref D,upd H D (.lst ((q2.toList.map λi=>ns.getD i 0).map V.int)),J3.aaz pD.2.1 ⟨?_,fD.2.1,fD.2.2.2.2.1,np fD⟩ ⟨?_,_,_,Ij hi _ ql,Yt⟩,rfl,hQ _ D _ (λb o e=>?_) ?_ bg (abW P2) ?_⟩
   .exact afm (by have:=I.sz;lia)
   .rw[List.length_map,List.length_map,ad3,aX.sz P2,aeJ];lia
   .rw[aG (cu (sm b o e) pD.2.1)];exact sm b o e
   .cases e:H2 D with
    |none=>rfl
    |some o=>have:=sm D o e;rw[pD.2.1] at this;cases this
   .rw[afs];intro i k hi hk XQ;have hq:∀i,i<ns.length->(hx:i<(q2.toList.map λi=>ns.getD i 0).length)->pr ((q2.toList.map λi=>ns.getD i 0)[i])=(ns.map pr).getD (q2.getD i 0) (0,0):=λi hi hx=>by
     have hs:i<q2.size:=by rw[aX.sz P2];exact hi
     have cN:=aX.lt P2 hi;rw[List.getElem_map,getD_at hs];rw[getD_at hs] at cN;simp[adJ,cN]
    have hz:(q2.toList.map λi=>ns.getD i 0).length=ns.length:=by rw[List.length_map,ad3,aX.sz P2]
    rw[hq i (by lia) hi,hq k (by lia) hk];exact S2 i k XQ (by lia)
def Ie(K:PySem.W.Frag)(j:Nat)(te:Addr->Addr->Shared->Hp->TE)(σ:St)(Q:VK)(x:V)(H1:Hp):Prop:=∃(p:Addr) (ns:List Int) (pr:Int->Int×Int) (v1:V),x=.ref p/\bK K H1 p (ns.map V.int)/\ns.length<64/\(ns.map pr).Nodup/\σ[j]? = some (some v1)/\
 (∀f c' s H3,aE H1 H3->∀n∈ns,te f c' s H3 [some (.int n),some v1] H3 λv H4=>∃k,v=.ref k/\bN K H4 k [.int (pr n).1,.int (pr n).2]/\aE H3 H4)/\
 ∀(Hf) (D) (cj:List Int),aE H1 Hf->H1 D=none->Hf D=some (.lst (cj.map V.int))->cj.Perm ns->cj.Pairwise (λa b=>lex (pr a) (pr b)=true)->Q (.ref D) Hf
def QH(K:PySem.W.Frag)(j:Nat)(ta:TE)(te:Addr->Addr->Shared->Hp->TE):TE:=λσ H Q=>ta σ H (Ie K j te σ Q)
theorem acQ{a:Expr}{ta:TE}{p kp pos ji:Pos}{f0:Addr}{o0:Obj}(hm:X.mg "sorted"=none)(ha:PE X a ta)(S:xZ sc args x y)(lk:X.K.lookup f0=some o0)(sh:uc o0=some (X.env.code,q,ji))(hq:X.env.qual++"<lambda>"=q)(tX:closureFor sc X.env=pure [(y,c)])
  (mY:X.env.cells.lookup y=some c) (hj:X.N[j]? = some y) (pM:X.env.scope.names.lookup y=some .cell) (uI:X.A.in1.in1.depth<recursionLimit) (hb:∀f c' s H,PE (qD X X.A.in1.in1 x y q sc f (.ref c') [(y,c)] s H) body (te f c' s H))
  (uE:defaultsOf args X.env=([],[]):=by rfl) (hg:Gl X "sorted":=by rfl) (hs:starEach [a] X.env=[(false,eval a X.env)]:=by rfl)
  (h1:backTo pos (starEach [a] X.env)=(false,eval a X.env)::backTo pos (starEach [] X.env):=by rfl) (h2:(backTo pos (starEach [a] X.env)).any (·.1)=false:=by rfl)
  (h3:(backToKw pos (keywordEach [⟨some "key",.Lambda args body sc ji,kp⟩] X.env)).all (·.1.isSome)=true:=by rfl) (h4:(backToKw pos (keywordEach [⟨some "key",.Lambda args body sc ji,kp⟩] X.env)).any (·.1.isNone)=false:=by rfl)
  (h5:(backToKw pos (keywordEach [⟨some "key",.Lambda args body sc ji,kp⟩] X.env)).filterMap (·.1)=[("key":Str)]:=by rfl) :
  PE X (.Call (.Name "sorted" p) [a] [⟨some "key",.Lambda args body sc ji,kp⟩] pos) (QH X.K j ta te):=by
 intro af s σ H Q I h;refine aea (kG I hg hm (show bootBuiltins "sorted"=some (.builtin "sorted") by decide +kernel) ?_ (by decide) (by decide));refine callWith_kw ?_ h1 h2 h3 h4;rw[h5];refine zF (dU ha fC hs pos af s σ H (λvs H1=>match vs with|[x]=>Ie X.K j te σ Q x H1|_=>False) I h) λus s1 vs H1 I1 rv q1=>?_
 rcases vs with _|⟨x,_|⟨x2,r2⟩⟩
 .exact q1.elim
 .obtain⟨u,rfl,ru⟩:=vals1 rv;obtain⟨p,ns,pr,v1,rfl,mL,kK,nd,hv,ht,hQ⟩:=q1;cases ru;refine kws_cons (ac3 I1 lk sh uE tX hq λf c' gZ pm H' s' J sm hc=>kws_nil ?_);refine Xk J S hc mY hj hv pM uI hb (mL.elim (λz=>.inl (z.elim (λz=>.inl (sm _ _ z)) λ⟨o,z⟩=>.inr ⟨o,sm _ _ z⟩)) .inr) kK nd (λs H3 vE=>ht f c' s H3 (sm.trans vE)) λHf D cj s1 n1=>hQ Hf D cj (sm.trans s1) ?_
  cases e:H1 D with
  |none=>rfl
  |some o=>have:=sm D o e;rw[n1] at this;cases this
 .exact q1.elim
end
end L2
namespace L2.Ev
open PySem PySem.Spec PyProof.Rows
def sY(pr:Int->Int×Int)(x:Int):List Int->List Int
 |[]=>[x]
 |y::r=>if lex (pr x) (pr y)=true then x::y::r else y::sY pr x r
def iB(pr:Int->Int×Int):List Int->List Int
 |[]=>[]
 |x::r=>sY pr x (iB pr r)
theorem Co(x:Int):∀l:List Int,(sY pr x l).Perm (x::l)
 |[]=>.refl _
 |y::r=>by
  unfold sY
  split
  .exact .refl _
  .exact((Co x r).cons y).trans (.swap x y r)
theorem uY:∀l:List Int,(iB pr l).Perm l
 |[]=>.refl _
 |x::r=>(Co x (iB pr r)).trans ((uY r).cons x)
theorem lex_trans(h:lex a b=true)(g:lex b c=true):lex a c=true:=by
 have h:=abd h;have g:=abd g;exact abL (by lia)
theorem Tv(h:a≠b)(g:¬lex a b=true):lex b a=true:=by
 have n2:¬(a.1=b.1/\a.2=b.2):=λz=>h (Prod.ext z.1 z.2)
 have g:¬(a.1<b.1\/a.1=b.1/\a.2<b.2):=λz=>g (abL z)
 exact abL (by omega)
theorem Hj(x:Int):∀{l},(∀y∈l,pr x≠pr y)->l.Pairwise (λa b=>lex (pr a) (pr b)=true)->(sY pr x l).Pairwise (λa b=>lex (pr a) (pr b)=true)
 |[],_,_=>List.pairwise_singleton _ _
 |y::r,n,h=>by
  obtain⟨h1,h2⟩:=adU.mp h;unfold sY
  split
  .rename_i hx;exact adU.mpr ⟨λz m=>(abG.mp m).elim (λe=>e ▸ hx) λm=>lex_trans hx (h1 z m),h⟩
  .rename_i hx;refine adU.mpr ⟨λz m=>?_,Hj x (λy m=>n y (aad _ m)) h2⟩;rcases abG.mp ((Co x r).mem_iff.mp m) with e|m
   .rw[e];exact Tv (n y aat) hx
   .exact h1 z m
theorem HA:∀{l},(l.map pr).Nodup->(iB pr l).Pairwise (λa b=>lex (pr a) (pr b)=true)
 |[],_=>.nil
 |x::r,n=>by
  rw[aax] at n;obtain⟨n1,n2⟩:=ado.mp n;exact Hj x (λy m e=>n1 (adp.mpr ⟨y,(uY r).mem_iff.mp m,e.symm⟩)) (HA n2)
theorem JB(p:a.Perm b)(n:(b.map pr).Nodup)(s:a.Pairwise (λa b=>lex (pr a) (pr b)=true)):a=iB pr b:=by
 have q:a.Perm (iB pr b):=p.trans (uY b).symm;refine q.eq_of_pairwise (λx y _ _ h1 h2=>?_) s (HA n);have h1:=abd h1;have h2:=abd h2
 lia
noncomputable def oK(fb:EF)(dc:D)(n:Int):Option (Int×Int):=match fb [some (.int n,.own),some (dc,.sh [])] with
 |some (.tup [.int a,.int b],_)=>some (a,b)
 |_=>none
def sF(fb:EF)(dc:D)(n:Int):Int×Int:=(oK fb dc n).getD (0,0)
def Ft(j:Nat)(fa fb:EF):EF:=λρ=>match fa ρ,ρ[j]? with
 |some (.lst ds,_),some (some (dc,_))=>match cU ds with
  |some ns=>if ns.length<64/\(ns.map (sF fb dc)).Nodup/\∀n∈ns,(oK fb dc n).isSome=true then some (.lst ((iB (sF fb dc) ns).map D.int),.own) else none
  |none=>none
 |_,_=>none
theorem Qk(j:Nat)(hm:X.mg "sorted"=none)(ha:FP X a fa)(S:xZ sc args x y)(lk:X.K.lookup f0=some o0)(sh:uc o0=some (X.env.code,q,ji))(uI:X.A.in1.in1.depth<recursionLimit)
  (hb:∀f c' s H,FP (qD X X.A.in1.in1 x y q sc f (.ref c') [(y,c)] s H) body fb) (hq:X.env.qual++"<lambda>"=q:=by rfl) (tX:closureFor sc X.env=pure [(y,c)]:=by rfl)
  (mY:X.env.cells.lookup y=some c:=by rfl) (hj:X.N[j]? = some y:=by rfl) (pM:X.env.scope.names.lookup y=some .cell:=by rfl)
  (uE:defaultsOf args X.env=([],[]):=by rfl) (hg:Gl X "sorted":=by rfl) (hs:starEach [a] X.env=[(false,eval a X.env)]:=by rfl)
  (h1:backTo pos (starEach [a] X.env)=(false,eval a X.env)::backTo pos (starEach [] X.env):=by rfl) (h2:(backTo pos (starEach [a] X.env)).any (·.1)=false:=by rfl)
  (h3:(backToKw pos (keywordEach [⟨some "key",.Lambda args body sc ji,kp⟩] X.env)).all (·.1.isSome)=true:=by rfl) (h4:(backToKw pos (keywordEach [⟨some "key",.Lambda args body sc ji,kp⟩] X.env)).any (·.1.isNone)=false:=by rfl)
  (h5:(backToKw pos (keywordEach [⟨some "key",.Lambda args body sc ji,kp⟩] X.env)).filterMap (·.1)=[("key":Str)]:=by rfl) :
  FP X (.Call (.Name "sorted" p) [a] [⟨some "key",.Lambda args body sc ji,kp⟩] pos) (Ft j fa fb):=by
 obtain⟨ta,pa,sa⟩:=ha;refine⟨_,acQ hm pa S lk sh hq tX mY hj pM uI (λf c' s H=>(hb f c' s H).choose_spec.1) uE hg hs h1 h2 h3 h4 h5,@λH0 S' z ak ρ σ H Q d tg ok e k=>?_⟩;unfold Ft at e
 split at e
 .rename_i ds t1 dc t2 e1 e2
  split at e
  .rename_i ns qY
   split at e
   .rename_i hc;cases e;obtain⟨kK,nd,hk⟩:=hc;refine sa ok e1 λH1 v fp s1 r1 g1=>?_
    obtain⟨l,xs,f',rfl,mL,rs,_⟩:=r1.dW;have ex:=oi rs qY;subst ex;obtain⟨vc,fc,Vp,rc,_⟩:=ok.sl j dc t2 e2;refine⟨l,ns,sF fb dc,vc,rfl,mL,kK,nd,Vp,λf c' s H3 s3 n mn=>?_,λHf D cj sf nD hD pm st=>?_⟩
    .obtain⟨kk,ek⟩:=aeG.mp (hk n mn);have zH:=ek;unfold oK at zH
     split at zH
     .rename_i a b tb eb;cases zH;have i9:Ok X.K H3 [] (λ_=>none) [] [some (.int n,.own),some (dc,.sh [])] [some (.int n),some vc] H3:=by
       refine⟨λi d t e=>?_,(λp m=>nomatch m),(λa j e=>nomatch e),λa o e _=>e,rfl⟩
       match i,e with
       |0,e=>cases e;exact⟨_,[],rfl,.int n,adw,λa m=>nomatch m⟩
       |1,e=>cases e;exact⟨vc,fc,rfl,(rc.same s1).same s3,λa m j e=>nomatch e⟩
       |i+2,e=>exact absurd e (by simp)
      refine(hb f c' s H3).choose_spec.2 i9 eb λH4 v fp s4 r4 _=>?_
      obtain⟨w,xs,rfl,hw,d9⟩:=r4.gJ;refine⟨w,rfl,?_,s4⟩;have e1:(sF fb dc n)=(a,b):=by unfold sF;rw[ek];rfl
      rw[e1];cases d9 with
      |cons h1 r=>cases r with
       |cons h2 r=>cases r;cases h1;cases h2;exact hw
     .cases zH
    .have eq:=JB pm nd st;subst eq;refine k Hf _ [D] (s1.trans sf) (.lst hD (pU _)) ⟨ado.mpr ⟨(λm=>nomatch m),adw⟩,λa m=>?_⟩;cases aaS.mp m;exact s1.free nD
   .cases e
  .cases e
 .cases e
def FY(X:Cx)(e:Expr)(f:XF):Prop:=∃t,PE X e t/\∀{H0} {S} {z} {ak} {ρ} {σ} {H} {Q} {d} {ρ'},
 Ok X.K H0 S z ak ρ σ H->f ρ=some (d,ρ')->(∀z' H' v,Ok X.K H0 S z' ak ρ' σ H'->aU H H'->Rep X.K H' d v []->Q v H')->t σ H Q
theorem FY.fz(h:FY X e f):FZ X e f:=let⟨t,p,q⟩:=h;⟨t,p,@λH0 S z ak ρ σ H Q d ρ' ok e k=>q ok e λz' H' v o _ r=>k z' H' v o r⟩
theorem zu(h:FX X e f):FY X e f:=let⟨t,p,q⟩:=h;⟨t,p,@λH0 S z ak ρ σ H Q d ρ' ok e k=>q ok e λH' v o s r=>k z H' v o s.1 r⟩
theorem DI(i:Nat)(hC:ClsAt X.K cn C)(hm:ly X.K C m fa)(GG:bP X.prog X.w X.K X.mg X.base cR k fa fd ps (dN X.K G))(hr:bh k X.A)(hb:Binds X.K fd ps [])(ha:FA X (e::es) g)(va:VA X i x:=by walk_at "va")
  (gW:SE X e es pos:=by exact⟨rfl,rfl⟩)
  (ht:vG X (.Name x p1) m apos (e::es) pos pl:=by exact rfl):FY X (.Call (.Attribute (.Name x p1) m apos) (e::es) [] pos) (xO i cn m G g):=by
 obtain⟨ta,pa,_,qa⟩:=ha;refine⟨_,y9 va.pe hC.cl hm GG hr hb .nil mG pa gW.1 gW.2 ht,@λH0 S z ak ρ σ H Q d ρ' ok e0 kk=>?_⟩;obtain⟨Ae,qs,d1,h1,h2,hm,vj,hG,rfl⟩:=Pr e0;obtain⟨v,a_,hs,r0,zz⟩:=ok.sl i _ _ h1;refine⟨v,hs,?_⟩;obtain⟨b,dx,fs,gf,rfl,B_,h4,h5,h6,h7⟩:=r0.lO hC.ns;refine⟨b,dx,fs,rfl,h4,tM h6 hm,?_⟩;refine qa ok h2 λH2 vs l8 s2 r2 g2=>?_
 rw[adD];refine⟨b,vs,_,a_,_,l8,d,d1,rfl,r0.same s2,zz.1,r2,Gw ok vj g2 zz,hG,λH3 u bC im kp r1 nd fr rr=>?_⟩;obtain⟨z',i9⟩:=(ok.same s2).put h1 hs zz im kp r1 nd fr;exact kk z' H3 u i9 ((aU.of s2).trans im) rr
def A9(i:Nat)(cn fl f_ m:Str)(G:MF)(g:AF):XF:=λρ=>match ρ[i]?,g ρ with
 |some (some (.ins c es,.own)),some ps=>match es.lookup fl with
  |some (.ins c2 gh)=>if c=cn/\c2=f_/\gh.lookup m=none/\apart i ps=true then(G (.ins c2 gh) (ps.map (·.1))).map λw=>(w.1,bB ρ i (.ins c (dw fl w.2 es))) else none
  |_=>none
 |_,_=>none
theorem TZ(i:Nat)(hC:ClsAt X.K cn C)(na:iS X.K C fl)(xB:ClsAt X.K f_ C2)(hm:ly X.K C2 m fa)(GG:bP X.prog X.w X.K X.mg X.base cR k fa fd ps (dN X.K G))(hr:bh k X.A)(hb:Binds X.K fd ps [])(ha:FA X (e::es) g)(va:VA X i x:=by walk_at "va")
  (C9:attributeBase (.Name x p1) fl X.env (eval (.Name x p1) X.env)=eval (.Name x p1) X.env:=by rfl)
  (gW:SE X e es pos:=by exact⟨rfl,rfl⟩)
  (ht:vG X (.Attribute (.Name x p1) fl p2) m apos (e::es) pos pl:=by exact rfl):FY X (.Call (.Attribute (.Attribute (.Name x p1) fl p2) m apos) (e::es) [] pos) (A9 i cn fl f_ m G g):=by
 obtain⟨ta,pa,_,qa⟩:=ha;refine⟨_,y9 (sR va.pe C9) xB.cl hm GG hr hb .nil mG pa gW.1 gW.2 ht,@λH0 S z ak ρ σ H Q d ρ' ok e0 kk=>?_⟩;unfold A9 at e0
 split at e0
 .rename_i c es1 qs h1 h2
  split at e0
  .rename_i c2 gh hl
   by_cases hc:c=cn/\c2=f_/\gh.lookup m=none/\apart i qs=true
   .rw[if_pos hc] at e0;obtain⟨rfl,rfl,S6,vj⟩:=hc;obtain⟨w,hG,ew⟩:=adC.mp e0;cases ew;obtain⟨v,a_,hs,r0,zz⟩:=ok.sl i _ _ h1;refine⟨v,hs,?_⟩;obtain⟨b0,dx,fs,u,gf,rfl,a1,a2,a3,a4,a5,a6⟩:=r0.place hC.ns zz.1 hl;refine⟨b0,C,dx,fs,u,rfl,a1,hC.cl,na,a2,?_⟩;obtain⟨b,Vi,Um,g2,rfl,B_,c4,c5,c6,c7⟩:=a3.lO xB.ns;refine⟨b,Vi,Um,rfl,c4,tM c6 S6,?_⟩;refine qa ok h2 λH2 vs l8 s2 r2 gg=>?_
    rw[adD];refine⟨b,vs,_,gf,_,l8,w.1,w.2,rfl,a3.same s2,a4,r2,λx m n=>Gw ok vj gg zz x m (a5 x n),hG,λH3 u' bC im kp r1 nd fr rr=>?_⟩;have i3:=(aU.of s2).trans im;have k3:∀b o,b∉gf->H b=some o->H3 b=some o:=λb o n e=>kp b o n (s2 b o e)
    obtain⟨G3,k1,k2,k4⟩:=a6 H3 w.2 bC i3 k3 r1 nd λb m=>(fr b m).imp id s2.free
    obtain⟨z',i9⟩:=ok.put h1 hs zz i3 (λb o n e=>k3 b o (λm=>n (a5 b m)) e) k1 k2 k4;exact kk z' H3 u' i9 i3 rr
   .rw[acZ hc] at e0;cases e0
  .cases e0
 .cases e0
noncomputable def tZ(f:XF):aO->Option (Bool×aO):=λρ=>match f ρ with
 |some (.bl b,ρ')=>some (b,ρ')
 |_=>none
theorem aay(h:FZ X a f)(he:∀whole,isTrue a X.env whole=(do let v <- whole;standAt a.pos;holding [v] (truthy v)):=by intro _;rfl):su X a (tZ f):=by
 obtain⟨t,p,q⟩:=h;refine⟨_,KN p he,@λH0 S z ak ρ σ H Q c ρ' ok e k=>?_⟩;unfold tZ at e
 split at e
 .rename_i c' aF h1;cases e;refine q ok h1 λz' H' v bu r=>?_
  cases r;exact⟨_,rfl,k z' H' bu⟩
 .cases e
noncomputable def jT(c:aO->Option (Bool×aO))(f:SF):Nat->SF
 |0,_=>none
 |n+1,ρ=>match c ρ with
  |some (false,aF)=>some (.nx aF)
  |some (true,aF)=>match f aF with
   |some (.nx ρ')=>jT c f n ρ'
   |_=>none
  |none=>none
theorem aao(n:Nat)(hc:su X c tc)(hb:FS X body fb)(hp:PassesOwn (model X.prog X.w) X.A X.env X.xe:=by exact PassesOwn.never):eY X (.While c body [] pos) (jT tc fb n):=by
 obtain⟨t,p,q⟩:=hc;obtain⟨tb,pb,qb⟩:=hb;exists 23,Ht hp p pb;refine⟨λm aC H'=>∃z' ρ',Ok X.K H0 S z' ak ρ' aC H'/\jT tc fb m ρ'=some o/\Kp X σ aC,⟨n,z,ρ,ok,e,.refl _ _⟩,?_⟩
 rintro m aC H' ⟨z',ρ',bu,e',kp⟩
 cases m with
 |zero=>cases e'
 |succ m=>
  unfold jT at e'
  split at e'
  .rename_i aF hc;cases e';refine q bu hc λz1 H1 bJ=>?_
   rw[acZ abR];exact k z1 aC H1 bJ kp
  .rename_i aF hc;refine q bu hc λz1 H1 bJ=>?_
   rw[if_pos rfl]
   split at e'
   .rename_i aQ hf;refine⟨λgS H2=>∃z2 aQ,Ok X.K H0 S z2 ak aQ gS H2/\jT tc fb m aQ=some o/\Kp X σ gS,λgS H2 hn=>⟨m,ae7 m,hn⟩,?_⟩;exact qb bJ hf λz3 cH H3 g_ b=>⟨z3,aQ,g_,e',kp.trans b⟩
   .cases e'
  .cases e'
noncomputable def rT(f g:XF):XF:=λρ=>match f ρ with
 |some (.bl true,ρ')=>some (.bl true,ρ')
 |some (.bl false,ρ')=>match g ρ' with
  |some (.bl b,aQ)=>some (.bl b,aQ)
  |_=>none
 |_=>none
theorem aa1(ha:FZ X a f)(hb:FZ X b g):FZ X (.BoolOp .Or [a,b] pos) (rT f g):=by
 obtain⟨t,p,q⟩:=ha;obtain⟨t',p',q'⟩:=hb;refine⟨_,acS p (Of p'),@λH0 S z ak ρ σ H Q d ρ' ok e k=>?_⟩;unfold rT at e
 split at e
 .rename_i aF h;cases e;refine q ok h λz1 H1 v bJ r1=>?_
  cases r1;refine⟨true,rfl,?_⟩;rw[if_pos rfl];exact k z1 H1 _ bJ (.bl _)
 .rename_i aF h
  split at e
  .rename_i c aQ h2;cases e;refine q ok h λz1 H1 v bJ r1=>?_
   cases r1;refine⟨false,rfl,?_⟩;rw[acZ abR];exact q' bJ h2 k
  .cases e
 .cases e
section
variable{K:PySem.W.Frag}
theorem OU(h:bN K H a (ks.map L2.kV))(ni:n_ K=true)(hi:ks.all (λk=>k.isLeft)=true)(hn:ks≠[]):Tk H a (ks.map L2.kV):=by
 rcases h with(h|⟨o,h⟩)|⟨o,ao,n,hk,_,_,hd,_,rv⟩
 .exact⟨.tup _,rfl,h⟩
 .exact⟨.rD o _,rfl,h⟩
 .exfalso
  have q:=adW.mp ni (a,o) (A0 hk);dsimp only at q;rw[hd] at q;have len:=rv.length;have go:∀{ks:List Key} {vs},ks.all (λk=>k.isLeft)=true->aN (ks.map L2.kV) vs->∀v∈vs,∃i t,v=Value.int i t:=by
   intro ks
   induction ks with
   |nil=>intro vs _ r v m;cases r;cases m
   |cons k ks ih=>
    intro vs h r v m;obtain⟨h1,h2⟩:=(abm _ _).mp (by simpa only[afz] using h);cases r with
    |cons r1 r2=>
     rcases abG.mp m with e|m
     .subst e;cases k with
      |inr _=>cases h1
      |inl i=>obtain⟨t,e⟩:=(show RelV (.int i) _ from r1);exact⟨i,t,e⟩
     .exact ih h2 r2 v m
  rcases(Bool.or_eq_true _ _).mp (show(ao.size==0||ao.toList.any _)=true from q) with z|z
  .have z:ao.size=0:=by simpa using z
   simp only[List.length_map,ad3] at len;exact hn (ad1 (len.trans z))
  .obtain⟨v,mv,e⟩:=adS.mp z;obtain⟨i,t,rfl⟩:=go hi rv v mv;cases e
theorem Tk.aA(h:Tk H a xs)(i:aU H H'):Tk H' a xs:=by
 obtain⟨t,e1,e2⟩:=h;cases t with
 |tup ys=>exact⟨.tup ys,e1,i.1 _ _ e2⟩
 |rD o ys=>exact⟨.rD o ys,e1,i.2.1 _ _ _ e2⟩
 |gQ _ _=>cases e1
 |ir _=>cases e1
variable[DecidableEq κ]
theorem GO:∀{es:List (κ×α)},k∉es.map (·.1)->(es.map λkv=>if kv.1=k then(kv.1,d) else kv)=es
 |[],_=>rfl
 |(q,x)::es,n=>by
  rw[aax] at n ⊢;rw[acZ (λe=>n (by rw[e];exact aat)),GO λm=>n (aad _ m)]
theorem ay.O5:∀{es}{ah:List (κ×V)} {g},es.map (·.1)=ah.map (·.1)->ay K H (es.map (·.2)) (ah.map (·.2)) g->g.Nodup->(es.map (·.1)).Nodup->aW es k=some d0->
  ∃v gf,dG ah k=some v/\Rep K H d0 v gf/\gf.Nodup/\(∀a∈gf,a∈g)/\∀(H') (d1) (g1),aU H H'->(∀b o,b∉gf->b∈g->H b=some o->H' b=some o)->Rep K H' d1 v g1->g1.Nodup->(∀b∈g1,b∈gf\/H b=none)->
   ∃g',ay K H' ((putD es k d1).map (·.2)) ((putK ah k v).map (·.2)) g'/\g'.Nodup/\∀b∈g',b∈g\/H b=none
 |[],_,_,_,_,_,_,e=>by cases e
 |_::_,[],_,k,_,_,_,_=>by simp at k
 |(x,d)::es,(y,v0)::ah,_,hk,r,nd,kd,e=>by
  simp only[aax,aes] at hk;obtain⟨rfl,hk⟩:=hk;rw[aax] at kd;obtain⟨Lj,Yy⟩:=ado.mp kd;have any:∀{α}{l:List (κ×α)}{d:α},k∈l.map (·.1)->(l.any λkv=>decide (kv.1=k))=true:=λ{α l d} m=>by
   obtain⟨p,m1,m2⟩:=adp.mp m;exact adS.mpr ⟨p,m1,abL m2⟩
  cases r with
  | @cons _ _ _ _ f1 f2 r1 r2=>
   obtain⟨a1,a2,a3⟩:=adE.mp nd
   by_cases hx:x=k
   .subst hx;have e1:aW ((x,d)::es) x=some d:=by simp[aW,adN]
    rw[e1] at e;obtain rfl:d=d0:=ads e;refine⟨v0,f1,xq rfl,r1,a1,λa m=>abT _ m,λH' d1 g1 im kp rr n1 fr=>?_⟩;refine⟨g1++f2,?_,adE.mpr ⟨n1,a2,λa ma b mb e=>?_⟩,λb m=>?_⟩
    .have er:putD ((x,d)::es) x d1=(x,d1)::es:=by
      unfold putD;rw[any (d:=d1) (by simp),if_pos rfl,aax,GO Lj,if_pos rfl]
     have ev:putK ((x,v0)::ah) x v0=(x,v0)::ah:=by
      unfold putK;rw[any (d:=v0) (by simp),if_pos rfl,aax,GO (show x∉ah.map (·.1) by rw[<- hk];exact Lj),if_pos rfl]
     rw[er,ev,aax,aax];refine .cons rr (r2.frame (λa m=>?_) im);obtain⟨o,w,_⟩:=r2.cZ a m;rw[kp a o (λq=>a3 a q a m rfl) (aaY _ m) w,w]
    .subst e;obtain⟨o,w,_⟩:=r2.cZ a mb;rcases fr a ma with q|q
     .exact a3 a q a mb rfl
     .rw[q] at w;cases w
    .rcases ada.mp m with m|m
     .exact(fr b m).imp (abT _) id
     .exact .inl (aaY _ m)
   .have e1:aW ((x,d)::es) k=aW es k:=by simp[aW,adN,hx]
    rw[e1] at e;obtain⟨v,gf,h1,h2,h3,h4,h5⟩:=ay.O5 hk r2 a2 Yy e;have mk:k∈es.map (·.1):=by
     unfold aW at e;obtain⟨p,e2,e3⟩:=adC.mp e;exact adp.mpr ⟨p,ad4 e2,abd (show decide (p.1=k)=true from afC (p:=λkv:κ×D=>decide (kv.1=k)) e2)⟩
    refine⟨v,gf,by rw[wu hx];exact h1,h2,h3,λa m=>aaY _ (h4 a m),λH' d1 g1 im kp rr n1 fr=>?_⟩;obtain⟨g',c1,c2,c3⟩:=h5 H' d1 g1 im (λb o n m e=>kp b o n (aaY _ m) e) rr n1 fr;refine⟨f1++g',?_,adE.mpr ⟨a1,c2,λa ma b mb e=>?_⟩,λb m=>?_⟩
    .have er:(putD ((x,d)::es) k d1)=(x,d)::putD es k d1:=by
      unfold putD;rw[any (d:=d1) (l:=(x,d)::es) (aad _ mk),any (d:=d1) mk,if_pos rfl,if_pos rfl,aax,acZ hx]
     have ev:(putK ((x,v0)::ah) k v)=(x,v0)::putK ah k v:=by
      unfold putK;rw[any (d:=v) (by rw[aax,<- hk];exact aad _ mk),any (d:=v) (by rw[<- hk];exact mk),if_pos rfl,if_pos rfl,aax,acZ hx]
     rw[er,ev,aax,aax];refine .cons (r1.frame (λa m=>?_) im) c1;obtain⟨o,w,_⟩:=r1.cZ a m;rw[kp a o (λq=>a3 a m a (h4 a q) rfl) (abT _ m) w,w]
    .subst e;obtain⟨o,w,_⟩:=r1.cZ a ma;rcases c3 a mb with q|q
     .exact a3 a ma a q rfl
     .rw[q] at w;cases w
    .rcases ada.mp m with m|m
     .exact .inl (abT _ m)
     .exact(c3 b m).imp (aaY _) id
theorem Ok.blank(ok:Ok K H0 S z ak ρ σ H)(h:ρ[i]? = some none):Ok K H0 S z ak ρ (σ.set i x) H:=
 ⟨λj d t e=>by
  have ne:i≠j:=λz=>by rw[<- z,h] at e;cases e
  obtain⟨v,fp,a,b,c⟩:=ok.sl j d t e;exact⟨v,fp,by rw[adI ne];exact a,b,c⟩,ok.hl,ok.zd,ok.en,by rw[afB];exact ok.ln⟩
end
noncomputable def xK(cn:Str):Option Slot->Option (List (Str×D))
 |some (some (.ins c es,.own))=>if c=cn then some es else none
 |_=>none
noncomputable def DT:Option Slot->Option (List D)
 |some (some (.tup ls,_))=>some ls
 |_=>none
noncomputable def GZ:Option Slot->Option Str
 |some (some (.str w,_))=>some w
 |_=>none
noncomputable def yj:Option D->Option (List (List Key×D))
 |some (.cQ l)=>some l
 |_=>none
theorem N8:∀{x} {es},xK cn x=some es->x=some (some (.ins cn es,.own)):=by
 rintro(_|_|⟨d,t⟩) es e
 any_goals cases e
 cases d
 any_goals cases e
 cases t
 any_goals cases e
 exact(aeK.mp e).elim λa b=>by cases a;cases b;rfl
theorem adm:∀{x} {ls},DT x=some ls->∃t,x=some (some (.tup ls,t)):=by
 rintro(_|_|⟨d,t⟩) es e
 any_goals cases e
 cases d
 all_goals cases e
 exact⟨_,rfl⟩
theorem Ze:∀{x} {w},GZ x=some w->∃t,x=some (some (.str w,t)):=by
 rintro(_|_|⟨d,t⟩) es e
 any_goals cases e
 cases d
 all_goals cases e
 exact⟨_,rfl⟩
theorem OZ:∀{x} {l},yj x=some l->x=some (.cQ l):=by
 rintro(_|d) es e
 any_goals cases e
 cases d
 all_goals cases e
 rfl
def sC(cn fl f_ m:Str)(ft:EF)(G:MF):SF:=λρ=>
 (xK cn ρ[0]?).bind λes=>(DT ρ[1]?).bind λls=>(GZ ρ[2]?).bind λwd=>(yj (es.lookup fl)).bind λah=>(gC ls).bind λks=>(ft ρ).bind λdn=>
  (xK f_ (some (some ((aW ah ks).getD dn.1,dn.2)))).bind λgh=>(G (.ins f_ gh) [.str wd]).bind λr=>
   if ρ[3]?.any Option.isNone=true/\gh.lookup m=none/\ks.all (λk=>k.isLeft)=true/\ks≠[]/\(ah.map (·.1)).Nodup/\ah.length<sizeLine/\aA r.1=true then some (.nx (h_ (bB ρ 0 (.ins cn (dw fl (.cQ (putD ah ks r.2)) es))) 4 r.1 .own)) else none
theorem acJ(e:sC cn fl f_ m ft G ρ=some w):∃es ls lt wd wt ah ks dn gh r d1,ρ[0]? = some (some (.ins cn es,.own))/\ρ[1]? = some (some (.tup ls,lt))/\ρ[2]? = some (some (.str wd,wt))/\ρ[3]? = some none/\es.lookup fl=some (.cQ ah)/\gC ls=some ks/\ft ρ=some (dn,.own)/\
  (aW ah ks).getD dn=.ins f_ gh/\gh.lookup m=none/\ks.all (λk=>k.isLeft)=true/\ks≠[]/\(ah.map (·.1)).Nodup/\ah.length<sizeLine/\G (.ins f_ gh) [.str wd]=some (r,d1)/\aA r=true/\w=.nx (h_ (bB ρ 0 (.ins cn (dw fl (.cQ (putD ah ks d1)) es))) 4 r .own):=by
 obtain⟨es,h1,e⟩:=ad2.mp e;obtain⟨ls,h2,e⟩:=ad2.mp e;obtain⟨wd,h3,e⟩:=ad2.mp e;obtain⟨ah,h4,e⟩:=ad2.mp e;obtain⟨ks,h5,e⟩:=ad2.mp e;obtain⟨dn,h6,e⟩:=ad2.mp e;obtain⟨gh,h7,e⟩:=ad2.mp e;obtain⟨⟨r,d1⟩,h8,e⟩:=ad2.mp e;obtain⟨⟨a0,a1,a2,a3,a4,a5,a6⟩,e⟩:=aeK.mp e;obtain⟨t2,h2⟩:=adm h2;obtain⟨t3,h3⟩:=Ze h3;have h7:=N8 h7;have a0:ρ[3]? = some none:=by
  rcases h:ρ[3]? with _|_|_<;>rw[h] at a0<;>first|rfl|cases a0
 cases e;injection h7 with h7;injection h7 with h7;injection h7 with h7 h9;exact⟨es,ls,t2,wd,t3,ah,ks,dn.1,gh,r,d1,N8 h1,h2,h3,a0,OZ h4,h5,by rw[h6,<- h9],h7,a1,a2,a3,a4,a5,h8,a6,rfl⟩
theorem aam(h0:ρ[0]? = some (some (.ins cn es,.own)))(h1:ρ[1]? = some (some (.tup ls,lt)))(h2:ρ[2]? = some (some (.str wd,wt)))(h3:ρ[3]? = some none)(h4:es.lookup fl=some (.cQ ah))(h5:gC ls=some ks)(h6:ft ρ=some (dn,.own))(h7:(aW ah ks).getD dn=.ins f_ gh)(h8:G (.ins f_ gh) [.str wd]=some (r,d1))
  (hc:gh.lookup m=none/\ks.all (λk=>k.isLeft)=true/\ks≠[]/\(ah.map (·.1)).Nodup/\ah.length<sizeLine/\aA r=true):sC cn fl f_ m ft G ρ=some (.nx (h_ (bB ρ 0 (.ins cn (dw fl (.cQ (putD ah ks d1)) es))) 4 r .own)):=by
 unfold sC xK DT GZ yj;simp only[h0,h1,h2,h3,h4,h5,h6,h7,h8,adH,if_pos];exact if_pos ⟨rfl,hc⟩
section
variable{cn fl f_ m x0 x1 x2 x3 x4:Str}{rest:List Stmt}
set_option maxHeartbeats 1000000 in
theorem Zr(hu:X.A.units+1<cLine)(ni:n_ X.K=true)(hC:ClsAt X.K cn C)(na:iS X.K C fl)(xB:ClsAt X.K f_ C2)(hm:ly X.K C2 m fa)(GG:bP X.prog X.w X.K X.mg X.base cR k fa fd ps (dN X.K G))(hr:bh k X.A)(hb:Binds X.K fd ps [])
  (hT:FP X tc ft) (vP:FM X rest g) (hN:X.N.Nodup) (a0:VA X 0 x0:=by walk_at "va") (a1:VA X 1 x1:=by walk_at "va") (a2:VA X 2 x2:=by walk_at "va") (a3:VA X 3 x3:=by walk_at "va") (h4:X.N[4]? = some x4:=by rfl)
  (v3:Loc X.env.scope x3:=by first|exact Or.inl rfl|exact Or.inr rfl) (v4:Loc X.env.scope x4:=by first|exact Or.inl rfl|exact Or.inr rfl)
  (C9:attributeBase (.Name x0 p1) fl X.env (eval (.Name x0 p1) X.env)=eval (.Name x0 p1) X.env:=by rfl) (Xa:attributeBase (.Name x0 q1) fl X.env (eval (.Name x0 q1) X.env)=eval (.Name x0 q1) X.env:=by rfl)
  (mm:M2 X (.Attribute (.Name x0 p1) fl p2) "get" p3 (.Name x1 p4) tc p5:=by exact⟨rfl,rfl,rfl,rfl⟩)
  (s1:swapsWith (.Call (.Attribute (.Attribute (.Name x0 p1) fl p2) "get" p3) [.Name x1 p4,tc] [] p5) (some (.Name x3 p6)) p7.line X.env=pure false:=by rfl)
  (s2:swapsWith (.Call (.Attribute (.Name x3 q2) m q3) [.Name x2 q4] [] q5) (some (.Name x4 p8)) p9.line X.env=pure false:=by rfl)
  (s3:swapsWith (.Name x3 q6) (some (.Subscript (.Attribute (.Name x0 q1) fl q7) (.Name x1 q8) q9)) r1.line X.env=pure false:=by rfl)
  (f3:X.fn x3=true\/X.env.scope.names.lookup x3=some .local:=by first|exact .inl rfl|exact .inr rfl) (f4:X.fn x4=true\/X.env.scope.names.lookup x4=some .local:=by first|exact .inl rfl|exact .inr rfl) (k3:kP X x3=false:=by rfl) (k4:kP X x4=false:=by rfl)
  (gW:starEach [.Name x2 q4] X.env=[(false,eval (.Name x2 q4) X.env)]:=by rfl)
  (ht:eval (.Call (.Attribute (.Name x3 q2) m q3) [.Name x2 q4] [] q5) X.env=(do
   let ov <- eval (.Name x3 q2) X.env
   standAt q3.atName
   let(f,first) <- holding [ov] (getMethod ov m pl)
   callWith q5 f first (backTo q5 (starEach [.Name x2 q4] X.env)) (backToKw q5 (keywordEach [] X.env))):=by rfl) :
  FM X (.Assign [.Name x3 p6] (.Call (.Attribute (.Attribute (.Name x0 p1) fl p2) "get" p3) [.Name x1 p4,tc] [] p5) p7::.Assign [.Name x4 p8] (.Call (.Attribute (.Name x3 q2) m q3) [.Name x2 q4] [] q5) p9::.Assign [.Subscript (.Attribute (.Name x0 q1) fl q7) (.Name x1 q8) q9] (.Name x3 q6) r1::rest) (bH (sC cn fl f_ m ft G) g):=by
 obtain⟨tT,pT,sT⟩:=hT;obtain⟨tr,pr,sr⟩:=vP;refine⟨_,r9 (ye hN a3.N v3 (I_ hu (sR a0.pe C9) a1.pe pT mm) s1 f3)
  (r9 (ye hN h4 v4 (y9 a3.pe xB.cl hm GG hr hb .nil mG (dU a2.pe fC gW) gW rfl ht) s2 f4)
  (r9 (yK hu (sR a0.pe Xa) a1.pe a3.pe s3) pr)),@λH0 S z ak ρ σ H E o ok e kE=>?_⟩
 cases hw:sC cn fl f_ m ft G ρ with
 |none=>unfold bH at e;rw[hw] at e;cases e
 |some w=>
  obtain⟨es,ls,lt,wd,wt,ah,ks,dn,gh,r,d1,e0,e1,e2,e3,XU,Yv,T6,sy,elm,Fk,gx,knd,hlen,eG,hir,rfl⟩:=acJ hw;have e:g (h_ (bB ρ 0 (.ins cn (dw fl (.cQ (putD ah ks d1)) es))) 4 r .own)=some o:=by unfold bH at e;rw[hw] at e;exact e
  obtain⟨v,a_,hs,r0,zz⟩:=ok.sl 0 _ _ e0;obtain⟨vl,FU,Lr,rl,_⟩:=ok.sl 1 _ _ e1;obtain⟨bL,xs,rfl,WK,UR⟩:=rl.gJ;obtain rfl:=ay.keys UR Yv;have r8:=OU WK ni Fk gx;obtain⟨vw,fw,jJ,d9,_⟩:=ok.sl 2 _ _ e2;obtain⟨rfl,rfl⟩:=d9.xh;have l3:3<σ.length:=by rw[<- ok.ln];exact(adO.mp e3).1
  obtain⟨b0,dx,fs,u,gf,⟨nb,nx⟩,rfl,a1,a2,a3,a4,a5,a6⟩:=r0.JS hC.ns zz.1 XU;cases a3 with
  | @cQ l gq _ g0 hl eN rs=>
   obtain⟨lg,n0⟩:=ado.mp a4;refine⟨.ref b0,hs,b0,C,dx,fs,.ref l,rfl,a1,hC.cl,na,a2,l,rfl,.inr ⟨gq,.inl hl⟩,.ref bL,Lr,?_⟩;refine sT ok T6 λH3 zv G3 s3 rn gn=>?_
   refine⟨dG gq ks,.inr ⟨gq,ks,bL,.inl (s3 _ _ hl),rfl,(Tk.aA r8 (.of s3)),rfl⟩,?_⟩;have hv:∃iT,Rep X.K H3 (.ins f_ gh) ((dG gq ks).getD zv) iT/\iT.Nodup/\(∀b∈iT,b∈g0\/H b=none)/\∀H5 bC,aU H3 H5->(∀b o,b∉iT->H3 b=some o->H5 b=some o)->Rep X.K H5 d1 ((dG gq ks).getD zv) bC->bC.Nodup->(∀b∈bC,b∈iT\/H3 b=none)->
     ∃g',ay X.K (upd H5 l (.dT (putK gq ks ((dG gq ks).getD zv)))) ((putD ah ks d1).map (·.2)) ((putK gq ks ((dG gq ks).getD zv)).map (·.2)) g'/\g'.Nodup/\l∉g'/\∀b∈g',b∈g0\/H b=none:=by
    cases qP:aW ah ks with
    |some dv=>
     rw[qP,aeV] at sy;subst sy;obtain⟨v,gv,b1,b2,b3,b4,b5⟩:=ay.O5 eN rs n0 knd qP;rw[b1,aeV];refine⟨gv,b2.same s3,b3,λb m=>.inl (b4 b m),λH5 bC im kp r5 vB kj=>?_⟩;have nl:l∉gv:=λm=>lg (b4 l m)
     have mV:=kp l _ nl (s3 _ _ hl);have xV:l∉bC:=λm=>(kj l m).elim nl λq=>by rw[s3 _ _ hl] at q;cases q
     obtain⟨g',c1,c2,c3⟩:=b5 (upd H5 l (.dT (putK gq ks v))) d1 bC (((aU.of s3).trans im).trans (aU.upd mV rfl)) (λb o n mb e=>by rw[aG (λq:b=l=>lg (q ▸ mb))];exact kp b o n (s3 b o e))
      (r5.frame (λb m=>aG (λq:b=l=>xV (q ▸ m))) (aU.upd mV rfl)) vB (λb m=>(kj b m).imp id s3.free)
     exact⟨g',c1,c2,(λm=>(c3 l m).elim lg λq=>by rw[hl] at q;cases q),c3⟩
    |none=>
     rw[qP] at sy;have sy:=sy;subst sy;have hn:=(pB eN rs).2 qP;rw[hn];show ∃iT,Rep X.K H3 (.ins f_ gh) zv iT/\iT.Nodup/\(∀b∈iT,b∈g0\/H b=none)/\∀H5 bC,aU H3 H5->(∀b o,b∉iT->H3 b=some o->H5 b=some o)->Rep X.K H5 d1 zv bC->bC.Nodup->(∀b∈bC,b∈iT\/H3 b=none)->
      ∃g',ay X.K (upd H5 l (.dT (putK gq ks zv))) ((putD ah ks d1).map (·.2)) ((putK gq ks zv).map (·.2)) g'/\g'.Nodup/\l∉g'/\∀b∈g',b∈g0\/H b=none
     refine⟨G3,rn,gn.1,λb m=>.inr (gn.2 b m),λH5 bC im kp r5 vB kj=>?_⟩;have nl:l∉G3:=λm=>by rw[gn.2 l m] at hl;cases hl
     have mV:=kp l _ nl (s3 _ _ hl);have v7:∀b∈bC,H b=none:=λb m=>(kj b m).elim (gn.2 b) s3.free
     have xV:l∉bC:=λm=>by rw[v7 l m] at hl;cases hl
     have i6:aU H (upd H5 l (.dT (putK gq ks zv))):=((aU.of s3).trans im).trans (aU.upd mV rfl);have n1:(ah.any λkv=>decide (kv.1=ks))=false:=by
      unfold aW at qP;rw[Option.map_eq_none_iff,aet] at qP;exact List.any_eq_false.mpr qP
     have n2:(gq.any λkv=>decide (kv.1=ks))=false:=by
      rw[EK,hn];rfl
     refine⟨g0++(bC++[]),?_,?_,λm=>?_,λb m=>?_⟩
     .unfold putD putK;rw[n1,n2,acZ abR,acZ abR,adQ,adQ];unfold putK at i6;rw[n2,acZ abR] at i6;refine ay.append (rs.frame (λb m=>?_) i6) (.cons (r5.frame (λb m=>aG (λq:b=l=>xV (q ▸ m))) (aU.upd mV rfl)) .nil);obtain⟨o,w,_⟩:=rs.cZ b m;rw[aG (λq:b=l=>lg (q ▸ m)),kp b o (λq=>by rw[gn.2 b q] at w;cases w) (s3 b o w),w]
     .rw[adD];refine adE.mpr ⟨n0,vB,λa ma b mb e=>?_⟩;obtain⟨o,w,_⟩:=rs.cZ a ma;rw[e,v7 b mb] at w;cases w
     .rw[adD] at m;exact(ada.mp m).elim lg xV
     .rw[adD] at m;exact(ada.mp m).imp id (v7 b)
   generalize(dG gq ks).getD zv=v at hv ⊢;obtain⟨iT,rv,Sj,Bm,fin⟩:=hv;obtain⟨a,Wd,TL,gT,rfl,B_,t1,t2,t3,t4⟩:=rv.lO xB.ns;refine⟨.ref a,aeh l3,a,Wd,TL,rfl,t1,tM t3 elm,.str wd,(by rw[adI (by decide)];exact jJ),?_⟩;refine⟨a,[.str wd],_,iT,[.str wd],[],r,d1,rfl,rv,Sj,.cons (.str wd) .nil,(λb m=>nomatch m),eG,λH5 ut bC im kp r5 vB kj rr=>?_⟩;have nl:l∉iT:=λm=>(Bm l m).elim lg λq=>by rw[hl] at q;cases q
   have mV:=kp l _ nl (s3 _ _ hl);have YS:b0∉iT:=λm=>(Bm b0 m).elim (λq=>nb (aad _ q)) λq=>by rw[a1] at q;cases q
   have Y6:=kp b0 _ YS (s3 _ _ a1);have XM:gq.length=ah.length:=by have:=congrArg List.length eN;simpa using this.symm
   refine⟨.ref a,(by rw[adI (by decide)];exact aeh l3),.ref b0,(by rw[adI (by decide),adI (by decide)];exact hs),b0,C,dx,fs,.ref l,rfl,Y6,hC.cl,na,a2,.ref bL,(by rw[adI (by decide),adI (by decide)];exact Lr),l,_,rfl,
    .inr ⟨gq,ks,bL,mV,rfl,(Tk.aA r8 ((aU.of s3).trans im)),(by rw[XM];exact hlen),rfl⟩,?_⟩
   obtain⟨g',y1,y2,y3,y4⟩:=fin H5 bC im kp r5 vB kj;have i6:aU H (upd H5 l (.dT (putK gq ks (.ref a)))):=((aU.of s3).trans im).trans (aU.upd mV rfl);have k6:∀b o,b∉l::g0->H b=some o->upd H5 l (.dT (putK gq ks (.ref a))) b=some o:=λb o n e=>by
    rw[aG (λq=>n (by rw[q];exact aat))];exact kp b o (λm=>(Bm b m).elim (λq=>n (aad _ q)) λq=>by rw[e] at q;cases q) (s3 b o e)
   obtain⟨adB,z1,z2,z3⟩:=a6 _ (.cQ (putD ah ks d1)) (l::g') i6 k6 (.cQ bg (xw eN) y1) (ado.mpr ⟨y3,y2⟩) (λb m=>(abG.mp m).elim (λq=>.inl (by rw[q];exact aat)) λm=>(y4 b m).imp (aad _) id);obtain⟨z',i9⟩:=ok.put e0 hs zz i6 (λb o n e=>k6 b o (λm=>n (a5 b m)) e) z1 z2 z3;have Rw:(bB ρ 0 (.ins cn (dw fl (.cQ (putD ah ks d1)) es)))[3]? = some none:=by unfold bB;rw[adI (by decide),adA,e3];rfl
   refine(i9.blank (x:=some (.ref a)) Rw).stored (t:=.own) (i:=4) (aE.refl _) (rr.frame (λa m=>nomatch m) (aU.upd mV rfl)) .nil λz2 ok5=>?_
   exact sr ok5 e (kE.of ((Kp.set a3.N k3).trans (Kp.set h4 k4)))
end
end L2.Ev
namespace L2
theorem bh.m(r:bh k A cm)(h:j<=k:=by decide):bh j A cm:=r.mono h
open PySem PySem.Spec PyProof.Rows
theorem FH{K:PySem.W.Frag}(h:xC K=true):∀r∈iH K,iH K=[r]/\PySem.W.codeHdIn K r.1 r.2.1=true/\K.lookup r.2.1=none:=λr m=>by
 have ok:=((abm _ _).mp h).2
 split at ok
 .rename_i e;rw[e] at m;cases m
 .rename_i r' e;rw[e] at m;cases aaS.mp m;obtain⟨a,b⟩:=(abm _ _).mp ok;exact⟨e,a,by simpa using b⟩
 .cases ok
def t8(K:PySem.W.Frag):Hp:=λb=>match iH K with
 |[r]=>if b=r.2.1 then some (.gQ r.2.2.1 r.2.2.2) else none
 |_=>none
theorem Zj{K:PySem.W.Frag}
  (KX:K.In bq.heap) (vO:xC K=true) (wC:∀r∈iH K,bq.heap.get? r.2.1=some (PySem.W.tabObj #[])) (qY:bq.heap.Ns mainGlobals mg) (hb:bq.heap.Ns builtinsNs mb) (P7:∀x:Str,x≠"__name__"->mb x=bootBuiltins x) (R8:bq.heap.NoLimit)
  (XG:∃bm ob,mg "__builtins__"=some (.ref bm)/\bm≠builtinsNs/\bq.heap.get? bm=some ob/\ob.cls=.type "module"/\ob.dict=some builtinsNs/\ob.data=.plain) (hg:bq.gens=#[])
  (ha:bq.heap.get? a=some { cls:=.type "list",data:=.seq vs.toArray }) (hi:IntsAre vs ns) (hl:ns.length<=sizeLine) (hr:bh k callerA)
  (F:∀base:Heap,K.In base->base.Ns mainGlobals mg->bP P w K mg base CX k fa fd [x] sp) (aa5:∀(s) (u),BindsTo s fd ⟨[u],[]⟩ [(x,u)])
  (ou:∀H:Hp,Ev.o6 K H a (ns.map V.int)->sp [.ref a] H (λv _=>v=.bl true) λ_ _ _=>False) (Gm:∀H e s',CX [] H bq (λ_ _ _=>False) e s'->False) :
  codeAny (model P w) callerA (.call (.ref fa) ⟨[.ref a],[]⟩) (λr s'=>r=.ok (.ret (.bool true))/\OldK bq.heap s'.heap/\s'.os=bq.os/\AllBare s'.gens) bq:=by
 have rv:=Cq hi;have UB:=hi.length;have tab_of:∀{b} {u},t8 K b=some u->∃r∈iH K,b=r.2.1/\u=.gQ r.2.2.1 r.2.2.2:=λ{b u} e=>by
  unfold t8 at e
  split at e
  .rename_i r er;obtain⟨h,e⟩:=ci e;cases e;exact⟨r,by rw[er];exact List.mem_singleton_self r,h,rfl⟩
  .cases e
 have J7:∀r∈iH K,t8 K r.2.1=some (.gQ r.2.2.1 r.2.2.2):=λr m=>by
  unfold t8;rw[(FH vO r m).1];exact if_pos rfl
 have na:∀r∈iH K,r.2.1≠a:=λr m z=>by
  have:=wC r m;rw[z,ha] at this;cases this
 have core:∀H:Hp,Ev.o6 K H a (ns.map V.int)->(∀b u,H b=some u->(b=a/\K.lookup a=none/\u=.bT { cls:=.type "list",data:=.seq vs.toArray } (.lst (ns.map V.int)))\/∃r∈iH K,b=r.2.1/\u=.gQ r.2.2.1 r.2.2.2)->(∀r∈iH K,H r.2.1=some (.gQ r.2.2.1 r.2.2.2))->
   codeAny (model P w) callerA (.call (.ref fa) ⟨[.ref a],[]⟩) (λr s'=>r=.ok (.ret (.bool true))/\OldK bq.heap s'.heap/\s'.os=bq.os/\AllBare s'.gens) bq:=by
  intro H hS hA hL;have aD:dD P w H bq.heap:=λb u e=>by
   rcases hA b u e with⟨rfl,_,rfl⟩|⟨r,m,rfl,rfl⟩
   .exact⟨ha,by rw[List.length_map];exact hl,vs,_,rv,ha⟩
   .exact⟨#[],wC r m,.inl rfl⟩
  have free:∀{b} {o},bq.heap.get? b=some o->(∀xs n,o.data≠.seq xs n)->(∀xs,o.data≠.fields xs)->H b=none:=λ{b o} e d1 d2=>by
   cases q:H b with
   |none=>rfl
   |some u=>
    rcases hA b u q with⟨rfl,_,_⟩|⟨r,m,rfl,_⟩
    .rw[ha] at e;cases e;exact absurd rfl (d1 _ _)
    .rw[wC r m] at e;cases e;exact absurd rfl (d2 _)
  have yd:∀{b} {m},bq.heap.Ns b m->(n6 bq.heap H).Ns b m:=λ{b m} ⟨o,es,ep,e,d,r⟩=>⟨o,es,ep,F7 e (free e (λ_ _ z=>by rw[d] at z;cases z) λ_ z=>by rw[d] at z;cases z),d,r⟩
  have Pa:K.In (n6 bq.heap H):=λb o e=>F7 (KX b o e) (by
   cases q:H b with
   |none=>rfl
   |some u=>
    rcases hA b u q with⟨rfl,z,_⟩|⟨r,m,rfl,_⟩
    .rw[z] at e;cases e
    .rw[(FH vO r m).2.2] at e;cases e)
  obtain⟨bm,ob,b1,b2,b3,b4,b5,b6⟩:=XG;have hM:Mod K mg (n6 bq.heap H):=⟨Pa,yd qY,⟨mb,yd hb,P7⟩,let⟨mc,h1,h2⟩:=R8;⟨mc,yd h1,h2⟩,bm,ob,b1,b2,F7 b3 (free b3 (λ_ _ z=>by rw[b6] at z;cases z) λ_ z=>by rw[b6] at z;cases z),b4,b5,b6⟩
  have e0:qA P w K mg (n6 bq.heap H) callerA [] bq H:=⟨rfl,hM,λb o e=>Xo e,Nat.le_of_eq (Ug _ _),trivial,λb hb=>absurd (show b∈([]:List Addr) from hb) (by simp),aD,.of_eq hg,⟨.inl rfl,vO,hL⟩⟩
  refine codeAny_mono ((F _ Pa (yd qY)).run callerA [] bq H ⟨[.ref a],[]⟩ [.ref a] [.ref a] _ _ hr e0 (aa5 bq (.ref a)) (.cons rfl .nil) (ou H hS)) λr s' h=>?_
  cases r with
  |error e=>exact(Gm H e s' h).elim
  |ok fl=>
   cases fl with
   |next=>exact False.elim h
   |brk=>exact False.elim h
   |cont=>exact False.elim h
   |ret u=>
    obtain⟨v,H',os,bare,un,JC,r',q⟩:=h;have q':=q;subst q';obtain rfl:u=Value.bool true:=r';refine⟨rfl,⟨λb o e=>?_,λb o e=>un.there b o e (by simp)⟩,os,bare⟩;cases q:H b with
    |none=>exact .inl (un.keep b o e q (by intro z;exact absurd (show b∈([]:List Addr) from z) (by simp)) (by simp))
    |some u=>
     rcases hA b u q with⟨rfl,_,rfl⟩|⟨r,m,rfl,rfl⟩
     .have z2:=un.jm b _ _ q;obtain⟨e1,_⟩:=aD b _ q;obtain⟨e2,_⟩:=JC b _ z2;rw[e] at e1;cases e1;exact .inl e2
     .have z2:=un.jN r.2.1 (.gQ _ _) q;obtain⟨ps,e2,_⟩:=JC _ _ z2;rw[wC r m] at e;cases e;exact .inr (.inl ⟨((PySem.W.codeHd_of_K KX (FH vO r m).2.1).tab (wC r m)).isCodeTable,rfl,#[],ps,rfl,by simpa using e2⟩)
 cases hk:K.lookup a with
 |some o=>
  have e:=KX a o hk;rw[ha] at e;cases e;refine core (t8 K) (.inr ⟨_,vs.toArray,_,hk,rfl,rfl,rfl,by rw[adn,UB];exact hl,by simpa using rv⟩) (λb u z=>.inr (tab_of z)) J7
 |none=>
  refine core (λb=>if b=a then some (.bT { cls:=.type "list",data:=.seq vs.toArray } (.lst (ns.map V.int))) else t8 K b) (.inl ⟨{ cls:=.type "list",data:=.seq vs.toArray },if_pos rfl⟩) (λb u z=>?_) λr m=>(acZ (na r m)).trans (J7 r m)
  by_cases hb:b=a
  .have z':=(if_pos hb).symm.trans z;cases z';exact .inl ⟨hb,hk,rfl⟩
  .exact .inr (tab_of ((acZ hb).symm.trans z))
theorem ZN{l:PySem.W.OpenLaw}{K:Params->PySem.W.Frag}{CX:World->qO}{sp:World->Sp}
  (hn:l.most=some n) (qf:n<=sizeLine) (vf:d.params.defaults=[]) (hr:bh k callerA) (hY:∀(w) (h),YP w h->(K w.params).In h) (hT:∀(w) (h),YP w h->∀r∈iH (K w.params),h.get? r.2.1=some (PySem.W.tabObj #[])) (hL:∀w:World,xC (K w.params)=true)
  (F:∀(w) (mg) (fa) (h),(K w.params).In h->h.Ns mainGlobals mg->mg d.name=some (.ref fa)->
   ∃fd:FuncData,(∀(s) (u),BindsTo s fd ⟨[u],[]⟩ [(x,u)])/\∀base:Heap,(K w.params).In base->base.Ns mainGlobals mg->bP l.prog w (K w.params) mg base (CX w) k fa fd [x] (sp w))
  (ou:∀(w) (H) (a) (ns:List Int),ns.length<=n->Ev.o6 (K w.params) H a (ns.map V.int)->sp w [.ref a] H (λv _=>v=.bl true) λ_ _ _=>False)
  (Gm:∀(w) (H) (s) (e) (s'),CX w [] H s (λ_ _ _=>False) e s'->False) :
  PySem.W.WalkO q loose XP YP l.row.toRowW d [] (λf vs=>PySem.call f vs):=by
 refine Je.R1 hn vf λw dM bq mg mb fa o pm cd doc a vs ns G Y ho hd k9 v_ B0 hints hlen hg=>?_
 obtain⟨fd,hb,hF⟩:=F w mg fa _ (hY w _ Y) G.T.g v_;exact Zj (hY w _ Y) (hL w) (hT w _ Y) G.T.g G.T.b G.T.builtins G.T.nolimit G.T.bmain hg B0 hints (ad5 hlen qf) hr hF hb (λH hS=>ou w H a ns hlen hS) λH e s'=>Gm w H bq e s'
end L2
namespace L2.Ev
open PySem PySem.Spec PySem.W PyProof.Rows
structure Z where
 P:Program
 w:World
 K:Frag
 mg:Str->Option Value
 base:Heap
structure En(L:Ls)(z:Z):Prop where
 b:∀{x},L.bt.contains x=true->z.mg x=none
 i:∀{x} {n},L.gi.lookup x=some n->∃t,z.mg x=some (.int n t)
 t:∀{x} {l},L.tp.lookup x=some l->∃a,z.mg x=some (.ref a)/\Af z.K a l
 c:∀c:Str,L.cl.contains c=true->ClsAt z.K c (cA z.K c)
 m:∀{c},L.cl.contains c=true->z.mg c=some (.ref (cA z.K c))
 n:∀{c a},L.na.contains (c,a)=true->iS z.K (cA z.K c) a
 ni:L.ni=true->n_ z.K=true
def jl(s:Stmt):List Str:=(kc s).args.map (·.arg)
theorem MO:∀{l:List Str} {us},us.map strOf=l.map some->aN (l.map V.str) us
 |[],[],_=>.nil
 |[],_::_,e=>nomatch e
 |_::_,[],e=>nomatch e
 |a::l,u::us,e=>by
  obtain⟨e1,e2⟩:=List.cons.inj e;refine .cons ?_ (MO e2);cases u<;>cases e1
  exact⟨_,rfl⟩
theorem adh{K:Frag}(q:D5 K x l=true):∃a,nsIn K mainGlobals x=some (some (.ref a))/\Af K a l:=by
 unfold D5 at q
 split at q
 .rename_i a h;refine⟨a,h,?_⟩
  split at q
  .rename_i c ao n sl h1;simp only[abm,afh,afI] at q;exact⟨_,ao,_,h1,q.1.1,rfl,rfl,q.1.2,MO q.2⟩
  .cases q
 .cases q
theorem GC:∀{l:List (Str×β)},l.lookup x=some y->(x,y)∈l
 |[],e=>nomatch e
 |(a,b)::l,e=>by
  rw[ad0] at e
  by_cases h:(x==a)=true
  .rw[h] at e;cases e;rw[eq_of_beq h];exact .head _
  .rw[show(x==a)=false by simpa using h] at e;exact .tail _ (GC e)
theorem abI{L:Ls}{K:Frag}(X:K.In h)(G:h.Ns mainGlobals mg)(q:qG L K=true):En L ⟨P,w,K,mg,base⟩:=by
 unfold qG at q;simp only[abm,adW,afh] at q;obtain⟨⟨⟨⟨⟨qi,q1⟩,q2⟩,q3⟩,q4⟩,q5⟩:=q;have cl:∀c:Str,L.cl.contains c=true->vC K c=true:=λc h=>q4 c (aeZ.mp h)
 refine⟨λh=>mg_none_of X G (q1 _ (aeZ.mp h)),λ{x n} h=>?_,λh=>?_,λc h=>?_,λ{c} h=>?_,λh=>q5 _ (aeZ.mp h),λh=>?_⟩
 .have:=q2 _ (GC h);unfold OQ at this
  split at this
  .rename_i m t e;cases eq_of_beq this;exact⟨t,mg_of X G e⟩
  .cases this
 .obtain⟨a,e,t⟩:=adh (q3 _ (GC h));exact⟨a,mg_of X G e,t⟩
 .have:=cl c h;unfold vC at this;simp only[abm,afh] at this;obtain⟨⟨⟨⟨⟨⟨h1,h2⟩,h3⟩,h4⟩,h5⟩,_⟩,_⟩:=this;exact⟨h1,⟨h2,h3,h4,h5⟩⟩
 .have:=cl c h;unfold vC at this;simp only[abm,afh] at this;exact mg_of X G this.1.1.1.1.1.1
 .rw[h] at qi;exact qi
theorem QA{K:Frag}(q:qG L K=true)(h:L.cl.contains c=true):makesIn K (cA K c)=true/\keepIn K (.ref (cA K c))=true:=by
 unfold qG at q;simp only[abm,adW] at q;have:=q.1.2 c (aeZ.mp h);unfold vC at this;simp only[abm] at this;exact⟨this.1.2,this.2⟩
theorem Ia{K:Frag}(e:Gz K q v=some (fnOf x q (kc s) (g7 s) (cT s) .none .none .none .none none .none .none)):∃f,v=some (some (.ref f))/\isFn K (.ref f)=true/\GL K x q s f:=by
 unfold Gz at e
 split at e
 .rename_i a
  split at e
  .rename_i oc od fd sl h;obtain⟨hc,e⟩:=ci e;simp only[abm] at hc;refine⟨a,rfl,hc.2,?_⟩;obtain⟨n,qn,pa,bo,sc,gl,cl,df,kw,dc,pm,an,cd,ct,bi⟩:=fd;unfold M5 at e;injection e with e;injection e with e1 e2 e3 e4 e5 e6 e7 e8 e9 e10 Oz e12 e13 e14 Qx;subst e1 e2 e3 e4 e5 e6 e7 e8 Qx;exact⟨_,_,_,_,_,_,_,_,_,h,hc.1.1,hc.1.2⟩
  .cases e
 .cases e
theorem NY{K:Frag}{tab:List (Str×Stmt)}{i:Nat}(t:tab.map (look K)=tab.map want)(e:tab[i]? = some p):look K p=want p:=by
 have:=congrArg (·[i]?) t;simp only[adA,e,Option.map_some] at this;exact ads this
theorem By{K:Frag}{tab:List (Str×Stmt)}(i:Nat){s:Stmt}(t:tab.map (look K)=tab.map want)(e:tab[i]? = some (Str.empty,s)):Az K (gK s) s:=by
 obtain⟨f,h,_,g⟩:=Ia (NY t e);exact⟨f,h,g⟩
theorem HQ{K:Frag}{tab:List (Str×Stmt)}(i:Nat){c:Str}(t:tab.map (look K)=tab.map want)(e:tab[i]? = some (c,s))(n:(c==Str.empty)=false):GM K (cA K c) (gK s) (jU c s) s:=by
 obtain⟨f,h,i,g⟩:=Ia (NY t e);refine⟨f,?_,i,g⟩;rw[n] at h;exact h
section
variable(z:Z)(k:Nat)(c:Str)(s:Stmt)(sp:Frag->Sp)(cm:Bool:=true)
def Z.D:Prop:=∀(f) (fd),iy z.K (gK s) (jU c s) s f fd->bP z.P z.w z.K z.mg z.base cR k f fd (jl s) (sp z.K) cm
def Z.N:Prop:=FN z.P z.w z.K z.mg z.base cR k (gK s) (jl s) (sp z.K) cm
def Z.M:Prop:=MT z.P z.w z.K z.mg z.base cR k (cA z.K c) (gK s) (jl s) (sp z.K) cm
def Z.I:Prop:=MI z.P z.w z.K z.mg z.base cR k (cA z.K c) (jl s) (sp z.K) cm
end
section
variable{K:Frag}
theorem FN.G(W:FN P w K mg base CX k x ps sp cm):bP P w K mg base CX k W.choose W.choose_spec.choose ps sp cm:=W.choose_spec.choose_spec.1
theorem FN.m(W:FN P w K mg base CX k x ps sp cm):mg x=some (.ref W.choose):=W.choose_spec.choose_spec.2.1
theorem FN.kp(W:FN P w K mg base CX k x ps sp cm):keepIn K (.ref W.choose)=true:=W.choose_spec.choose_spec.2.2.1
theorem FN.b(W:FN P w K mg base CX k x ps sp cm):Binds K W.choose_spec.choose ps []:=W.choose_spec.choose_spec.2.2.2
theorem MT.G(W:MT P w K mg base CX k C x ps sp cm):bP P w K mg base CX k W.choose W.choose_spec.choose ps sp cm:=W.choose_spec.choose_spec.1
theorem MT.b(W:MT P w K mg base CX k C x ps sp cm):Binds K W.choose_spec.choose ps []:=W.choose_spec.choose_spec.2.1
theorem MT.t(W:MT P w K mg base CX k C x ps sp cm):ly K C x W.choose:=W.choose_spec.choose_spec.2.2
theorem MI.G(W:MI P w K mg base CX k C ps sp cm):bP P w K mg base CX k W.choose W.choose_spec.choose ps sp cm:=W.choose_spec.choose_spec.1
theorem MI.b(W:MI P w K mg base CX k C ps sp cm):Binds K W.choose_spec.choose ps []:=W.choose_spec.choose_spec.2.1
theorem MI.M(W:MI P w K mg base CX k C ps sp cm):Mk K C W.choose:=W.choose_spec.choose_spec.2.2
end
def lJ(s:Stmt):List Str:=(cT s).names.filterMap λy=>if y.2 == .local||y.2 == .cell then some y.1 else none
def EV(n m:Nat)(s:Stmt):Prop:=nG (lJ s) (jl s) (cT s)/\(jl s).length=n/\(lJ s).length=m/\n<=m
section
variable{z:Z}
theorem Z.oF(S:EV n m s)(h:∀(f) (fd:FuncData) (aT:{c:Value // c=fd.code}) (A) (o) (t) (H) (E),bh k (A.deeper (envOfC (jU c s) (cT s) t.heap.objs.size f aT)) cm->(lJ s).Nodup->FS (jF cR z.P z.w z.K z.mg z.base (lJ s) (jU c s) (cT s) f aT A o t H E cm).k_ (g7 s) b):
  z.D (k+1) c s (aZ · (bx n m b)) cm:=by
 obtain⟨S,rfl,rfl,_⟩:=S;exact λ_ _ F=>FL F S λaT A o t H E hr=>h _ _ aT A o t H E hr S.nd
theorem Z.oQ(S:EV n m s)(h0:(lJ s)[0]? = some x0)(h:∀(f) (aT) (A) (o) (t) (H) (E),bh k (A.deeper (envOfC (jU c s) (cT s) t.heap.objs.size f aT))->(lJ s).Nodup->Bb im ((jF cR z.P z.w z.K z.mg z.base (lJ s) (jU c s) (cT s) f aT A o t H E).k_.mT [x0]) (g7 s) b):
  z.D (k+1) c s (Cn im · (runM n m b)):=by
 obtain⟨S,rfl,rfl,l⟩:=S;exact λ_ _ F=>Z7 F S h0 λaT A o t H E hr=>h _ aT A o t H E hr S.nd
theorem Z.oM(S:EV n m s)(h0:(lJ s)[0]? = some x0)(h:∀(f) (aT) (A) (o) (t) (H) (E),bh k (A.deeper (envOfC (jU c s) (cT s) t.heap.objs.size f aT))->(lJ s).Nodup->Bb true ((jF cR z.P z.w z.K z.mg z.base (lJ s) (jU c s) (cT s) f aT A o t H E).k_.mT [x0]) (g7 s) b):
  z.D (k+1) c s (dN · (runM n m b)):=λ_ _ F=>(Z.oQ S h0 h _ _ F).imp Yg
end
section
variable{K:Frag}{tab:List (Str×Stmt)}
theorem fG(X:K.In h)(G:h.Ns mainGlobals mg)(t:tab.map (look K)=tab.map want)(i:Nat)(o:Z.D ⟨P,w,K,mg,base⟩ k Str.empty s sp cm)(b:BA (gK s) (gK s) s (jl s):=by walk_at "ba")(e:tab[i]? = some (Str.empty,s):=by rfl):Z.N ⟨P,w,K,mg,base⟩ k s sp cm:=Sb X G (By i t e) (λF=>o _ _ F) b
theorem dF(t:tab.map (look K)=tab.map want)(i:Nat)(o:Z.D ⟨P,w,K,mg,base⟩ k c s sp cm)(b:BA (gK s) (jU c s) s (jl s):=by walk_at "ba")(e:tab[i]? = some (c,s):=by rfl)(n:(c==Str.empty)=false:=by rfl):Z.M ⟨P,w,K,mg,base⟩ k c s sp cm:=RJ (HQ i t e n) (λF=>o _ _ F) b
theorem Gp(t:tab.map (look K)=tab.map want)(q:qG L K=true)(i:Nat)(o:Z.D ⟨P,w,K,mg,base⟩ k c s sp cm)(b:BA (gK s) (jU c s) s (jl s):=by walk_at "ba")(e:tab[i]? = some (c,s):=by rfl)(n:(c==Str.empty)=false:=by rfl)(y:gK s="__init__":=by rfl)(v:L.cl.contains c=true:=by rfl):Z.I ⟨P,w,K,mg,base⟩ k c s sp cm:=by
 have l:=HQ i t e n;obtain⟨a,b'⟩:=QA q v;obtain⟨f,e1,i,l⟩:=l;obtain⟨kp,fd,F⟩:=zI l;rw[y] at e1;exact⟨f,fd,o _ _ F,F.binds b,⟨a,e1,i,b'⟩⟩
end
section
variable{st:Stmt}
theorem ba_n(n:Nat)(h:ps.length=n)(e:∀(kV doc pm) (an) (aT ct) (f:Fin n->Value),bindArgs (fnOf x q (kc st) (g7 st) (cT st) .none kV doc pm an aT ct) ⟨List.ofFn f,[]⟩=pure (ps.zip (List.ofFn f))):BA x q st ps:=λkV doc pm an aT ct us hl=>by
 obtain rfl:=hl.trans h;have:=e kV doc pm an aT ct λi=>us[(i:Nat)]
 rwa [List.ofFn_getElem] at this
end
theorem mX(h:∃t,X.mg x=some (.int n t))(hg:GD X x:=by exact⟨rfl,by decide⟩):FP X (.Name x pos) (eC (.int n)):=let⟨_,h⟩:=h;Se h hg
theorem M6(h:∃t,X.mg x=some (.ref t)/\Af X.K t ys)(hg:GD X x:=by exact⟨rfl,by decide⟩):FP X (.Name x pos) (eC (.tup (ys.map D.str))):=let⟨_,h,t⟩:=h;SH h t hg
theorem gb(h3:X.env.kindOf=λx=>X.env.scope.names.lookup x)(h:vV X.N X.env.scope sc M js=true):lB X M js sc:=acX rfl rfl h3 h
section
variable{A:Z->Prop}
noncomputable abbrev wF{F:List D->Option D}(_:∀z,A z->z.D k c s (aZ · F) cm)(z:Z):Prop:=z.N k s (aZ · F) cm
noncomputable abbrev wG{F:List D->Option D}(_:∀z,A z->z.D k c s (aZ · F) cm)(z:Z):Prop:=z.M k c s (aZ · F) cm
noncomputable abbrev wO{F:MF}(_:∀z,A z->z.D k c s (dN · F) cm)(z:Z):Prop:=z.M k c s (dN · F) cm
noncomputable abbrev wI{F:MF}(_:∀z,A z->z.D k c s (dN · F) cm)(z:Z):Prop:=z.I k c s (dN · F) cm
noncomputable abbrev fF{F:List D->Option D}(_:∀z,A z->z.D k c s (aZ · F) cm):List D->Option D:=F
noncomputable abbrev fO{F:MF}(_:∀z,A z->z.D k c s (dN · F) cm):MF:=F
end
def oW:D->Option (List Key)
 |.tup ds=>match gC ds with
  |some ks=>if ks.all (λk=>k.isLeft)=true/\ks≠[] then some ks else none
  |none=>none
 |_=>none
theorem Rep.tk{K:Frag}(r:Rep K H d v fp)(ni:n_ K=true)(h:oW d=some ks):∃b,v=.ref b/\Tk H b (ks.map L2.kV):=by
 cases d with
 |tup ds=>
  obtain⟨b,xs,rfl,hq,rs⟩:=r.gJ;unfold oW at h;dsimp only at h;cases hk:gC ds with
  |none=>rw[hk] at h;cases h
  |some k=>
   rw[hk] at h;dsimp only at h
   by_cases hc:k.all (λk=>k.isLeft)=true/\k≠[]
   .rw[if_pos hc] at h;cases h;obtain rfl:=ay.keys rs hk;exact⟨b,rfl,OU hq ni hc.1 hc.2⟩
   .rw[acZ hc] at h;cases h
 |_=>cases h
def Ad(d1 d2 d3:D):Option D:=match d1,oW d2 with
 |.cQ es,some k=>if aA ((aW es k).getD d3)=true then some ((aW es k).getD d3) else none
 |_,_=>none
def Ag(i:Nat)(fk fv:EF):SF:=λρ=>match fv ρ,ρ[i]?,fk ρ with
 |some (d,_),some (some (.cQ es,.own)),some (kd,_)=>match oW kd with
  |some k=>if(aA d&&aI (es.map (·.2))&&decide (es.length<sizeLine))=true then some (.nx (bB ρ i (.cQ (putD es k d)))) else none
  |none=>none
 |_,_,_=>none
theorem abQ(i:Nat){x:Str}(hu:X.A.units+1<cLine)(ni:n_ X.K=true)(hk:FP X k fk)(hv:FP X v fv)(va:VA X i x:=by walk_at "va")(hs:swapsWith v (some (.Subscript (.Name x p1) k pos')) pos.line X.env=pure false:=by rfl):
  eY X (.Assign [.Subscript (.Name x p1) k pos'] v pos) (Ag i fk fv):=by
 obtain⟨tk,pk,sk⟩:=hk;obtain⟨tv,kF,sv⟩:=hv;exists 25,yK hu va.pe pk kF hs;unfold Ag at e
 split at e
 .rename_i d td es kd Km h1 h2 h3;cases h4:oW kd with
  |none=>rw[h4] at e;cases e
  |some key=>
   rw[h4] at e;dsimp only at e
   by_cases hc:(aA d&&aI (es.map (·.2))&&decide (es.length<sizeLine))=true
   .rw[if_pos hc] at e;cases e;obtain⟨qd,C5⟩:=(abm _ _).mp hc;obtain⟨qd,vp⟩:=(abm _ _).mp qd;have hz:=abd C5;refine sv ok h1 λH1 v NN s1 rv _=>?_
    obtain⟨xv,fp,bZ,r,zz⟩:=(ok.same s1).sl i _ _ h2;refine⟨xv,bZ,?_⟩;refine sk (ok.same s1) h3 λH2 y KP s2 rk _=>?_
    obtain⟨bL,rfl,r8⟩:=rk.tk ni h4;have r':=r.same s2;cases r' with
    | @cQ a ah _ f h eN rs=>
     have hn:=rs.aA vp;subst hn;have vm:=rv.aA qd;subst vm;have hl:ah.length=es.length:=by have:=congrArg List.length eN;simpa using this.symm
     refine⟨a,_,rfl,m5.t h r8 (by rw[hl];exact hz),?_⟩;have im:aU H2 (upd H2 a (.dT (putK ah key v))):=aU.upd h rfl;refine q z σ _ (Ok.uC ((ok.same s1).same s2) h2 bZ zz aat h rfl (.cQ bg (xw eN) ?_)) (.refl _ _);exact xS eN (rs.frame (λa m=>nomatch m) im) ((rv.same s2).frame (λa m=>nomatch m) im)
   .rw[acZ hc] at e;cases e
 .cases e
end L2.Ev
namespace L2
open PySem PySem.Spec PyProof.Rows
theorem KV.at{κ:Type}:∀{ah:List (κ×V)}{vs:List (κ×Value)}{i:Nat}{p:κ×V},KV ah vs->ah[i]? = some p->∃q,vs[i]? = some q/\p.1=q.1
 |_,_,i,p,.nil,e=>by simp at e
 |_,_,0,p,.cons r _,e=>by cases e;exact⟨_,rfl,r.1⟩
 |_,_,i+1,p,.cons _ t,e=>KV.at (i:=i) t e
end L2
namespace L2.Ev
open PySem PySem.Spec PyProof.Rows
noncomputable def C3:D->Option Str
 |.tup (.str s::_)=>some s
 |_=>none
noncomputable def Fc:Key->D
 |.inl k=>.int k
 |.inr x=>.str x
def B4(c:Str)(ah:List (Key×D)):List D:=(ah.filter λp=>decide ((C3 p.2).getD Str.empty=c)).map λp=>Fc p.1
theorem WB{X:Cx}(i:Nat){x:Str}{pos:Pos}(hN:X.N.Nodup)(hi:X.N[i]? = some x:=by rfl)(hx:Loc X.env.scope x:=by first|exact Or.inl rfl|exact Or.inr rfl)(hf:X.fn x=true\/X.env.scope.names.lookup x=some .local:=by first|exact .inl rfl|exact .inr rfl):PG X (.Name x pos) (qw i):=KH hN hi hx hf
open PySem PySem.Spec PySem.W PyProof.Rows
section
variable{X:Cx}{a b:Expr}{fa fb:EF}
theorem KI{apos dQ:Pos}(hu:X.A.units+1<cLine)(ni:n_ X.K=true)(ha:FP X a fa)(hb:FP X b fb)(m:M1 X a "get" apos b dQ:=by exact⟨rfl,rfl,rfl,rfl⟩):FP X (.Call (.Attribute a "get" apos) [b] [] dQ) (e3 Ad fa fb (eC .aB)):=by
 obtain⟨ta,pa,sa⟩:=ha;obtain⟨tb,pb,sb⟩:=hb;exists 21,aa8 hu pa pb m;obtain⟨d1,t1,d2,t2,d3,t3,h1,h2,h3,h4,rfl⟩:=K8 e;cases h3;unfold Ad at h4
 split at h4
 .rename_i es ks hk
  split at h4
  .rename_i hi;cases h4;refine sa ok h1 λH1 x f1 s1 r1 _=>?_
   cases r1 with
   | @cQ p ah _ fp h he rs=>
    refine⟨p,rfl,.inr ⟨ah,.inl h⟩,sb (ok.same s1) h2 λH2 y f2 s2 r2 _=>?_⟩;obtain⟨bL,rfl,r8⟩:=r2.tk ni hk;refine⟨_,fP.t (s2 _ _ h) r8,?_⟩;obtain⟨i1,i2⟩:=pB he (rs.same s2);cases hv:aW es ks with
    |some d'=>
     rw[hv] at hi k;obtain⟨v,f,e1,r,_⟩:=i1 d' hv;have hn:=r.aA hi;subst hn;rw[e1];exact k H2 v [] (s1.trans s2) r .nil
    |none=>
     rw[hv] at k;rw[i2 hv];exact k H2 _ [] (s1.trans s2) .aB .nil
  .cases h4
 .cases h4
end
def My(K:Frag):R2:=λx y H Q=>∃a b xs ys,x=.ref a/\y=.ref b/\bN K H a xs/\bN K H b ys/\ys≠[]/\xs.length+ys.length<=sizeLine/\((xs=[]/\Q y H)\/(xs≠[]/\∀p,H p=none->Q (.ref p) (upd H p (.tup (xs++ys)))))
theorem QB{X:Cx}:cD X (binaryOp .Add) (My X.K):=by
 intro af s σ H x y v u Q I rx ry h;obtain⟨a,b,xs,ys,rfl,rfl,ha,hb,hy,hz,q⟩:=h;cases rx;cases ry;obtain⟨vs,r1,t1,_⟩:=I.tuple ha;obtain⟨ws,r2,t2,_⟩:=I.tuple hb;obtain⟨⟨c1,d1,x1,s1⟩,o1,e1,n1,f1⟩:=id t1;obtain⟨⟨c2,d2,x2,s2⟩,o2,e2,n2,f2⟩:=id t2;simp only at e1 f1 e2 f2;subst e1 f1 e2 f2;have l1:=r1.length;have l2:=r2.length;have hw:ws≠[]:=λe=>by subst e;cases r2;exact hy rfl
 rcases q with⟨rfl,q⟩|⟨hx,q⟩
 .cases r1;exact concat_meets ⟨_,o1,rfl⟩ ⟨_,o2,rfl⟩ noFill_tuple_add seq_tuple_add F.slot_tuple_add F.entry_tuple_add (F.args_tuple_add_2 _ _) (tuple_addW0 a b _ _ n1 n2 d1 d2 s1 s2 rfl) ⟨o1,o2,.ref b,H,I,rfl,q⟩
 .have hv:vs≠[]:=λe=>by subst e;cases r1;exact hx rfl
  refine concat_meets ⟨_,o1,rfl⟩ ⟨_,o2,rfl⟩ noFill_tuple_add seq_tuple_add F.slot_tuple_add F.entry_tuple_add (F.args_tuple_add_2 _ _) (tuple_addW2 a b _ _ n1 n2 d1 d2 s1 s2 (by simpa using hv) (by simpa using hw) (by rw[adn,adn,<- l1,<- l2];exact hz)) ⟨o1,o2,?_⟩;rw[List.append_toArray];exact⟨.ref _,_,I.laid (t':=s.toks) (λb o e=>aaf _ e) (acy _) (show cP X.prog X.w _ _ _ (.tup (xs++ys)) from⟨by rw[ab9];exact hz,vs++ws,r1.append r2,mj.new _ _⟩),rfl,q _ I.fresh⟩
def Ar:D->D->Option D
 |.tup ds,.tup es=>if(aI ds&&aI es&&(!es.isEmpty&&decide (ds.length+es.length<=sizeLine)))=true then some (.tup (ds++es)) else none
 |_,_=>none
theorem R5{K:Frag}:d8 K (My K) Ar:=by
 intro H x y d1 d2 f1 f2 d Q r1 r2 e k;unfold Ar at e
 split at e
 .rename_i ds es;obtain⟨hc,e⟩:=aeK.mp e;cases e;simp only[abm,Bool.not_eq_true',afI] at hc;obtain⟨⟨c1,c2⟩,c3,c4⟩:=hc;obtain⟨a,xs,rfl,h1,rs⟩:=r1.gJ;obtain⟨b,ys,rfl,h2,mU⟩:=r2.gJ;have n1:=rs.aA c1;have n2:=mU.aA c2;subst n1 n2;refine⟨a,b,xs,ys,rfl,rfl,h1,h2,(λe=>by subst e;cases mU;cases c3),by rw[<- rs.length,<- mU.length];exact c4,?_⟩
  by_cases hx:xs=[]
  .subst hx;cases rs;exact .inl ⟨rfl,k H _ (aE.refl H) (.tup h2 mU)⟩
  .refine .inr ⟨hx,λp hp=>?_⟩;have s2:aE H (upd H p (.tup (xs++ys))):=λb o e=>by rw[aG (cu e hp)];exact e
   exact k _ _ s2 (.tup (bN.of bg) ((ay.append rs mU).same s2))
 .cases e
theorem acU{X:Cx}{a b:Expr}{fa fb:EF}{pos:Pos}(ha:FP X a fa)(hb:FP X b fb):FP X (.BinOp a .Add b pos) (e2 Ar fa fb):=fp_2 R5 ha hb λ_ _ pa pb=>uJ QB pa pb
end L2.Ev
namespace PySem
section
variable{prog:Program}{w:World}{A:Around}{E:Value->Shared->Prop}{s:Shared}{it d:Addr}{i ep:Nat}{od:Obj}{es:Array DictEntry}
theorem RA{Q:Value->Shared->Prop}(hd:(d==sysModules)=false)(ho:s.heap.get? d=some od)(hc:od.ExactDict)(oZ:od.data=.dict es ep)(hQ:Q (.ref s.heap.objs.size) { s with heap:=s.heap.push { cls:=.type "dict_keyiterator",data:=.fields #[.ref d,.int 0 0,.int es.size 0,.int ep 0] } }):wpAny (model prog w) A (pyIter (.ref d)) Q E s:=by
 have hT:s.TypeIs (.ref d) "dict":=⟨od,ho,hc.1⟩
 refine wpAny_pyIter_slot hT F.slot_dict_iter (aeI F.slot_dict_iter hT F.entry_dict_iter ?_ (F.args_dict_iter_1 _));unfold Builtin.«dict.__iter__» Builtin.Dict.dictSlotNone;refine aae (aae (wpAny_notOrdered_dict hT (adg ?_)));refine aae (adg ?_);refine aae ?_;unfold Builtin.Dict.showsAll;rw[acZ (by rw[hd];exact abR)];refine adg (aae (wpAny_dictEntries ho oZ (aae (wpAny_dictEpoch ho oZ (aae (aed (adg ⟨_,rfl,"dict_keyiterator",_,⟨_,ac9 _ rfl,rfl⟩,aeq.lookup,?_⟩)))))));simpa[rawInt] using hQ
theorem aaG{e:DictEntry}{Q:Option Value->Shared->Prop}(hit:s.heap.IsKeyIter it d i es.size ep)(ho:s.heap.get? d=some od)(oZ:od.data=.dict es ep)(hi:es[i]? = some e)(hQ:∀h',h'.IsKeyIter it d (i+1) es.size ep->Heap.SameBut it s.heap h'->Q (some e.key) { s with heap:=h' }):wpAny (model prog w) A (pyNext (.ref it)) Q E s:=by
 obtain⟨o,h1,h2,h3⟩:=id hit;obtain⟨cN,rfl⟩:=Array.getElem?_eq_some_iff.mp hi;unfold pyNext;refine aae (afx (aeP (name:=Str.ofString "__next__") hit.typeIs aeq (aeI aeq hit.typeIs F.entry_dict_keyiterator_next (aae (adg (aae (aae ?_)))) (F.args_dict_keyiterator_next_1 _))));refine aae (aeL hit.typeIs (adg (aae (wpAny_fieldsOf h1 h3 ?_))));simp only[show Builtin.Dict_items.ownsTuple "dict_keyiterator"=false by decide,aef,afu];show wpAny _ _ (if(Value.ref d==Value.none)=true then _ else _) _ _ s;rw[acZ (show ¬((Value.ref d==Value.none)=true) from abR)];refine aae (adg (aae (wpAny_dictEntries ho oZ ?_)));rw[acZ (by simp)];refine aae (adg (aae (wpAny_dictEpoch ho oZ ?_)));rw[acZ (by simp)];refine adg ?_;simp only[show ¬((i:Int)<0) by omega,afu,afj,hi];refine aae (aae (aeL hit.typeIs (adg (aae (wpAny_isOneOf_keyiter hit.typeIs ?_)))));show wpAny _ _ (setField (.ref it) 1 (rawInt ((i:Int)+1)) >>= _) _ _ s;refine aae (wpAny_setField h1 h3 (by simp) ?_);have hn:(s.heap.update it (Obj.mapFields (·.setIfInBounds 1 (rawInt ((i:Int)+1))))).IsKeyIter it d (i+1) es.size ep:=
  ⟨_,aem _ h1 (Obj.isFreed_of_fields (Obj.data_mapFields h3 _)),(Obj.cls_mapFields ..).trans h2,by rw[Obj.data_mapFields h3];simp[rawInt]⟩
 refine aae (aeC (aae (wpAny_isOneOf_keyiter (s:={ s with heap:=s.heap.update it (Obj.mapFields (·.setIfInBounds 1 (rawInt ((i:Int)+1)))) }) hn.typeIs ?_)));exact adg (adg ⟨_,rfl,adg (hQ _ hn (Heap.SameBut.update ..))⟩)
theorem adi{Q:Option Value->Shared->Prop}(hh:A.handled=none)(hit:s.heap.IsKeyIter it d i es.size ep)(ho:s.heap.get? d=some od)(oZ:od.data=.dict es ep)(hi:es.size<=i)(hQ:∀h',Heap.ExtBut it s.heap h'->Q none { s with heap:=h' }):wpAny (model prog w) A (pyNext (.ref it)) Q E s:=by
 obtain⟨o,h1,h2,h3⟩:=id hit;unfold pyNext;refine aae (afx (aeP (name:=Str.ofString "__next__") hit.typeIs aeq (aeI aeq hit.typeIs F.entry_dict_keyiterator_next (aae (adg (aae (aae ?_)))) (F.args_dict_keyiterator_next_1 _))));refine aae (aeL hit.typeIs (adg (aae (wpAny_fieldsOf h1 h3 ?_))));simp only[show Builtin.Dict_items.ownsTuple "dict_keyiterator"=false by decide,aef,afu];show wpAny _ _ (if(Value.ref d==Value.none)=true then _ else _) _ _ s;rw[acZ (show ¬((Value.ref d==Value.none)=true) from abR)];refine aae (adg (aae (wpAny_dictEntries ho oZ ?_)));rw[acZ (by simp)];refine aae (adg (aae (wpAny_dictEpoch ho oZ ?_)));rw[acZ (by simp)];refine adg ?_;simp only[show ¬((i:Int)<0) by omega,afu,afj,Array.getElem?_eq_none hi];refine aae (aae (aeL hit.typeIs (adg ?_)));show wpAny _ _ (setField (.ref it) 0 .none >>= _) _ _ s;refine aae (wpAny_setField h1 h3 (by simp) ?_);show wpAny _ _ (newExc (.type "StopIteration") [] >>= _) _ _ _;refine aae ?_;simp only[newExc,newTuple];refine aae (aed ?_ (by size_fits));refine aae (m:=firstArgMember _ _) (wpAny_of_eq (a:=Value.none) (by first|rfl|(simp only[firstArgMember];rfl)) (aed ?_ (by size_fits)));simp only[raiseNew];refine aae (wpAny_handled ?_);rw[show A.in1.handled=none from hh];refine aae (adg (wpAny_throw ?_));refine aae (ae6 (T:="StopIteration") (b:=true) ⟨_,ac9 _ rfl,rfl⟩ isSubtype_stop ?_);exact adg (hQ _ (((Heap.SameBut.update ..).extBut.push _).push _))
end
end PySem
namespace L2
open PySem PySem.Spec PyProof.Rows
theorem N_{α β:Type}{R:α->β->Prop}:∀{l:List α}{m:List β}{i:Nat}{p:α},Paired R l m->l[i]? = some p->∃q,m[i]? = some q/\R p q
 |_,_,i,p,.nil,e=>by simp at e
 |_,_,0,p,.cons r _,e=>by cases e;exact⟨_,rfl,r⟩
 |_,_,i+1,p,.cons _ t,e=>N_ (i:=i) t e
def PV(a:Addr)(o:Obj)(ah:List (List Key×V)):It:=⟨λi H=>i<ah.length/\H a=some (.bT o (.dT ah)),λi H x H'=>H'=H/\∃p b,ah[i]? = some p/\x=.ref b/\Tk H b (p.1.map kV),λi H=>ah.length<=i/\H a=some (.bT o (.dT ah)),false⟩
theorem Tg{P:Program}{w:World}{K:PySem.W.Frag}{tg:Expr}(a it:Addr){o:Obj}{es:Array DictEntry}{ep:Nat}{ah:List (List Key×V)}(h1:o.ExactDict)(h2:o.data=.dict es ep)(hn:es.size=ah.length):
  Turn P w K tg (PV a o ah) [it] it (λi h=>h.IsKeyIter it a i es.size ep) where
 mem:=by simp
 obj:=λi h st b hb=>by
  have e:b=it:=by simpa using hb
  subst e;obtain⟨o,e,c,d⟩:=st;exact⟨o,e,λv z=>by rw[d] at z;cases z⟩
 keep:=λi h h' st k=>by
  obtain⟨o,e,c,d⟩:=st;exact⟨o,k it (by simp) o e,c,d⟩
 item:=by
  intro X hP hw hK hc i af s σ H E I hf st hg;subst hP hw hK;obtain⟨hi,hH⟩:=hg;obtain⟨ho,_,_,xs,pr,o',tN,rO,jt,_,sU,he,_⟩:=I.aD a _ hH;obtain rfl:o=o':=ads (ho.symm.trans jt);rw[h2] at sU;cases sU;obtain⟨f0,f1,f2,f3,f4,f5⟩:=hf it (by simp);obtain⟨q,hq,e1,e2,e3⟩:=N_ pr (acr hi);have hx:es[i]? = some (entryOfKey (tupleKind (eZ X.prog X.w)) q):=by rw[<- afc,he,adA,hq];rfl
  refine aaG st ho h2 hx λh' jP sb=>?_
  have I1:Inv X af σ H { s with heap:=h' }:=I.turned (t':=s.toks) (λb o hb e=>(sb.2 b hb).trans e) f0 f1 f3 f4 f5;obtain⟨o',e',c,d⟩:=id jP;exact⟨_,rfl,zA e' c d (by decide) ⟨.ref q.2.1,H,I1,rfl,⟨rfl,_,_,acr hi,rfl,e2⟩,jP,λb hb=>(hf b hb).1⟩⟩
 done:=by
  intro X hP hw hK hc i af s σ H E I hf st hg;subst hP hw hK;obtain⟨hi,hH⟩:=hg;obtain⟨ho,_⟩:=I.aD a _ hH;obtain⟨f0,f1,f2,f3,f4,f5⟩:=hf it (by simp);exact adi (I.ok.hd (hc.resolve_right λz=>abR z)) st ho h2 (by omega) λh' eb=>⟨rfl,I.turned (t':=s.toks) (λb o hb e=>eb b o hb e) f0 f1 f3 f4 f5⟩
 self:=λ_ _ _ _ _ st h=>wpAny_pyIter_keyiter st h
theorem Inv.R4(I:Inv X af σ H s)(ha:H a=some (.dT ah))(ho:s.heap.get? a=some o):Inv X af σ (upd H a (.bT o (.dT ah))) s:=
 I.write (h':=s.heap) (t':=s.toks) (o:=.bT o (.dT ah)) (x:=a) (e:=a) (by rw[ha];trivial) (.inl rfl) (λ_ _ _ q=>q) ⟨o,ho⟩ ⟨ho,(I.aD a _ ha).iE (λc v _ q=>q) (λc q=>by rw[aG (λz=>by rw[z,ha] at q;cases q)];exact q) λc xs q=>by rw[aG (λz=>by rw[z,ha] at q;cases xs<;>cases q)];exact q⟩
theorem Inv.RN(I:Inv X af σ H s)(ha:H a=some (.bT o (.dT ah)))(h0:∀o u,X.mJ a≠some (.bT o u))(hd:X.A.handled=none):Inv X af σ (upd H a (.dT ah)) s:=by
 have nn:∀{b},H b=none->upd H a (.dT ah) b=none:=λ{b} e=>by rw[aG (λq=>by rw[q,ha] at e;cases e)];exact e
 have ne:∀{b} {u},H b=some u->(∀o',u≠.bT o' (.dT ah))->upd H a (.dT ah) b=some u:=λ{b u} e n=>by
  rw[aG (λq=>by rw[q,ha] at e;cases e;exact n _ rfl)];exact e
 refine⟨I.ok,I.os,I.bare,⟨I.base.keep,I.base.slot,λb o e n hx=>nn (I.base.free b o e n hx),I.base.there,λb xs e=>ne (I.base.jN b xs e) (λ_ q=>by cases xs<;>cases q),λb o u e=>?_,λb ps e=>?_⟩,I.loc,I.cell,nn I.free,λx c e=>nn (I.iJ x c e),λp hp=>?_,λb u e=>?_,I.len,⟨.inl hd,I.hq.ok,λr m=>ne (I.hq.lm r m) (λ_ q=>by cases q)⟩⟩
 .rw[aG (λq=>h0 o u (by rw[<- q];exact e))];exact I.base.jm b o u e
 .obtain⟨m,q⟩:=I.base.kM b ps e;exact⟨m,ne q (λ_ q=>by cases q)⟩
 .obtain⟨e,n,r⟩:=I.pin p hp;exact⟨e,nn n,r⟩
 .by_cases hb:b=a
  .subst hb;rw[bg] at e;cases e;exact(I.aD b _ ha).2.iE (λc v _ q=>q) (λc q=>ne q (λ_ q=>by cases q)) λc xs q=>ne q (λ_ q=>by cases xs<;>cases q)
  .rw[aG hb] at e;exact(I.aD b u e).iE (λc v _ q=>q) (λc q=>ne q (λ_ q=>by cases q)) λc xs q=>ne q (λ_ q=>by cases xs<;>cases q)
def iDt(X:Cx)(tl:TE):TI:=λσ H R=>tl σ H λx H1=>∃a ah,x=.ref a/\H1 a=some (.dT ah)/\∀o,(∀o u,X.mJ a≠some (.bT o u))->R (PV a o ah) (upd H1 a (.bT o (.dT ah)))
theorem acd{X:Cx}{tg l:Expr}{tl:TE}(hl:PE X l tl):PI X tg l (iDt X tl):=by
 intro af s σ H R I h;refine hl.n I h λv s1 x H1 I1 r1 q1=>?_
 obtain⟨a,ah,e,ha,q⟩:=q1;subst e;cases r1;obtain⟨_,WN,xs,pr,o,es,ep,ho,h1,h2,he,_⟩:=I1.aD a _ ha;have hn:es.size=ah.length:=by rw[Paired.length pr,<- ad3,he,List.length_map]
 refine RA WN ho h1 h2 ?_;have I2:=I1.R4 ha ho;refine⟨s1.heap.objs.size,[s1.heap.objs.size],_,_,_,rfl,I2.kept λb o e=>aaf _ e,Tg a _ h1 h2 hn,⟨_,ac9 _ rfl,rfl,rfl⟩,λb hb=>?_,q o λo u z=>by rw[I1.base.jm a o u z] at ha;cases ha⟩;have e:b=s1.heap.objs.size:=by simpa using hb
 subst e;exact I2.nM (acy _) (I2.aD.fresh (acy _))
theorem Uw{κ:Type}[DecidableEq κ]{ah:List (κ×V)}{j:Nat}{p:κ×V}(nd:(ah.map (·.1)).Nodup)(e:ah[j]? = some p):dG ah p.1=some p.2:=by
 induction ah generalizing j with
 |nil=>simp at e
 |cons q r ih=>
  obtain⟨n1,n2⟩:=ado.mp nd;unfold dG;cases j with
  |zero=>cases e;rw[aeT (by simp)];rfl
  |succ j=>
   rw[aei (by simpa using λz:q.1=p.1=>n1 (adp.mpr ⟨p,aeN e,z.symm⟩))];exact ih n2 e
def JQ(c:Str):TT:=O4 (o9 EJ (M_ (kH 1) (kH 0)) (tC (.str c)))
def AK(H:Hp)(p:(List Key×V)×Str)(x:V):Prop:=∃b,x=.ref b/\Tk H b (p.1.1.map kV)
noncomputable def qv(c:Str)(ps:List ((List Key×V)×Str)):List ((List Key×V)×Str):=ps.filter λp=>decide (p.2=c)
def abJ(i:Nat)(c:Str):TE:=λσ H Q=>∃a ah ss,σ[i]? = some (some (.ref a))/\H a=some (.dT ah)/\(ah.map (·.1)).Nodup/\ah.length<sizeLine/\ah.map (·.2)=ss.map V.str/\∀D xs,H D=none->Paired (AK H) (qv c (ah.zip ss)) xs->Q (.ref D) (upd H D (.lst xs))
theorem Xg{X:Cx}{i:Nat}{c:Str}{tg iter elt:Expr}{ifs:List Expr}{sc:Scope}{pos:Pos}{M:List Str}(S:lB X M [none,some i] sc)(hc:X.calm=true)(hl:PE X iter (kH i))
  (hb:∀s3 H3 fp,PG (dg X M sc s3 H3 fp) tg (qw 0)/\qE (dg X M sc s3 H3 fp) ifs (JQ c)/\PE (dg X M sc s3 H3 fp) elt (kH 0)) (hs:∀x,foldedSetIterable iter X.env x=pure x:=by intro _;rfl) :
  PE X (.ListComp elt [⟨tg,iter,ifs,0⟩] sc pos) (abJ i c):=by
 intro af s σ H Q I h;obtain⟨a,ah,ss,zL,ha,nd,hz,NB,k⟩:=h;have jq:ah.length=ss.length:=by have:=congrArg List.length NB;simpa using this
 refine bX (Lo S hc (acd hl) hb hs af s σ H (λv H'=>∃o D xs,(∀o u,X.mJ a≠some (.bT o u))/\v=.ref D/\H D=none/\Paired (AK H) (qv c (ah.zip ss)) xs/\H'=upd (upd H a (.bT o (.dT ah))) D (.lst xs)) I ?_) λv s1 ⟨x,H',I',r,o,D,xs,h0,e1,hD,hp,e2⟩=>?_
 .refine⟨.ref a,zL,a,ah,rfl,ha,λo h0 D hD=>?_⟩;have gx:D≠a:=λz=>by rw[z,bg] at hD;cases hD
  rw[aG gx] at hD;refine⟨λj m aC H'=>m=ah.length-j/\j<=ah.length/\(∃s0,aC=[s0,some (.ref a)])/\∃xs,xs.length<=j/\Paired (AK H) (qv c ((ah.zip ss).take j)) xs/\H'=upd (upd H a (.bT o (.dT ah))) D (.lst xs),⟨_,rfl,adZ _,⟨none,by show[none,(σ[i]?).join]=_;rw[zL];rfl⟩,[],acy _,.nil,rfl⟩,?_⟩
  rintro j m aC H' ⟨rfl,hj,⟨s0,rfl⟩,xs,BG,tO,rfl⟩
  have ga:upd (upd H a (.bT o (.dT ah))) D (.lst xs) a=some (.bT o (.dT ah)):=by rw[aG (aez gx),bg]
  by_cases cN:j<ah.length
  .refine .inr ⟨⟨cN,ga⟩,?_⟩
   rintro x H2 ⟨rfl,p,b,hp,rfl,tk⟩
   have Wf:Tk H b (p.1.map kV):=by
    obtain⟨t,e1,e2⟩:=id tk;refine⟨t,e1,?_⟩
    by_cases q1:b=D
    .rw[q1,bg] at e2;cases t<;>cases e2
    .rw[aG q1] at e2
     by_cases q2:b=a
     .rw[q2,bg] at e2;cases t<;>cases e2
     .rw[aG q2] at e2;exact e2
   have NJ:=acr (jq ▸ cN);have hv:p.2=.str (ss[j]'(jq ▸ cN)):=by
    have:=congrArg (·[j]?) NB;simp only[adA,hp,NJ,Option.map_some] at this;exact ads this
   have zj:(ah.zip ss)[j]? = some (p,ss[j]'(jq ▸ cN)):=List.getElem?_zip_eq_some.mpr ⟨hp,NJ⟩;have Jd:(ah.zip ss).take (j+1)=(ah.zip ss).take j++[(p,ss[j]'(jq ▸ cN))]:=by
    obtain⟨l,e⟩:=adO.mp zj;rw[List.take_succ_eq_append_getElem l,e]
   refine⟨.ref a,rfl,.ref b,rfl,a,p.2,rfl,.inr ⟨ah,p.1,b,.inr ⟨o,ga⟩,rfl,tk,(Uw nd hp).symm⟩,?_⟩;rw[hv];refine⟨rfl,_,rfl,?_⟩
   by_cases yP:ss[j]'(jq ▸ cN)=c
   .rw[abL (by rw[yP])];dsimp only;rw[if_pos rfl];refine⟨_,rfl,xs,bg,aeH BG (by omega),ah.length-(j+1),by omega,rfl,cN,⟨_,rfl⟩,xs++[.ref b],by rw[ab9];exact Nat.succ_le_succ BG,?_,?_⟩
    .rw[Jd];unfold qv at tO ⊢;rw[afD,ae5 (by simpa using yP)];exact tO.snoc ⟨b,rfl,Wf⟩
    .funext z
     by_cases h1:z=D
     .rw[h1,bg,bg]
     .rw[aG h1,aG h1,aG h1]
   .rw[adt (λz=>yP (by injection z))];dsimp only;rw[acZ abR];refine⟨ah.length-(j+1),by omega,rfl,cN,⟨_,rfl⟩,xs,Nat.le_succ_of_le BG,?_,rfl⟩;rw[Jd];unfold qv at tO ⊢;rw[afD,aeQ (by simpa using yP),List.filter_nil,adD];exact tO
  .have ej:j=ah.length:=by omega
   refine .inl ⟨⟨by omega,ga⟩,o,D,xs,h0,rfl,hD,?_,rfl⟩;rw[ej,List.take_of_length_le (by rw[List.length_zip];omega)] at tO;exact tO
 .subst e1 e2;have gx:D≠a:=λz=>by rw[z,ha] at hD;cases hD
  have I2:=I'.RN (by rw[aG (aez gx),bg]) h0 (I.ok.hd hc);have e:upd (upd (upd H a (.bT o (.dT ah))) D (.lst xs)) a (.dT ah)=upd H D (.lst xs):=by
   funext z
   by_cases h1:z=a
   .subst h1;rw[bg,aG (aez gx),ha]
   .rw[aG h1]
    by_cases h2:z=D
    .subst h2;rw[bg,bg]
    .rw[aG h2,aG h2,aG h1]
  rw[e] at I2;exact⟨_,_,I2,r,k D xs hD hp⟩
end L2
namespace L2.Ev
open PySem PySem.Spec PySem.W PyProof.Rows
noncomputable def oH:D->Option Str
 |.str s=>some s
 |_=>none
def qF(c:Str)(ah:List (List Key×D)):List D:=(ah.filter λp=>decide ((oH p.2).getD Str.empty=c)).map λp=>.tup (p.1.map Fc)
def Ec(i:Nat)(c:Str):EF:=λρ=>(yj (ρ[i]?.join.map (·.1))).bind λah=>if(ah.map (·.1)).Nodup/\ah.length<sizeLine/\∀p∈ah,(oH p.2).isSome=true then some (.lst (qF c ah),.own) else none
theorem Mc{K:Frag}{H:Hp}:∀{ds:List D}{xs:List V}{fp:List Addr},ay K H ds xs fp->(∀d∈ds,(oH d).isSome=true)->xs=ds.map λd=>V.str ((oH d).getD Str.empty)
 |_,_,_,.nil,_=>rfl
 |d::ds,_,_,.cons r rs,h=>by
  rw[Mc rs λd m=>h d (aad _ m),aax];have:=h d aat;cases d<;>first|(cases r;rfl)|cases this
theorem Dp{K:Frag}{H:Hp}:∀ks:List Key,ay K H (ks.map Fc) (ks.map L2.kV) []
 |[]=>.nil
 |.inl k::ks=>ay.cons (f1:=[]) (f2:=[]) (.int k) (Dp ks)
 |.inr x::ks=>ay.cons (f1:=[]) (f2:=[]) (.str x) (Dp ks)
theorem Tk.sq{K:Frag}{H:Hp}{b:Addr}{xs:List V}(h:Tk H b xs):bN K H b xs:=by
 obtain⟨t,e1,e2⟩:=h;cases t with
 |tup ys=>cases e1;exact .inl (.inl e2)
 |rD o ys=>cases e1;exact .inl (.inr ⟨o,e2⟩)
 |gQ _ _=>cases e1
 |ir _=>cases e1
theorem Gk{K:Frag}{H:Hp}{c:Str}:∀{ah:List (List Key×D)}{vs:List (List Key×V)}{xs:List V},ah.map (·.1)=vs.map (·.1)->Paired (AK H) (qv c (vs.zip (ah.map λp=>(oH p.2).getD Str.empty))) xs->ay K H (qF c ah) xs []
 |[],[],_,_,h=>by cases h;exact .nil
 |[],_::_,_,e,_=>nomatch e
 |_::_,[],_,e,_=>nomatch e
 |p::ah,q::vs,xs,e,h=>by
  obtain⟨e1,e2⟩:=List.cons.inj e;unfold qv at h;unfold qF;rw[aax,List.zip_cons_cons] at h
  by_cases hc:(oH p.2).getD Str.empty=c
  .rw[ae5 (by simpa using hc)] at h;rw[ae5 (by simpa using hc),aax];cases h with
   |cons r rs=>
    obtain⟨b,rfl,tk⟩:=r;have e1:p.1=q.1:=e1;rw[e1];exact ay.cons (f1:=[]) (f2:=[]) (.tup (Tk.sq tk) (Dp q.1)) (Gk e2 rs)
  .rw[aeQ (by simpa using hc)] at h;rw[aeQ (by simpa using hc)];exact Gk e2 h
theorem UG{X:Cx}{pos:Pos}(i:Nat){x c:Str}{p1:Pos}{tg elt:Expr}{ifs:List Expr}{sc:Scope}{M:List Str}(S:lB X M [none,some i] sc)(hc:X.calm=true)
  (hb:∀s3 H3 fp,PG (dg X M sc s3 H3 fp) tg (qw 0)/\qE (dg X M sc s3 H3 fp) ifs (JQ c)/\PE (dg X M sc s3 H3 fp) elt (kH 0)) (va:VA X i x:=by walk_at "va") (hs:∀y,foldedSetIterable (.Name x p1) X.env y=pure y:=by intro _;rfl) :
  FP X (.ListComp elt [⟨tg,.Name x p1,ifs,0⟩] sc pos) (Ec i c):=by
 exists 21,Xg S hc va.pe hb hs;obtain⟨ah,h1,e⟩:=ad2.mp e;obtain⟨⟨nd,hz,hS⟩,e⟩:=aeK.mp e;cases e;obtain⟨⟨d0,t0⟩,h2,h3⟩:=adC.mp (OZ h1);cases h3;obtain⟨v,fp,zL,r,_⟩:=ok.sl i _ _ (Option.join_eq_some_iff.mp h2);cases r with
 | @cQ a vs _ g0 ha eN rs=>
  refine⟨a,vs,ah.map λp=>(oH p.2).getD Str.empty,zL,ha,eN ▸ nd,?_,?_,λD xs hD hp=>?_⟩
  .have:=congrArg List.length eN;rw[List.length_map,List.length_map] at this;omega
  .rw[Mc rs λd m=>by obtain⟨p,mp,rfl⟩:=adp.mp m;exact hS p mp,adG,adG];rfl
  .have s3:aE H (upd H D (.lst xs)):=λb o e=>by rw[aG (cu e hD)];exact e
   exact k _ _ [D] s3 (.lst bg ((Gk eN hp).same s3)) ⟨ado.mpr ⟨(λm=>by cases m),adw⟩,λa m=>by cases aaS.mp m;exact hD⟩
def AX(neg:Bool)(d1 d2:D):Option D:=match d2 with
 |.tup ds=>jW neg d1 (.lst ds)
 |_=>none
theorem Ra{K:Frag}{neg:Bool}:d8 K (uz K neg) (AX neg):=by
 intro H x y d1 d2 f1 f2 d Q r1 r2 e k;cases d2 with
 |tup ds=>
  cases d1 with
  |int i=>
   obtain⟨ns,h,e⟩:=adC.mp (show((cU ds).map λns=>D.bl (if neg=true then !(ns.any (· == i)) else ns.any (· == i)))=some d from e);cases e;obtain⟨p,xs,rfl,hq,rs⟩:=r2.gJ;cases r1;have ex:=oi rs h;subst ex;refine⟨p,_,rfl,.inr hq,rfl,Hr ns,?_⟩;rw[Oc];exact k H _ (aE.refl H) (.bl _)
  |_=>cases e
 |_=>cases e
theorem We{X:Cx}{a b:Expr}{fa fb:EF}{pos:Pos}(ha:FP X a fa)(hb:FP X b fb)(hm:behindInMarks .NotIn b=false:=by rfl):FT X (.Compare a [.NotIn] [b] pos) (tV (e2 (AX true) fa fb)):=iW yL Ra ha hb hm
end L2.Ev
namespace K44
open PySem L2 L2.Ev
local macro_rules | `(tactic| walk_at "s")=>`(tactic| exact ⟨⟨rfl,rfl,rfl,by decide +kernel,rfl,by decide +kernel,by decide +kernel⟩,rfl,rfl,by decide⟩)
set_option hygiene false
local macro_rules | `(tactic| exists 1,$a)=>`(tactic| exact Z.oF (by walk_at "s") fun _ _ _ _ _ _ _ _ hr nd=>by exact $a)
local macro_rules | `(tactic| exists 2,$a)=>`(tactic| exact Z.oM (by walk_at "s") rfl fun _ _ _ _ _ _ _ hr nd=>by exact $a)
set_option hygiene true
theorem eU{z:Z}(E:En L z):ClsAt z.K "Changes" (cA z.K "Changes"):=E.c _ rfl
theorem aK{z:Z}(E:En L z):ClsAt z.K "Gate" (cA z.K "Gate"):=E.c _ rfl
theorem iX{z:Z}(E:En L z):ClsAt z.K "Tally" (cA z.K "Tally"):=E.c _ rfl
theorem Xq(z:Z)(E:En L z):z.D 1 Str.empty (top 47) (ux · nE):=λ_ _ F=>F.ok (N:=["_law_left","_law_many"]) ⟨rfl,rfl,rfl,by decide +kernel,rfl,by decide +kernel,by decide +kernel⟩ (λvs H Q E h=>L8 h) λaT A outer s H vs Q E' hr h=>ZO (N:=["_law_left","_law_many"]) rfl (pY (fU (E.b rfl) (ai 0)) aL) Fd (uJ N9 (RS PySem.F.plainAttrs_list PySem.F.slot_list_pop PySem.F.type_list_pop XT (Ai (i:=0) rfl (Or.inl rfl))) (Ai (i:=1) rfl (Or.inl rfl))) h
def Sa(z:Z):Prop:=z.N 1 (top 47) (ux · nE)
def E5:=λ(z:Z) (E:En L z)=>(by exists 1,(aM (aV (lC (oJ H_ (E.b rfl) (E.b rfl) (ai 0)) (lC (Pf (oJ Li (E.b rfl) (E.b rfl) (ai 0))) (ow (Xi (ai 1) (ai 0) (ai 2))))))):z.D 1 Str.empty (top 10) (aZ · (bx 3 3 _)))
abbrev mF:=fF E5
def xF:=wF E5
def CS:=λ(z:Z) (E:En L z/\xF z)=>(by obtain⟨E,p⟩:=E;exists 1,(aM (aV (lC (b7 p.G hr.m p.m p.kp p.b (aq (ai 1) (aq aL (aq (mX (E.i rfl)) aJ)))) (ow (b7 p.G hr.m p.m p.kp p.b (aq (ai 0) (aq aL (aq (ai 1) aJ)))))))):z.D 2 Str.empty (top 40) (aZ · (bx 2 2 _)))
abbrev Xn:=fF CS
def PM:=wF CS
def OX:=λ(z:Z) (E:En L z)=>(by exists 2,(ez (cz (fM 0 (eU E) (E.n rfl) (gY aJ)))):z.D 1 "Changes" (inClass (top 24) 0) (dN · (runM 1 1 _)))
def abb:=wI OX
def B8:=λ(z:Z) (E:En L z/\PM z/\xF z/\abb z)=>(by obtain⟨E,p,q,u⟩:=E;exists 2,(bV (iA (iR (FW.ft (xx (eB (b7 q.G hr.m q.m q.kp q.b (aq (ai 1) (aq aL (aq (mX (E.i rfl)) aJ))))) (xx (eB (b7 q.G hr.m q.m q.kp q.b (aq (ai 2) (aq aL (aq (mX (E.i rfl)) aJ))))) (Av (eB (b7 p.G hr.m p.m p.kp p.b (aq (ai 3) (aq (ai 4) aJ))))))))) (ez pQ) jX) (bV (cz (fM 0 (aK E) (E.n rfl) (jQ (aq (ai 1) (aq (ai 2) (aq (ai 3) (aq (ai 4) aJ))))))) (bV (cz (fM 0 (aK E) (E.n rfl) (Yi (eU E).ns u.M u.G hr.m (E.m rfl) u.b))) (bV (cz (fM 0 (aK E) (E.n rfl) (gY aJ))) (bV (cz (fM 0 (aK E) (E.n rfl) (gY aJ))) (bV (cz (fM 0 (aK E) (E.n rfl) Vo)) (bV (cz (fM 0 (aK E) (E.n rfl) ND)) (bV (cz (fM 0 (aK E) (E.n rfl) (gY aJ))) (bV (cz (fM 0 (aK E) (E.n rfl) eT)) (bV (cz (fM 0 (aK E) (E.n rfl) (gY aJ))) (bV (cz (fM 0 (aK E) (E.n rfl) (gY aJ))) (bV (cz (fM 0 (aK E) (E.n rfl) aL)) (ez (cz (fM 0 (aK E) (E.n rfl) aL))))))))))))))):z.D 3 "Gate" (inClass (top 45) 0) (dN · (runM 5 5 _)))
abbrev Ye:=fO B8
def Sh:=wI B8
def GY:=λ(z:Z) (E:En L z)=>(by exists 1,(aM (aV (wz rfl (E.b rfl) (iu (M:=["low","high"]) (js:=[none,none]) (gb rfl (by kernel_rfl)) rfl (Jj (E.b rfl) (ai 0) (GR Dh Gu (ai 0))) (by decide) λs3 H3 fp=>⟨(rK rfl (gP (bO 0 (abd rfl)) (gP (bO 1 (abd rfl)) qX))),j5,(abD (ai 0) (ai 1))⟩)))):z.D 1 Str.empty (top 11) (aZ · (bx 1 1 _)))
abbrev Yl:=fF GY
def Jc:=wF GY
def Bu:=λ(z:Z) (E:En L z)=>(by exists 1,(aM (aV (fU (E.b rfl) (bI (eU E) (E.n rfl) (ai 0))))):z.D 1 "Changes" (inClass (top 24) 2) (aZ · (bx 1 1 _)))
abbrev EC:=fF Bu
def Fj:=wG Bu
def FQ:=λ(z:Z) (E:En L z/\xF z/\Fj z)=>(by obtain⟨E,p,q⟩:=E;exists 1,(aM (aV (b7 p.G hr.m p.m p.kp p.b (aq (ai 1) (aq aL (aq (fE (eU E) q.t q.G hr.m q.b (ai 0)) aJ)))))):z.D 2 "Changes" (inClass (top 24) 9) (aZ · (bx 2 2 _)))
abbrev Mb:=fF FQ
def Ly:=wG FQ
def BE:=λ(z:Z) (E:En L z/\xF z/\Jc z)=>(by obtain⟨E,p,q⟩:=E;exists 1,(aS (jj rfl (eO (ai 0)) (rK rfl (gP (bO 1 nd) (gP (bO 2 nd) (gP (bO 3 nd) qX)))) (aS (dh (iR (FW.ft (xx (eB (b7 p.G hr.m p.m p.kp p.b (aq (ai 1) (aq aL (aq (mX (E.i rfl)) aJ))))) (Av (eB (b7 p.G hr.m p.m p.kp p.b (aq (ai 2) (aq aL (aq (mX (E.i rfl)) aJ))))))))) (aM (aV eT)) cX) (aM (dh (FW.ft (jA (iR (eB (b7 p.G hr.m p.m p.kp p.b (aq (ai 3) (aq aL (aq (mX (E.i rfl)) aJ)))))) (mK (pY (ai 2) (ai 3))))) (aM (aV eT)) cX)))) (aM (aV (b7 q.G hr.m q.m q.kp q.b (aq (iu (M:=["edit"]) (js:=[none]) (gb rfl (by kernel_rfl)) rfl (eO (ai 0)) (by decide) λs3 H3 fp=>⟨(bO 0 (abd rfl)),j5,(cV (ai 0) aL)⟩) aJ))))):z.D 2 Str.empty (top 17) (aZ · (bx 1 4 _)))
abbrev ZL:=fF BE
def Qu:=wF BE
def FO:=λ(z:Z) (E:En L z/\xF z/\Jc z/\Ly z/\Qu z)=>(by obtain⟨E,p,q,u,v⟩:=E;exists 1,(aS (dh (iR (eB (b7 p.G hr.m p.m p.kp p.b (aq (ai 1) (aq aL (aq (mX (E.i rfl)) aJ)))))) (aM (aV eT)) cX) (aS (dh (FW.ft (jA (iR (eB (wz rfl (E.b rfl) (iu (M:=["lean","self"]) (js:=[none,some 0]) (gb rfl (by kernel_rfl)) rfl (eO (ai 2)) (by decide) λs3 H3 fp=>⟨(bO 0 (abd rfl)),j5,(fj (eU E) u.t u.G hr.m u.b (ai 1) (aq (ai 0) aJ))⟩)))) (mK (iR (eB (b7 q.G hr.m q.m q.kp q.b (aq (ai 2) aJ))))))) (aM (aV eT)) cX) (aM (aV (lC (Mm (fU (E.b rfl) (ai 3)) (mX (E.i rfl))) (ow (b7 v.G hr.m v.m v.kp v.b (aq (ai 3) aJ)))))))):z.D 3 "Changes" (inClass (top 24) 11) (aZ · (bx 4 4 _)))
abbrev VX:=fF FO
def T8:=wG FO
def CU:=λ(z:Z) (E:En L z/\T8 z/\Fj z)=>(by obtain⟨E,p,q⟩:=E;exists 2,(bV (iA (iR (eB (fj (eU E) p.t p.G hr.m p.b (ai 0) (aq (ai 1) (aq (ai 2) (aq (ai 3) aJ)))))) (ez pQ) jX) (bV (iA (zG (fE (eU E) q.t q.G hr.m q.b (ai 0)) (mX (E.i rfl))) (ez pQ) jX) (bV (cz (yN 0 (eU E) (E.n rfl) (jQ (aq (ai 1) (aq (v9 (E.b rfl) (ai 2)) (aq (v9 (E.b rfl) (iu (M:=["edit"]) (js:=[none]) (gb rfl (by kernel_rfl)) rfl (eO (ai 3)) (by decide) λs3 H3 fp=>⟨(bO 0 (abd rfl)),j5,(v9 (E.b rfl) (ai 0))⟩)) aJ)))))) (ez (oU (fE (eU E) q.t q.G hr.m q.b (ai 0))))))):z.D 4 "Changes" (inClass (top 24) 1) (dN · (runM 4 4 _)))
abbrev z7:=fO CU
def ace:=wO CU
def CK:=λ(z:Z) (E:En L z)=>(by exists 1,(aM (aV (lC (ML (ai 1) (bI (aK E) (E.n rfl) (ai 0))) (lC (ML (ai 1) (bI (aK E) (E.n rfl) (ai 0))) (ow (QK (fq hr) (ai 1) (bI (aK E) (E.n rfl) (ai 0)))))))):z.D 1 "Gate" (inClass (top 45) 19) (aZ · (bx 2 2 _)))
abbrev YO:=fF CK
def Yh:=wG CK
def Ep:=λ(z:Z) (E:En L z/\Fj z/\Yh z)=>(by obtain⟨E,p,q⟩:=E;exists 1,(aM (aV (iu (M:=["number","self"]) (js:=[none,some 0]) (gb rfl (by kernel_rfl)) rfl (Cp (E.b rfl) aL (iw (fE (eU E) p.t p.G hr.m p.b (bI (aK E) (E.n rfl) (ai 0))) aL)) (by decide) λs3 H3 fp=>⟨(bO 0 (abd rfl)),(rA (eB (fj (aK E) q.t q.G hr.m q.b (ai 1) (aq (ai 0) aJ)))),(ai 0)⟩))):z.D 2 "Gate" (inClass (top 45) 8) (aZ · (bx 1 1 _)))
abbrev zx:=fF Ep
def Bk:=wG Ep
def CO:=λ(z:Z) (E:En L z/\Ly z)=>(by obtain⟨E,p⟩:=E;exists 1,(aS (dh (iR (eB (fj (eU E) p.t p.G hr.m p.b (ai 0) (aq (ai 1) aJ)))) (aM OR) cX) (aM (aV (cV (bI (eU E) (E.n rfl) (ai 0)) (w_ (ai 1) aL))))):z.D 3 "Changes" (inClass (top 24) 10) (aZ · (bx 2 2 _)))
abbrev X3:=fF CO
def Br:=wG CO
def FD:=λ(z:Z) (E:En L z/\Br z)=>(by obtain⟨E,p⟩:=E;exists 1,(aM (aV (j7 (E.b rfl) (cV (fj (eU E) p.t p.G hr.m p.b (ai 0) (aq (ai 1) aJ)) aL)))):z.D 4 "Changes" (inClass (top 24) 4) (aZ · (bx 2 2 _)))
abbrev EA:=fF FD
def NS:=wG FD
def Ey:=λ(z:Z) (E:En L z/\Bk z/\NS z)=>(by obtain⟨E,p,q⟩:=E;exists 2,(ez (cz (jj rfl (eO (fE (aK E) p.t p.G hr.m p.b (ai 0))) (bO 1 nd) (aS (Dw 2 (hN:=nd) (M:=["lean","self"]) (js:=[none,some 0]) (gb rfl (by kernel_rfl)) rfl (eO (fj (eU E) q.t q.G hr.m q.b (bI (aK E) (E.n rfl) (ai 0)) (aq (ai 1) aJ))) (by decide) λs3 H3 fp=>⟨(bO 0 (abd rfl)),(rA (ZC (fq hr) (ai 0) (bI (aK E) (E.n rfl) (ai 1)))),(ai 0)⟩) (aM (dh (Ll (ai 2)) (aM (EL 0 (fq hr) (aK E) (E.n rfl) (ai 1) (jQ (aq fZ (aq (cV (ai 2) aL) aJ))))) cX)))))):z.D 5 "Gate" (inClass (top 45) 24) (dN · (runM 1 3 _)))
abbrev ya:=fO Ey
def Qz:=wO Ey
def F_:=λ(z:Z) (E:En L z)=>(by exists 1,(aS (dh (zG (Pd (bI (iX E) (E.n rfl) (ai 0)) fZ) (bI (iX E) (E.n rfl) (ai 0))) (aM (aV fZ)) cX) (aS (dh (zG (Pd (bI (iX E) (E.n rfl) (ai 0)) fZ) (bI (iX E) (E.n rfl) (ai 0))) (aM (aV fZ)) cX) (aS (dh (zG (fU (E.b rfl) (bI (iX E) (E.n rfl) (ai 0))) (bI (iX E) (E.n rfl) (ai 0))) (aM (aV fZ)) cX) (aM (aV fZ))))):z.D 1 "Tally" (inClass (top 39) 3) (aZ · (bx 1 1 _)))
abbrev LJ:=fF F_
def Hw:=wG F_
def CY:=λ(z:Z) (E:En L z/\Hw z)=>(by obtain⟨E,p⟩:=E;exists 1,(aM (aV (IY (LR (fq hr) (ai 1) (bI (aK E) (E.n rfl) (ai 0))) (fE (iX E) p.t p.G hr.m p.b (BD (fq hr) (bI (aK E) (E.n rfl) (ai 0)) (ai 1) (by exact λ_ _=>rfl))) fZ))):z.D 2 "Gate" (inClass (top 45) 21) (aZ · (bx 2 2 _)))
abbrev zk:=fF CY
def Gv:=wG CY
def BF:=λ(z:Z) (E:En L z)=>(by exists 1,(aM (aV (v9 (E.b rfl) (tQ (bI (aK E) (E.n rfl) (ai 0)) (ac6 (bI (aK E) (E.n rfl) (ai 0)) (ai 1)))))):z.D 1 "Gate" (inClass (top 45) 20) (aZ · (bx 2 2 _)))
abbrev wD:=fF BF
def CB:=wG BF
def Cr:=λ(z:Z) (E:En L z/\Gv z/\CB z)=>(by obtain⟨E,p,q⟩:=E;exists 1,(aS (jj rfl (Cp (E.b rfl) aL (iw (fU (E.b rfl) (bI (aK E) (E.n rfl) (ai 0))) aL)) (bO 1 nd) (aM (dh (aaq (fj (aK E) p.t p.G hr.m p.b (ai 0) (aq (fj (aK E) q.t q.G hr.m q.b (ai 0) (aq (ai 1) aJ)) aJ)) (M6 (E.t rfl))) (aM (tW 1)) cX))) (aM (aV ki))):z.D 3 "Gate" (inClass (top 45) 11) (aZ · (bx 1 2 _)))
abbrev yW:=fF Cr
def Ba:=wG Cr
def Gf:=λ(z:Z) (E:En L z)=>(by exists 1,(aM (aV (Tf rfl (E.b rfl) (iu (M:=["slot","old","new","values"]) (js:=[none,none,none,some 0]) (gb rfl (by kernel_rfl)) rfl (eO (ai 1)) (by decide) λs3 H3 fp=>⟨(rK rfl (gP (bO 0 (abd rfl)) (gP (bO 1 (abd rfl)) (gP (bO 2 (abd rfl)) qX)))),(rA (j0 (ZH (fq hr) (ai 3) (ai 0) aL) (ai 1))),(ai 0)⟩) ki))):z.D 1 Str.empty (top 18) (aZ · (bx 2 2 _)))
abbrev Dm:=fF Gf
def F0:=wF Gf
def D9:=λ(z:Z) (E:En L z)=>(by exists 1,(aM (aV (iu (M:=["slot","values"]) (js:=[none,some 0]) (gb rfl (by kernel_rfl)) rfl (eO (tS rfl (E.b rfl) (ai 0))) (by decide) λs3 H3 fp=>⟨(bO 0 (abd rfl)),(rA (j0 (BV (fq hr) (ai 1) (ai 0)) aL)),(jQ (aq (ai 0) (aq (BV (fq hr) (ai 1) (ai 0)) aJ)))⟩))):z.D 1 Str.empty (top 19) (aZ · (bx 1 1 _)))
abbrev abP:=fF D9
def ZR:=wF D9
def Nn:=λ(z:Z) (E:En L z/\F0 z/\ZR z)=>(by obtain⟨E,p,q⟩:=E;exists 1,(aS (dH 2 (za rfl (E.b rfl) (ai 0)) nd) (aS (jj rfl (eO (ai 1)) (bO 3 nd) (aS (dH 4 (b7 p.G hr.m p.m p.kp p.b (aq (ai 2) (aq (ai 3) aJ))) nd) (aS (dh (Vv (ai 4) ki) (aM OR) cX) (aM (jj rfl (eO (ai 3)) (rK rfl (gP (bO 5 nd) (gP (bO 6 nd) (gP (bO 7 nd) qX)))) (aM (OM 2 (fq hr) (ai 5) (ai 7)))))))) (aM (aV (b7 q.G hr.m q.m q.kp q.b (aq (ai 2) aJ)))))):z.D 2 Str.empty (top 16) (aZ · (bx 2 8 _)))
def VR:=wF Nn
def Ge:=λ(z:Z) (E:En L z/\Br z)=>(by obtain⟨E,p⟩:=E;exists 1,(aM (aV (j7 (E.b rfl) (cV (fj (eU E) p.t p.G hr.m p.b (ai 0) (aq (ai 1) aJ)) aL)))):z.D 4 "Changes" (inClass (top 24) 5) (aZ · (bx 2 2 _)))
abbrev yf:=fF Ge
def yt:=wG Ge
def BS:=λ(z:Z) (E:En L z/\VR z/\yt z)=>(by obtain⟨E,p,q⟩:=E;exists 1,(aM (aV (b7 p.G hr.m p.m p.kp p.b (aq (gY aJ) (aq (iu (M:=["number","changes"]) (js:=[none,some 0]) (gb rfl (by kernel_rfl)) rfl (eO (ai 1)) (by decide) λs3 H3 fp=>⟨(bO 0 (abd rfl)),j5,(fj (eU E) q.t q.G hr.m q.b (ai 1) (aq (ai 0) aJ))⟩) aJ))))):z.D 5 Str.empty (top 25) (aZ · (bx 2 2 _)))
abbrev T3:=fF BS
def N2:=wF BS
def BN:=λ(z:Z) (E:En L z/\N2 z)=>(by obtain⟨E,p⟩:=E;exists 1,(aM (aV (za rfl (E.b rfl) (b7 p.G hr.m p.m p.kp p.b (aq (ai 0) (aq (tQ (j7 (E.b rfl) (ai 1)) (j7 (E.b rfl) (ai 2))) aJ)))))):z.D 6 Str.empty (top 31) (aZ · (bx 3 3 _)))
abbrev SA:=fF BN
def Wc:=wF BN
def Dn:=λ(z:Z) (E:En L z/\Br z)=>(by obtain⟨E,p⟩:=E;exists 1,(aM (aV (cV (fj (eU E) p.t p.G hr.m p.b (ai 0) (aq (ai 1) aJ)) aL))):z.D 4 "Changes" (inClass (top 24) 3) (aZ · (bx 2 2 _)))
abbrev yo:=fF Dn
def QF:=wG Dn
def Wn:SF:=(iz (Ft 0 (aj 1) (j_ (au (e1 AZ (cE "Changes" "rank_of" yo (aj 1) (au (aj 0) aH))) (au (aj 0) aH)))))
def Fi:=λ(z:Z) (E:En L z/\QF z)=>(by obtain⟨E,p⟩:=E;intro f fd F;obtain⟨oc,od,kV,doc,pm,an,cd0,ct,qZ,rfl,lk,_⟩:=id F.ex;exact FL (N:=["changes","numbers"]) F ⟨rfl,rfl,rfl,by decide +kernel,rfl,by decide +kernel,by decide +kernel⟩ λaT A outer s H E' hr=>by exact(aM (aV (Qk (x:="number") (y:="changes") 0 (E.b rfl) (ai 1) ⟨rfl,rfl,rfl,by decide +kernel,rfl,rfl,by decide +kernel,λ_ _ _ _ _ _ _=>rfl⟩ lk (congrArg (λc=>some (c,_,_)) aT.2.symm) (bh.depth (k:=0) (bh.in1 (bh.in1 hr.m))) (λf c' s H=>(jQ (aq (Zy (fj (eU E) p.t p.G (bh.deeper (bh.in1 (bh.in1 hr.m)) _) p.b (ai 1) (aq (ai 0) aJ))) (aq (ai 0) aJ))))))):z.D 8 Str.empty (top 30) (aZ · (bx 2 2 Wn)))
abbrev M8:=fF Fi
def VL:=wF Fi
def BY:=λ(z:Z) (E:En L z/\F0 z/\yt z)=>(by obtain⟨E,p,q⟩:=E;exists 1,(aM (aV (K0 (b7 p.G hr.m p.m p.kp p.b (aq (ai 1) (aq (fj (eU E) q.t q.G hr.m q.b (ai 0) (aq (ai 2) aJ)) aJ))) ki))):z.D 5 Str.empty (top 32) (aZ · (bx 3 3 _)))
abbrev D4:=fF BY
def acw:=wF BY
def Dj:=λ(z:Z) (E:En L z/\VL z/\acw z)=>(by obtain⟨E,p,q⟩:=E;exists 1,(aS (jj rfl (eO (b7 p.G hr.m p.m p.kp p.b (aq (ai 0) (aq (ai 2) aJ)))) (bO 3 nd) (aM (dh (eB (b7 q.G hr.m q.m q.kp q.b (aq (ai 0) (aq (ai 1) (aq (ai 3) aJ))))) (aM (tW 3)) cX))) (aM (aV ki))):z.D 9 Str.empty (top 29) (aZ · (bx 3 4 _)))
abbrev Ab:=fF Dj
def WL:=wF Dj
def EU:=λ(z:Z) (E:En L z/\NS z)=>(by obtain⟨E,p⟩:=E;exists 1,(aS (dH 4 (za rfl (E.b rfl) (iu (M:=["number"]) (js:=[none]) (gb rfl (by kernel_rfl)) rfl (eO (tQ (j7 (E.b rfl) (ai 1)) (j7 (E.b rfl) (ai 2)))) (by decide) λs3 H3 fp=>⟨(bO 0 (abd rfl)),j5,(jQ (aq (ai 0) (aq eT aJ)))⟩)) nd) (aM (aV (iu (M:=["number","changes","here"]) (js:=[none,some 0,some 4]) (gb rfl (by kernel_rfl)) rfl (eO (ai 3)) (by decide) λs3 H3 fp=>⟨(bO 0 (abd rfl)),(rA (eB (wz rfl (E.b rfl) (iu (M:=["lean","here"]) (js:=[none,some 2]) (Yn (by decide +kernel)) rfl (eO (fj (eU E) p.t p.G hr.m p.b (ai 1) (aq (ai 0) aJ))) (by decide) λs3 H3 fp=>⟨(bO 0 (abd rfl)),j5,(Ur (fq hr) (ai 0) (ai 1))⟩)))),(ai 0)⟩)))):z.D 5 Str.empty (top 27) (aZ · (bx 4 5 _)))
abbrev AQ:=fF EU
def IQ:=wF EU
def CM:=λ(z:Z) (E:En L z/\Wc z/\WL z/\IQ z/\yt z)=>(by obtain⟨E,p,q,u,v⟩:=E;exists 1,(aS (dH 5 (j7 (E.b rfl) (ai 2)) nd) (aS (dH 6 (j7 (E.b rfl) (ai 3)) nd) (aS (dH 7 (b7 p.G hr.m p.m p.kp p.b (aq (ai 0) (aq (ai 1) (aq (ai 2) aJ)))) nd) (aS (Gb 4000 (BU (fU (E.b rfl) (ai 5)) (ai 4)) (aS (dH 8 (b7 q.G hr.m q.m q.kp q.b (aq (ai 0) (aq (ai 7) (aq (b7 u.G hr.m u.m u.kp u.b (aq (ai 0) (aq (ai 1) (aq (ai 5) (aq (ai 6) aJ))))) aJ)))) nd) (aS (dh (vY (ai 8) ki) (aM (tW 5)) cX) (aS (Be 5 (ai 8)) (aS (ZJ 6 (ai 8)) (aM (jj rfl (eO (fj (eU E) v.t v.G hr.m v.b (ai 0) (aq (ai 8) aJ))) (rK rfl (gP (bO 9 nd) (gP (bO 10 nd) (gP (bO 11 nd) qX)))) (aM (OM 7 (fq hr) (ai 9) (ai 11)))))))))) (aM (tW 5)))))):z.D 10 Str.empty (top 28) (aZ · (bx 5 12 _)))
abbrev D8:=fF CM
def Wv:=wF CM
def ET:=λ(z:Z) (E:En L z/\Ba z/\CB z/\Gv z)=>(by obtain⟨E,p,q,u⟩:=E;exists 2,(bV (iA (wJ hr.units (fE (aK E) p.t p.G hr.m p.b (ai 0)) aL) (ez (oU eT)) jX) (bV (cz (dH 1 (fj (aK E) q.t q.G hr.m q.b (ai 0) (aq aL aJ)) nd)) (bV (cz (EL 0 (fq hr) (aK E) (E.n rfl) (cV (bI (aK E) (E.n rfl) (ai 0)) aL) (jQ (aq fZ (aq (v9 (E.b rfl) (bI (aK E) (E.n rfl) (ai 0))) (aq (ai 1) (aq (fj (aK E) u.t u.G hr.m u.b (ai 0) (aq (ai 1) aJ)) aJ))))))) (bV (cz (fM 0 (aK E) (E.n rfl) (gY aJ))) (ez (oU eT)))))):z.D 4 "Gate" (inClass (top 45) 26) (dN · (runM 1 2 _)))
abbrev HW:=fO ET
def UQ:=wO ET
def Cj:=λ(z:Z) (E:En L z/\N2 z)=>(by obtain⟨E,p⟩:=E;exists 1,(aM (aV (b7 p.G hr.m p.m p.kp p.b (aq (bI (aK E) (E.n rfl) (ai 0)) (aq (bI (aK E) (E.n rfl) (ai 0)) aJ))))):z.D 6 "Gate" (inClass (top 45) 13) (aZ · (bx 1 1 _)))
abbrev Ym:=fF Cj
def UY:=wG Cj
def Bd:=λ(z:Z) (E:En L z/\F0 z)=>(by obtain⟨E,p⟩:=E;exists 1,(aM (aV (b7 p.G hr.m p.m p.kp p.b (aq (za rfl (E.b rfl) (ai 0)) (aq (ai 1) aJ))))):z.D 2 Str.empty (top 15) (aZ · (bx 2 2 _)))
abbrev JU:=fF Bd
def YB:=wF Bd
def GJ:=λ(z:Z) (E:En L z/\IQ z/\Bk z/\UY z/\YB z/\yt z)=>(by obtain⟨E,p,q,u,v,y⟩:=E;exists 2,(bV (iA (Ll (bI (aK E) (E.n rfl) (ai 0))) (ez (oU eT)) jX) (bV (cz (dH 1 (b7 p.G hr.m p.m p.kp p.b (aq (bI (aK E) (E.n rfl) (ai 0)) (aq (bI (aK E) (E.n rfl) (ai 0)) (aq (gY aJ) (aq (fE (aK E) q.t q.G hr.m q.b (ai 0)) aJ))))) nd)) (bV (cz (dH 2 (fE (aK E) u.t u.G hr.m u.b (ai 0)) nd)) (bV (cz (jj rfl (eO (ai 1)) (bO 3 nd) (aM (EL 0 (fq hr) (aK E) (E.n rfl) (ai 3) (jQ (aq fZ (aq (b7 v.G hr.m v.m v.kp v.b (aq (ai 2) (aq (fj (eU E) y.t y.G hr.m y.b (bI (aK E) (E.n rfl) (ai 0)) (aq (ai 3) aJ)) aJ))) aJ))))))) (ez (oU (QN hr.units (ai 1) (gY aJ)))))))):z.D 7 "Gate" (inClass (top 45) 27) (dN · (runM 1 4 _)))
abbrev CV:=fO GJ
def QE:=wO GJ
def BP:=λ(z:Z) (E:En L z/\Ba z/\Wv z/\Bk z/\UQ z/\QE z)=>(by obtain⟨E,p,q,u,v,y⟩:=E;exists 2,(bV (iA (vY (fE (aK E) p.t p.G hr.m p.b (ai 0)) ki) (ez (cz (fM 0 (aK E) (E.n rfl) (b7 q.G hr.m q.m q.kp q.b (aq (bI (aK E) (E.n rfl) (ai 0)) (aq (bI (aK E) (E.n rfl) (ai 0)) (aq (bI (aK E) (E.n rfl) (ai 0)) (aq (fE (aK E) u.t u.G hr.m u.b (ai 0)) (aq (cV (bI (aK E) (E.n rfl) (ai 0)) aL) aJ))))))))) jX) (ez (acg (aa1 (qk 0 (aK E) v.t v.G hr.m v.b) (qk 0 (aK E) y.t y.G hr.m y.b))))):z.D 11 "Gate" (inClass (top 45) 25) (dN · (runM 1 1 _)))
abbrev yX:=fO BP
def aaD:=wO BP
def BW:=λ(z:Z) (E:En L z/\Gv z)=>(by obtain⟨E,p⟩:=E;exists 1,(aM (aV (lC (abi hr.units (ai 1) (bI (aK E) (E.n rfl) (ai 0))) (ow (F2 (fj (aK E) p.t p.G hr.m p.b (ai 0) (aq (ai 1) aJ)) fZ))))):z.D 3 "Gate" (inClass (top 45) 29) (aZ · (bx 2 2 _)))
abbrev VZ:=fF BW
def Y4:=wG BW
def Cd:SF:=(bH (dO 1 (e2 cL (aj 0) (eC (.int 0)))) (bH (dO 2 (aj 1)) (bH (iD (o8 (aj 0) (e1 (kh (some 1) none) (aj 0))) (gT (eK (gN 3) (eK (gN 4) m9))) (c9 (tV (e2 u9 (e2 kq (aj 4) (aj 3)) (e2 kq (aj 2) (aj 1)))) (bH (dO 1 (aj 3)) (dO 2 (aj 4))) d7)) (iz (e2 oDiv (e2 lG (aj 1) (aj 2)) (eC (.int 2)))))))
def D3:=λ(z:Z) (E:En L z)=>(by exists 1,(aS (dH 1 (cV (ai 0) aL) nd) (aS (dH 2 (ai 1) nd) (aS (jj rfl (Jj (E.b rfl) (ai 0) (GR Dh Gu (ai 0))) (rK rfl (gP (bO 3 nd) (gP (bO 4 nd) qX))) (aM (dh (Mq (w_ (ai 4) (ai 3)) (w_ (ai 2) (ai 1))) (aS (dH 1 (ai 3) nd) (aM (dH 2 (ai 4) nd))) cX))) (aM (aV (LP (iw (ai 1) (ai 2)) aL)))))):z.D 1 Str.empty (top 35) (aZ · (bx 1 5 Cd)))
abbrev u0:=fF D3
def adf:=wF D3
def Fv:SF:=(bH (dO 4 (nA (tV (e2 gI (aj 1) (eC .aB))) (e2 lG (aj 0) (eC (.int 1))) (aj 1))) (bH (dO 5 (fV [none,some 4] (gA (aj 2)) (gN 0) (tV (e2 oLt (aj 0) (aj 1))) (aj 0))) (bH (gU (tV (e2 oLt (e1 dR (aj 5)) (e2 zZ (aj 3) (e2 kq (aj 4) (eC (.int 1)))))) (bH (c9 (jy (tV (e2 gI (aj 1) (eC .aB))) (tV (e2 (jW true) (aj 0) (aj 5)))) (kT 5 (aj 0)) (kT 5 (cC u0 (au (e2 fT (e2 fT (iN (au (eC (.int 0)) aH)) (aj 5)) (iN (au (aj 4) aH))) aH)))) (dO 5 (e1 lA (aj 5)))) 4000) (rG 5))))
def CP:=λ(z:Z) (E:En L z/\adf z)=>(by obtain⟨E,p⟩:=E;exists 1,(aS (dH 4 (IY (vY (ai 1) ki) (iw (ai 0) aL) (ai 1)) nd) (aS (Dw 5 (hN:=nd) (M:=["place","end"]) (js:=[none,some 4]) (gb rfl (by kernel_rfl)) rfl (eO (ai 2)) (by decide) λs3 H3 fp=>⟨(bO 0 (abd rfl)),(rA (BU (ai 0) (ai 1))),(ai 0)⟩) (aS (Gb 4000 (BU (fU (E.b rfl) (ai 5)) (Rb rfl (E.b rfl) (ai 3) (w_ (ai 4) aL))) (aS (dh (FW.ft (xx (vY (ai 1) ki) (Av (UL (ai 0) (ai 5))))) (aM (Be 5 (ai 0))) (aM (Be 5 (b7 p.G hr.m p.m p.kp p.b (aq (tQ (tQ (gY (aq aL aJ)) (ai 5)) (gY (aq (ai 4) aJ))) aJ))))) (aM (dH 5 (tS rfl (E.b rfl) (ai 5)) nd)))) (aM (tW 5))))):z.D 2 Str.empty (top 34) (aZ · (bx 4 6 Fv)))
abbrev Ek:=fF CP
def VB:=wF CP
def F3:=λ(z:Z) (E:En L z/\Y4 z/\CB z/\VB z/\Ba z)=>(by obtain⟨E,p,q,u,v⟩:=E;exists 1,(aS (dH 1 (fU (E.b rfl) (bI (aK E) (E.n rfl) (ai 0))) nd) (aS (Dw 2 (hN:=nd) (M:=["place","self"]) (js:=[none,some 0]) (gb rfl (by kernel_rfl)) rfl (Cp (E.b rfl) aL (iw (ai 1) aL)) (by decide) λs3 H3 fp=>⟨(bO 0 (abd rfl)),(rA (eB (fj (aK E) p.t p.G hr.m p.b (ai 1) (aq (fj (aK E) q.t q.G hr.m q.b (ai 1) (aq (ai 0) aJ)) aJ)))),(ai 0)⟩) (aM (aV (iu (M:=["place","self"]) (js:=[none,some 0]) (gb rfl (by kernel_rfl)) rfl (eO (b7 u.G hr.m u.m u.kp u.b (aq (ai 1) (aq (fE (aK E) v.t v.G hr.m v.b (ai 0)) (aq (ai 2) (aq (cV (bI (aK E) (E.n rfl) (ai 0)) aL) aJ)))))) (by decide) λs3 H3 fp=>⟨(bO 0 (abd rfl)),j5,(fj (aK E) q.t q.G hr.m q.b (ai 1) (aq (ai 0) aJ))⟩))))):z.D 4 "Gate" (inClass (top 45) 28) (aZ · (bx 1 3 _)))
abbrev Yq:=fF F3
def Y_:=wG F3
def Gg:=λ(z:Z) (E:En L z/\Qz z/\aaD z/\Y_ z)=>(by obtain⟨E,p,q,u⟩:=E;exists 2,(bV (cz (wm (qk 0 (aK E) p.t p.G hr.m p.b))) (bV (cz (aao 4000 (acj (iR (eB (bI (aK E) (E.n rfl) (ai 0)))) (aay (qk 0 (aK E) q.t q.G hr.m q.b))) (aM (wm (qk 0 (aK E) p.t p.G hr.m p.b))))) (ez (cz (fM 0 (aK E) (E.n rfl) (fE (aK E) u.t u.G hr.m u.b (ai 0))))))):z.D 12 "Gate" (inClass (top 45) 23) (dN · (runM 1 1 _)))
abbrev p_:=fO Gg
def Ko:=wO Gg
def DG:=λ(z:Z) (E:En L z/\ace z/\Ko z)=>(by obtain⟨E,p,q⟩:=E;exists 2,(bV (cz (uW 4 (FY.fz (TZ 0 (aK E) (E.n rfl) (eU E) p.t p.G hr.m p.b (aq (ai 1) (aq (ai 2) (aq (ai 3) aJ))))) nd)) (bV (cz (wm (qk 0 (aK E) q.t q.G hr.m q.b))) (ez (oU (ai 4))))):z.D 13 "Gate" (inClass (top 45) 1) (dN · (runM 4 5 _)))
abbrev Hs:=fO DG
def aaA:=wO DG
def F4:=λ(z:Z) (E:En L z)=>(by exists 1,(aM (aV (j7 (E.b rfl) (bI (aK E) (E.n rfl) (ai 0))))):z.D 1 "Gate" (inClass (top 45) 10) (aZ · (bx 1 1 _)))
abbrev Uz:=fF F4
def abV:=wG F4
def Du:=λ(z:Z) (E:En L z)=>(by exists 1,(aM (aV (j7 (E.b rfl) (bI (aK E) (E.n rfl) (ai 0))))):z.D 1 "Gate" (inClass (top 45) 6) (aZ · (bx 1 1 _)))
abbrev Y8:=fF Du
def aaB:=wG Du
def De:=λ(z:Z) (E:En L z)=>(by exists 1,(aM (aV (j7 (E.b rfl) (bI (aK E) (E.n rfl) (ai 0))))):z.D 1 "Gate" (inClass (top 45) 7) (aZ · (bx 1 1 _)))
abbrev XA:=fF De
def RH:=wG De
def C1:=λ(z:Z) (E:En L z)=>(by exists 1,(aM (aV (iu (M:=["number","self"]) (js:=[none,some 0]) (gb rfl (by kernel_rfl)) rfl (eO (tS rfl (E.b rfl) (bI (aK E) (E.n rfl) (ai 0)))) (by decide) λs3 H3 fp=>⟨(bO 0 (abd rfl)),j5,(jQ (aq (ai 0) (aq (BV (fq hr) (bI (aK E) (E.n rfl) (ai 1)) (ai 0)) aJ)))⟩))):z.D 1 "Gate" (inClass (top 45) 9) (aZ · (bx 1 1 _)))
abbrev RL:=fF C1
def UO:=wG C1
def BK:=λ(z:Z) (E:En L z)=>(by exists 1,(aS (dH 1 aL nd) (aS (Gb 4000 (Mq (ai 0) aL) (aS (dH 0 (LP (ai 0) aL) nd) (aM (dH 1 (iw (ai 1) aL) nd)))) (aM (tW 1)))):z.D 1 Str.empty (top 51) (aZ · (bx 1 2 _)))
abbrev Qo:=fF BK
def ab6:=wF BK
def yb(G:List D->Option D):SF:=(bH (c9 (tV (e1 (yU "tuple") (aj 1))) (bH (c9 (jM (kC (tV (e1 (yU "tuple") (aj 0)))) (tV (e2 iG (e1 dR (aj 0)) (e1 dR (aj 1))))) (iz (eC (.bl false))) d7) (iz (e1 oA (fV [none,some 0,some 1] (mQ (e1 dR (aj 1))) (gN 0) lu (cC G (au (e2 cL (aj 1) (aj 0)) (au (e2 cL (aj 2) (aj 0)) aH))))))) d7) (bH (c9 (tV (e1 (mE "list") (aj 1))) (bH (c9 (jM (kC (tV (e1 (mE "list") (aj 0)))) (tV (e2 iG (e1 dR (aj 0)) (e1 dR (aj 1))))) (iz (eC (.bl false))) d7) (iz (e1 oA (fV [none,some 0,some 1] (mQ (e1 dR (aj 1))) (gN 0) lu (cC G (au (e2 cL (aj 1) (aj 0)) (au (e2 cL (aj 2) (aj 0)) aH))))))) d7) (bH (c9 (tV (e2 gI (aj 1) (eC .aB))) (iz (e2 gI (aj 0) (eC .aB))) d7) (bH (c9 (tV (e1 (mE "str") (aj 1))) (iz (pA (e1 (mE "str") (aj 0)) (e2 oEq (aj 0) (aj 1)))) d7) (iz (pA (e1 (mE "int") (aj 0)) (pA (e1 Jx (e1 (mE "bool") (aj 0))) (e2 oEq (aj 0) (aj 1)))))))))
def R_:List D->Option D:=bx 2 2 (yb λ_=>none)
def TR:List D->Option D:=bx 2 2 (yb R_)
abbrev Od:List D->Option D:=TR
theorem ab7{z:Z}(E:En L z){f:Addr}{fd:FuncData}(Js:z.mg (gK (top 49))=some (.ref f))(Me:PySem.W.keepIn z.K (.ref f)=true)(Mv:Binds z.K fd (jl (top 49)) [])(F:iy z.K (gK (top 49)) (gK (top 49)) (top 49) f fd):bP z.P z.w z.K z.mg z.base cR 3 f fd (jl (top 49)) (aZ z.K Od):=by
 have sc:nG ["_law_found","_law_due"] (jl (top 49)) (cT (top 49)):=⟨rfl,rfl,rfl,by decide +kernel,rfl,by decide +kernel,by decide +kernel⟩
 have st:∀(k:Nat) G,bP z.P z.w z.K z.mg z.base cR (k+1) f fd (jl (top 49)) (aZ z.K G)->bP z.P z.w z.K z.mg z.base cR (k+1+1) f fd (jl (top 49)) (aZ z.K (bx 2 2 (yb G))):=λk G K3=>FL F sc λaT A outer s H E' hr=>(aS (dh (eB (yk A7 xY (E.b rfl) (E.b rfl) (ai 1))) (aS (dh (FW.ft (jA (iR (eB (yk A7 xY (E.b rfl) (E.b rfl) (ai 0)))) (mK (j0 (fU (E.b rfl) (ai 0)) (fU (E.b rfl) (ai 1)))))) (aM (aV eT)) cX) (aM (aV (wz rfl (E.b rfl) (iu (M:=["_law_k","_law_found","_law_due"]) (js:=[none,some 0,some 1]) (gb rfl (by kernel_rfl)) rfl (An (E.b rfl) (fU (E.b rfl) (ai 1))) (by decide) λs3 H3 fp=>⟨(bO 0 (abd rfl)),j5,(b7 K3 (hr.mono (by omega)) Js Me Mv (aq (cV (ai 1) (ai 0)) (aq (cV (ai 2) (ai 0)) aJ)))⟩))))) cX) (aS (dh (eB (oJ MY (E.b rfl) (E.b rfl) (ai 1))) (aS (dh (FW.ft (jA (iR (eB (oJ MY (E.b rfl) (E.b rfl) (ai 0)))) (mK (j0 (fU (E.b rfl) (ai 0)) (fU (E.b rfl) (ai 1)))))) (aM (aV eT)) cX) (aM (aV (wz rfl (E.b rfl) (iu (M:=["_law_k","_law_found","_law_due"]) (js:=[none,some 0,some 1]) (gb rfl (by kernel_rfl)) rfl (An (E.b rfl) (fU (E.b rfl) (ai 1))) (by decide) λs3 H3 fp=>⟨(bO 0 (abd rfl)),j5,(b7 K3 (hr.mono (by omega)) Js Me Mv (aq (cV (ai 1) (ai 0)) (aq (cV (ai 2) (ai 0)) aJ)))⟩))))) cX) (aS (dh (vY (ai 1) ki) (aM (aV (K0 (ai 0) ki))) cX) (aS (dh (eB (oJ HP (E.b rfl) (E.b rfl) (ai 1))) (aM (aV (lC (oJ HP (E.b rfl) (E.b rfl) (ai 0)) (ow (F2 (ai 0) (ai 1)))))) cX) (aM (aV (lC (oJ H_ (E.b rfl) (E.b rfl) (ai 0)) (lC (Pf (oJ Li (E.b rfl) (E.b rfl) (ai 0))) (ow (F2 (ai 0) (ai 1)))))))))))
 exact(st 1 _ (st 0 _ (ab3 F sc)))
def Hz(z:Z):Prop:=z.N 3 (top 49) (aZ · Od)
def Ff:=λ(z:Z) (E:En L z/\Hz z)=>(by obtain⟨E,p⟩:=E;exists 1,(aS (jj rfl (eO (ai 0)) (rK rfl (gP (bO 2 nd) (gP (bO 3 nd) qX))) (aS (dh (FW.ft (jA (iR (eB (yk A7 xY (E.b rfl) (E.b rfl) (ai 3)))) (jA (j0 (fU (E.b rfl) (ai 3)) aL) (jA (j0 (cV (ai 3) aL) fZ) (mK (j0 (cV (ai 3) aL) fZ)))))) (aM (aV eT)) cX) (aS (dh (FW.ft (jA (iR (eB (b7 p.G hr.m p.m p.kp p.b (aq (cV (ai 3) aL) (aq (acU (cV (ai 3) aL) (jQ (aq (ai 2) aJ))) aJ))))) (mK (j0 (KI (fq hr) (E.ni rfl) (ai 1) (cV (ai 3) aL)) fZ)))) (aM (aV eT)) cX) (aM (dh (FW.ft (xx (wJ hr.units (cV (ai 3) aL) (jQ aJ)) (Av (j0 (KI (fq hr) (E.ni rfl) (ai 1) (cV (ai 3) aL)) fZ)))) (aM (aV eT)) cX))))) (aM (aV eT))):z.D 4 Str.empty (top 52) (aZ · (bx 2 4 _)))
abbrev J4:=fF Ff
def Uq:=wF Ff
def DZ:=λ(z:Z) (E:En L z)=>(by exists 1,(aS (dH 3 (qV (iw (vH (ai 0) aL) aL) (iw aL (qV (qV aL (ai 1)) (ai 1)))) nd) (aM (aV (vH (vH (ai 3) aL) (ai 2))))):z.D 1 Str.empty (top 48) (aZ · (bx 3 4 _)))
abbrev LQ:=fF DZ
def TV:=wF DZ
def Dl:=λ(z:Z) (E:En L z/\TV z)=>(by obtain⟨E,p⟩:=E;exists 1,(aS (dh (pY (ai 2) aL) (aS (dH 3 (vH (ai 1) aL) nd) (aS (jj rfl (eO (ai 0)) (bO 4 nd) (aM (dH 3 (vH (iw (iw (qV (ai 3) aL) (qV (ai 4) (ai 4))) aL) aL) nd))) (aM (aV (abx (b7 p.G hr.m p.m p.kp p.b (aq (ai 3) (aq aL (aq aL aJ)))) aL))))) cX) (aS (jj rfl (eO (ai 0)) (bO 4 nd) (aM (dh (pY (b7 p.G hr.m p.m p.kp p.b (aq (ai 1) (aq (ai 4) (aq aL aJ)))) aL) (aS (dH 5 (iw aL (b7 p.G hr.m p.m p.kp p.b (aq (ai 1) (aq (iw aL (ai 4)) (aq aL aJ))))) nd) (aM (dh (FW.ft (jA (pY (ai 2) aL) (jA (We (ai 5) (ai 0)) (mK (pY (ai 5) (ai 4)))))) (aM (aV eT)) cX))) cX))) (aM (aV eT)))):z.D 2 Str.empty (top 50) (aZ · (bx 3 6 _)))
abbrev DE:=fF Dl
def QS:=wF Dl
def Fw:=λ(z:Z) (E:En L z/\Hw z)=>(by obtain⟨E,p⟩:=E;exists 2,(bV (iA (aah (ai 1) (M6 (E.t rfl))) (ez pQ) jX) (bV (iA (j0 (fE (iX E) p.t p.G hr.m p.b (ai 0)) fZ) (ez pQ) jX) (bV (cz (yN 0 (iX E) (E.n rfl) (ai 1))) (ez (oU (fE (iX E) p.t p.G hr.m p.b (ai 0))))))):z.D 2 "Tally" (inClass (top 39) 1) (dN · (runM 2 2 _)))
abbrev IW:=fO Fw
def WT:=wO Fw
def Bf:=λ(z:Z) (E:En L z/\PM z)=>(by obtain⟨E,p⟩:=E;exists 2,(bV (iA (iR (eB (b7 p.G hr.m p.m p.kp p.b (aq (ai 1) (aq (ai 2) aJ))))) (ez pQ) jX) (bV (cz (fM 0 (iX E) (E.n rfl) (ai 1))) (bV (cz (fM 0 (iX E) (E.n rfl) (ai 2))) (ez (cz (fM 0 (iX E) (E.n rfl) (gY aJ))))))):z.D 3 "Tally" (inClass (top 39) 0) (dN · (runM 3 3 _)))
abbrev As:=fO Bf
def YL:=wI Bf
def Et:=λ(z:Z) (E:En L z)=>(by exists 2,(bV (cz (fM 0 (aK E) (E.n rfl) (Ww (bI (aK E) (E.n rfl) (ai 0)) (w_ (fU (E.b rfl) (ai 1)) (fU (E.b rfl) (bI (aK E) (E.n rfl) (ai 0))))))) (bV (cz (fM 0 (aK E) (E.n rfl) (j7 (E.b rfl) (ai 1)))) (ez (cz (yN 0 (aK E) (E.n rfl) (ai 1)))))):z.D 1 "Gate" (inClass (top 45) 22) (dN · (runM 2 2 _)))
abbrev rN:=fO Et
def RI:=wO Et
def B6:=λ(z:Z) (E:En L z/\WT z/\YL z/\RI z/\Ko z)=>(by obtain⟨E,p,q,u,v⟩:=E;exists 2,(bV (iA (aba hr.units (ai 1) (bI (aK E) (E.n rfl) (ai 0))) (ez pQ) jX) (Zr (fq hr) (E.ni rfl) (aK E) (E.n rfl) (iX E) p.t p.G hr.m p.b (MR (iX E).ns q.M q.G hr.m (E.m rfl) q.b (aq (cV (bI (aK E) (E.n rfl) (ai 0)) aL) (aq (cV (bI (aK E) (E.n rfl) (ai 0)) aL) aJ))) (bV (cz (aab 0 (aK E) (E.n rfl) aL)) (bV (iA (j0 (ai 4) fZ) (ez (cz (yN 0 (aK E) (E.n rfl) (jQ (aq (ai 1) (aq (ai 4) aJ)))))) jX) (bV (iA (pY (ai 4) fZ) (ez (cz (wm (FY.fz (DI 0 (aK E) u.t u.G hr.m u.b (aq (ai 1) aJ)))))) jX) (bV (cz (wm (qk 0 (aK E) v.t v.G hr.m v.b))) (ez (oU (ai 4))))))) nd)):z.D 13 "Gate" (inClass (top 45) 3) (dN · (runM 3 5 _)))
abbrev JF:=fO B6
def VO:=wO B6
def o_law:=λ(z:Z) (E:En L z/\Sa z/\Sh z/\aaA z/\abV z/\aaB z/\RH z/\UO z/\ab6 z/\Uq z/\QS z/\VO z)=>(by obtain⟨E,p,q,u,v,y,g,h,j,l,m,a0⟩:=E;exists 1,(aS (dH 1 (Qq rfl (E.b rfl) (E.b rfl) (GR Gu Dh (ai 0))) nd) (aS (uW 2 (FY.fz (zu (RG (vQ aL) (yI 1 p.G hr.m p.m p.kp p.b (zq (vQ aL) xR))))) nd) (aS (uW 3 (FY.fz (zu (yI 1 p.G hr.m p.m p.kp p.b (zq (vQ (U9 aL aL)) xR)))) nd) (aS (uW 4 (FY.fz (zu (yI 1 p.G hr.m p.m p.kp p.b (zq (vQ aL) xR)))) nd) (aS (uW 5 (FY.fz (zu (yI 1 p.G hr.m p.m p.kp p.b (zq (vQ aL) xR)))) nd) (aS (dH 6 (MR (aK E).ns q.M q.G hr.m (E.m rfl) q.b (aq (ai 2) (aq aL (aq aL (aq aL aJ))))) nd) (aS (jj rfl (An (E.b rfl) (ai 5)) (bO 7 nd) (aM (Ol (Mg (FY.fz (DI 6 (aK E) u.t u.G hr.m u.b (aq aL (aq (gY aJ) (aq (gY aJ) aJ))))) (iw (ai 7) aL)) (aM (aV eT)) cX))) (aS (dH 8 ND nd) (aS (jj rfl (An (E.b rfl) (iw (qV aL (ai 5)) aL)) (bO 9 nd) (aS (dH 10 (fE (aK E) v.t v.G hr.m v.b (ai 6)) nd) (aS (dH 11 (fE (aK E) y.t y.G hr.m y.b (ai 6)) nd) (aS (dh (FW.ft (jA (wJ hr.units (tS rfl (E.b rfl) (ai 11)) (ai 11)) (mK (wJ hr.units (tS rfl (E.b rfl) (fE (aK E) g.t g.G hr.m g.b (ai 6))) (fE (aK E) g.t g.G hr.m g.b (ai 6)))))) (aM (aV eT)) cX) (aS (dh (SS hr.units (ai 10) (gY aJ)) (aS (dh (wJ hr.units (tS rfl (E.b rfl) (tQ (ai 11) (iu (M:=["_law_one"]) (js:=[none]) (gb rfl (by kernel_rfl)) rfl (eO (fE (aK E) h.t h.G hr.m h.b (ai 6))) (by decide) λs3 H3 fp=>⟨(bO 0 (abd rfl)),j5,(cV (ai 0) aL)⟩))) (XO rfl (E.b rfl) (E.b rfl) (aq aL (aq (iw (ai 5) aL) aJ)))) (aM (aV eT)) cX) (aS (dH 12 (fU (E.b rfl) (UG (M:=["_law_look","_law_said"]) 8 (gb rfl (by kernel_rfl)) rfl λs3 H3 fp=>⟨WB 0 (abd rfl),Hg (Fb Bq (OS (fq hr) (pv 1) (pv 0) (by exact λ_ _=>rfl)) Hi (g8 _)),pv 0⟩)) nd) (aM (aV (lC (b7 l.G hr.m l.m l.kp l.b (aq (fE (aK E) h.t h.G hr.m h.b (ai 6)) (aq (ai 8) aJ))) (ow (Mm (ai 12) (qV (iw (fU (E.b rfl) (fE (aK E) h.t h.G hr.m h.b (ai 6))) aL) (b7 j.G hr.m j.m j.kp j.b (aq (ai 2) aJ)))))))))) cX) (aS (dh (FW.ft (jA (j0 (fU (E.b rfl) (ai 10)) aL) (jA (LR (fq hr) (cV (ai 10) aL) (ai 8)) (mK (iR (eB (yk A7 xY (E.b rfl) (E.b rfl) (cV (ai 10) aL)))))))) (aM (aV eT)) cX) (aS (abQ 8 (fq hr) (E.ni rfl) (cV (ai 10) aL) (cV (gY (aq fZ (aq fZ aJ))) (Zt (E.b rfl) (b7 m.G hr.m m.m m.kp m.b (aq (cV (ai 10) aL) (aq (ai 3) (aq (ai 4) aJ))))))) (aM (Ol (Mg (FY.fz (DI 6 (aK E) a0.t a0.G hr.m a0.b (aq (cV (ai 10) aL) (aq (BD (fq hr) (ai 8) (cV (ai 10) aL) (by exact λ_ _=>rfl)) aJ)))) (BD (fq hr) (ai 8) (cV (ai 10) aL) (by exact λ_ _=>rfl))) (aM (aV eT)) cX))))))))) (aM (aV eT))))))))))):z.D 14 Str.empty (top 53) (aZ · (bx 1 13 _)))
abbrev vD:=fF o_law
end K44
namespace K44
open PySem L2 L2.Ev
theorem cO(h:f ρ=some (d,.own)):iz f ρ=some (.rt d):=by rw[JI,h];rfl
theorem yM:mF [.int v,.int a,.int b]=some (.bl (decide (a<=v)&&decide (v<=b))):=by
 refine b8 rfl (cO ?_);show(match some (D.bl (decide (a<=v))) with|some (.bl true)=>some (D.bl (decide (v<=b)),Tag.own)|some (.bl false)=>some (.bl false,.own)|_=>none)=_;cases decide (a<=v)<;>rfl
noncomputable def iL(l:List Int):D:=.lst (l.map D.int)
noncomputable abbrev Ed:=Int×Int×Int
noncomputable def dT(p:Ed):D:=.tup [.int p.1,.int p.2.1,.int p.2.2]
def eL(E:List Ed):D:=.lst (E.map dT)
theorem wc:∀E:List Ed,aI (E.map dT)=true
 |[]=>rfl
 |p::r=>by rw[aax];unfold aI;rw[wc r];rfl
theorem HN:∀bs:List Bool,lU (bs.map D.bl)=some bs
 |[]=>rfl
 |b::r=>by rw[aax];unfold lU;rw[HN r];rfl
theorem Oj{bs:List Bool}:oA (.lst (bs.map D.bl))=some (.bl (bs.all id)):=by
 show(lU (bs.map D.bl)).map (λbs=>D.bl (bs.all id))=_;rw[HN];rfl
theorem l9{α β:Type}(f:α->β):∀l:List α,l.filterMap (λx=>some (f x))=l.map f
 |[]=>rfl
 |a::l=>by rw[aeb,aax];show _::_=_;rw[l9 f l]
abbrev g2:GF:=gT (eK (gN 0) (eK (gN 1) m9))
theorem size_le{n:Nat}(h:n<=10000):n<sizeLine:=by unfold sizeLine;lia
theorem PU{k:Nat}(hk:k<=ds.length):cutD ds (some (k:Int)) none=ds.drop k:=by
 unfold cutD;rw[HT.Aq,HT.xJ,Nat.min_eq_left hk,List.take_of_length_le (by rw[List.length_drop];exact acy _)]
theorem Z0{k:Nat}(hk:k<=ds.length):cutD ds none (some (k:Int))=ds.take k:=by
 unfold cutD;rw[HT.Aq,HT.xJ,Nat.min_eq_left hk];rfl
theorem aav{ds:List D}:cutD ds (some 1) none=ds.drop 1:=by
 cases ds with
 |nil=>rfl
 |cons a r=>exact PU (by simp)
noncomputable def t_:List Int->Bool
 |x::y::r=>decide (x<y)&&t_ (y::r)
 |_=>true
theorem PK:∀l:List Int,((l.zip (l.drop 1)).map λp=>decide (p.1<p.2)).all id=t_ l
 |[]=>rfl
 |[_]=>rfl
 |x::y::r=>by
  have ih:=PK (y::r);show(decide (x<y)&&(((y::r).zip ((y::r).drop 1)).map λp=>decide (p.1<p.2)).all id)=_;rw[ih];rfl
theorem HR{l:List Int}(hl:l.length<=100):Yl [iL l]=some (.bl (t_ l)):=by
 have q1:e1 (kh (some 1) none) (aj 0) [some (iL l,.sh [])]=some (iL (l.drop 1),.own):=bY rfl (by
  show(if aI (l.map D.int)=true then some (D.lst (cutD (l.map D.int) (some 1) none)) else none)=_;rw[if_pos (dY l),aav,<- List.map_drop];rfl)
 have hz:o8 (aj 0) (e1 (kh (some 1) none) (aj 0)) [some (iL l,.sh [])]=some (((l.zip (l.drop 1)).map λp=>D.tup [.int p.1,.int p.2]),jh [(iL l,.sh []),(iL (l.drop 1),.own)]):=by
  unfold o8;rw[q1];show(if(aI (l.map D.int)&&aI ((l.drop 1).map D.int))=true then some (((l.map D.int).zip ((l.drop 1).map D.int)).map λp=>D.tup [p.1,p.2],jh [(iL l,.sh []),(iL (l.drop 1),.own)]) else none)=_;rw[if_pos (by rw[dY,dY];rfl),List.zip_map,adG];rfl
 refine b8 rfl (cO (bY (jx (k:=λd=>match d with | .tup [.int a,.int b]=>some (.bl (decide (a < b))) | _=>none) hz (by rw[List.length_map,List.length_zip];exact size_le (by lia)) (λd m=>by
  obtain⟨⟨a,b⟩,mi,rfl⟩:=adp.mp m;exact nI rfl rfl (aP rfl rfl Y9))) ?_))
 rw[aeg,<- PK,<- Oj,adG];exact congrArg (λz=>oA (.lst z)) (l9 (λp:Int×Int=>D.bl (decide (p.1<p.2))) _)
theorem E7(hi:it ρ=some (ds,.sh []))(h:b_ g (.sh []) f ds ρ=some (.nx ρ')):iD it g f ρ=some (.nx ρ'):=se hi h
theorem Zi(hi:it ρ=some (ds,.sh []))(h:b_ g (.sh []) f ds ρ=some (.rt r)):iD it g f ρ=some (.rt r):=A8 hi h
noncomputable def inR(v a b:Int):Bool:=decide (a<=v)&&decide (v<=b)
def sG(p:Ed):Bool:=inR p.1 0 999&&inR p.2.1 0 1000000000&&inR p.2.2 0 1000000000&&!(p.2.1==p.2.2)
def Ax(E:List Ed):Bool:=E.all sG&&t_ (E.map (·.1))
abbrev gE:GF:=gT (eK (gN 1) (eK (gN 2) (eK (gN 3) m9)))
def bE:SF:=(bH (c9 (kC (jy (tV (cC mF (au (aj 1) (au (eC (.int 0)) (au (eC (.int 999)) aH))))) (tV (cC mF (au (aj 2) (au (eC (.int 0)) (au (eC (.int 1000000000)) aH))))))) (iz (eC (.bl false))) d7) (c9 (jM (kC (tV (cC mF (au (aj 3) (au (eC (.int 0)) (au (eC (.int 1000000000)) aH)))))) (tV (e2 oEq (aj 2) (aj 3)))) (iz (eC (.bl false))) d7))
theorem xj(h:aj i ρ=some (.int v,t)):tV (cC mF (au (aj i) (au (eC (.int a)) (au (eC (.int b)) aH)))) ρ=some (inR v a b):=
 bQ (c_ (ps:=[(.int v,t),(.int a,.own),(.int b,.own)]) (by rw[aY,h];rfl) yM)
def rE(L:D)(a b c:Int):aO:=[some (L,.sh []),some (.int a,.own),some (.int b,.own),some (.int c,.own)]
theorem ZW{L:D}{a b c:Int}:bE (rE L a b c)=some (if sG (a,b,c)=true then .nx (rE L a b c) else .rt (.bl false)):=by
 have w1:tV (cC mF (au (aj 1) (au (eC (.int 0)) (au (eC (.int 999)) aH)))) (rE L a b c)=some (inR a 0 999):=xj rfl;have w2:tV (cC mF (au (aj 2) (au (eC (.int 0)) (au (eC (.int 1000000000)) aH)))) (rE L a b c)=some (inR b 0 1000000000):=xj rfl;have w3:tV (cC mF (au (aj 3) (au (eC (.int 0)) (au (eC (.int 1000000000)) aH)))) (rE L a b c)=some (inR c 0 1000000000):=xj rfl;have w4:tV (e2 oEq (aj 2) (aj 3)) (rE L a b c)=some (b==c):=rfl;have c1:=Hl w1 w2;have c2:=M3 (show kC (tV (cC mF (au (aj 3) (au (eC (.int 0)) (au (eC (.int 1000000000)) aH))))) (rE L a b c)=some (!inR c 0 1000000000) by rw[Ei,w3];rfl) w4;unfold bE sG;rw[iZ,iC,Ei,c1];cases inR a 0 999<;>cases inR b 0 1000000000<;>try rfl
 show AG _ (d7 _)=_;rw[aaV,nY,iC,c2];cases inR c 0 1000000000<;>cases(b==c)<;>rfl
theorem O1{L:D}:∀{E:List Ed} {s1 s2 s3},∃oq Dy xm,b_ gE (.sh []) bE (E.map dT) [some (L,.sh []),s1,s2,s3]=some (if E.all sG=true then .nx [some (L,.sh []),oq,Dy,xm] else .rt (.bl false))
 |[],s1,s2,s3=>⟨s1,s2,s3,rfl⟩
 |(a,b,c)::E,s1,s2,s3=>by
  obtain⟨t1,t2,t3,ih⟩:=O1;refine⟨t1,t2,t3,?_⟩;rw[aax];show(match bE (rE L a b c) with|some (.nx aQ)=>b_ gE (.sh []) bE (E.map dT) aQ|some (.ct aQ)=>b_ gE (.sh []) bE (E.map dT) aQ|some (.bk aQ)=>some (.nx aQ)|some (.rt r)=>some (.rt r)|some (.er raw cn aQ)=>some (.er raw cn aQ)|none=>none)=_;rw[ZW,afz];cases sG (a,b,c) with
  |true=>rw[if_pos rfl,Bool.true_and];exact ih
  |false=>rfl
theorem ia(h:sf ρ=some (.rt d)):bH sf sg ρ=some (.rt d):=by rw[iZ,h];rfl
theorem GB{js:List (Option Nat)}{it:IF}{g:GF}{te:EF}{ρ:aO}{t:Tag}{l:List Int}{p:Int->Bool}(hi:it ρ=some (l.map D.int,t))(hl:l.length<=10000)(h:∀x∈l,iI g lu te (iM js ρ) (.int x)=some (some (.bl (p x)))):
  e1 oA (fV js it g lu te) ρ=some (.bl (l.all p),.own):=by
 have hc:=jx (k:=λd=>match d with | .int x=>some (.bl (p x)) | _=>none) hi (by rw[List.length_map];exact size_le hl) (λd m=>by
  obtain⟨x,mx,rfl⟩:=adp.mp m;exact h x mx)
 rw[xy,hc,Kg,aeg];have e:l.filterMap ((λd=>match d with|D.int x=>some (D.bl (p x))|_=>none) ∘ D.int)=(l.map p).map D.bl:=by
  rw[adG];exact l9 (λx=>D.bl (p x)) _
 rw[e,Oj,afM];rfl
theorem f_are{E:List Ed}(hl:E.length<=100):ZL [eL E]=some (.bl (Ax E)):=by
 obtain⟨t1,t2,t3,rR⟩:=O1;refine b8 rfl ?_;unfold Ax;cases ha:E.all sG with
 |false=>
  rw[ha] at rR;exact ia (Zi rfl rR)
 |true=>
  rw[ha] at rR;refine sq (E7 rfl rR) (cO (c_ (ps:=[(iL (E.map λp:Ed=>p.1),.own)]) ?_ (HR (by rw[List.length_map];exact hl))));rw[aY,jx (k:=λd=>match d with | .tup [.int a,.int _,.int _]=>some (.int a) | _=>none) rfl (by rw[List.length_map];exact size_le (by lia)) (λd m=>by
   obtain⟨⟨a,b,c⟩,mi,rfl⟩:=adp.mp m;exact nI rfl rfl rfl),aeg]
  unfold iL;rw[adG,show E.filterMap ((λd=>match d with|D.tup [.int a,.int _,.int _]=>some (D.int a)|_=>none) ∘ dT)=E.map (D.int ∘ (·.1)) from l9 (λp:Ed=>D.int p.1) _];rfl
abbrev Ch:=Int×List Int×List Ed
def ent(c:Ch):D:=.tup [.int c.1,.tup (c.2.1.map D.int),.tup (c.2.2.map dT)]
def obj(C:List Ch):D:=.ins "Changes" [("entries",.lst (C.map ent))]
theorem E6(c:Ch):aA (ent c)=true:=by
 unfold ent;show aI [.int c.1,.tup (c.2.1.map D.int),.tup (c.2.2.map dT)]=true;unfold aI;unfold aI;unfold aI;unfold aI;show(aA (.int c.1)&&(aI (c.2.1.map D.int)&&(aI (c.2.2.map dT)&&true)))=true;rw[dY,wc];rfl
theorem Jl:∀C:List Ch,aI (C.map ent)=true
 |[]=>rfl
 |c::r=>by rw[aax];unfold aI;rw[Jl r,E6];rfl
theorem nJ{F:List D->Option D}{ps:List (D×Tag)}(h:fo ρ=some (.ins cn es,t))(hm:es.lookup m=none)(hg:g ρ=some ps)(hF:F (.ins cn es::ps.map (·.1))=some d):
  cE cn m F fo g ρ=some (d,.own):=by
 unfold cE;rw[h];dsimp only;rw[if_pos ⟨rfl,hm⟩,hg,adH,hF];rfl
theorem zM(h:(mm==("entries":Str))=false):([("entries",d)]:List (Str×D)).lookup mm=none:=by simp only[List.lookup,h]
theorem Nx(C:List Ch):EC [obj C]=some (.int C.length):=b8 rfl (cO (bY rfl (by rw[uP,List.length_map])))
theorem Gx(h:aj i ρ=some (obj C,t)):cE "Changes" "many" EC (aj i) aH ρ=some (.int C.length,.own):=
 nJ h (zM (by decide)) vq (Nx C)
theorem mD{F:List D->Option D}(h:aj i ρ=some (obj C,t))(ha:fa ρ=some (x,t2))(hF:F [obj C,x]=some d)(hm:(mm==("entries":Str))=false:=by decide):
  cE "Changes" mm F (aj i) (au fa aH) ρ=some (d,.own):=
 nJ (ps:=[(x,t2)]) h (zM hm) (by rw[aY,ha,vq,yO]) hF
theorem OC(C:List Ch)(m:Int):Mb [obj C,.int m]=some (.bl (inR m 1 C.length)):=
 b8 rfl (cO (c_ (ps:=[(.int m,.sh []),(.int 1,.own),(.int C.length,.own)]) (by rw[aY,aY,aY,Gx rfl];rfl) yM))
def uK(n:Nat)(r:Int)(l:List Int)(E:List Ed):Bool:=inR r 0 9&&(l.all (λx=>inR x 1 n)&&t_ l)&&(decide ((E.length:Int)<=20)&&Ax E)
theorem sQ(h1:fa ρ=some (.bl b,t))(h2:fb ρ=some (.bl c,.own)):pA fa fb ρ=some (.bl (b&&c),.own):=by
 rw[Wg,h1];cases b
 .rfl
 .exact h2
theorem T_{C:List Ch}{r:Int}{l:List Int}{E:List Ed}(hl:l.length<=100)(hE:E.length<=100):VX [obj C,.int r,iL l,eL E]=some (.bl (uK C.length r l E)):=by
 have q1:=kN (xj (ρ:=[some (obj C,.sh []),some (.int r,.sh []),some (iL l,.sh []),some (eL E,.sh [])]) (i:=1) (a:=0) (b:=9) rfl);have q2:=M3 (kN (bQ (GB (js:=[none,some 0]) (it:=gA (aj 2)) (g:=gN 0) (te:=cE "Changes" "has" Mb (aj 1) (au (aj 0) aH)) (ρ:=[some (obj C,.sh []),some (.int r,.sh []),some (iL l,.sh []),some (eL E,.sh [])]) (iF rfl) (by lia) (λx mx=>nI rfl rfl (mD rfl rfl (OC C x)))))) (kN (bQ (c_ (g:=au (aj 2) aH) rfl (HR hl))));refine b8 rfl ?_;unfold uK;cases h0:inR r 0 9 with
 |false=>rw[h0] at q1;exact mz q1 (ia rfl)
 |true=>
  rw[h0] at q1;refine fH q1 ?_;cases h1:l.all λx=>inR x 1 C.length with
  |false=>rw[h1] at q2;exact mz q2 (ia rfl)
  |true=>
   cases h2:t_ l with
   |false=>rw[h1,h2] at q2;exact mz q2 (ia rfl)
   |true=>
    rw[h1,h2] at q2;exact fH q2 (cO (sQ (c:=Ax E) (aP (bY rfl (by unfold eL;rw[uP,List.length_map])) rfl QD) (c_ rfl (f_are hE))))
theorem AI(h1:fv ρ=some (d,t))(h2:ρ[i]? = some (some (.ins cn es,.own)))(hl:es.lookup f=some (.lst ds))(hc:(aA d&&aI ds&&decide (ds.length<sizeLine))=true):
  A6 i cn f fv ρ=some (.nx (bB ρ i (.ins cn (dw f (.lst (ds++[d])) es)))):=by
 unfold A6;rw[h1,h2];dsimp only;rw[if_pos rfl,hl];dsimp only;rw[if_pos hc]
theorem iY(h:f ρ=some (.nx ρ')):jZ f ρ=some (.nx ρ'):=by unfold jZ;rw[h]
theorem jS(hl:ds.length+1=n)(h:b (xX N d0 ds)=some (.rt (.tup [r,d1]))):runM n N b d0 ds=some (r,d1):=by unfold runM;rw[if_pos hl,h]
theorem Qv{C:List Ch}{r:Int}{l:List Int}{E:List Ed}(hl:l.length<=100)(hE:E.length<=100)(hm:uK C.length r l E=true)(hC:C.length<60):z7 (obj C) [.int r,iL l,eL E]=some (.int (C.length+1),obj (C++[(r,l,E)])):=by
 refine jS rfl ?_;refine fH (kN (b:=true) (bQ (nJ rfl (zM (by decide)) rfl ((T_ hl hE).trans (by rw[hm]))))) ?_;refine fH (bQ (aP (Gx rfl) rfl (by rw[aag,adt (by lia)]))) ?_;refine sq (ρ':=[some (obj (C++[(r,l,E)]),.own),some (.int r,.sh []),some (iL l,.sh []),some (eL E,.sh [])]) ((iY (AI (d:=ent (r,l,E)) (t:=.sh []) ?_ rfl rfl (by rw[E6,Jl,abL (by rw[List.length_map];exact size_le (by lia))];rfl))).trans ?_) ?_
 .rw[qo,aY,aY,aY,bY rfl DY,bY (d:=eL E) (t:=.own) ?_ (if_pos (wc E))]
  .rfl
  .refine(jx (iF rfl) (by rw[List.length_map];exact size_le (by lia)) (λd m=>by
    obtain⟨⟨a,b,c⟩,mx,rfl⟩:=adp.mp m;exact nI rfl rfl rfl)).trans ?_
   rw[l9 (λd:D=>d),List.map_id'];rfl
 .unfold obj;rw[adQ];rfl
 .show sA _ _ _=_;unfold sA;rw[Gx rfl,ab9];rfl
theorem qJ{i:Int}(h1:-1000<=i)(h2:i<=1000):small i=true:=by
 unfold small;rw[abL (show -(2 ^ 62)<=i by lia),abL (show i<2 ^ 62 by lia)];rfl
noncomputable def bf(a:Int)(n:Nat):List Int:=(List.range n).map λi:Nat=>a+(i:Int)
theorem gX{a x:Int}{n:Nat}:x∈bf a n↔a<=x/\x<a+n:=by
 unfold bf;rw[adp];constructor
 .rintro⟨i,m,rfl⟩
  have:=afJ.mp m
  lia
 .intro h;exact⟨(x-a).toNat,afJ.mpr (by lia),by lia⟩
theorem yg(a:Int)(n:Nat):(bf a n).Pairwise (· < ·):=by
 unfold bf;rw[aeB];exact List.pairwise_lt_range.imp (λh=>by lia)
theorem GI(h:f ρ=some (.int i,t))(h2:g ρ=some (.int j,t2))(hi:small i=true)(hj:small j=true):rm f g ρ=some ((bf i (j-i).toNat).map D.int,.own):=by
 unfold rm;rw[h,h2];dsimp only;rw[if_pos (by rw[hi,hj];rfl)];unfold bf;rw[adG];rfl
theorem iA(p:Int->Bool)(f:Int->Int):∀l:List Int,l.filterMap (λx=>if p x=true then some (D.int (f x)) else none)=((l.filter p).map f).map D.int
 |[]=>rfl
 |a::r=>by
  rw[aeb]
  by_cases hp:p a=true
  .rw[ae5 hp,if_pos hp,iA p f r];rfl
  .rw[aeQ hp,acZ hp,iA p f r]
theorem WQ{js:List (Option Nat)}{it:IF}{g:GF}{tt:TF}{te:EF}{ρ:aO}{t:Tag}{l:List Int}{p:Int->Bool}{f:Int->Int}(hi:it ρ=some (l.map D.int,t))(hl:l.length<=10000)(h:∀x∈l,iI g tt te (iM js ρ) (.int x)=some (if p x=true then some (.int (f x)) else none)):
  fV js it g tt te ρ=some (iL ((l.filter p).map f),.own):=by
 have hc:=jx (k:=λd=>match d with | .int x=>if p x=true then some (.int (f x)) else none | _=>none) hi (by rw[List.length_map];exact size_le hl) (λd m=>by
  obtain⟨x,mx,rfl⟩:=adp.mp m;exact h x mx)
 rw[hc]
 congr 3
 clear hc h hi hl;rw[aeg];exact iA p f l
def lean(L:List (List Int))(m:Int):List Int:=if 1<=m then(L[(m-1).toNat]?).getD [] else[]
noncomputable abbrev sec(C:List Ch):List (List Int):=C.map (·.2.1)
theorem acp{α:Type}{f:α->D}{L:List α}{m:Int}{l:α}(h1:1<=m)(h2:m<=L.length)(h:L[(m-1).toNat]? = some l):d_ (L.map f) (m-1)=some (f l):=by
 unfold d_ nQ;rw[List.length_map];rw[if_pos (by omega),if_pos (by omega),adH,adA,h];rfl
def ch(L:List Ch)(m:Int):Ch:=(L[(m-1).toNat]?).getD (0,[],[])
theorem Qj{L:List Ch}{m:Int}(h1:1<=m)(h2:m<=L.length):L[(m-1).toNat]? = some (ch L m):=by
 unfold ch;rw[acr (by lia)];rfl
theorem pJ{L:List Ch}{m:Int}(h1:1<=m)(h2:m<=L.length):(ch L m).2.1=lean (sec L) m:=by
 unfold ch lean sec;rw[if_pos h1,adA,acr (by lia)];rfl
theorem Ck{L:List Ch}{m:Int}(h1:1<=m)(h2:m<=L.length):X3 [obj L,.int m]=some (ent (ch L m)):=
 b8 rfl (fH (kN (b:=true) (bQ (mD rfl rfl ((OC L m).trans (by unfold inR;rw[abL h1,abL h2];rfl))))) (cO (aP rfl rfl (vL (acp h1 h2 (Qj h1 h2)) (E6 _)))))
theorem NZ{L:List Ch}{m:Int}(h1:1<=m)(h2:m<=L.length):EA [obj L,.int m]=some (iL (lean (sec L) m)):=
 b8 rfl (cO (bY (aP (mD rfl rfl (Ck h1 h2)) rfl (if_pos (show aA (D.tup _)=true by simp only[aA,dY]))) (by rw[KC,pJ h1 h2];rfl)))
def cG(L:List Ch)(m:Int):List Ed:=(ch L m).2.2
theorem z8{L:List Ch}{m:Int}(h1:1<=m)(h2:m<=L.length):yf [obj L,.int m]=some (eL (cG L m)):=
 b8 rfl (cO (bY (aP (mD rfl rfl (Ck h1 h2)) rfl (if_pos (show aA (D.tup _)=true from wc _))) (if_pos (wc _))))
theorem DV{e:EF}{ρ:aO}{n:Nat}{t:Tag}(h:e ρ=some (.int n,t))(hs:n<=1000):mQ e ρ=some ((bf 0 n).map D.int,.own):=by
 rw[ir1 h (qJ (by lia) (by lia)),afj];unfold bf;rw[adG];rfl
theorem Yb{l:List Int}:l.any (· == m)=decide (m∈l):=by
 by_cases h:m∈l
 .rw[abL h];exact adS.mpr ⟨m,h,by simp⟩
 .rw[adt h,ae2];intro e;obtain⟨y,my,ey⟩:=adS.mp e;exact h (by rw[<- (afh.mp ey)];exact my)
theorem sN:x∈cB l↔x∈l:=(pZ l).mem_iff
structure E1(E:List Ed)(n:Nat):Prop where
 so:(E.map (·.1)).Pairwise (·<=·)
 ln:E.length<=n
theorem Fe(h:n<4096):n<sizeLine:=by unfold sizeLine;lia
def oN(es:List (Int×Int))(p:Int×Int×Int):Bool:=!((bA es p.1).getD 0==p.2.1)
def bad(es:List (Int×Int))(E:List (Int×Int×Int)):List Int:=(E.filter (oN es)).map (·.1)
noncomputable def xu:List Int->D
 |[]=>.aB
 |x::_=>.int x
theorem Tq:∀{x} {l},(x::l).Pairwise (·<=·)->jC (x::l)=x
 |x,l,h=>by
  obtain⟨h1,h2⟩:=Gq (l:=x::l) (by simp);have h3:=h2 x aat;rcases abG.mp h1 with e|m
  .exact e
  .have:=(adU.mp h).1 _ m;lia
def kW(es:List (Int×Int)):D->Option D
 |.tup [.int a,.int b,.int c]=>if oN es (a,b,c)=true then some (.int a) else none
 |_=>none
theorem Z_:∀p,kW es (dT p)=if oN es p=true then some (D.int p.1) else none
 |(_,_,_)=>rfl
theorem Ct(hE:E1 E n)(hn:n<64)(w:List D->D)(hw:gA (aj 1) [some (bU es,.sh []),some (w (E.map dT),.sh [])]=some (E.map dT,.sh [])):Dm [bU es,w (E.map dT)]=some (xu (bad es E)):=by
 have hc:=jx (js:=[none,none,none,some 0]) (g:=gT (eK (gN 0) (eK (gN 1) (eK (gN 2) m9)))) (tt:=tV (e2 iG (e3 sX (aj 3) (aj 0) (eC (.int 0))) (aj 1))) (te:=aj 0) (k:=kW es) hw (by rw[List.length_map];exact Fe (by have:=hE.ln;lia)) (λd m=>by
  obtain⟨⟨a,b,c⟩,mi,rfl⟩:=adp.mp m;show _=some (if oN es (a,b,c)=true then some (D.int a) else none);have ht:(tV (e2 iG (e3 sX (aj 3) (aj 0) (eC (.int 0))) (aj 1))) [some (.int a,.own),some (.int b,.own),some (.int c,.own),some (bU es,.sh [])]=some (oN es (a,b,c)):=by
   rw[v8,jH,Sf];show Ev.kV (k2 iG ((sX (bU es) (.int a) (.int 0)).map _) _)=_;rw[VP];rfl
  by_cases h:oN es (a,b,c)=true
  .rw[if_pos h];exact ua (aF:=[some (.int a,.own),some (.int b,.own),some (.int c,.own),some (bU es,.sh [])]) rfl (by rw[ht,h]) rfl rfl
  .rw[acZ h];exact zJ (aF:=[some (.int a,.own),some (.int b,.own),some (.int c,.own),some (bU es,.sh [])]) rfl (by rw[ht,ae2.mpr h]))
 have hb:(E.map dT).filterMap (kW es)=(bad es E).map D.int:=by
  clear hc hw hE;unfold bad
  induction E with
  |nil=>rfl
  |cons p r ih=>
   rw[aax,aeb,afv,Z_]
   by_cases h:oN es p=true
   .rw[if_pos h,if_pos h];dsimp only;rw[ih];rfl
   .rw[acZ h,acZ h];exact ih
 rw[hb] at hc;have hs:(bad es E).Pairwise (·<=·):=by
  unfold bad;have:=hE.so;rw[aeB] at this ⊢;exact this.filter _
 refine b8 rfl (cO (aP hc rfl ?_));show(match cU ((bad es E).map D.int) with|some []=>if aA .aB=true then some D.aB else none|some (n::r)=>some (D.int (jC (n::r)))|none=>none)=_;rw[rX];cases e:bad es E with
 |nil=>rfl
 |cons x l=>
  dsimp only;rw[Tq (by rw[<- e];exact hs)];rfl
def qj(es:List (Int×Int)):List Int:=(cB (es.map (·.1))).filter λk=>!((bA es k).getD 0==0)
def nz(es:List (Int×Int)):List (Int×Int):=(qj es).map λk=>(k,(bA es k).getD 0)
def kS(es:List (Int×Int)):D->Option D
 |.int i=>if(!((bA es i).getD 0==0))=true then some (dP (i,(bA es i).getD 0)) else none
 |_=>none
theorem Y3(hl:es.length<64):abP [bU es]=some (.lst ((nz es).map dP)):=by
 have hs:(e1 lA (aj 0)) [some (bU es,.sh [])]=some (.lst ((cB (es.map (·.1))).map D.int),.own):=by
  rw[xy];show(lA (bU es)).map _=_;rw[V6 (by omega)];rfl
 have hc:=jx (js:=[none,some 0]) (g:=gN 0) (tt:=tV (e2 iG (e2 lQ (aj 1) (aj 0)) (eC (.int 0)))) (te:=j_ (au (aj 0) (au (e2 lQ (aj 1) (aj 0)) aH))) (k:=kS es)
   (iF hs) (by rw[List.length_map,yZ,List.length_map];exact Fe (by omega)) (λd m=>by
  obtain⟨i,mi,rfl⟩:=adp.mp m;obtain⟨w,hw⟩:=pW.mpr (sN.mp mi);have hg:=Zu hw;show _=some (if(!((bA es i).getD 0==0))=true then some (dP (i,(bA es i).getD 0)) else none);have ht:(tV (e2 iG (e2 lQ (aj 1) (aj 0)) (eC (.int 0)))) [some (.int i,.sh []),some (bU es,.sh [])]=some (!((bA es i).getD 0==0)):=by
   rw[v8,jH,jH];show Ev.kV (k2 iG ((lQ (bU es) (.int i)).map _) _)=_;rw[hg,hw];rfl
  by_cases h:(!((bA es i).getD 0==0))=true
  .rw[if_pos h];refine ua (aF:=[some (.int i,.sh []),some (bU es,.sh [])]) (tg:=.sh []) rfl (by rw[ht,h]) ?_ rfl;rw[qo,aY,aY,jH];show Option.map _ (lH _ (lH ((lQ (bU es) (.int i)).map _) _))=_;rw[hg,hw];rfl
  .rw[acZ h];exact zJ (aF:=[some (.int i,.sh []),some (bU es,.sh [])]) rfl (by rw[ht,ae2.mpr h]))
 refine(b8 rfl (cO hc)).trans ?_
 congr 2
 unfold nz qj;generalize cB (es.map (·.1))=l;clear hs hc
 induction l with
 |nil=>rfl
 |cons x r ih=>
  rw[aax,aeb,afv]
  by_cases h:(!((bA es x).getD 0==0))=true
  .rw[if_pos h,show kS es (.int x)=some (dP (x,(bA es x).getD 0)) from if_pos h];dsimp only;rw[ih];rfl
  .rw[acZ h,show kS es (.int x)=none from acZ h];exact ih
def fW(es:List (Int×Int))(E:List (Int×Int×Int)):List (Int×Int):=E.foldl (λm p=>fL m p.1 p.2.2) es
theorem MD:∀(E) (es),(es.map (·.1)).Nodup->((fW es E).map (·.1)).Nodup
 |[],_,h=>h
 |p::r,es,h=>MD r _ (Hu h)
theorem Bw:∀(E) (es) (k),(E.map (·.1)).Nodup->(∀p∈E,p.1=k->bA (fW es E) k=some p.2.2)/\(k∉E.map (·.1)->bA (fW es E) k=bA es k)
 |[],es,k,_=>⟨λp m=>(nomatch m),λ_=>rfl⟩
 |q::r,es,k,h=>by
  obtain⟨h1,h2⟩:=ado.mp h;obtain⟨a,b⟩:=Bw r (fL es q.1 q.2.2) k h2;refine⟨λp m e=>?_,λm=>?_⟩
  .rcases abG.mp m with rfl|m
   .show bA (fW (fL es p.1 p.2.2) r) k=_;rw[b (by rw[<- e];exact h1),z5,if_pos e.symm]
   .exact a p m e
  .show bA (fW (fL es q.1 q.2.2) r) k=_;rw[aax] at m;rw[b λx=>m (aad _ x),z5,acZ λx=>m (by rw[x];exact aat)]
noncomputable abbrev kY:=List (Int×Int)
theorem Ex(S:kY->Slot->Slot->Slot->aO)(hg:∀v x y z (p:Ed),g (dT p) t (S v x y z)=some (S v (some (.int p.1,.own)) (some (.int p.2.1,.own)) (some (.int p.2.2,.own))))(hf:∀v (p:Ed),v.length<sizeLine->f (S v (some (.int p.1,.own)) (some (.int p.2.1,.own)) (some (.int p.2.2,.own)))=some (.nx (S (fL v p.1 p.2.2) (some (.int p.1,.own)) (some (.int p.2.1,.own)) (some (.int p.2.2,.own))))):
  ∀{E} {v} {x y z},v.length+E.length<4096->∃x' y' z',b_ g t f (E.map dT) (S v x y z)=some (.nx (S (fW v E) x' y' z'))
 |[],_,x,y,z,_=>⟨x,y,z,rfl⟩
 |p::E,v,x,y,z,hl=>by
  rw[adu] at hl;obtain⟨x',y',z',ih⟩:=Ex S hg hf (E:=E) (v:=fL v p.1 p.2.2) (by have:=VF (es:=v) (k:=p.1) (v:=p.2.2);lia);exact⟨x',y',z',(mW (hg ..) (hf _ _ (Fe (by lia)))).trans ih⟩
def wA(S L:D)(es:List (Int×Int))(s3 s4 s5 s6 s7:Slot):aO:=[some (S,.sh []),some (L,.sh []),some (bU es,.own),s3,s4,s5,s6,s7]
abbrev Ju:GF:=gT (eK (gN 5) (eK (gN 6) (eK (gN 7) m9)))
abbrev OY:SF:=qT 2 (aj 5) (aj 7)
theorem Jz:k∈qj es↔(bA es k).getD 0≠0:=by
 unfold qj;rw[adz];refine⟨λh=>by simpa using h.2,λh=>⟨sN.mpr (pW.mp ?_),by simpa using h⟩⟩;cases e:bA es k with
 |none=>rw[e] at h;exact absurd rfl h
 |some v=>exact⟨v,rfl⟩
theorem Ig(h:(es.map (·.1)).Nodup):(qj es).Nodup:=((pZ _).nodup_iff.mpr h).sublist ael
theorem HV:(nz es).map (·.1)=qj es:=by
 unfold nz;rw[adG];exact List.map_id' _
theorem CW(f:Int->Int)(k:Int):∀l:List Int,bA (l.map λk=>(k,f k)) k=if k∈l then some (f k) else none
 |[]=>rfl
 |x::r=>by
  have ih:=CW f k r;rw[aax];unfold bA at ih ⊢;rw[adN]
  by_cases hx:x=k
  .rw[abL hx,if_pos (by rw[hx];exact aat),hx];rfl
  .rw[adt hx];dsimp only;rw[ih];have:(k∈x::r)↔k∈r:=⟨λm=>(abG.mp m).elim (λe=>absurd e.symm hx) id,aad _⟩
   simp only[this]
theorem T9(k:Int):(bA (nz es) k).getD 0=(bA es k).getD 0:=by
 unfold nz;rw[CW]
 by_cases h:k∈qj es
 .rw[if_pos h];rfl
 .rw[acZ h];have:=mt Jz.mpr h;simp only[ne_eq,Decidable.not_not] at this;rw[this];rfl
theorem Rt(h:(es.map (·.1)).Nodup)(k:Int):(bA (i8 (nz es)) k).getD 0=(bA es k).getD 0:=by
 rw[Ml (by rw[HV];exact Ig h),T9]
theorem ac1(ps:List (Int×Int)):((i8 ps).map (·.1)).Nodup:=by
 have go:∀(ps m:List (Int×Int)),(m.map (·.1)).Nodup->((ps.foldl (λm p=>fL m p.1 p.2) m).map (·.1)).Nodup:=by
  intro ps
  induction ps with
  |nil=>intro m h;exact h
  |cons p r ih=>intro m h;exact ih _ (Hu h)
 exact go ps [] adw
theorem sub_len[DecidableEq α]:∀{l m:List α},l.Nodup->(∀x∈l,x∈m)->l.length<=m.length
 |[],m,_,_=>adZ _
 |a::l,m,h,s=>by
  obtain⟨ha,hl⟩:=ado.mp h;have ma:=s a aat;have:=sub_len (m:=m.erase a) hl λx mx=>(List.mem_erase_of_ne λe=>ha (by rw[<- e];exact mx)).mpr (s x (aad _ mx))
  rw[List.length_erase_of_mem ma] at this;have:=List.length_pos_of_mem ma;rw[adu];omega
theorem Q8(h:k∈(fL es a c).map (·.1)):k=a\/k∈es.map (·.1):=by
 obtain⟨w,e⟩:=pW.mpr h;rw[z5] at e
 split at e
 .rename_i q;exact .inl q
 .exact .inr (pW.mp ⟨w,e⟩)
theorem Nq{S:List Int}:∀{E} {es},(∀p∈E,p.1∈S)->(∀k∈es.map (·.1),k∈S)->∀k∈(fW es E).map (·.1),k∈S
 |[],es,_,h=>h
 |p::E,es,hE,h=>Nq (es:=fL es p.1 p.2.2) (λq m=>hE q (aad _ m)) λk m=>(Q8 m).elim (λe=>by rw[e];exact hE p aat) (h k)
def eV:kY->List (List Ed)->Option kY
 |v,[]=>some v
 |v,E::r=>if bad v E=[] then eV (fW v E) r else none
structure Kb(v:kY):Prop where
 nd:(v.map (·.1)).Nodup
 ks:∀k∈v.map (·.1),k∈bf 0 60
theorem Kb.len{v:kY}(h:Kb v):v.length<=60:=by
 have:=sub_len h.nd h.ks;rw[List.length_map] at this;unfold bf at this
 rwa [List.length_map,ae1] at this
theorem Kb.nil:Kb []:=⟨.nil,λk m=>nomatch m⟩
structure Ee(E:List Ed):Prop where
 ed:E1 E 20
 nd:(E.map (·.1)).Nodup
 sl:∀p∈E,p.1∈bf 0 60
theorem Kb.fW{v:kY}(h:Kb v)(e:Ee E):Kb (fW v E):=⟨MD E v h.nd,Nq e.sl h.ks⟩
abbrev Jv(Z:SF):SF:=bH (dO 4 (cC Dm (au (aj 2) (au (aj 3) aH)))) (bH (c9 (tV (e2 yR (aj 4) (eC .aB))) Z d7) (iD (gA (aj 3)) Ju OY))
theorem Vu{Z:SF}{S L:D}(hE:E1 E 20)(hb:bad v E=[])(hl:v.length<=3000):∃t5 t6 t7,Jv Z (wA S L v (some (eL E,.sh [])) s4 s5 s6 s7)=some (.nx (wA S L (fW v E) (some (eL E,.sh [])) (some (.aB,.own)) t5 t6 t7)):=by
 have hle:=hE.ln;obtain⟨t5,t6,t7,lp⟩:=Ex (g:=Ju) (f:=OY) (λv x y z=>wA S L v (some (eL E,.sh [])) (some (.aB,.own)) x y z) (λ_ _ _ _ _=>rfl) (λv p h=>Lc rfl rfl rfl h) (E:=E) (v:=v) (by lia);exact⟨t5,t6,t7,jO (d:=.aB) (c_ rfl (by show Dm [bU v,.lst (E.map dT)]=_;rw[Ct hE (by lia) D.lst rfl,hb];rfl)) (sq rfl (E7 rfl lp))⟩
theorem Oi{Z:SF}{S L:D}:∀{Es} {v v'} {s3 s4 s5 s6 s7},(∀E∈Es,Ee E)->eV v Es=some v'->Kb v->
  ∃t3 t4 t5 t6 t7,b_ (gN 3) (.sh []) (Jv Z) (Es.map eL) (wA S L v s3 s4 s5 s6 s7)=some (.nx (wA S L v' t3 t4 t5 t6 t7))/\Kb v'
 |[],v,v',s3,s4,s5,s6,s7,_,h,k=>by
  cases h;exact⟨s3,s4,s5,s6,s7,rfl,k⟩
 |E::Es,v,v',s3,s4,s5,s6,s7,hE,h,k=>by
  unfold eV at h
  by_cases hb:bad v E=[]
  .rw[if_pos hb] at h;have Mx:=hE E aat;obtain⟨t5,t6,t7,hs⟩:=Vu Mx.ed hb (by have:=k.len;lia);obtain⟨u3,u4,u5,u6,u7,ih,k'⟩:=Oi (λE' m=>hE E' (aad _ m)) h (k.fW Mx);exact⟨u3,u4,u5,u6,u7,(mW rfl hs).trans ih,k'⟩
  .rw[acZ hb] at h;cases h
def dS(ps:kY):D:=.lst (ps.map dP)
def eW(C:List Ch)(row:List Int):List (List Ed):=row.map (cG C)
noncomputable abbrev Row(C:List Ch)(ns:List Int):Prop:=∀x∈ns,1<=x/\x<=(C.length:Int)
structure GoodC(C:List Ch):Prop where
 ln:C.length<=60
 ed:∀m,Ee (cG C m)
 bd:∀m x,1<=m->m<=(C.length:Int)->x∈lean (sec C) m->1<=x/\x<m
 few:∀m,(lean (sec C) m).length<=60
theorem Gh{C:List Ch}{row:List Int}(g:GoodC C)(hb:Row C row)(hl:row.length<=100)(h:eV [] (eW C row)=some v):T3 [obj C,iL row]=some (dS (nz v))/\Kb v:=by
 have hE:∀E∈eW C row,Ee E:=λE m=>by
  obtain⟨x,_,rfl⟩:=adp.mp m;exact g.ed x
 obtain⟨t3,t4,t5,t6,t7,rR,kv⟩:=Oi hE h Kb.nil;have hc:=jx (js:=[none,some 0]) (it:=gA (aj 1)) (ρ:=[some (obj C,.sh []),some (iL row,.sh [])]) (g:=gN 0) (tt:=lu) (te:=cE "Changes" "edits_of" yf (aj 1) (au (aj 0) aH)) (k:=λd=>match d with | .int x=>some (eL (cG C x)) | _=>none) (iF rfl) (by rw[List.length_map];exact size_le (by lia)) (λd m=>by
  obtain⟨x,mx,rfl⟩:=adp.mp m;obtain⟨h1,h2⟩:=hb x mx;exact nI rfl rfl (mD rfl rfl (z8 h1 h2)))
 rw[aeg,show(row.filterMap ((λd=>match d with|D.int x=>some (eL (cG C x))|_=>none) ∘ D.int))=(eW C row).map eL from(l9 _ _).trans (by unfold eW;rw[adG];rfl)] at hc;exact⟨b8 rfl (cO (c_ (by rw[aY,aY];show lH _ (lH (fV _ _ _ _ _ [some (obj C,.sh []),some (iL row,.sh [])]) _)=_;rw[hc];rfl) (b8 rfl (jO rfl (sq (E7 rfl rR) (cO (c_ (ps:=[(bU v,.sh [2])]) rfl (Y3 (by have:=kv.len;lia))))))))),kv⟩
abbrev gV(es:kY)(k:Int):Int:=(bA es k).getD 0
def gG(C:List Ch)(v:kY)(m:Int):Bool:=(bad v (cG C m)).isEmpty
theorem UX:gG C v m=true↔bad v (cG C m)=[]:=List.isEmpty_iff
theorem Yp:gI (xu l) .aB=some (.bl l.isEmpty):=by cases l<;>rfl
theorem AR{l:List Int}(hi:it ρ=some (l.map D.int,t))(hl:l.length<=10000)(hr:∀x,gN 0 (.int x) (.sh []) (iM js ρ)=some (some (.int x,.sh [])::r))(h:∀x∈l,tt (some (.int x,.sh [])::r)=some (p x)):
  fV js it (gN 0) tt (aj 0) ρ=some (iL (l.filter p),.own):=by
 have:=WQ (tt:=tt) (te:=aj 0) hi hl (λx mx=>by
  by_cases hp:p x=true
  .rw[if_pos hp];exact ua (hr x) (by rw[h x mx,hp]) rfl rfl
  .rw[acZ hp];exact zJ (hr x) (by rw[h x mx,ae2.mpr hp]))
 rw[List.map_id'] at this;exact this
theorem Xd(h1:fv ρ=some (.int n,t))(h2:ρ[i]? = some (some (iL ns,.own)))(hm:n∈ns):vI i fv ρ=some (.nx (bB ρ i (iL (ns.erase n)))):=by
 unfold vI;rw[h1,h2];unfold iL;dsimp only;rw[rX];dsimp only;rw[if_pos hm]
noncomputable def kB(k:Int):Key×D:=(Sum.inl k,.bl true)
def dB(ks:List Int):D:=.bG (ks.map kB)
noncomputable def add(ks:List Int)(k:Int):List Int:=if k∈ks then ks else ks++[k]
theorem Zm:x∈add ks k↔x∈ks\/x=k:=by
 unfold add
 by_cases h:k∈ks
 .rw[if_pos h];exact⟨.inl,λe=>e.elim id λe=>by rw[e];exact h⟩
 .rw[acZ h,ada,aaS]
theorem LD{ks:List Int}:((ks.map kB).any λkv=>decide (kv.1=(Sum.inl k:Key)))=decide (k∈ks):=by
 induction ks with
 |nil=>simp
 |cons a r ih=>
  rw[aax,ae4,ih];have:decide ((kB a).1=(Sum.inl k:Key))=decide (a=k):=by
   exact ae8.mpr tP
  rw[this]
  by_cases h:a=k
  .subst h;simp
  .simp[h,aez h]
theorem YN{ks:List Int}:rJ false (.int x) (dB ks)=some (.bl (decide (x∈ks))):=by
 show some (D.bl (if false=true then _ else(aW (ks.map kB) (Sum.inl x:Key)).isSome))=_;rw[acZ abR,<- LD];unfold aW;rw[aeR]
 congr 2
 rw[afy,List.find?_isSome,adS]
theorem Tn{ks:List Int}:putD (ks.map kB) (Sum.inl k:Key) (.bl true)=(add ks k).map kB:=by
 unfold putD add;rw[LD]
 by_cases h:k∈ks
 .rw[if_pos (abL h),if_pos h,adG];refine aeA λa _=>?_
  show(if(Sum.inl a:Key)=Sum.inl k then((Sum.inl a:Key),D.bl true) else kB a)=kB a
  split<;>rfl
 .rw[acZ (by simpa using h),acZ h,adQ];rfl
def adds(m l:List Int):List Int:=l.foldl add m
theorem Ks:∀{l m} {x},x∈adds m l↔x∈m\/x∈l
 |[],m,x=>by simp[adds]
 |a::l,m,x=>by
  have:=Ks (l:=l) (m:=add m a) (x:=x);show x∈adds (add m a) l↔_;rw[this,Zm,abG,or_assoc]
noncomputable def oY(x:Int):D:=.tup [.int x,.bl true]
theorem Iq:∀l:List Int,ja (l.map oY)=some (l.map kB)
 |[]=>rfl
 |p::r=>by
  rw[aax];show(match gR (.int p),ja (r.map oY) with|some k,some ps=>if aA (.bl true)=true then some ((k,D.bl true)::ps) else none|_,_=>none)=_;rw[Iq r];rfl
theorem PD:∀(l m),(l.map kB).foldl (λm p=>putD m p.1 p.2) (m.map kB)=(adds m l).map kB
 |[],_=>rfl
 |p::r,m=>by rw[aax,ad9];show(r.map kB).foldl _ (putD (m.map kB) (Sum.inl p:Key) (.bl true))=_;rw[Tn];exact PD r _
theorem Qw:yF (.lst (l.map oY))=some (dB (adds [] l)):=by
 show(ja (l.map oY)).map _=_;rw[Iq];show some (D.bG ((l.map kB).foldl (λm p=>putD m p.1 p.2) []))=_;rw[show([]:List (Key×D))=([]:List Int).map kB from rfl,PD];rfl
def kO(C:List Ch)(there:List Int)(m:Int):Bool:=(lean (sec C) m).all λx=>decide (x∈there)
theorem tw{g:SF}(ρ':aO)(h:g ρ'=r)(e:ρ=ρ':=by rfl):g ρ=r:=by rw[e,h]
theorem Ob(h:f ρ=some (iL a,t))(h2:g ρ=some (iL b,t2))(hl:a.length+b.length<=1000):e2 fT (e1 tH f) (e1 tH g) ρ=some (iL (a++b),.own):=
 aP (bY h um) (bY h2 um) (uv (by rw[aeJ];lia))
theorem Iu(g:GoodC C){a b wt:List Int}(hl:a.length+b.length<=1000)(hw:Row C wt)(AV:wt.length<=1000):AQ [obj C,iL a,iL b,iL wt]=some (iL (wt.filter (kO C (a++b)))):=by
 refine b8 rfl (jO (bY (t:=.own) ?_ Qw) (tw [some (obj C,.sh []),some (iL a,.sh []),some (iL b,.sh []),some (iL wt,.sh []),some (dB (adds [] (a++b)),.own)] (cO (AR (iF rfl) (by lia) (λx=>rfl) (λx tu=>?_)))))
 .refine(jx (k:=λd=>match d with | .int x=>some (oY x) | _=>none) (iF (Ob rfl rfl hl)) (by rw[List.length_map,ab9];exact size_le (by lia)) (λd m=>by
   obtain⟨x,tu,rfl⟩:=adp.mp m;exact ua rfl rfl rfl rfl)).trans ?_
  rw[aeg,show((a++b).filterMap ((λd=>match d with|D.int x=>some (oY x)|_=>none) ∘ D.int))=(a++b).map oY from l9 oY _]
 .obtain⟨h1,h2⟩:=hw x tu;refine bQ (GB (iF (mD rfl rfl (NZ h1 h2))) (by have:=g.few x;lia) (λy my=>nI rfl rfl (aP rfl rfl ?_)));rw[YN,show decide (y∈adds [] (a++b))=decide (y∈a++b) from ae8.mpr (by rw[Ks];simp)]
theorem Ws(g:GoodC C)(hl:a.length+b.length<=100)(hb:Row C (a++b))(h:eV [] (eW C (a++b))=some v):SA [obj C,iL a,iL b]=some (bU (i8 (nz v))):=
 b8 rfl (cO (bY (c_ (ps:=[(obj C,.sh []),(iL (a++b),.own)]) (by rw[aY,aY];show lH _ (lH (e2 fT _ _ [some (obj C,.sh []),some (iL a,.sh []),some (iL b,.sh [])]) _)=_;rw[Ob rfl rfl (by lia)];rfl) (Gh g hb (by rw[ab9];lia) h).1) Io))
theorem VC(h:∀k,gV u k=gV v k)(E:List Ed):bad u E=bad v E:=by
 unfold bad
 congr 1
 refine List.filter_congr λp _=>?_
 unfold oN;have:=h p.1;unfold gV at this;rw[this]
theorem QU(g:GoodC C)(h1:1<=m)(h2:m<=(C.length:Int)):D4 [obj C,bU v,.int m]=some (.bl (gG C v m)):=
 b8 rfl (cO (aP (c_ (ps:=[(bU v,.sh []),(eL (cG C m),.own)]) (by rw[aY,aY];show lH _ (lH (cE _ _ _ _ _ [some (obj C,.sh []),some (bU v,.sh []),some (.int m,.sh [])]) _)=_;rw[mD rfl rfl (z8 h1 h2)];rfl) (Ct (g.ed m).ed (by lia) D.lst rfl)) rfl Yp))
theorem YM{L:List Ch}{m:Int}(h1:1<=m)(h2:m<=L.length):yo [obj L,.int m]=some (.int (ch L m).1):=
 b8 rfl (cO (aP (mD rfl rfl (Ck h1 h2)) rfl rfl))
abbrev kf:EF:=j_ (au (e1 AZ (cE "Changes" "rank_of" yo (aj 1) (au (aj 0) aH))) (au (aj 0) aH))
abbrev pr(C:List Ch):Int->Int×Int:=sF kf (obj C)
theorem Ew{C:List Ch}{x:Int}(h1:1<=x)(h2:x<=C.length):oK kf (obj C) x=some (-(ch C x).1,x):=by
 unfold oK;have e:e1 AZ (cE "Changes" "rank_of" yo (aj 1) (au (aj 0) aH)) [some (.int x,.own),some (obj C,.sh [])]=some (.int (-(ch C x).1),.own):=bY (mD rfl rfl (YM h1 h2)) rfl;show(match j_ _ _ with|some (.tup [.int a,.int b],_)=>some (a,b)|_=>none)=_;rw[qo,aY,e];rfl
theorem OP(h:Row C ns)(hn:ns.Nodup):(ns.map (pr C)).Nodup:=by
 have IM:∀x∈ns,pr C x=(-(ch C x).1,x):=λx m=>by
  show(oK kf (obj C) x).getD _=_;rw[Ew (h x m).1 (h x m).2];rfl
 unfold List.Nodup;rw[aeB];refine hn.imp_of_mem λ{a b} ma mb ne e=>ne ?_
 rw[IM a ma,IM b mb] at e;exact(Prod.mk.injEq .. ▸ e).2
theorem abH(h:Row C ns)(hn:ns.Nodup)(hl:ns.length<64):M8 [obj C,iL ns]=some (iL (iB (pr C) ns)):=by
 refine b8 rfl (cO ?_);show(match cU (ns.map D.int) with|some ns=>if ns.length<64/\(ns.map (pr C)).Nodup/\∀n∈ns,(oK kf (obj C) n).isSome=true then some (D.lst ((iB (pr C) ns).map D.int),Tag.own) else none|none=>none)=_;rw[rX];dsimp only;rw[if_pos ⟨hl,OP h hn,λx m=>by rw[Ew (h x m).1 (h x m).2];rfl⟩];rfl
def Pl(C:List Ch):Prop:=∀c∈C,c=(4,[],[])
theorem Pl.at{C:List Ch}{x:Int}(p:Pl C)(h:1<=x/\x<=(C.length:Int)):ch C x=(4,[],[]):=by
 unfold ch;have hl:(x-1).toNat<C.length:=by lia
 rw[acr hl,aeV];exact p _ (List.getElem_mem hl)
theorem Pl.turn{C:List Ch}{l:List Int}(p:Pl C)(hr:Row C l)(s:l.Pairwise (· < ·)):iB (pr C) l=l:=by
 refine(JB (.refl _) (OP hr (s.imp λh=>by lia)) ?_).symm;refine s.imp_of_mem λ{a b} ma mb h=>?_
 have e:∀x∈l,pr C x=(-4,x):=λx m=>by
  show(oK kf (obj C) x).getD _=_;rw[Ew (hr x m).1 (hr x m).2,p.at (hr x m)];rfl
 rw[e a ma,e b mb];unfold lex;simp[h]
noncomputable def JJ:Option Int->D
 |none=>.aB
 |some x=>.int x
def wL:SF:=c9 (tV (cC D4 (au (aj 0) (au (aj 1) (au (aj 3) aH))))) (rG 3) d7
theorem KQ(g:GoodC C):∀{l} {s3},Row C l->match l.find? (gG C v) with
  |some x=>b_ (gN 3) (.sh []) wL (l.map D.int) [some (obj C,.sh []),some (bU v,.sh []),some (N,.sh []),s3]=some (.rt (.int x))
  |none=>∃t3,b_ (gN 3) (.sh []) wL (l.map D.int) [some (obj C,.sh []),some (bU v,.sh []),some (N,.sh []),s3]=some (.nx [some (obj C,.sh []),some (bU v,.sh []),some (N,.sh []),t3])
 |[],s3,_=>⟨s3,rfl⟩
 |x::l,s3,h=>by
  obtain⟨h1,h2⟩:=h x aat;have q:tV (cC D4 (au (aj 0) (au (aj 1) (au (aj 3) aH)))) [some (obj C,.sh []),some (bU v,.sh []),some (N,.sh []),some (.int x,.sh [])]=some (gG C v x):=bQ (c_ rfl (QU g h1 h2));have ih:=KQ g (v:=v) (N:=N) (s3:=some (.int x,.sh [])) λy m=>h y (aad _ m)
  rw[adN];cases hf:gG C v x with
  |true=>
   rw[hf] at q;exact O_ (aF:=[some (obj C,.sh []),some (bU v,.sh []),some (N,.sh []),some (.int x,.sh [])]) rfl (by unfold wL;rw[iC,q];rfl)
  |false=>
   rw[hf] at q;have e:=mW (g:=gN 3) (t:=.sh []) (f:=wL) (ds:=l.map D.int) (ρ:=[some (obj C,.sh []),some (bU v,.sh []),some (N,.sh []),s3]) (aF:=[some (obj C,.sh []),some (bU v,.sh []),some (N,.sh []),some (.int x,.sh [])]) rfl (by unfold wL;rw[iC,q];rfl);dsimp only;rw[aax,e];exact ih
theorem P8(g:GoodC C)(h:Row C ns)(hn:ns.Nodup)(hl:ns.length<64):Ab [obj C,bU v,iL ns]=some (JJ ((iB (pr C) ns).find? (gG C v))):=by
 have hi:gA (cC M8 (au (aj 0) (au (aj 2) aH))) [some (obj C,.sh []),some (bU v,.sh []),some (iL ns,.sh []),none]=some ((iB (pr C) ns).map D.int,.own):=iF (c_ rfl (abH h hn hl));have lp:=KQ g (v:=v) (N:=iL ns) (l:=iB (pr C) ns) (s3:=none) λx m=>h x ((uY ns).mem_iff.mp m)
 refine b8 rfl ?_;cases e:(iB (pr C) ns).find? (gG C v) with
 |none=>
  rw[e] at lp;obtain⟨t3,lp⟩:=lp;exact sq (wZ hi lp) rfl
 |some x=>
  rw[e] at lp;exact ia (O3 hi lp)
theorem Nd:∀{row} {v v'} {m},eV v (eW C row)=some v'->bad v' (cG C m)=[]->eV v (eW C (row++[m]))=some (fW v' (cG C m))
 |[],v,v',m,h,hb=>by
  cases h;show(if bad v (cG C m)=[] then eV (fW v (cG C m)) [] else none)=_;rw[if_pos hb];rfl
 |x::r,v,v',m,h,hb=>by
  have h:(if bad v (cG C x)=[] then eV (fW v (cG C x)) (eW C r) else none)=some v':=h;show(if bad v (cG C x)=[] then eV (fW v (cG C x)) (eW C (r++[m])) else none)=_
  by_cases NP:bad v (cG C x)=[]
  .rw[if_pos NP] at h ⊢;exact Nd h hb
  .rw[acZ NP] at h;cases h
theorem PZ(h1:c ρ=some true)(h2:b ρ=some (.nx ρ')):gU c b (n+1) ρ=gU c b n ρ':=by rw[gU,h1];dsimp only;rw[h2]
theorem aaj(h1:c ρ=some false):gU c b (n+1) ρ=some (.nx ρ):=by rw[gU,h1]
theorem VI(h1:c ρ=some true)(h2:b ρ=some (.rt d)):gU c b (n+1) ρ=some (.rt d):=by rw[gU,h1];dsimp only;rw[h2]
abbrev cF:TF:=tV (e2 oLt (e1 dR (aj 5)) (aj 4))
abbrev bF:SF:=(bH (dO 8 (cC Ab (au (aj 0) (au (aj 7) (au (cC AQ (au (aj 0) (au (aj 1) (au (aj 5) (au (aj 6) aH))))) aH))))) (bH (c9 (tV (e2 gI (aj 8) (eC .aB))) (rG 5) d7) (bH (kT 5 (aj 8)) (bH (vI 6 (aj 8)) (iD (gA (cE "Changes" "edits_of" yf (aj 0) (au (aj 8) aH))) (gT (eK (gN 9) (eK (gN 10) (eK (gN 11) m9)))) (qT 7 (aj 9) (aj 11)))))))
def rF(C:List Ch)(ln ld wt:List Int)(w:Int)(told left:List Int)(u:kY)(s8 s9 eF dX:Slot):aO:=[some (obj C,.sh []),some (iL ln,.sh []),some (iL ld,.sh []),some (iL wt,.sh []),some (.int w,.sh []),some (iL told,.own),some (iL left,.own),some (bU u,.own),s8,s9,eF,dX]
structure Fl(C:List Ch)(ln told left:List Int)(w:Int)(ex:List Int):Prop where
 nd:ex.Nodup
 sub:∀x∈ex,x∈left
 le:((told++ex).length:Int)<=w\/ex=[]
 fst:∀x r,ex=x::r->∃v,eV [] (eW C (ln++told))=some v/\kO C (ln++told) x=true/\gG C v x=true
 pre:Pl C->left.Pairwise (· < ·)->ex <+: left
 run:∃v,eV [] (eW C (ln++(told++ex)))=some v/\(w<=((told++ex).length:Int)\/∀x∈left,x∉ex->kO C (ln++(told++ex)) x=true->gG C v x=false)
theorem abF(g:GoodC C):∀{n} {told left} {u v} {s8 s9 eF dX},Row C left->left.Nodup->left.length<64->ln.length+told.length+left.length<=1000->eV [] (eW C (ln++told))=some v->(∀k,gV u k=gV v k)->Kb u->left.length<n->
  ∃ex,bH (gU cF bF n) (rG 5) (rF C ln ld wt w told left u s8 s9 eF dX)=some (.rt (iL (told++ex)))/\Fl C ln told left w ex:=by
 intro n
 induction n with
 |zero=>intros;omega
 |succ n ih=>
  intro told left u v s8 s9 eF dX hr nd hl hs hv hu ku hn;have c1:cF (rF C ln ld wt w told left u s8 s9 eF dX)=some (decide ((told.length:Int)<w)):=bQ (aP (bY rfl (by show some (D.int (told.map D.int).length)=_;rw[List.length_map])) rfl rfl)
  by_cases hw:(told.length:Int)<w
  .rw[abL hw] at c1;have ef:gG C u=gG C v:=funext λx=>by unfold gG;rw[VC hu]
   have q1:cC Ab (au (aj 0) (au (aj 7) (au (cC AQ (au (aj 0) (au (aj 1) (au (aj 5) (au (aj 6) aH))))) aH))) (rF C ln ld wt w told left u s8 s9 eF dX)=some (JJ ((iB (pr C) (left.filter (kO C (ln++told)))).find? (gG C v)),.own):=by
    refine c_ (ps:=[(obj C,.sh []),(bU u,.sh [7]),(iL (left.filter (kO C (ln++told))),.own)]) ?_ ?_
    .rw[aY,aY,aY,c_ rfl (Iu g (by lia) hr (by lia))];rfl
    .show Ab [obj C,bU u,_]=_;rw[P8 g (λx m=>hr x (adz.mp m).1) (nd.sublist ael) (aeH (aep _ _) hl),ef]
   have pm:=λx=>(uY (pr:=pr C) (left.filter (kO C (ln++told)))).mem_iff (a:=x)
   cases hb:(iB (pr C) (left.filter (kO C (ln++told)))).find? (gG C v) with
   |none=>
    rw[hb] at q1;refine⟨[],ia ((VI c1 (jO q1 (ia rfl))).trans (by rw[adD])),.nil,(λx m=>nomatch m),.inr rfl,(λx r e=>nomatch e),(λ_ _=>List.nil_prefix),v,by rw[adD];exact hv,.inr λx m _ hf=>?_⟩;rw[adD] at hf;have:=aet.mp hb x ((pm x).mpr (adz.mpr ⟨m,hf⟩));simpa using this
   |some x=>
    rw[hb] at q1;have mf:=(pm x).mp (ad4 hb);have m:=(adz.mp mf).1;have f:=UX.mp (afC hb);obtain⟨h1,h2⟩:=hr x m;have hE:=(g.ed x).ed.ln;have hel:=List.length_erase_of_mem m;have hp:=List.length_pos_of_mem m;obtain⟨t9,R7,Zq,lp⟩:=Ex (g:=gT (eK (gN 9) (eK (gN 10) (eK (gN 11) m9)))) (f:=qT 7 (aj 9) (aj 11)) (λv x' y z=>rF C ln ld wt w (told++[x]) (left.erase x) v (some (.int x,.own)) x' y z) (λ_ _ _ _ _=>rfl) (λv p h=>Lc rfl rfl rfl h) (E:=cG C x) (v:=u) (by have:=ku.len;lia);have st:bF (rF C ln ld wt w told left u s8 s9 eF dX)=some (.nx (rF C ln ld wt w (told++[x]) (left.erase x) (fW u (cG C x)) (some (.int x,.own)) t9 R7 Zq)):=by
     refine jO q1 (fH rfl ?_);refine sq ((C8 rfl rfl (size_le (by lia))).trans rfl) ?_;refine sq ((Xd rfl rfl m).trans rfl) ?_;exact wZ (iF (mD rfl rfl (z8 h1 h2))) lp
    obtain⟨ex,e,F⟩:=ih (told:=told++[x]) (λy my=>hr y (List.mem_of_mem_erase my)) (nd.erase x) (by lia) (by rw[ab9,adY];lia) (by rw[<- adT];exact Nd hv f) (λk=>by
     obtain⟨a1,a2⟩:=Bw (cG C x) u k (g.ed x).nd;obtain⟨b1,b2⟩:=Bw (cG C x) v k (g.ed x).nd;unfold gV
     by_cases mk:k∈(cG C x).map (·.1)
     .obtain⟨p,mp,rfl⟩:=adp.mp mk;rw[a1 p mp rfl,b1 p mp rfl]
     .rw[a2 mk,b2 mk];exact hu k) (ku.fW (g.ed x)) (by lia)
    have ea:told++x::ex=told++[x]++ex:=by rw[adT];rfl
    refine⟨x::ex,?_,ado.mpr ⟨λmx=>(nd.mem_erase_iff.mp (F.sub x mx)).1 rfl,F.nd⟩,λy my=>(abG.mp my).elim (λe=>e ▸ m) λmy=>List.mem_of_mem_erase (F.sub y my),.inl ?_,(λy r e=>by cases e;exact⟨v,hv,(adz.mp mf).2,afC hb⟩),(λp s=>?_),?_⟩
    .rw[iZ,PZ c1 st,<- iZ,ea];exact e
    .rw[ea];rcases F.le with h|h
     .exact h
     .rw[h,adD,ab9,adY];lia
    .have AO:∀y∈left,kO C (ln++told) y=true:=λy my=>by
      unfold kO;rw[<- pJ (hr y my).1 (hr y my).2,p.at (hr y my)];rfl
     have Rc:∀y∈left,gG C v y=true:=λy my=>by
      unfold gG cG;rw[p.at (hr y my)];rfl
     rw[List.filter_eq_self.mpr AO,p.turn hr s] at hb;cases left with
     |nil=>cases m
     |cons z r=>
      rw[aeT (Rc z aat)] at hb;cases hb;have:=F.pre p (by rw[List.erase_cons_head];exact(adU.mp s).2);rw[List.erase_cons_head] at this;exact List.cons_prefix_cons.mpr ⟨rfl,this⟩
    .rw[ea];obtain⟨v',r1,r2⟩:=F.run;refine⟨v',r1,r2.imp id λr y my ny=>?_⟩;exact r y (nd.mem_erase_iff.mpr ⟨λe=>ny (e ▸ aat),my⟩) λq=>ny (aad _ q)
  .rw[adt hw] at c1;exact⟨[],(sq (aaj c1) rfl).trans (by rw[adD];rfl),.nil,(λx m=>nomatch m),.inr rfl,(λx r e=>nomatch e),(λ_ _=>List.nil_prefix),v,by rw[adD];exact hv,.inl (by rw[adD];lia)⟩
theorem XY(g:GoodC C)(hb:Row C (ln++ld))(hr:Row C wt)(nd:wt.Nodup)(hw:wt.length<64)(hl:ln.length+ld.length<=100)(hv:eV [] (eW C (ln++ld))=some v):∃ex,D8 [obj C,iL ln,iL ld,iL wt,.int w]=some (iL (ld++ex))/\Fl C ln ld wt w ex:=by
 have kv:=(Gh g hb (by rw[ab9];lia) hv).2;have kd:Kb (i8 (nz v)):=⟨ac1 _,λk m=>kv.ks k (pW.mp (by
  obtain⟨w,e⟩:=pW.mpr m;rw[Ml (by rw[HV];exact Ig kv.nd)] at e;unfold nz at e;rw[CW] at e
  split at e
  .rename_i mk;have:=Jz.mp mk;cases h:bA v k with
   |none=>rw[h] at this;exact absurd rfl this
   |some y=>exact⟨y,rfl⟩
  .cases e))⟩
 obtain⟨ex,e,F⟩:=abF g (n:=4000) hr nd hw (by lia) hv (Rt kv.nd) kd (by lia);exact⟨ex,b8 rfl (jO (bY rfl um) (jO (bY rfl um) (jO (c_ rfl (Ws g hl hb hv)) e))),F⟩
noncomputable def best:Int×Int->List (Int×Int)->Int×Int
 |p,[]=>p
 |p,q::r=>best (if p.2-p.1<q.2-q.1 then q else p) r
noncomputable def pairs(f:List Int):List (Int×Int):=f.zip f.tail
def mid(f:List Int):Int:=let p:=best (f.headD 0,f.headD 0) (pairs f);(p.1+p.2) / 2
theorem yi:∀(l:List (Int×Int)) (p:Int×Int),best p l=p\/best p l∈l
 |[],p=>.inl rfl
 |q::r,p=>by
  unfold best
  by_cases h:p.2-p.1<q.2-q.1
  .rw[if_pos h];rcases yi r q with e|e
   .rw[e];exact .inr aat
   .exact .inr (aad _ e)
  .rw[acZ h];rcases yi r p with e|e
   .exact .inl e
   .exact .inr (aad _ e)
theorem z9:∀(l:List (Int×Int)) (p:Int×Int),p.2-p.1<=(best p l).2-(best p l).1/\∀q∈l,q.2-q.1<=(best p l).2-(best p l).1
 |[],p=>⟨Int.le_refl _,λq m=>nomatch m⟩
 |x::r,p=>by
  unfold best
  by_cases h:p.2-p.1<x.2-x.1
  .rw[if_pos h];obtain⟨h1,h2⟩:=z9 r x;refine⟨by lia,λq m=>?_⟩;rcases abG.mp m with rfl|m
   .exact h1
   .exact h2 q m
  .rw[acZ h];obtain⟨h1,h2⟩:=z9 r p;refine⟨h1,λq m=>?_⟩;rcases abG.mp m with rfl|m
   .lia
   .exact h2 q m
theorem Fy:∀(r:List Int) (a:Int),(∀q∈pairs (a::r),q.2-q.1<=1)->(a::r).getLastD 0<=a+r.length
 |[],a,_=>by simp
 |b::r,a,h=>by
  have h1:b-a<=1:=h (a,b) (by unfold pairs;exact aat);have h2:=Fy r b λq m=>h q (by unfold pairs at m ⊢;exact aad _ m)
  have e:(a::b::r).getLastD 0=(b::r).getLastD 0:=by simp[List.getLastD]
  rw[e,adu]
  lia
noncomputable abbrev fence(ws:List Int)(e:Int):List Int:=0::(ws++[e])
theorem GX(m:q∈pairs f):q.1∈f/\q.2∈f:=by
 unfold pairs at m;obtain⟨h1,h2⟩:=List.of_mem_zip m;exact⟨h1,List.mem_of_mem_tail h2⟩
theorem abk(hw:∀x∈ws,1<=x)(hl:(ws.length:Int)<e-1):1<=mid (fence ws e):=by
 have hf:∀x∈fence ws e,0<=x:=λx m=>by
  rcases abG.mp m with rfl|m
  .exact Int.le_refl _
  .rcases ada.mp m with m|m
   .have:=hw x m;lia
   .cases aaS.mp m;lia
 obtain⟨q,m,hq⟩:∃q∈pairs (fence ws e),2<=q.2-q.1:=by
  refine aek λhn=>?_
  have:=Fy (ws++[e]) 0 λq m=>by
   refine aek λh=>hn ⟨q,m,by lia⟩
  have q1:(0::(ws++[e])).getLastD 0=e:=by rw[show(0::(ws++[e]))=(0::ws)++[e] from rfl,List.getLastD_concat]
  rw[q1,ab9,adY] at this
  lia
 have hb:=(z9 (pairs (fence ws e)) ((fence ws e).headD 0,(fence ws e).headD 0)).2 q m;unfold mid;dsimp only;rcases yi (pairs (fence ws e)) ((fence ws e).headD 0,(fence ws e).headD 0) with h|h
 .rw[h] at hb;dsimp only at hb
  lia
 .obtain⟨h1,h2⟩:=GX h;have:=hf _ h1
  lia
noncomputable def KE(p:Int×Int):D:=.tup [.int p.1,.int p.2]
noncomputable def rM(f:List Int)(l h:Int)(t1 t2:Tag)(s3 s4:Slot):aO:=[some (.lst (f.map D.int),.sh []),some (.int l,t1),some (.int h,t2),s3,s4]
abbrev bM:SF:=c9 (tV (e2 u9 (e2 kq (aj 4) (aj 3)) (e2 kq (aj 2) (aj 1)))) (bH (dO 1 (aj 3)) (dO 2 (aj 4))) d7
abbrev gM:GF:=gT (eK (gN 3) (eK (gN 4) m9))
theorem C6:∀(ps:List (Int×Int)) (p:Int×Int) (t1 t2:Tag) (s3 s4:Slot),∃ZE Sx xm s4',b_ gM (.sh []) bM (ps.map KE) (rM f p.1 p.2 t1 t2 s3 s4)=some (.nx (rM f (best p ps).1 (best p ps).2 ZE Sx xm s4'))
 |[],p,t1,t2,s3,s4=>⟨t1,t2,s3,s4,rfl⟩
 |q::r,p,t1,t2,s3,s4=>by
  have hc:tV (e2 u9 (e2 kq (aj 4) (aj 3)) (e2 kq (aj 2) (aj 1))) (rM f p.1 p.2 t1 t2 (some (.int q.1,.own)) (some (.int q.2,.own)))=some (decide (p.2-p.1<q.2-q.1)):=rfl
  by_cases h:p.2-p.1<q.2-q.1
  .have hb:bM (rM f p.1 p.2 t1 t2 (some (.int q.1,.own)) (some (.int q.2,.own)))=some (.nx (rM f q.1 q.2 (.sh [3]) (.sh [4]) (some (.int q.1,.own)) (some (.int q.2,.own)))):=by
    unfold bM;rw[iC,hc,abL h,JN];rfl
   obtain⟨a,b,c,d,hh⟩:=C6 r q (.sh [3]) (.sh [4]) (some (.int q.1,.own)) (some (.int q.2,.own));refine⟨a,b,c,d,(mW rfl hb).trans ?_⟩;unfold best;rw[if_pos h];exact hh
  .have hb:bM (rM f p.1 p.2 t1 t2 (some (.int q.1,.own)) (some (.int q.2,.own)))=some (.nx (rM f p.1 p.2 t1 t2 (some (.int q.1,.own)) (some (.int q.2,.own)))):=by
    unfold bM;rw[iC,hc,adt h,HE];rfl
   obtain⟨a,b,c,d,hh⟩:=C6 r p t1 t2 (some (.int q.1,.own)) (some (.int q.2,.own));refine⟨a,b,c,d,(mW rfl hb).trans ?_⟩;unfold best;rw[acZ h];exact hh
theorem aa7(a:Int)(r:List Int):kh (some 1) none (.lst ((a::r).map D.int))=some (.lst (r.map D.int)):=by
 show(if aI ((a::r).map D.int)=true then some (D.lst (cutD ((a::r).map D.int) (some 1) none)) else none)=_;rw[if_pos (dY _)];have:cutD ((a::r).map D.int) (some 1) none=r.map D.int:=by
  unfold cutD;have e:HT.fB ((a::r).map D.int).length 0 (some 1)=1:=by
   have q:=HT.Aq ((a::r).map D.int).length 0 1;rw[show((1:Nat):Int)=1 from rfl] at q;rw[q,List.length_map,adu];lia
  rw[HT.xJ,e,aax,List.drop_succ_cons,List.drop_zero,adu,Nat.add_sub_cancel,List.take_length]
 rw[this]
theorem SY(a:Int)(r:List Int):u0 [.lst ((a::r).map D.int)]=some (.int (mid (a::r))):=by
 refine b8 rfl ?_;show Cd [some (.lst ((a::r).map D.int),.sh []),none,none,none,none]=_;unfold Cd;have q1:dO 1 (e2 cL (aj 0) (eC (.int 0))) [some (.lst ((a::r).map D.int),.sh []),none,none,none,none]=some (.nx [some (.lst ((a::r).map D.int),.sh []),some (.int a,.own),none,none,none]):=by
  have hx:cL (.lst ((a::r).map D.int)) (.int 0)=some (.int a):=vL (by rw[XC (by lia) (by rw[adu];lia)];rfl) rfl;rw[r6,jH];show AH 1 _ ((cL (.lst ((a::r).map D.int)) (.int 0)).map _)=_;rw[hx];rfl
 have q2:dO 2 (aj 1) [some (.lst ((a::r).map D.int),.sh []),some (.int a,.own),none,none,none]=some (.nx (rM (a::r) a a .own (.sh [1]) none none)):=rfl;have hz:o8 (aj 0) (e1 (kh (some 1) none) (aj 0)) (rM (a::r) a a .own (.sh [1]) none none)=some ((pairs (a::r)).map KE,.sh []):=by
  unfold o8;have v0:aj 0 (rM (a::r) a a .own (.sh [1]) none none)=some (.lst ((a::r).map D.int),.sh []):=rfl;have v1:e1 (kh (some 1) none) (aj 0) (rM (a::r) a a .own (.sh [1]) none none)=some (.lst (r.map D.int),.own):=by
   rw[xy,v0];show(kh (some 1) none (.lst ((a::r).map D.int))).map _=_;rw[aa7];rfl
  rw[v0,v1];dsimp only;rw[if_pos (by rw[dY,dY];rfl)];refine congrArg some (Prod.ext ?_ rfl);rw[List.zip_map,adG];rfl
 obtain⟨t1,t2,s3,s4,hl⟩:=C6 (pairs (a::r)) (a,a) .own (.sh [1]) none none;have hf:iD (o8 (aj 0) (e1 (kh (some 1) none) (aj 0))) gM bM (rM (a::r) a a .own (.sh [1]) none none)=some (.nx (rM (a::r) (best (a,a) (pairs (a::r))).1 (best (a,a) (pairs (a::r))).2 t1 t2 s3 s4)):=se hz hl;rw[iZ,q1,nY,iZ,q2,nY,iZ];rw[hf,nY];unfold mid;rw[show((a::r).headD 0,(a::r).headD 0)=(a,a) from rfl];generalize best (a,a) (pairs (a::r))=p;have v1:aj 1 (rM (a::r) p.1 p.2 t1 t2 s3 s4)=some (.int p.1,CH 1 t1):=rfl;have v2:aj 2 (rM (a::r) p.1 p.2 t1 t2 s3 s4)=some (.int p.2,CH 2 t2):=rfl;rw[JI,jH,jH,v1,v2,xE,j9,JP,GA,xE,YR (by lia) (by lia)];rfl
noncomputable def je:Option Int->D
 |none=>.aB
 |some b=>.int b
noncomputable def endOf(size:Int):Option Int->Int
 |none=>size+1
 |some b=>b
def pick(size:Int)(bad:Option Int)(e:Int)(ws:List Int):Int:=if(bad.isNone&&!(ws.any (· == size)))=true then size else mid (fence ws e)
def jB(size:Int)(bad:Option Int)(e:Int)(ws:List Int):List Int:=cB (ws++[pick size bad e ws])
noncomputable def lim(e aR:Int):Int:=if e-1<aR then e-1 else aR
def gO(size:Int)(bad:Option Int)(e aR:Int):Nat->List Int->List Int
 |0,ws=>ws
 |n+1,ws=>if(ws.length:Int)<lim e aR then gO size bad e aR n (jB size bad e ws) else ws
theorem Au{bad:Option Int}:(jB size bad e ws).length=ws.length+1:=by unfold jB;rw[yZ,ab9];rfl
theorem L4(b:Option Int):nv (je b)=b.isNone:=by cases b<;>rfl
abbrev cW:TF:=tV (e2 oLt (e1 dR (aj 5)) (e2 zZ (aj 3) (e2 kq (aj 4) (eC (.int 1)))))
abbrev bW:SF:=bH (c9 (jy (tV (e2 gI (aj 1) (eC .aB))) (tV (e2 (jW true) (aj 0) (aj 5)))) (kT 5 (aj 0)) (kT 5 (cC u0 (au (e2 fT (e2 fT (iN (au (eC (.int 0)) aH)) (aj 5)) (iN (au (aj 4) aH))) aH)))) (dO 5 (e1 lA (aj 5)))
def zE(t:Tag):Prop:=t=.own\/t=.sh []
def rW(size:Int)(bad:Option Int)(kd:D)(aR e:Int)(t4:Tag)(ws:List Int):aO:=[some (.int size,.sh []),some (je bad,.sh []),some (kd,.sh []),some (.int aR,.sh []),some (.int e,t4),some (.lst (ws.map D.int),.own)]
section
variable{size aR e:Int}{bad:Option Int}
theorem J6:cW (rW size bad kd aR e t4 ws)=some (decide ((ws.length:Int)<lim e aR)):=by
 show some (decide (((ws.map D.int).length:Int)<(if e-1<aR then e-1 else aR)))=_;rw[List.length_map];rfl
theorem Us:(tV (e2 (jW true) (aj 0) (aj 5))) (rW size bad kd aR e t4 ws)=some (!(ws.any (· == size))):=by
 rw[v8,jH];show Ev.kV ((jW true (.int size) (.lst (ws.map D.int))).map _)=_;rw[Dk];rfl
theorem VJ:(jy (tV (e2 gI (aj 1) (eC .aB))) (tV (e2 (jW true) (aj 0) (aj 5)))) (rW size bad kd aR e t4 ws)=some (bad.isNone&&!(ws.any (· == size))):=by
 refine Hl ?_ Us;show some (nv (je bad))=_;rw[L4]
theorem Pc(h:zE t4)(x:Int):bB (rW size bad kd aR e t4 ws) 5 (.lst ((ws++[x]).map D.int))=rW size bad kd aR e t4 (ws++[x]):=by
 rcases h with rfl|rfl<;>rfl
theorem Vm(hl:ws.length<63):(e2 fT (e2 fT (iN (au (eC (.int 0)) aH)) (aj 5)) (iN (au (aj 4) aH))) (rW size bad kd aR e t4 ws)=some (.lst ((fence ws e).map D.int),.own):=by
 have h1:fT (.lst (([0]:List Int).map D.int)) (.lst (ws.map D.int))=some (.lst (([0]++ws).map D.int)):=uv (by unfold PySem.sizeLine;show 1+ws.length<=_;lia);have h2:fT (.lst (([0]++ws).map D.int)) (.lst (([e]:List Int).map D.int))=some (.lst (([0]++ws++[e]).map D.int)):=uv (by unfold PySem.sizeLine;rw[ab9];show 1+ws.length+1<=_;lia);rw[jH,jH];show k2 fT ((fT (.lst (([0]:List Int).map D.int)) (.lst (ws.map D.int))).map _) _=_;rw[h1,JP];show(fT (.lst (([0]++ws).map D.int)) (.lst (([e]:List Int).map D.int))).map _=_;rw[h2];rfl
theorem X7(ht:zE t4)(hl:ws.length<63):bW (rW size bad kd aR e t4 ws)=some (.nx (rW size bad kd aR e t4 (jB size bad e ws))):=by
 have hz:ws.length<PySem.sizeLine:=by unfold PySem.sizeLine;lia
 have h1:c9 (jy (tV (e2 gI (aj 1) (eC .aB))) (tV (e2 (jW true) (aj 0) (aj 5)))) (kT 5 (aj 0)) (kT 5 (cC u0 (au (e2 fT (e2 fT (iN (au (eC (.int 0)) aH)) (aj 5)) (iN (au (aj 4) aH))) aH))) (rW size bad kd aR e t4 ws)=some (.nx (rW size bad kd aR e t4 (ws++[pick size bad e ws]))):=by
  rw[iC,VJ];unfold pick
  by_cases hb:(bad.isNone&&!(ws.any (· == size)))=true
  .rw[hb,JN,if_pos rfl,C8 rfl rfl hz,Pc ht]
  .have xD:(bad.isNone&&!(ws.any (· == size)))=false:=by simpa using hb
   have hm:cC u0 (au (e2 fT (e2 fT (iN (au (eC (.int 0)) aH)) (aj 5)) (iN (au (aj 4) aH))) aH) (rW size bad kd aR e t4 ws)=some (.int (mid (fence ws e)),.own):=by
    rw[s_call,aY,Vm hl,vq,yO,K9];simp only[aax,afK];have:=SY 0 (ws++[e]);rw[aax] at this;rw[this];rfl
   rw[xD,HE,acZ abR,C8 hm rfl hz,Pc ht]
 unfold bW;rw[iZ,h1,nY,r6,xy];show AH 5 _ ((lA (.lst ((ws++[pick size bad e ws]).map D.int))).map _)=_;rw[Eb (by rw[ab9];show ws.length+1<64;lia)];rfl
theorem KW(ht:zE t4)(hh:aR<=60):∀(n:Nat) (ws:List Int) (m:Nat),aR-ws.length<=n->n<m->gU cW bW m (rW size bad kd aR e t4 ws)=some (.nx (rW size bad kd aR e t4 (gO size bad e aR n ws)))
 |_,_,0,_,h=>absurd h (Nat.not_lt_zero _)
 |0,ws,m+1,h,_=>by
  have:¬((ws.length:Int)<lim e aR):=by unfold lim;split<;>lia
  rw[gU,J6,adt this];rfl
 |n+1,ws,m+1,h,hm=>by
  rw[gU,J6];unfold gO
  by_cases hc:(ws.length:Int)<lim e aR
  .have h1:(ws.length:Int)<aR:=by unfold lim at hc;split at hc<;>lia
   rw[abL hc,if_pos hc];dsimp only;rw[X7 ht (by lia)];exact KW ht hh n (jB size bad e ws) m (by rw[Au];lia) (by lia)
  .rw[adt hc,acZ hc]
end
noncomputable def i7(e:Int)(ks:List Int):List Int:=ks.filter λk=>decide (k<e)
noncomputable def kI(e:Int):D->Option D
 |.int i=>if decide (i<e)=true then some (.int i) else none
 |_=>none
theorem Bg(e:Int):∀ks:List Int,(ks.map D.int).filterMap (kI e)=(i7 e ks).map D.int
 |[]=>rfl
 |k::r=>by
  unfold i7;rw[aax,aeb,afv];have hk:kI e (D.int k)=if decide (k<e)=true then some (D.int k) else none:=rfl
  by_cases h:decide (k<e)=true
  .rw[hk,if_pos h,if_pos h,aax];dsimp only;rw[Bg e r];rfl
  .rw[hk,acZ h,acZ h];exact Bg e r
theorem Zl{js:List (Option Nat)}(hi:it ρ=some (ks.map D.int,t))(hj:iM js ρ=[none,some (.int e,.sh [])])(hl:ks.length<64):
  fV js it (gN 0) (tV (e2 oLt (aj 0) (aj 1))) (aj 0) ρ=some (.lst ((i7 e ks).map D.int),.own):=by
 have hc:=jx (g:=gN 0) (tt:=tV (e2 oLt (aj 0) (aj 1))) (te:=aj 0) (k:=kI e) hi (by rw[List.length_map];unfold PySem.sizeLine;lia) (λd m=>by
  obtain⟨i,mi,rfl⟩:=adp.mp m;rw[hj];show _=some (if decide (i<e)=true then some (D.int i) else none)
  by_cases h:decide (i<e)=true
  .rw[if_pos h];refine ua rfl ?_ rfl rfl;show some (decide (i<e))=_;rw[h]
  .rw[acZ h];refine zJ rfl ?_;show some (decide (i<e))=_;rw[ae2.mpr h])
 rw[hc,Bg]
theorem abq{bad:Option Int}(h0:aj 0 ρ=some (.int size,.sh []))(h1:aj 1 ρ=some (je bad,.sh [])):∃t,zE t/\nA (tV (e2 gI (aj 1) (eC .aB))) (e2 lG (aj 0) (eC (.int 1))) (aj 1) ρ=some (.int (endOf size bad),t):=by
 have hc:tV (e2 gI (aj 1) (eC .aB)) ρ=some bad.isNone:=by
  rw[v8,jH,h1,GA,xE,aas,L4];rfl
 cases bad with
 |none=>exact⟨.own,.inl rfl,by rw[Jf (by rw[hc];rfl),jH,h0,GA,xE,j9];rfl⟩
 |some b=>exact⟨.sh [],.inr rfl,by rw[LO (by rw[hc];rfl),h1];rfl⟩
def W(size:Int)(bad:Option Int)(ks:List Int)(aR:Int):List Int:=gO size bad (endOf size bad) aR 100 (i7 (endOf size bad) ks)
theorem abS{bad:Option Int}(hh:aR<=60)(hl:ks.length<64)(kd:D)(hk:gA (aj 2) [some (.int size,.sh []),some (je bad,.sh []),some (kd,.sh []),some (.int aR,.sh []),none,none]=some (ks.map D.int,.sh []))
  (hk2:∀t,gA (aj 2) [some (.int size,.sh []),some (je bad,.sh []),some (kd,.sh []),some (.int aR,.sh []),some (.int (endOf size bad),t),none]=some (ks.map D.int,.sh [])) :
  Ek [.int size,je bad,kd,.int aR]=some (.lst ((W size bad ks aR).map D.int)):=by
 refine b8 rfl ?_;show Fv [some (.int size,.sh []),some (je bad,.sh []),some (kd,.sh []),some (.int aR,.sh []),none,none]=_;unfold Fv;obtain⟨t4,ht,h1⟩:=abq (ρ:=[some (.int size,.sh []),some (je bad,.sh []),some (kd,.sh []),some (.int aR,.sh []),none,none]) rfl rfl;have q1:dO 4 (nA (tV (e2 gI (aj 1) (eC .aB))) (e2 lG (aj 0) (eC (.int 1))) (aj 1)) [some (.int size,.sh []),some (je bad,.sh []),some (kd,.sh []),some (.int aR,.sh []),none,none]=some (.nx [some (.int size,.sh []),some (je bad,.sh []),some (kd,.sh []),some (.int aR,.sh []),some (.int (endOf size bad),t4),none]):=by
  rw[r6,h1];rcases ht with rfl|rfl<;>rfl
 have q2:dO 5 (fV [none,some 4] (gA (aj 2)) (gN 0) (tV (e2 oLt (aj 0) (aj 1))) (aj 0)) [some (.int size,.sh []),some (je bad,.sh []),some (kd,.sh []),some (.int aR,.sh []),some (.int (endOf size bad),t4),none]=some (.nx (rW size bad kd aR (endOf size bad) t4 (i7 (endOf size bad) ks))):=by
  rw[r6,Zl (hk2 t4) rfl hl];rfl
 have q3:=KW (size:=size) (bad:=bad) (kd:=kd) (e:=endOf size bad) ht hh 100 (i7 (endOf size bad) ks) 4000 (by lia) (by lia);rw[iZ,q1,nY,iZ,q2,nY,iZ,q3,nY];rfl
theorem Rz{bad:Option Int}(hh:aR<=60)(hl:ks.length<64):Ek [.int size,je bad,.lst (ks.map D.int),.int aR]=some (.lst ((W size bad ks aR).map D.int)):=abS hh hl _ rfl λ_=>rfl
theorem L5{bad:Option Int}(hh:aR<=60):∀(n:Nat) (ws:List Int),ws.length<64->(gO size bad e aR n ws).length<64
 |0,ws,h=>h
 |n+1,ws,h=>by
  unfold gO
  split
  .rename_i hc;refine L5 hh n _ ?_;rw[Au];unfold lim at hc
   split at hc<;>lia
  .exact h
theorem Vn{bad:Option Int}(hh:aR<=60)(hl:ks.length<64):(W size bad ks aR).length<64:=L5 hh _ _ (aeH (aep _ _) hl)
structure kJ(e:Int)(ws:List Int):Prop where
 so:ws.Pairwise (· < ·)
 bd:∀x∈ws,1<=x/\x<e
theorem between:∀{f:List Int}{q:Int×Int}{x:Int},f.Pairwise (· < ·)->q∈pairs f->x∈f->x<=q.1\/q.2<=x
 |[],q,x,_,m,_=>by cases m
 |[a],q,x,_,m,_=>by cases m
 |a::b::r,q,x,hp,m,mx=>by
  obtain⟨h1,h2⟩:=adU.mp hp;have hs:pairs (a::b::r)=(a,b)::pairs (b::r):=rfl;rw[hs] at m;rcases abG.mp m with hq|m'
  .subst hq;rcases abG.mp mx with hx|tu
   .exact .inl (by show x<=a;lia)
   .rcases abG.mp tu with hx|Wu
    .exact .inr (by show b<=x;lia)
    .have:=(adU.mp h2).1 x Wu;exact .inr (by show b<=x;lia)
  .rcases abG.mp mx with hx|tu
   .have:=h1 q.1 (GX m').1;exact .inl (by lia)
   .exact between h2 m' tu
theorem Th(h:kJ e ws)(he:1<=e):(fence ws e).Pairwise (· < ·):=by
 refine adU.mpr ⟨λx m=>?_,aeO.mpr ⟨h.so,List.pairwise_singleton _ _,λx m y my=>?_⟩⟩
 .rcases ada.mp m with m|m
  .have:=h.bd x m;lia
  .cases aaS.mp m;lia
 .cases aaS.mp my;exact(h.bd x m).2
theorem Rh(h:kJ e ws)(hl:(ws.length:Int)<e-1):mid (fence ws e)<e/\mid (fence ws e)∉ws:=by
 have hf:=Th h (by lia);obtain⟨q,m,hq⟩:∃q∈pairs (fence ws e),2<=q.2-q.1:=by
  refine aek λhn=>?_
  have:=Fy (ws++[e]) 0 λq m=>by
   refine aek λh=>hn ⟨q,m,by lia⟩
  have q1:(0::(ws++[e])).getLastD 0=e:=by rw[show(0::(ws++[e]))=(0::ws)++[e] from rfl,List.getLastD_concat]
  rw[q1,ab9,adY] at this
  lia
 have hb:=(z9 (pairs (fence ws e)) ((fence ws e).headD 0,(fence ws e).headD 0)).2 q m;unfold mid;dsimp only;rcases yi (pairs (fence ws e)) ((fence ws e).headD 0,(fence ws e).headD 0) with h'|h'
 .rw[h'] at hb;dsimp only at hb
  lia
 .generalize best ((fence ws e).headD 0,(fence ws e).headD 0) (pairs (fence ws e))=p at hb h';have h2:p.2<=e:=by
   have:=(GX h').2;rcases abG.mp this with z|z
   .lia
   .rcases ada.mp z with z|z
    .have:=(h.bd _ z).2;lia
    .rw[aaS.mp z];exact Int.le_refl _
  refine⟨by lia,λmx=>?_⟩;rcases between hf h' (aad _ (abT _ mx)) with z|z<;>lia
section
variable{size aR e:Int}{bad:Option Int}
theorem V4(h:kJ e ws)(he:e=endOf size bad)(hl:(ws.length:Int)<e-1):1<=pick size bad e ws/\pick size bad e ws<e/\pick size bad e ws∉ws:=by
 unfold pick
 split
 .rename_i hc;cases bad with
  |none=>
   have he:e=size+1:=he;refine⟨by lia,by lia,λm=>?_⟩;have:ws.any (· == size)=true:=adS.mpr ⟨size,m,aew size⟩;rw[this] at hc;cases hc
  |some b=>cases hc
 .obtain⟨h1,h2⟩:=Rh h hl;exact⟨abk (λx m=>(h.bd x m).1) hl,h1,h2⟩
theorem QY(h:kJ e ws)(he:e=endOf size bad)(hl:(ws.length:Int)<e-1):kJ e (jB size bad e ws)/\∀x∈ws,x∈jB size bad e ws:=by
 obtain⟨p1,p2,p3⟩:=V4 h he hl;have hp:(jB size bad e ws).Perm (ws++[pick size bad e ws]):=pZ _;have hn:(jB size bad e ws).Nodup:=by
  refine hp.nodup_iff.mpr (adE.mpr ⟨h.so.imp λcN=>Int.ne_of_lt cN,ado.mpr ⟨(λm=>by cases m),adw⟩,λa ma b mb e=>?_⟩);cases aaS.mp mb;exact p3 (e ▸ ma)
 refine⟨⟨?_,λx m=>?_⟩,λx m=>hp.mem_iff.mpr (abT _ m)⟩
 .have hs:(jB size bad e ws).Pairwise (·<=·):=Bt _;exact(List.pairwise_and_iff.mpr ⟨hs,hn⟩).imp λh=>by have h1:=h.1;have h2:=h.2;lia
 .rcases ada.mp (hp.mem_iff.mp m) with m|m
  .exact h.bd x m
  .rw[aaS.mp m];exact⟨p1,p2⟩
theorem JZ(he:e=endOf size bad):∀(n:Nat) (ws:List Int),kJ e ws->kJ e (gO size bad e aR n ws)/\∀x∈ws,x∈gO size bad e aR n ws
 |0,ws,h=>⟨h,λx m=>m⟩
 |n+1,ws,h=>by
  unfold gO
  split
  .rename_i hc;have hl:(ws.length:Int)<e-1:=by unfold lim at hc;split at hc<;>lia
   obtain⟨a,b⟩:=QY h he hl;obtain⟨c,d⟩:=JZ he n (jB size bad e ws) a;exact⟨c,λx m=>d x (b x m)⟩
  .exact⟨h,λx m=>m⟩
end
theorem ac0{bad:Option Int}(h:ks.Pairwise (· < ·))(h1:∀x∈ks,1<=x):kJ (endOf size bad) (W size bad ks aR)/\∀x∈ks,x<endOf size bad->x∈W size bad ks aR:=by
 have hi:kJ (endOf size bad) (i7 (endOf size bad) ks):=⟨h.sublist ael,λx m=>let q:=adz.mp m;⟨h1 x q.1,abd q.2⟩⟩
 obtain⟨a,b⟩:=JZ rfl 100 _ hi;exact⟨a,λx m hx=>b x (adz.mpr ⟨m,abL hx⟩)⟩
theorem NW{size e aR:Int}{bad:Option Int}:∀(n:Nat) (ws:List Int),aR-ws.length<=n->lim e aR<=(gO size bad e aR n ws).length/\((ws.length:Int)<=aR->((gO size bad e aR n ws).length:Int)<=aR)
 |0,ws,h=>⟨by unfold gO lim;split<;>lia,id⟩
 |n+1,ws,h=>by
  unfold gO
  by_cases hc:(ws.length:Int)<lim e aR
  .rw[if_pos hc];have h2:lim e aR<=aR:=by unfold lim;split<;>lia
   obtain⟨a,b⟩:=NW (aR:=aR) n (jB size bad e ws) (by rw[Au];lia);exact⟨a,λ_=>b (by rw[Au];lia)⟩
  .rw[acZ hc];exact⟨by lia,id⟩
theorem Nz{bad:Option Int}(h:lim e aR<=ws.length):gO size bad e aR n ws=ws:=by
 cases n with
 |zero=>rfl
 |succ n=>unfold gO;rw[acZ (by lia)]
theorem vz(hl:ds.length+1=n)(h:b (xX N d0 ds)=some (.nx ρ))(h0:ρ[0]? = some (some (d1,.own))):runM n N b d0 ds=some (.aB,d1):=by unfold runM;rw[if_pos hl,h];dsimp only;rw[h0]
noncomputable def hs(h:List Str):D:=.lst (h.map D.str)
def tob(n t:Int)(h:List Str):D:=.ins "Tally" [("need",.int n),("tries",.int t),("heard",hs h)]
theorem MP(h:1<=n/\n<=t/\t<=20):Xn [.int n,.int t]=some (.bl true):=
 b8 rfl (cO (sQ (b:=true) (c_ rfl (yM.trans (by rw[abL (show(1:Int)<=t by omega),abL h.2.2];rfl))) (c_ rfl (yM.trans (by rw[abL h.1,abL h.2.1];rfl)))))
theorem acI(h:1<=n/\n<=t/\t<=20):As (.ins "Tally" []) [.int n,.int t]=some (.aB,tob n t []):=
 vz rfl (fH (kN (bQ (c_ (ps:=[(.int n,.sh []),(.int t,.sh [])]) rfl (MP h)))) rfl) rfl
theorem Tj:AM (hs h) (.str w)=some (.int (j3 w h)):=by
 show(jE (h.map D.str)).map (λys=>D.int (j3 w ys))=_;rw[I0];rfl
theorem acA:dR (hs h)=some (.int h.length):=by unfold hs;rw[uP,List.length_map]
def word(n t:Int)(h:List Str):Str:=if(j3 "yes" h:Int) >= n then "yes" else if(j3 "no" h:Int) >= n then "no" else if(h.length:Int) >= t then "unsure" else "more"
theorem HS:LJ [tob n t h]=some (.str (word n t h)):=by
 have c1:∀w:Str,tV (e2 zw (e2 AM (bS "Tally" "heard" (aj 0)) (eC (.str w))) (bS "Tally" "need" (aj 0))) [some (tob n t h,.sh [])]=some (decide ((j3 w h:Int) >= n)):=λw=>bQ (aP (aP rfl rfl Tj) rfl rfl)
 have c2:tV (e2 zw (e1 dR (bS "Tally" "heard" (aj 0))) (bS "Tally" "tries" (aj 0))) [some (tob n t h,.sh [])]=some (decide ((h.length:Int) >= t)):=bQ (aP (bY rfl acA) rfl rfl);refine b8 rfl ?_;unfold word
 by_cases a1:(j3 "yes" h:Int) >= n
 .rw[if_pos a1];exact mz ((c1 _).trans (by rw[abL a1])) (ia rfl)
 .rw[acZ a1];refine fH ((c1 _).trans (by rw[adt a1])) ?_
  by_cases a2:(j3 "no" h:Int) >= n
  .rw[if_pos a2];exact mz ((c1 _).trans (by rw[abL a2])) (ia rfl)
  .rw[acZ a2];refine fH ((c1 _).trans (by rw[adt a2])) ?_
   by_cases a3:(h.length:Int) >= t
   .rw[if_pos a3];exact mz (c2.trans (by rw[abL a3])) (ia rfl)
   .rw[acZ a3];exact fH (c2.trans (by rw[adt a3])) rfl
theorem ON:∀h:List Str,aI (h.map D.str)=true
 |[]=>rfl
 |x::h=>by rw[aax];unfold aI;rw[ON h];rfl
theorem VT(hw:w∈(["yes","no","unsure"]:List Str))(hm:word n t h="more")(hl:h.length<=100):IW (tob n t h) [.str w]=some (.str (word n t (h++[w])),tob n t (h++[w])):=by
 have m1:∀h:List Str,cE "Tally" "word" LJ (aj 0) aH [some (tob n t h,.own),some (.str w,.sh [])]=some (.str (word n t h),.own):=λh=>nJ rfl rfl rfl HS
 refine jS rfl (fH ?_ (fH (bQ (aP (m1 h) rfl (by rw[hm];rfl))) (sq (ρ':=[some (tob n t (h++[w]),.own),some (.str w,.sh [])]) (iY ?_) ?_)))
 .simp only[abG,adX,afk] at hw;rcases hw with rfl|rfl|rfl<;>rfl
 .refine(AI rfl rfl rfl (by rw[ON,List.length_map,abL (size_le (by lia))];rfl)).trans ?_;unfold tob hs;rw[adQ];rfl
 .unfold sA;rw[m1 (h++[w])];rfl
theorem Vt(hm:word n t h="more"):(h.length:Int)<t:=by
 unfold word at hm
 split at hm
 .exact absurd hm (by decide +kernel)
 .split at hm
  .exact absurd hm (by decide +kernel)
  .split at hm
   .exact absurd hm (by decide +kernel)
   .omega
noncomputable abbrev Ta:=List (List Int×List Str)
structure G where
 w:Int
 h:Int
 n:Int
 t:Int
 C:List Ch
 ln:List Int
 ld:List Int
 gr:List (Key×D)
 ta:Ta
 lk:List (List Int)
 ht:Bool
 gw:List (List Int)
 en:List D
 an:Int
 br:Int
noncomputable def tD(l:List Int):D:=.tup (l.map D.int)
noncomputable def kL(l:List Int):List Key:=l.map Sum.inl
def mO(n t:Int)(ta:Ta):List (List Key×D):=ta.map λp=>(kL p.1,tob n t p.2)
def gF(g:G):List (Str×D):=[("numbers",.tup [.int g.w,.int g.h,.int g.n,.int g.t]),("known",obj g.C),("on_line",iL g.ln),("laid_ones",iL g.ld),("grounds",.bG g.gr),("tallies",.cQ (mO g.n g.t g.ta)),("looks",.lst (cK g.lk)),("halted",.bl g.ht),("grown",.lst (cK g.gw)),("ended",.lst g.en),("answers",.int g.an),("breaks",.int g.br)]
def gD(g:G):D:=.ins "Gate" (gF g)
theorem Pj(h:fo ρ=some (obj C,t))(ha:fa ρ=some (x,t2))(hF:F [obj C,x]=some d)(hm:(mm==("entries":Str))=false:=by decide):cE "Changes" mm F fo (au fa aH) ρ=some (d,.own):=
 nJ (ps:=[(x,t2)]) h (zM hm) (by rw[aY,ha,vq,yO]) hF
theorem fl(h:fo ρ=some (gD g,t))(e:(gF g).lookup f=some d:=by rfl):bS "Gate" f fo ρ=some (d,jo t):=by
 unfold bS;rw[h];show(if("Gate":Str)="Gate" then((gF g).lookup f).map _ else none)=_;rw[if_pos rfl,e];rfl
theorem jc(h:fo ρ=some (gD g,t))(hF:F [gD g]=some d)(hm:(gF g).lookup mm=none:=by rfl):cE "Gate" mm F fo aH ρ=some (d,.own):=nJ h hm rfl hF
theorem pN(h:fo ρ=some (gD g,t))(ha:fa ρ=some (x,t2))(hF:F [gD g,x]=some d)(hm:(gF g).lookup mm=none:=by rfl):cE "Gate" mm F fo (au fa aH) ρ=some (d,.own):=
 nJ (ps:=[(x,t2)]) h hm (by rw[aY,ha,vq,yO]) hF
def bz(gr:List (Key×D))(x:Int):Bool:=(aW gr (Sum.inl x:Key)).isSome
abbrev fR(g:G)(x:Int):Bool:=bz g.gr x
def zp(g:G)(x:Int):Bool:=!decide (x∈g.ln)&&(!decide (x∈g.ld)&&!fR g x)
theorem Lw(h:f ρ=some (.int x,t))(h2:f2 ρ=some (iL l,t2)):e2 (jW true) f f2 ρ=some (.bl (!decide (x∈l)),.own):=
 aP h h2 (by rw[<- Yb];exact Dk)
theorem Te:YO [gD g,.int x]=some (.bl (zp g x)):=
 b8 rfl (cO (sQ (Lw rfl (fl rfl)) (sQ (Lw rfl (fl rfl)) (aP rfl (fl rfl) rfl))))
def wl(g:G):List Int:=(bf 1 g.C.length).filter (zp g)
theorem ju:(bf a n).length=n:=by unfold bf;rw[List.length_map,ae1]
theorem Bh(hR:g.C.length<=100):zx [gD g]=some (iL (wl g)):=by
 have hi:rm (eC (.int 1)) (e2 lG (cE "Changes" "many" EC (bS "Gate" "known" (aj 0)) aH) (eC (.int 1))) [some (gD g,.sh [])]=some ((bf 1 g.C.length).map D.int,.own):=by
  rw[GI rfl (aP (nJ (fl rfl) rfl rfl (Nx g.C)) rfl rfl) (qJ (by lia) (by lia)) (qJ (by lia) (by lia)),show((g.C.length:Int)+1-1).toNat=g.C.length by lia]
 exact b8 rfl (cO (AR hi (by rw[ju];lia) (λx=>rfl) (λx mx=>bQ (pN rfl rfl Te))))
theorem eE:x∈wl g↔(1<=x/\x<=(g.C.length:Int))/\x∉g.ln/\x∉g.ld/\fR g x=false:=by
 unfold wl;rw[adz,gX];unfold zp;simp only[abm,Bool.not_eq_true',decide_eq_false_iff_not];exact and_congr_left λ_=>by lia
theorem mh:Row g.C (wl g):=λx m=>(eE.mp m).1
theorem pI:(wl g).Pairwise (· < ·):=(yg 1 _).sublist ael
theorem CI:(wl g).Nodup:=pI.imp (λh=>by lia)
theorem OV:(wl g).length<=g.C.length:=by
 have:=aep (zp g) (bf 1 g.C.length)
 rwa [ju] at this
noncomputable def gv{κ α:Type}[DecidableEq κ](es:List (κ×α))(k:κ):Option α:=(es.find? λkv=>decide (kv.1=k)).map (·.2)
noncomputable def gp{κ α:Type}[DecidableEq κ](es:List (κ×α))(k:κ)(d:α):List (κ×α):=if(es.any λkv=>decide (kv.1=k))=true then es.map (λkv=>if kv.1=k then(kv.1,d) else kv) else es++[(k,d)]
theorem MB[DecidableEq κ]{es:List (κ×α)}:gv (gp es k d) k=some d:=by
 unfold gv gp
 by_cases h:(es.any λkv=>decide (kv.1=k))=true
 .rw[if_pos h]
  induction es with
  |nil=>cases h
  |cons a r ih=>
   rw[aax]
   by_cases z:a.1=k
   .rw[if_pos z,aeT (by simpa using z)];rfl
   .rw[acZ z,aei (by simpa using z)];exact ih (by rw[ae4,adt z,Bool.false_or] at h;exact h)
 .rw[acZ h,List.find?_append];have:es.find? (λkv=>decide (kv.1=k))=none:=by
   rw[aet];intro x m e;exact h (adS.mpr ⟨x,m,e⟩)
  rw[this];simp
theorem PX[DecidableEq κ]{es:List (κ×α)}(h:j≠k):gv (gp es k d) j=gv es j:=by
 unfold gv gp
 congr 1
 split
 .rename_i hh;clear hh
  induction es with
  |nil=>rfl
  |cons a r ih=>
   rw[aax]
   by_cases z:a.1=k
   .rw[if_pos z];have:¬a.1=j:=λe=>h (e.symm.trans z)
    rw[aei (by simpa using this),aei (by simpa using this)];exact ih
   .rw[acZ z]
    by_cases y:a.1=j
    .rw[aeT (by simpa using y),aeT (by simpa using y)]
    .rw[aei (by simpa using y),aei (by simpa using y)];exact ih
 .rw[List.find?_append,aei (by simpa using λe:k=j=>h e.symm)];simp
theorem Vy{κ:Type}{k:κ}[DecidableEq κ]{es:List (κ×D)}:(aW (putD es k d) k)=some d:=MB
theorem aa3{κ:Type}{j k:κ}[DecidableEq κ]{es:List (κ×D)}(h:j≠k):aW (putD es k d) j=aW es j:=PX h
theorem mH{gr:List (Key×D)}:bz (putD gr (Sum.inl x) d) y=(decide (y=x)||bz gr y):=by
 unfold bz
 by_cases h:y=x
 .rw[h,Vy,abL rfl];rfl
 .rw[aa3 (λe=>by injection e with e;exact h e),adt h];rfl
theorem rq:aI ds=true↔∀d∈ds,aA d=true:=by
 induction ds with
 |nil=>exact⟨λ_ d m=>(nomatch m),λ_=>rfl⟩
 |cons a r ih=>
  unfold aI;rw[abm,ih];exact⟨λh d m=>(abG.mp m).elim (λe=>e ▸ h.1) (h.2 d),λh=>⟨h a aat,λd m=>h d (aad _ m)⟩⟩
theorem acP[DecidableEq κ]{es:List (κ×D)}(h:aI (es.map (·.2))=true)(hd:aA d=true):aI ((putD es k d).map (·.2))=true:=by
 rw[rq] at h ⊢;intro y m;obtain⟨kv,mk,rfl⟩:=adp.mp m;unfold putD at mk
 split at mk
 .obtain⟨x,mx,rfl⟩:=adp.mp mk
  split
  .exact hd
  .exact h _ (adp.mpr ⟨x,mx,rfl⟩)
 .rcases ada.mp mk with mk|mk
  .exact h _ (adp.mpr ⟨kv,mk,rfl⟩)
  .cases aaS.mp mk;exact hd
theorem Ku[DecidableEq κ]{es:List (κ×α)}:(gp es k d).map (·.1)=if k∈es.map (·.1) then es.map (·.1) else es.map (·.1)++[k]:=by
 unfold gp
 by_cases h:(es.any λkv=>decide (kv.1=k))=true
 .rw[if_pos h,if_pos (by obtain⟨x,m,e⟩:=adS.mp h;exact adp.mpr ⟨x,m,abd e⟩),adG];refine aeA λa _=>?_
  show(if a.1=k then(a.1,d) else a).1=a.1
  split<;>rfl
 .rw[acZ h,acZ (λm=>by obtain⟨x,m,e⟩:=adp.mp m;exact h (adS.mpr ⟨x,m,abL e⟩)),adQ];rfl
theorem NT[DecidableEq κ]{es:List (κ×α)}(h:(es.map (·.1)).Nodup):((gp es k d).map (·.1)).Nodup:=by
 rw[Ku]
 split
 .exact h
 .rename_i hk;exact adE.mpr ⟨h,by simp,λa ma b mb e=>by cases aaS.mp mb;exact hk (e ▸ ma)⟩
structure Gr(n:Nat)(gr:List (Key×D)):Prop where
 im:aI (gr.map (·.2))=true
 nd:(gr.map (·.1)).Nodup
 ks:∀k∈gr.map (·.1),∃x:Int,k=Sum.inl x/\x∈bf 1 n
 tp:∀p∈gr,(C3 p.2).isSome=true
theorem XZ[DecidableEq κ]{es:List (κ×α)}(m:q∈gp es k d):q∈es\/q=(k,d):=by
 unfold gp at m
 split at m
 .obtain⟨p,mp,rfl⟩:=adp.mp m
  split
  .rename_i e;exact .inr (by rw[e])
  .exact .inl mp
 .exact(ada.mp m).imp id aaS.mp
theorem Gr.put(h:Gr n gr)(hx:x∈bf 1 n)(hd:aA d=true)(ht:(C3 d).isSome=true:=by rfl):Gr n (putD gr (Sum.inl x) d):=⟨acP h.im hd,NT h.nd,λk m=>by
 have m:k∈(gp gr (Sum.inl x) d).map (·.1):=m;rw[Ku] at m
 split at m
 .exact h.ks k m
 .rcases ada.mp m with m|m
  .exact h.ks k m
  .exact⟨x,aaS.mp m,hx⟩,λp m=>(XZ m).elim (h.tp p) λe=>by rw[e];exact ht⟩
theorem Dg(h:bz gr x=false):putD gr (Sum.inl x) d=gr++[(Sum.inl x,d)]:=by
 unfold putD;rw[acZ];intro q;obtain⟨kv,m,e⟩:=adS.mp q;unfold bz aW at h;rw[aeR] at h;have:=(List.find?_isSome (p:=λkv:Key×D=>decide (kv.1=Sum.inl x))).mpr ⟨kv,m,e⟩;rw[h] at this;cases this
def cnt(gr:List (Key×D)):Nat:=(B4 "look" gr).length
theorem O2:cnt (a++b)=cnt a+cnt b:=by
 unfold cnt B4;rw[afD,adQ,ab9]
theorem Eg(h:a <+: b):cnt a<=cnt b:=by
 obtain⟨r,rfl⟩:=h;rw[O2];lia
theorem acC:cnt a<=a.length:=by
 unfold cnt B4;rw[List.length_map];exact aep _ _
noncomputable def fJ:List (Key×D)->List Int
 |[]=>[]
 |(.inl x,_)::r=>x::fJ r
 |_::r=>fJ r
theorem qx:∀{gr},(∀k∈gr.map (·.1),∃x:Int,k=Sum.inl x/\x∈bf 1 n)->gr.map (·.1)=(fJ gr).map Sum.inl/\jz gr=some (fJ gr)
 |[],_=>⟨rfl,rfl⟩
 |(k,d)::r,h=>by
  obtain⟨x,e,_⟩:=h k aat;obtain⟨a,b⟩:=qx λk m=>h k (aad _ m)
  have e:=e;subst e;refine⟨by rw[aax,a];rfl,?_⟩;show(jz r).map _=_;rw[b];rfl
theorem Xw{l:List Int}:(l.map (Sum.inl:Int->Key)).Nodup↔l.Nodup:=by
 unfold List.Nodup;rw[aeB];exact⟨λh=>h.imp λq e=>q (by rw[e]),λh=>h.imp λq e=>q (Sum.inl.inj e)⟩
theorem Gr.nK{gr:List (Key×D)}(h:Gr n gr):(fJ gr).Nodup:=Xw.mp ((qx h.ks).1 ▸ h.nd)
theorem Gr.mem{gr:List (Key×D)}(h:Gr n gr):x∈fJ gr↔bz gr x=true:=by
 have e:=(qx h.ks).1;unfold bz aW;rw[aeR,List.find?_isSome];constructor
 .intro m;have:(Sum.inl x:Key)∈gr.map (·.1):=e ▸ adp.mpr ⟨x,m,rfl⟩;obtain⟨kv,mk,q⟩:=adp.mp this;exact⟨kv,mk,abL q⟩
 .rintro⟨kv,mk,q⟩
  have:(Sum.inl x:Key)∈gr.map (·.1):=adp.mpr ⟨kv,mk,abd q⟩;rw[e] at this;obtain⟨y,my,q⟩:=adp.mp this;exact Sum.inl.inj q ▸ my
theorem Gr.bd{gr:List (Key×D)}(h:Gr n gr)(m:bz gr x=true):x∈bf 1 n:=by
 have:(Sum.inl x:Key)∈gr.map (·.1):=(qx h.ks).1 ▸ adp.mpr ⟨x,h.mem.mpr m,rfl⟩;obtain⟨y,e,q⟩:=h.ks _ this;exact Sum.inl.inj e ▸ q
theorem Gr.len{gr:List (Key×D)}(h:Gr n gr):gr.length<=n:=by
 have:=sub_len h.nK λx m=>h.bd (h.mem.mp m)
 rw[ju] at this;have e:=congrArg List.length (qx h.ks).1;rw[List.length_map,List.length_map] at e
 lia
abbrev jb(ta:Ta)(l:List Int):Option (List Str):=gv ta l
def wd(g:G)(l:List Int):Str:=match jb g.ta l with
 |none=>"more"
 |some h=>word g.n g.t h
theorem qU:∀l:List Int,gC (l.map D.int)=some (kL l)
 |[]=>rfl
 |x::l=>by
  rw[aax];unfold gC;rw[qU l];rfl
theorem qC:∀{a b},kL a=kL b->a=b
 |[],[],_=>rfl
 |[],_::_,e=>by cases e
 |_::_,[],e=>by cases e
 |x::a,y::b,e=>by
  injection e with e1 e2;cases e1;rw[qC e2]
section
variable[DecidableEq κ][DecidableEq JK]{φ:κ->JK}{ψ:α->D}{k:κ}
theorem CZ(vW:∀a b,φ a=φ b->a=b):∀es:List (κ×α),aW (es.map λp=>(φ p.1,ψ p.2)) (φ k)=(gv es k).map ψ
 |[]=>rfl
 |p::r=>by
  have ih:=CZ vW r;unfold aW gv at ih ⊢;rw[aax,adN,adN,show decide ((φ p.1,ψ p.2).1=φ k)=decide (p.1=k) from ae8.mpr ⟨vW _ _,λe=>by rw[<- e]⟩];cases decide (p.1=k) with
  |true=>rfl
  |false=>exact ih
theorem Jk(vW:∀a b,φ a=φ b->a=b):putD (es.map λp=>(φ p.1,ψ p.2)) (φ k) (ψ d)=(gp es k d).map λp=>(φ p.1,ψ p.2):=by
 unfold putD gp;rw[ae3,show es.any ((λkv:JK×D=>decide (kv.1=φ k)) ∘ λp=>(φ p.1,ψ p.2))=es.any λp=>decide (p.1=k) from congrArg es.any (funext λp=>ae8.mpr ⟨vW _ _,λe=>by rw[<- e]⟩)]
 split
 .rw[adG,adG];refine aeA λp _=>?_
  simp only[Function.comp]
  by_cases z:p.1=k
  .rw[if_pos (by rw[z]),if_pos z]
  .rw[acZ λq=>z (vW _ _ q),acZ z]
 .rw[adQ];rfl
end
theorem KS(ta:Ta):aW (mO n t ta) (kL l)=(jb ta l).map (tob n t):=CZ (λ_ _=>qC) ta
theorem BQ:zk [gD g,tD l]=some (.str (wd g l)):=by
 have v:=KS (n:=g.n) (t:=g.t) (l:=l) g.ta;have sI:tV (e2 (GW false) (aj 1) (bS "Gate" "tallies" (aj 0))) [some (gD g,.sh []),some (tD l,.sh [])]=some (aW (mO g.n g.t g.ta) (kL l)).isSome:=bQ (aP rfl (fl rfl) (by
  show(gC (l.map D.int)).map _=_;rw[qU];rfl))
 refine b8 rfl (cO ?_);unfold wd;rw[v] at sI;cases e:jb g.ta l with
 |none=>rw[e] at sI;exact LO sI
 |some h=>
  rw[e] at sI v;refine(Jf sI).trans (nJ (t:=.sh []) ?_ rfl rfl HS);unfold wN;rw[fl rfl,show aj 1 [some (gD g,.sh []),some (tD l,.sh [])]=some (tD l,.sh []) from rfl];show(gC (l.map D.int)).bind _=_;rw[qU,adH,v];rfl
noncomputable def cI(g:G)(p:Nat):List Int:=g.ln++g.ld.take p
theorem f_look{p:Nat}(hp:p<=g.ld.length)(hl:g.ln.length+g.ld.length<=1000):wD [gD g,.int p]=some (tD (cI g p)):=by
 have hc:zO (bS "Gate" "laid_ones" (aj 0)) (aj 1) [some (gD g,.sh []),some (.int p,.sh [])]=some (iL (g.ld.take p),.own):=by
  unfold zO;rw[fl rfl,show aj 1 [some (gD g,.sh []),some (.int p,.sh [])]=some (.int p,.sh []) from rfl];show(if aI (g.ld.map D.int)=true then some (D.lst (cutD (g.ld.map D.int) none (some (p:Int))),Tag.own) else none)=_;rw[if_pos (dY _),Z0 (by rw[List.length_map];exact hp),<- List.map_take];rfl
 have h1:=aft (i:=p) (l:=g.ld);exact b8 rfl (cO (bY (aP (fl rfl) hc (uv (by rw[aeJ];lia))) DY))
noncomputable def bw(s:Str):Bool:=(["no","unsure"]:List Str).any (· == s)
def gm(g:G)(p:Nat):Bool:=bw (wd g (cI g p))
def bR(g:G):Option Nat:=((List.range g.ld.length).map (· + 1)).find? (gm g)
noncomputable def bD:Option Nat->D
 |none=>.aB
 |some p=>.int p
theorem Pw(hl:g.ln.length+g.ld.length<=1000):∀{ps:List Nat} {s1},(∀p∈ps,p<=g.ld.length)->∃oq,
  b_ (gN 1) (.sh []) (c9 (tV (e2 (uo false) (cE "Gate" "word_of" zk (aj 0) (au (cE "Gate" "look_of" wD (aj 0) (au (aj 1) aH)) aH)) (eC (.tup ((["no","unsure"]:List Str).map D.str))))) (rG 1) d7) (ps.map λp:Nat=>D.int p) [some (gD g,.sh []),s1]=some (match ps.find? (gm g) with|none=>.nx [some (gD g,.sh []),oq]|some p=>.rt (.int p))
 |[],s1,_=>⟨s1,rfl⟩
 |p::ps,s1,h=>by
  obtain⟨a,e⟩:=Pw hl (λq m=>h q (aad _ m));have ht:tV (e2 (uo false) (cE "Gate" "word_of" zk (aj 0) (au (cE "Gate" "look_of" wD (aj 0) (au (aj 1) aH)) aH)) (eC (.tup ((["no","unsure"]:List Str).map D.str)))) [some (gD g,.sh []),some (.int p,.sh [])]=some (gm g p):=
   bQ (aP (pN rfl (pN rfl rfl (f_look (h p aat) hl)) BQ) rfl rfl)
  refine⟨a,?_⟩;rw[adN];cases eb:gm g p with
  |true=>
   rw[eb] at ht;exact O_ (aF:=[some (gD g,.sh []),some (.int p,.sh [])]) rfl (by rw[iC,ht];rfl)
  |false=>
   rw[eb] at ht;exact(mW (aF:=[some (gD g,.sh []),some (.int p,.sh [])]) rfl (by rw[iC,ht];rfl)).trans e
theorem acf(n:Nat):(bf 1 n).map D.int=((List.range n).map (· + 1)).map λp:Nat=>D.int p:=by
 unfold bf;rw[adG,adG];refine aeA λi _=>?_
 show D.int (1+(i:Int))=D.int ((i+1:Nat):Int);rw[show(1+(i:Int))=((i+1:Nat):Int) by lia]
theorem sP:p∈(List.range n).map (· + 1)↔1<=p/\p<=n:=by
 rw[adp];exact⟨λ⟨i,m,e⟩=>by have:=afJ.mp m;lia,λh=>⟨p-1,afJ.mpr (by lia),by lia⟩⟩
theorem El{g:G}(hl:g.ln.length+g.ld.length<=900):yW [gD g]=some (bD (bR g)):=by
 obtain⟨a,e⟩:=Pw (by lia) (ps:=(List.range g.ld.length).map (· + 1)) (λp m=>(sP.mp m).2);have hi:rm (eC (.int 1)) (e2 lG (e1 dR (bS "Gate" "laid_ones" (aj 0))) (eC (.int 1))) [some (gD g,.sh []),none]=some (((List.range g.ld.length).map (· + 1)).map λp:Nat=>D.int p,.own):=by
  rw[GI rfl (aP (bY (fl rfl) (by show some (D.int (g.ld.map D.int).length)=_;rw[List.length_map])) rfl rfl) (qJ (by lia) (by lia)) (qJ (by lia) (by lia)),show((g.ld.length:Int)+1-1).toNat=g.ld.length by lia,acf]
 refine b8 rfl ?_;unfold bR;cases eb:((List.range g.ld.length).map (· + 1)).find? (gm g) with
 |none=>rw[eb] at e;exact sq (wZ hi e) rfl
 |some p=>rw[eb] at e;exact ia (O3 hi e)
theorem l7(h:bR g=some p):1<=p/\p<=g.ld.length/\gm g p=true/\∀q,1<=q->q<p->gm g q=false:=by
 obtain⟨h1,as,bs,e,h2⟩:=List.find?_eq_some_iff_append.mp h;have hp:=sP.mp (show p∈(List.range g.ld.length).map (· + 1) from e ▸ aaY _ aat);refine⟨hp.1,hp.2,h1,λq q1 q2=>?_⟩;have so:((List.range g.ld.length).map (· + 1)).Pairwise (· < ·):=aeB.mpr (List.pairwise_lt_range.imp λh=>by lia);have mq:q∈(List.range g.ld.length).map (· + 1):=sP.mpr (by lia);rw[e] at so mq;rcases ada.mp mq with m|m
 .simpa using h2 q m
 .rcases abG.mp m with m|m
  .lia
  .have:=(adU.mp (aeO.mp so).2.1).1 q m;lia
theorem Ce:bR g=none↔∀p,1<=p->p<=g.ld.length->gm g p=false:=by
 unfold bR;rw[aet];exact⟨λh p h1 h2=>by simpa using h p (sP.mpr ⟨h1,h2⟩),λh p m=>by simpa using h p (sP.mp m).1 (sP.mp m).2⟩
theorem Bl:∀a b:List Int,PyData.eqvAll (a.map PyData.int) (b.map PyData.int)=decide (a=b)
 |[],[]=>rfl
 |[],_::_=>rfl
 |_::_,[]=>rfl
 |x::a,y::b=>by
  simp only[aax,PyData.eqvAll,PyData.eqv,Bl a b]
  by_cases h:x=y<;>by_cases k:a=b<;>simp[h,k]
theorem Nb(l:List Int):py (tD l)=.tuple (l.map PyData.int):=by unfold tD;unfold py;rw[uH]
theorem IJ(l:List Int):cM (tD l)=true:=by
 unfold cM;have c1:fS (tD l)=true:=by unfold tD;unfold fS;exact yQ _
 rw[c1,Nb];have c2:(PyData.tuple (l.map PyData.int)).canLay0=true:=by simp only[PyData.canLay0];exact yy l
 have c3:(PyData.tuple (l.map PyData.int)).depth<=40:=by simp only[PyData.depth,depthAll_ints];lia
 rw[c2,abL c3];rfl
theorem any_rows(l:List Int)(L:List (List Int)):((eX (cK L)).any λy=>PyData.eqv y (py (tD l)))=decide (l∈L):=by
 rw[E9,Nb,ae3];have:((λy=>PyData.eqv y (PyData.tuple (l.map PyData.int))) ∘ jf)=λr=>decide (r=l):=funext λr=>by
  simp only[Function.comp,jf,PyData.eqv,Bl]
 rw[this]
 by_cases h:l∈L
 .rw[abL h];exact adS.mpr ⟨l,h,by simp⟩
 .rw[adt h,ae2];intro e;obtain⟨y,my,ey⟩:=adS.mp e;exact h ((abd ey) ▸ my)
theorem OI(neg:Bool)(l:List Int)(L:List (List Int)):AJ neg (tD l) (.lst (cK L))=some (.bl (if neg=true then !decide (l∈L) else decide (l∈L))):=by
 show(if(cM (tD l)&&cM (.lst (cK L)))=true then some (D.bl (if neg=true then !(eX (cK L)).any λy=>PyData.eqv y (py (tD l)) else(eX (cK L)).any λy=>PyData.eqv y (py (tD l)))) else none)=_;rw[IJ,IS,any_rows];rfl
def kp(g:G)(l:List Int):Bool:=decide (l∈g.lk)&&(wd g l == "more")
theorem abw:VZ [gD g,tD l]=some (.bl (kp g l)):=
 b8 rfl (cO (sQ (aP rfl (fl rfl) (OI false l g.lk)) (aP (pN rfl rfl BQ) rfl rfl)))
def ie(g:G):List Int:=(bf 1 g.ld.length).filter λx=>kp g (cI g x.toNat)
def nR(g:G):Option Int:=(bR g).map λp:Nat=>(p:Int)
def lK(g:G):List Int:=W g.ld.length (nR g) (ie g) g.h
def j8(g:G):List (List Int):=(lK g).map λp=>cI g p.toNat
theorem ac8(o:Option Nat):bD o=je (o.map λp:Nat=>(p:Int)):=by cases o<;>rfl
theorem oS:(ie g).Pairwise (· < ·)/\(∀x∈ie g,1<=x/\x<=g.ld.length)/\(ie g).length<=g.ld.length:=by
 refine⟨(yg 1 _).sublist ael,λx m=>by have:=gX.mp (adz.mp m).1;lia,?_⟩;have:=aep (λx=>kp g (cI g x.toNat)) (bf 1 g.ld.length)
 rwa [ju] at this
def eo(g:G):Int:=endOf g.ld.length (nR g)
theorem Mi:kJ (eo g) (lK g)/\(∀p∈ie g,p<eo g->p∈lK g):=
 ac0 oS.1 (λx m=>(oS.2.1 x m).1)
theorem Ah:1<=eo g/\eo g<=g.ld.length+1:=by
 unfold eo nR;cases e:bR g with
 |none=>show 1<=(g.ld.length:Int)+1/\(g.ld.length:Int)+1<=_;lia
 |some p=>have:=l7 e;show 1<=(p:Int)/\(p:Int)<=_;lia
theorem Xh(hl:g.ln.length+g.ld.length<=900)(h6:g.ld.length<64)(hh:g.h<=60):Yq [gD g]=some (.lst (cK (j8 g))):=by
 have hi:rm (eC (.int 1)) (e2 lG (aj 1) (eC (.int 1))) [some (gD g,.sh []),some (.int g.ld.length,.own),none]=some ((bf 1 g.ld.length).map D.int,.own):=by
  rw[GI rfl rfl (qJ (by lia) (by lia)) (qJ (by lia) (by lia)),show((g.ld.length:Int)+1-1).toNat=g.ld.length by lia]
 have look:∀{x:Int},1<=x->x<=g.ld.length->cE "Gate" "look_of" wD (aj 1) (au (aj 0) aH) [some (.int x,.sh []),some (gD g,.sh [])]=some (tD (cI g x.toNat),.own):=λ{x} h1 h2=>
  pN rfl rfl (by
   have:=f_look (g:=g) (p:=x.toNat) (by lia) (by lia)
   rwa [show((x.toNat:Nat):Int)=x by lia] at this)
 refine b8 rfl (jO (bY (fl rfl) (by show some (D.int (g.ld.map D.int).length)=_;rw[List.length_map])) (jO (AR hi (by rw[ju];lia) (λx=>rfl) (λx mx=>by
  have hx:=gX.mp mx;exact bQ (pN rfl (look (by lia) (by lia)) abw))) (cO ?_)))
 have hw:cC Ek (au (aj 1) (au (cE "Gate" "bad" yW (aj 0) aH) (au (aj 2) (au (e2 cL (bS "Gate" "numbers" (aj 0)) (eC (.int 1))) aH)))) [some (gD g,.sh []),some (.int g.ld.length,.own),some (iL (ie g),.own)]=some (iL (lK g),.own):=
  c_ (by
   rw[aY,aY,jc rfl (El hl)];rfl) (by
   have:=Rz (size:=g.ld.length) (bad:=nR g) (ks:=ie g) hh (by have:=oS (g:=g).2.2;lia);simp only[aax,afK];rw[ac8];exact this)
 have hc:=jx (js:=[none,some 0]) (g:=gN 0) (tt:=lu) (k:=λd=>match d with | .int p=>some (tD (cI g p.toNat)) | _=>none) (iF hw) (by rw[List.length_map];exact size_le (by have:=Vn (size:=g.ld.length) (bad:=nR g) (ks:=ie g) hh (by have:=oS (g:=g).2.2;lia);show(W _ _ _ _).length<=_;lia)) (λd m=>by
  obtain⟨x,mx,rfl⟩:=adp.mp m;have:=(Mi).1.bd x mx;have:=Ah (g:=g);exact nI rfl rfl (look (by lia) (by lia)))
 rw[aeg] at hc;have e:(lK g).filterMap ((λd=>match d with|.int p=>some (tD (cI g p.toNat))|_=>none) ∘ D.int)=cK (j8 g):=by
  unfold j8 cK;rw[adG];exact l9 (λp:Int=>tD (cI g p.toNat)) _
 rw[e] at hc;exact hc
theorem uD(h:fv ρ=some (d,t))(h0:ρ[0]? = some (some (gD g,.own)))(ho:(jV t||aA d)=true)(e:dw f d (gF g)=gF g'):jZ (vN 0 "Gate" f fv) ρ=some (.nx (bB ρ 0 (gD g'))):=by
 refine iY ?_;unfold vN;rw[h,h0];show(if("Gate":Str)="Gate"/\(gF g).length<1000/\(jV t||aA d)=true then some (Out.nx (bB ρ 0 (.ins "Gate" (dw f d (gF g))))) else none)=_;rw[if_pos ⟨rfl,by show 12<1000;decide,ho⟩,e];rfl
theorem xo(h0:ρ[0]? = some (some (gD g,.own)))(h:F (gD g) []=some (r,gD g'))(hm:(gF g).lookup m=none:=by rfl):xO 0 "Gate" m F aH ρ=some (r,bB ρ 0 (gD g')):=by
 unfold xO;rw[h0];show(if("Gate":Str)="Gate"/\(gF g).lookup m=none/\apart 0 []=true then(F (gD g) []).map _ else none)=_;rw[if_pos ⟨rfl,hm,rfl⟩,h];rfl
theorem Bc(h:fv ρ=some (d,t))(hk:fk ρ=some (.int x,t2))(h0:ρ[0]? = some (some (gD g,.own)))(hi:aA d=true)(hG:aI (g.gr.map (·.2))=true)(hl:g.gr.length<=100):sJ 0 "Gate" "grounds" fk fv ρ=some (.nx (bB ρ 0 (gD { g with gr:=putD g.gr (Sum.inl x) d }))):=by
 unfold sJ;rw[h,h0,hk];show(if("Gate":Str)="Gate" then(if(aA d&&aI (g.gr.map (·.2))&&decide (g.gr.length<sizeLine))=true then some (Out.nx (bB ρ 0 (.ins "Gate" (dw "grounds" (.bG (putD g.gr (Sum.inl x) d)) (gF g))))) else none) else none)=_;rw[if_pos rfl,hi,hG,abL (size_le (by lia)),if_pos (show(true&&true&&true)=true from rfl)];rfl
theorem DQ(h:f ρ=some (d,t)):jZ (dO i f) ρ=some (.nx (h_ ρ i d t)):=iY (by unfold dO;rw[h])
theorem vJ(h:tf ρ=some true)(h2:sf ρ=r):c9 tf sf sg ρ=r:=by rw[iC,h];exact h2
theorem Kh(h:tf ρ=some false)(h2:sg ρ=r):c9 tf sf sg ρ=r:=by rw[iC,h];exact h2
theorem KU:d_ ((x::r).map D.int) 0=some (.int x):=by
 unfold d_ nQ;rw[if_pos (by omega),if_pos (by rw[List.length_map,adu];omega)];rfl
def gone(C:List Ch)(gr:List (Key×D))(x:Int):List Int:=(lean (sec C) x).filter (bz gr)
def c8(C:List Ch)(gr:List (Key×D))(x:Int):List (Key×D):=match gone C gr x with
 |[]=>gr
 |y::_=>putD gr (Sum.inl x) (.tup [.str "leans",.int y])
theorem Dv{g:G}(gc:GoodC g.C):∀{l} {gr} {s1 s2},Row g.C l->Gr g.C.length gr->∃oq Dy,b_ (gN 1) (.sh []) (bH (dO 2 (fV [none,some 0] (gA (cE "Changes" "leans_of" EA (bS "Gate" "known" (aj 0)) (au (aj 1) aH))) (gN 0) (tV (e2 (rJ false) (aj 0) (bS "Gate" "grounds" (aj 1)))) (aj 0))) (c9 (rj (aj 2)) (sJ 0 "Gate" "grounds" (aj 1) (j_ (au (eC (.str "leans")) (au (e2 cL (aj 2) (eC (.int 0))) aH)))) d7)) (l.map D.int) [some (gD { g with gr:=gr },.own),s1,s2]=some (.nx [some (gD { g with gr:=l.foldl (c8 g.C) gr },.own),oq,Dy])
 |[],gr,s1,s2,_,_=>⟨s1,s2,rfl⟩
 |x::l,gr,s1,s2,h,k=>by
  have hx:=h x aat;have hc:fV [none,some 0] (gA (cE "Changes" "leans_of" EA (bS "Gate" "known" (aj 0)) (au (aj 1) aH))) (gN 0) (tV (e2 (rJ false) (aj 0) (bS "Gate" "grounds" (aj 1)))) (aj 0) [some (gD { g with gr:=gr },.own),some (.int x,.sh []),s2]=some (iL (gone g.C gr x),.own):=
   AR (iF (Pj (fl rfl) rfl (NZ hx.1 hx.2))) (by have:=gc.few x;lia) (λy=>rfl) (λy _=>bQ (aP rfl (fl rfl) rfl))
  cases e:gone g.C gr x with
  |nil=>
   obtain⟨a,b,ih⟩:=Dv gc (λy m=>h y (aad _ m)) k;refine⟨a,b,(mW rfl (jO (e ▸ hc) rfl)).trans (ih.trans ?_)⟩;rw[ad9,show c8 g.C gr x=gr by unfold c8;rw[e]]
  |cons y r=>
   have k':Gr g.C.length (c8 g.C gr x):=by unfold c8;rw[e];exact k.put (gX.mpr (by lia)) rfl
   obtain⟨a,b,ih⟩:=Dv gc (λy m=>h y (aad _ m)) k';refine⟨a,b,(mW rfl (jO (e ▸ hc) (vJ rfl ((Bc (d:=.tup [.str "leans",.int y]) (t:=.own) ?_ rfl rfl rfl k.im (by have:=k.len;have:=gc.ln;show gr.length<=100;lia)).trans ?_)))).trans ih⟩
   .rw[qo,aY,aY,aP rfl rfl (vL KU rfl)];rfl
   .unfold c8;rw[e];rfl
def fX(g:G):G:={ g with gr:=(wl g).foldl (c8 g.C) g.gr }
theorem VE(gc:GoodC g.C)(k:Gr g.C.length g.gr):ya (gD g) []=some (.aB,gD (fX g)):=by
 obtain⟨a,b,e⟩:=Dv gc mh k;exact vz rfl (iY (wZ (iF (jc rfl (Bh (by have:=gc.ln;lia)))) e)) rfl
theorem yY:∀{l:List Int} {gr},Gr n gr->(∀x∈l,x∈bf 1 n)->Gr n (l.foldl (c8 C) gr)/\(∀x,bz gr x=true->bz (l.foldl (c8 C) gr) x=true)/\(∀x,bz (l.foldl (c8 C) gr) x=true->bz gr x=true\/x∈l)
 |[],gr,k,_=>⟨k,λ_ h=>h,λ_ h=>.inl h⟩
 |x::l,gr,k,h=>by
  have k1:Gr n (c8 C gr x)/\(∀y,bz gr y=true->bz (c8 C gr x) y=true)/\∀y,bz (c8 C gr x) y=true->bz gr y=true\/y=x:=by
   unfold c8
   split
   .exact⟨k,λ_ h=>h,λ_ h=>.inl h⟩
   .refine⟨k.put (h x aat) rfl,λy q=>by rw[mH,q,Bool.or_true],λy q=>?_⟩;rw[mH,Bool.or_eq_true,afI] at q;exact q.symm
  obtain⟨a,b,c⟩:=yY k1.1 λy m=>h y (aad _ m)
  refine⟨a,λy q=>b y (k1.2.1 y q),λy q=>?_⟩;rcases c y q with q|q
  .exact(k1.2.2 y q).imp id λe=>by rw[e];exact aat
  .exact .inr (aad _ q)
theorem LM:∀{l:List Int} {gr},l.Nodup->(∀x∈l,bz gr x=false)->gr <+: l.foldl (c8 C) gr
 |[],gr,_,_=>aeM _
 |x::l,gr,nd,h=>by
  obtain⟨n1,n2⟩:=ado.mp nd;have h1:gr <+: c8 C gr x/\∀y∈l,bz (c8 C gr x) y=false:=by
   unfold c8
   split
   .exact⟨aeM _,λy m=>h y (aad _ m)⟩
   .refine⟨by rw[Dg (h x aat)];exact List.prefix_append _ _,λy m=>?_⟩;rw[mH,h y (aad _ m),adt (show ¬y=x from λe=>n1 (e ▸ m))];rfl
  exact h1.1.trans (LM n2 h1.2)
theorem Cb(bd:∀m x,1<=m->m<=(C.length:Int)->x∈lean (sec C) m->1<=x/\x<m):∀{l:List Int} {gr},l.Pairwise (· < ·)->Row C l->Gr C.length gr->∀x∈l,bz (l.foldl (c8 C) gr) x=false->∀y∈lean (sec C) x,bz (l.foldl (c8 C) gr) y=false
 |[],gr,_,_,_,x,m,_=>nomatch m
 |z::l,gr,hp,hr,k,x,m,hx=>λy my=>by
  obtain⟨YZ,vd⟩:=adU.mp hp;have hz:=hr z aat;have kz:Gr C.length (c8 C gr z):=(yY (l:=[z]) k λx m=>by rw[aaS.mp m];exact gX.mpr (by lia)).1;have rl:∀x∈l,x∈bf 1 C.length:=λx m=>by have:=hr x (aad _ m);exact gX.mpr (by lia)
  obtain⟨_,b,c⟩:=yY kz rl;rcases abG.mp m with rfl|m
  .cases e:bz ((x::l).foldl (c8 C) gr) y with
   |false=>rfl
   |true=>
    have yz:=(bd x y hz.1 hz.2 my).2;have lI:bz (c8 C gr x) x=false:=by
     cases q:bz (c8 C gr x) x with
     |false=>rfl
     |true=>rw[show bz ((x::l).foldl (c8 C) gr) x=true from b x q] at hx;cases hx
    have e0:bz (c8 C gr x) y=true:=by
     rcases c y e with q|q
     .exact q
     .have:=YZ y q;lia
    unfold c8 at lI e0
    split at lI
    .rename_i q;rw[q] at e0;have:=afb.mp q y my;exact absurd e0 this
    .rw[mH,abL rfl] at lI;cases lI
  .exact Cb bd vd (λx m=>hr x (aad _ m)) kz x m hx y my
theorem lay_ints(l:List Int):cM (iL l)=true:=by
 unfold cM;have c1:fS (iL l)=true:=by unfold iL;unfold fS;exact yQ _
 have c0:py (iL l)=.list (l.map PyData.int):=by unfold iL;unfold py;rw[uH]
 rw[c1,c0];have c2:(PyData.list (l.map PyData.int)).canLay0=true:=by simp only[PyData.canLay0];exact yy l
 have c3:(PyData.list (l.map PyData.int)).depth<=40:=by simp only[PyData.depth,depthAll_ints];lia
 rw[c2,abL c3];rfl
theorem V8(a b:List Int):PyData.eqv (py (iL a)) (py (iL b))=decide (a=b):=by
 have c:∀l,py (iL l)=.list (l.map PyData.int):=λl=>by unfold iL;unfold py;rw[uH]
 rw[c,c];simp only[PyData.eqv,Bl]
theorem Tt(a b:List Int):jD (iL a) (iL b)=some (.bl (!decide (a=b))):=by
 unfold jD;rw[lay_ints,lay_ints,V8];rfl
structure Gd(g:G):Prop where
 w1:1<=g.w/\g.w<=16
 h1:1<=g.h/\g.h<=8
 nt:1<=g.n/\g.n<=g.t/\g.t<=20
 gc:GoodC g.C
 row:Row g.C (g.ln++g.ld)
 nd:(g.ln++g.ld).Nodup
 lS:(g.ld.length:Int)<=g.w
 k7:∀x∈g.ln++g.ld,fR g x=false
 gr:Gr g.C.length g.gr
 run:∃v,eV [] (eW g.C (g.ln++g.ld))=some v
theorem Gd.len(k:Gd g):g.ln.length+g.ld.length<=60:=by
 have:=sub_len k.nd λx m=>gX.mpr (show 1<=x/\x<1+(g.C.length:Int) by have:=k.row x m;lia)
 rw[ju,ab9] at this;have:=k.gc.ln
 lia
theorem Nj:∀{a b} {v},(∃w,eV v (eW C (a++b))=some w)->∃w,eV v (eW C a)=some w
 |[],b,v,_=>⟨v,rfl⟩
 |x::a,b,v,⟨w,h⟩=>by
  have h:(if bad v (cG C x)=[] then eV (fW v (cG C x)) (eW C (a++b)) else none)=some w:=h;show ∃w,(if bad v (cG C x)=[] then eV (fW v (cG C x)) (eW C a) else none)=some w
  by_cases hb:bad v (cG C x)=[]
  .rw[if_pos hb] at h ⊢;exact Nj ⟨w,h⟩
  .rw[acZ hb] at h;cases h
theorem Gd.cut(k:Gd g){gr:List (Key×D)}(hp:ld <+: g.ld)(hg:Gr g.C.length gr)(hd:∀x∈g.ln++ld,bz gr x=false):Gd { g with ld:=ld,gr:=gr }:=by
 obtain⟨r,e⟩:=hp;have ea:g.ln++g.ld=(g.ln++ld)++r:=by rw[<- e,adT]
 refine⟨k.w1,k.h1,k.nt,k.gc,λx m=>k.row x (by rw[ea];exact abT _ m),?_,?_,hd,hg,Nj (by rw[<- ea];exact k.run)⟩
 .have:=k.nd;rw[ea] at this;exact(adE.mp this).1
 .have:=k.lS;rw[<- e,ab9] at this
  lia
theorem ne1:jD (bD o) (.int 1)=some (.bl (!decide (o=some 1))):=by
 cases o with
 |none=>kernel_rfl
 |some p=>
  show(if(cM (.int p)&&cM (.int 1))=true then some (D.bl (!PyData.eqv (py (.int p)) (py (.int 1)))) else none)=_;have e:cM (.int (p:Int))=true:=by unfold cM;simp[fS,py,PyData.canLay0,PyData.depth]
  have e1:cM (.int 1)=true:=by unfold cM;simp[fS,py,PyData.canLay0,PyData.depth]
  rw[e,e1];simp only[py,PyData.eqv,aeD,if_true]
  by_cases h:p=1
  .subst h;rfl
  .rw[adt (λz=>h (ads z)),show(((p:Int)==1)=false) from adR.mpr (by lia)]
theorem Py(hl:g.ln.length+g.ld.length<=900):tV (e2 jD (cE "Gate" "bad" yW (aj 0) aH) (eC (.int 1))) (some (gD g,.own)::s)=some (!decide (bR g=some 1)):=
 bQ (aP (jc rfl (El hl)) rfl ne1)
theorem IV(hl:g.ln.length+g.ld.length<=900)(h:bR g≠some 1):HW (gD g) []=some (.bl false,gD g):=by
 have ht:=Py hl (s:=[none]);rw[adt h] at ht;exact jS rfl (mz ht (ia rfl))
def kr(g:G):D:=.tup [.str "look",tD g.ln,tD (cI g 1),.str (wd g (cI g 1))]
theorem Nr:aA (kr g)=true:=by
 unfold kr tD;simp only[aA,aI,dY,aeD]
def YX(g:G)(x:Int):G:={ g with ld:=[],gr:=putD g.gr (Sum.inl x) (kr g) }
theorem LA(k:Gd g)(h:bR g=some 1)(hx:g.ld=x::r):HW (gD g) []=some (.bl true,gD (YX g x)):=by
 have hl:=k.len;have ht:=Py (g:=g) (by lia) (s:=[none]);rw[abL h] at ht;have h1:cE "Gate" "look_of" wD (aj 0) (au (eC (.int 1)) aH) [some (gD g,.own),none]=some (tD (cI g 1),.own):=pN rfl rfl (f_look (by rw[hx,adu];lia) (by lia));have e1:∃t,j_ (au (eC (.str "look")) (au (e1 yu (bS "Gate" "on_line" (aj 0))) (au (aj 1) (au (cE "Gate" "word_of" zk (aj 0) (au (aj 1) aH)) aH)))) [some (gD g,.own),some (tD (cI g 1),.own)]=some (kr g,t):=by
  rw[qo,aY,aY,aY,aY,bY (fl rfl) DY,pN rfl rfl BQ];exact⟨_,rfl⟩
 obtain⟨t,e1⟩:=e1;exact jS rfl (fH ht (sq (DQ h1) (sq (iY (Bc e1 (aP (fl rfl) rfl (vL (by rw[hx];exact KU) rfl)) rfl Nr k.gr.im (by have:=k.gr.len;have:=k.gc.ln;lia))) (sq (uD rfl rfl rfl rfl) rfl))))
theorem Nm:Ev.rj (bS "Gate" "laid_ones" (aj 0)) (some (gD g,.own)::s)=some (!g.ld.isEmpty):=by
 unfold Ev.rj;rw[fl rfl];cases g.ld<;>rfl
theorem Pn(h:g.ld≠[]):CV (gD g) []=some (.bl false,gD g):=by
 have ht:=Nm (g:=g) (s:=[none,none,none]);rw[show g.ld.isEmpty=false from List.isEmpty_eq_false_iff.mpr h] at ht;exact jS rfl (mz ht (ia rfl))
theorem DM(l:List Int):aA (xu l)=true:=by cases l<;>rfl
def jr(C:List Ch)(u:kY)(gr:List (Key×D))(x:Int):List (Key×D):=putD gr (Sum.inl x) (.tup [.str "unfit",xu (bad u (cG C x))])
theorem S9(g:GoodC C)(x:Int):JU [dS (nz v),eL (cG C x)]=some (xu (bad (i8 (nz v)) (cG C x))):=
 b8 rfl (cO (c_ (ps:=[(bU (i8 (nz v)),.own),(eL (cG C x),.sh [])]) (by rw[aY,aY,bY rfl Io];rfl) (Ct (g.ed x).ed (by lia) D.lst rfl)))
theorem K4{g:G}(gc:GoodC g.C):∀{l} {gr} {s3},Row g.C l->Gr g.C.length gr->∃xm,b_ (gN 3) (.sh [1]) (sJ 0 "Gate" "grounds" (aj 3) (j_ (au (eC (.str "unfit")) (au (cC JU (au (aj 2) (au (cE "Changes" "edits_of" yf (bS "Gate" "known" (aj 0)) (au (aj 3) aH)) aH))) aH)))) (l.map D.int) [some (gD { g with gr:=gr },.own),some (iL N,.lk),some (dS (nz v),.own),s3]=some (.nx [some (gD { g with gr:=l.foldl (jr g.C (i8 (nz v))) gr },.own),some (iL N,.lk),some (dS (nz v),.own),xm])
 |[],gr,s3,_,_=>⟨s3,rfl⟩
 |x::l,gr,s3,h,k=>by
  have hx:=h x aat;obtain⟨a,ih⟩:=K4 gc (gr:=jr g.C (i8 (nz v)) gr x) (λy m=>h y (aad _ m)) (k.put (gX.mpr (by lia)) (by simp only[aA,aI,DM,aeD]));refine⟨a,(mW (aF:=[some (gD { g with gr:=gr },.own),some (iL N,.lk),some (dS (nz v),.own),some (.int x,.sh [1])]) rfl ((Bc (g:={ g with gr:=gr }) (t:=.own) ?_ rfl rfl (by simp only[aA,aI,DM,aeD]) k.im (by have:=k.len;have:=gc.ln;show gr.length<=100;lia)).trans rfl)).trans ih⟩;rw[qo,aY,aY,c_ (by rw[aY,aY,Pj (fl rfl) rfl (z8 hx.1 hx.2)];rfl) (S9 gc x)];rfl
def dJ(g:G):List Int:=(wl g).filter (kO g.C g.ln)
theorem aaa(k:Gd g)(h:g.ld=[]):∃u,CV (gD g) []=some (.bl (!decide (dJ g=[])),gD { g with gr:=(dJ g).foldl (jr g.C u) g.gr }):=by
 have hl:=k.len;have gl:=k.gc.ln;have ht:=Nm (g:=g) (s:=[none,none,none]);rw[h] at ht;obtain⟨v,hv⟩:=k.run;rw[h,adD] at hv;have hw:=OV (g:=g);have h1:cC AQ (au (bS "Gate" "known" (aj 0)) (au (bS "Gate" "on_line" (aj 0)) (au (iN aH) (au (cE "Gate" "waiting" zx (aj 0) aH) aH)))) [some (gD g,.own),none,none,none]=some (iL (dJ g),.own):=
  c_ (by rw[aY,aY,aY,aY,jc rfl (Bh (by lia))];rfl) (by
   have:=Iu k.gc (a:=g.ln) (b:=[]) (by simp;lia) mh (by lia);rw[adD] at this;exact this)
 have h2:cE "Gate" "sheet" Ym (aj 0) aH [some (gD g,.own),some (iL (dJ g),.own),none,none]=some (dS (nz v),.own):=jc rfl (b8 rfl (cO (c_ rfl (Gh k.gc (λx m=>k.row x (abT _ m)) (by lia) hv).1)));obtain⟨s3,lp⟩:=K4 k.gc (λx m=>mh x (adz.mp m).1) k.gr;refine⟨i8 (nz v),jS rfl (fH ht (sq (DQ h1) (sq (DQ h2) (sq (ρ':=[some (gD { g with gr:=(dJ g).foldl (jr g.C (i8 (nz v))) g.gr },.own),some (iL (dJ g),.own),some (dS (nz v),.own),s3]) (iY ((se (iF rfl) lp).trans rfl)) ?_))))⟩;unfold sA;have:e2 jD (aj 1) (iN aH) [some (gD { g with gr:=(dJ g).foldl (jr g.C (i8 (nz v))) g.gr },.own),some (iL (dJ g),.own),some (dS (nz v),.own),s3]=some (.bl (!decide (dJ g=[])),.own):=aP (d2:=iL []) rfl rfl (Tt _ _);rw[this];rfl
theorem aai(hl:g.ln.length+g.ld.length<=900):tV (e2 gI (cE "Gate" "bad" yW (aj 0) aH) (eC .aB)) (some (gD g,.own)::s)=some (bR g).isNone:=
 bQ (aP (jc rfl (El hl)) rfl (by cases bR g<;>rfl))
theorem AB(h:f ρ=some (r,[some (gD g',.own)])):xQ f [0] ρ=some (.rt (.tup [r,gD g'])):=by
 unfold xQ;rw[h];rfl
theorem N4(h:f ρ=some (.bl false,ρ'))(h2:f2 ρ'=some (.bl b,aQ)):rT f f2 ρ=some (.bl b,aQ):=by
 unfold rT;rw[h];dsimp only;rw[h2]
theorem PL(h:f ρ=some (.bl true,ρ')):rT f f2 ρ=some (.bl true,ρ'):=by
 unfold rT;rw[h]
def Lf(g:G):Prop:=∀x∈wl g,∀y∈lean (sec g.C) x,fR g y=false
def Full(g:G):Prop:=g.w<=(g.ld.length:Int)\/∀x∈wl g,∀v,eV [] (eW g.C (g.ln++g.ld))=some v->kO g.C (g.ln++g.ld) x=true->gG g.C v x=false
structure Fin(g:G):Prop where
 lf:Lf g
 go:g.ht=false->bR g≠some 1/\(g.ld=[]->wl g=[])/\(bR g=none->Full g)
theorem aan(k:Gd g)(lf:Lf g)(hd:g.ld=[])(h:dJ g=[]):wl g=[]:=by
 cases e:wl g with
 |nil=>rfl
 |cons x r=>
  have mx:=e ▸ aat;have hx:=eE.mp mx;have:=afb.mp h x mx;refine absurd (adW.mpr λy my=>abL ?_) this;have hy:=k.gc.bd x y hx.1.1 hx.1.2 my;refine aek λn=>?_
  have Ny:=eE.mpr ⟨⟨hy.1,by omega⟩,n,(by rw[hd];exact adX),lf x mx y my⟩;rw[e] at Ny;have:=pI (g:=g);rw[e] at this;rcases abG.mp Ny with q|q
  .omega
  .have:=(adU.mp this).1 y q;omega
theorem O7:∀{l:List Int} {gr},Gr n gr->(∀x∈l,x∈bf 1 n)->Gr n (l.foldl (jr C u) gr)/\∀y,bz (l.foldl (jr C u) gr) y=(decide (y∈l)||bz gr y)
 |[],gr,k,_=>⟨k,λy=>rfl⟩
 |x::l,gr,k,h=>by
  obtain⟨a,b⟩:=O7 (gr:=jr C u gr x) (k.put (h x aat) (by simp only[aA,aI,DM,aeD])) λy m=>h y (aad _ m)
  refine⟨a,λy=>?_⟩;rw[ad9,b];unfold jr;rw[mH,<- Bool.or_assoc]
  congr 1
  rw[<- Bool.decide_or];exact ae8.mpr (by rw[abG];exact or_comm)
theorem Jo:∀{l:List Int} {gr},l.Nodup->(∀x∈l,bz gr x=false)->gr <+: l.foldl (jr C u) gr
 |[],gr,_,_=>aeM _
 |x::l,gr,nd,h=>by
  obtain⟨n1,n2⟩:=ado.mp nd;have h1:gr <+: jr C u gr x/\∀y∈l,bz (jr C u gr x) y=false:=by
   unfold jr;refine⟨by rw[Dg (h x aat)];exact List.prefix_append _ _,λy m=>?_⟩;rw[mH,h y (aad _ m),adt (show ¬y=x from λe=>n1 (e ▸ m))];rfl
  exact h1.1.trans (Jo n2 h1.2)
noncomputable def e_(g:G)(ex:List Int):G:={ g with ld:=g.ld++ex }
structure kD(g:G):Prop where
 so:(g.ln++g.ld).Pairwise (· < ·)
 be:∀x∈g.ln++g.ld,∀y∈wl g,x<y
def Nw(g:G)(p:Key×D):Prop:=∃x,p=(Sum.inl x,.tup [.str "look",tD g.ln,tD (g.ln++[x]),.str (wd g (g.ln++[x]))])/\bw (wd g (g.ln++[x]))=true
theorem kD.cut(s:kD g)(hp:ld <+: g.ld)(mo:∀x,bz g.gr x=true->bz gr x=true):kD { g with ld:=ld,gr:=gr }:=by
 obtain⟨t,e⟩:=hp;have s1:=s.so;rw[<- e,<- adT] at s1;obtain⟨p1,_,p3⟩:=aeO.mp s1;refine⟨p1,λx mx y my=>?_⟩;have hy:=eE.mp my
 by_cases q:y∈g.ld
 .rw[<- e] at q;exact p3 x mx y ((ada.mp q).resolve_left hy.2.2.1)
 .refine s.be x (by rw[<- e,<- adT];exact abT _ mx) y (eE.mpr ⟨hy.1,hy.2.1,q,?_⟩);cases z:fR g y with
  |false=>rfl
  |true=>
   have h:=hy.2.2.2;rw[show fR ({ g with ld:=ld,gr:=gr }:G) y=true from mo y z] at h;cases h
theorem kD.fill(s:kD g)(hp:ex <+: wl g):kD (e_ g ex):=by
 obtain⟨t,e⟩:=hp;have w:=pI (g:=g);rw[<- e] at w;obtain⟨p1,_,p3⟩:=aeO.mp w;have me:∀y∈ex,y∈wl g:=λy m=>e ▸ abT _ m
 refine⟨?_,λx mx y my=>?_⟩
 .show(g.ln++(g.ld++ex)).Pairwise (· < ·);rw[<- adT];exact aeO.mpr ⟨s.so,p1,λx mx y my=>s.be x mx y (me y my)⟩
 .have mx:x∈g.ln++(g.ld++ex):=mx;rw[<- adT] at mx;have hy:=eE.mp my;have h3:=hy.2.2.1;have yw:y∈wl g:=eE.mpr ⟨hy.1,hy.2.1,λq=>h3 (abT _ q),hy.2.2.2⟩;rcases ada.mp mx with m|m
  .exact s.be x m y yw
  .rw[<- e] at yw;exact p3 x m y ((ada.mp yw).resolve_left λq=>h3 (aaY _ q))
theorem Pl.lean{C:List Ch}{x:Int}(p:Pl C)(h:1<=x/\x<=(C.length:Int)):lean (sec C) x=[]:=by rw[<- pJ h.1 h.2,p.at h]
theorem Pl.fit{C:List Ch}{x:Int}(p:Pl C)(h:1<=x/\x<=(C.length:Int)):gG C v x=true:=by
 unfold gG cG;rw[p.at h];rfl
structure Up(g:G)(ld:List Int)(gr:List (Key×D)):Prop where
 gd:Gd { g with ld:=ld,gr:=gr }
 mo:∀x,bz g.gr x=true->bz gr x=true
 pf:g.gr <+: gr
 so:Pl g.C->kD g->kD { g with ld:=ld,gr:=gr }
 nw:Pl g.C->∀p∈gr,p∈g.gr\/Nw g p
abbrev nH(g:G)(gr:List (Key×D)):Prop:=∃x,bz gr x=true/\fR g x=false
theorem LW(k:Gd g)(hx:g.ld=x::r)(hb:bR g=some 1):Up g [] (putD g.gr (Sum.inl x) (kr g))/\nH g (putD g.gr (Sum.inl x) (kr g))/\cnt g.gr+1<=cnt (putD g.gr (Sum.inl x) (kr g)):=by
 have mx:=hx ▸ aat;have rx:=k.row x (aaY _ mx);have nw:putD g.gr (Sum.inl x) (kr g)=g.gr++[(Sum.inl x,kr g)]:=Dg (k.k7 x (aaY _ mx));refine⟨⟨k.cut List.nil_prefix (k.gr.put (gX.mpr (by lia)) Nr) λy m=>?_,(λy q=>by rw[mH,q,Bool.or_true]),by rw[nw];exact List.prefix_append _ _,(λ_ s=>s.cut List.nil_prefix λy q=>by rw[mH,q,Bool.or_true]),λ_ p m=>?_⟩,⟨x,by rw[mH,abL rfl];rfl,k.k7 x (aaY _ mx)⟩,by rw[nw,O2];exact acy _⟩
 .rw[adD] at m;rw[mH,show bz g.gr y=false from k.k7 y (abT _ m),adt λe=>(adE.mp k.nd).2.2 y m x mx e];rfl
 .rw[nw] at m;refine(ada.mp m).imp id λm=>?_
  have lk:cI g 1=g.ln++[x]:=by unfold cI;rw[hx];rfl
  have b:=(l7 hb).2.2.1;unfold gm at b;rw[lk] at b;rw[aaS.mp m];unfold kr;rw[lk];exact⟨x,rfl,b⟩
theorem TH(k:Gd g)(lf:Lf g):∃b ld gr,yX (gD g) []=some (.bl b,gD { g with ld:=ld,gr:=gr })/\Up g ld gr/\(b=true->nH g gr)/\(b=false->gr=g.gr/\(g.ht=false->Fin { g with ld:=ld,gr:=gr })/\(bR g≠none->ld=g.ld)/\(Full g->ld=g.ld))/\(Fin g->g.ht=false->b=false)/\(∀p,bR g=some p->p≠1->b=false)/\(bR g=some 1->cnt g.gr+1<=cnt gr):=by
 have hl:=k.len;have gl:=k.gc.ln;have ht:=aai (g:=g) (by lia) (s:=[]);cases hb:bR g with
 |some p=>
  rw[hb] at ht;have hm:=l7 hb;have gx:g.ld≠[]:=λe=>by rw[e] at hm;simp at hm;lia
  by_cases hp:p=1
  .subst hp;obtain⟨x,r,ex⟩:=afl gx;obtain⟨u,n,cn⟩:=LW k ex hb;exact⟨true,[],_,jS rfl (fH ht (AB (PL (xo rfl (LA k hb ex))))),u,(λ_=>n),(λe=>nomatch e),(λf h=>absurd hb (f.go h).1),(λp e np=>absurd (ads e).symm np),λ_=>cn⟩
  .have hn:bR g≠some 1:=by rw[hb];exact λz=>hp (ads z)
   exact⟨false,g.ld,g.gr,jS rfl (fH ht (AB (N4 (xo rfl (IV (by lia) hn)) (xo rfl (Pn gx))))),⟨k,λ_ q=>q,aeM _,λ_ s=>s,λ_ _ m=>.inl m⟩,(λe=>nomatch e),(λ_=>⟨rfl,λ_=>⟨lf,λ_=>⟨hn,λe=>absurd e gx,λe=>by rw[show bR g=none from e] at hb;cases hb⟩⟩,λ_=>rfl,λ_=>rfl⟩),(λ_ _=>rfl),(λ_ _ _=>rfl),λe=>absurd (ads e) hp⟩
 |none=>
  rw[hb] at ht;obtain⟨v,hv⟩:=k.run;have adq:=OV (g:=g);obtain⟨ex,hf,F⟩:=XY k.gc k.row mh CI (by lia) (by lia) hv;have hf:cC D8 (au (bS "Gate" "known" (aj 0)) (au (bS "Gate" "on_line" (aj 0)) (au (bS "Gate" "laid_ones" (aj 0)) (au (cE "Gate" "waiting" zx (aj 0) aH) (au (e2 cL (bS "Gate" "numbers" (aj 0)) (eC (.int 0))) aH))))) [some (gD g,.own)]=some (iL (g.ld++ex),.own):=
   c_ (ps:=[(obj g.C,.sh [0]),(iL g.ln,.sh [0]),(iL g.ld,.sh [0]),(iL (wl g),.own),(.int g.w,.own)]) (by rw[aY,aY,aY,aY,jc rfl (Bh (by lia))];rfl) hf
  have YF:Full g->ex=[]:=λfu=>by
    rcases fu with h|h
    .rcases F.le with q|q
     .have:=k.lS;rw[ab9] at q;exact ad1 (by lia)
     .exact q
    .cases ee:ex with
     |nil=>rfl
     |cons x r=>
      exact absurd (F.fst x r ee) λ⟨v,h1,h2,h3⟩=>by
       rw[h x (F.sub x (ee ▸ aat)) v h1 h2] at h3;cases h3
  have same:Full g->g.ld++ex=g.ld:=λfu=>by rw[YF fu,adD]
  have fg:Fin g->g.ht=false->e_ g ex=g:=λf h=>by
   unfold e_;rw[same ((f.go h).2.2 hb)]
  have k1:Gd (e_ g ex):=by
   refine⟨k.w1,k.h1,k.nt,k.gc,λx m=>?_,?_,?_,λx m=>?_,k.gr,let⟨v,h,_⟩:=F.run;⟨v,h⟩⟩
   .have m:x∈g.ln++(g.ld++ex):=m;rw[<- adT] at m;exact(ada.mp m).elim (k.row x) λm=>mh (g:=g) x (F.sub x m)
   .show(g.ln++(g.ld++ex)).Nodup;rw[<- adT];refine adE.mpr ⟨k.nd,F.nd,λa ma b mb e=>?_⟩;have:=eE.mp (F.sub b mb);exact(ada.mp ma).elim (λm=>this.2.1 (e ▸ m)) λm=>this.2.2.1 (e ▸ m)
   .show(((g.ld++ex).length:Nat):Int)<=g.w;rcases F.le with q|q
    .exact q
    .rw[q,adD];exact k.lS
   .have m:x∈g.ln++(g.ld++ex):=m;rw[<- adT] at m;exact(ada.mp m).elim (k.k7 x) λm=>(eE.mp (F.sub x m)).2.2.2
  have BC:∀x∈wl (e_ g ex),x∈wl g/\x∉ex:=λx m=>by
   have h:=eE.mp m;have h3:=h.2.2.1;exact⟨eE.mpr ⟨h.1,h.2.1,λq=>h3 (abT _ q),h.2.2.2⟩,λq=>h3 (aaY _ q)⟩
  have F5:Lf (e_ g ex):=λx m y my=>lf x (BC x m).1 y my
  have D0:Full (e_ g ex):=by
   obtain⟨v',r1,r2⟩:=F.run;rcases r2 with q|q
   .exact .inl q
   .refine .inr λx m v ic Xb=>?_
    obtain⟨m1,m2⟩:=BC x m;have ic:eV [] (eW g.C (g.ln++(g.ld++ex)))=some v:=ic;rw[r1] at ic;cases ic;exact q x m1 m2 Xb
  have EX:=k1.len;have st:jZ (vN 0 "Gate" "laid_ones" (cC D8 (au (bS "Gate" "known" (aj 0)) (au (bS "Gate" "on_line" (aj 0)) (au (bS "Gate" "laid_ones" (aj 0)) (au (cE "Gate" "waiting" zx (aj 0) aH) (au (e2 cL (bS "Gate" "numbers" (aj 0)) (eC (.int 0))) aH))))))) [some (gD g,.own)]=some (.nx [some (gD (e_ g ex),.own)]):=uD hf rfl rfl rfl
  by_cases h1:bR (e_ g ex)=some 1
  .have hm:=l7 h1;obtain⟨x,r,e1⟩:=afl (λe:(e_ g ex).ld=[]=>by rw[e] at hm;simp at hm);obtain⟨u,n,_⟩:=LW k1 e1 h1;exact⟨true,[],putD g.gr (Sum.inl x) (kr (e_ g ex)),jS rfl (sq (vJ ht st) (AB (PL (xo rfl (LA k1 h1 e1))))),⟨u.gd,u.mo,u.pf,λpl s=>u.so pl (s.fill (F.pre pl pI)),u.nw⟩,(λ_=>n),(λe=>nomatch e),(λf h=>by rw[fg f h,hb] at h1;cases h1),(λp e=>nomatch e),λe=>nomatch e⟩
  .have Mf:∀b gr,CV (gD (e_ g ex)) []=some (.bl b,gD { e_ g ex with gr:=gr })->yX (gD g) []=some (.bl b,gD { g with ld:=g.ld++ex,gr:=gr }):=λb gr h=>jS rfl (sq (vJ ht st) (AB (N4 (xo rfl (IV (by lia) h1)) (xo rfl h))))
   by_cases he:(e_ g ex).ld=[]
   .have ID:Pl g.C->dJ (e_ g ex)=[]:=λpl=>List.eq_nil_iff_forall_not_mem.mpr λx m=>by
     obtain⟨m1,m2⟩:=adz.mp m;obtain⟨v',ic⟩:=k1.run;rcases D0 with q|q
     .rw[he] at q;have:=k.w1;have q:g.w<=0:=q
      lia
     .have:=q x m1 v' ic (by rw[he,adD];exact m2);exact absurd ((pl.fit (v:=v') (mh (g:=e_ g ex) x m1)).symm.trans this) (by decide)
    obtain⟨u,h⟩:=aaa k1 he;obtain⟨a,b⟩:=O7 (l:=dJ (e_ g ex)) k1.gr λx m=>by have:=mh x (adz.mp m).1;exact gX.mpr (show 1<=x/\x<1+((e_ g ex).C.length:Int) by lia)
    refine⟨_,g.ld++ex,_,Mf _ _ h,⟨k1.cut (aeM _) a λx m=>?_,(λx q=>(b x).trans (by rw[show bz (e_ g ex).gr x=true from q,Bool.or_true])),Jo (CI.sublist ael) (λx m=>(eE.mp (adz.mp m).1).2.2.2),(λpl s=>by rw[ID pl];exact s.fill (F.pre pl pI)),λpl p m=>by rw[ID pl] at m;exact .inl m⟩,λe=>?_,λe=>?_,λf h=>?_,(λp e=>nomatch e),(λe=>nomatch e)⟩
    .rw[b,show bz (e_ g ex).gr x=false from k1.k7 x m,adt λq=>?_]
     .rfl
     .have:=eE.mp (adz.mp q).1;exact(ada.mp m).elim this.2.1 this.2.2.1
    .obtain⟨x,r,e1⟩:=afl (λz:dJ (e_ g ex)=[]=>by rw[z] at e;cases e);have mx:=e1 ▸ aat;exact⟨x,(b x).trans (by rw[abL mx];rfl),(eE.mp (BC x (adz.mp mx).1).1).2.2.2⟩
    .have e2:dJ (e_ g ex)=[]:=by simpa using e
     rw[e2];exact⟨rfl,λhh=>⟨F5,λ_=>⟨h1,λ_=>aan k1 F5 he e2,λ_=>D0⟩⟩,λz=>absurd rfl z,same⟩
    .have e3:=fg f h;rw[e3] at he;rw[e3,show dJ g=[] from(by unfold dJ;rw[(f.go h).2.1 he];rfl)];rfl
   .exact⟨false,g.ld++ex,g.gr,Mf _ _ (Pn he),⟨k1,λx q=>q,aeM _,λpl s=>s.fill (F.pre pl pI),λ_ _ m=>.inl m⟩,(λe=>nomatch e),(λ_=>⟨rfl,λhh=>⟨F5,λ_=>⟨h1,λe=>absurd e he,λ_=>D0⟩⟩,λz=>absurd rfl z,same⟩),(λ_ _=>rfl),(λp e=>nomatch e),λe=>nomatch e⟩
def iQ(g:G):G:={ g with lk:=j8 g }
abbrev cS:aO->Option (Bool×aO):=uB (kC (tV (bS "Gate" "halted" (aj 0)))) (tZ (xO 0 "Gate" "put_out_more" yX aH))
theorem JR:kC (tV (bS "Gate" "halted" (aj 0))) [some (gD g,.own)]=some (!g.ht):=kN (bQ (fl rfl))
theorem Td(h:g.ht=true):cS [some (gD g,.own)]=some (false,[some (gD g,.own)]):=by
 have:=JR (g:=g);rw[h] at this;unfold cS uB;rw[this];rfl
theorem Xe(h:f ρ=some (.bl b,ρ')):tZ f ρ=some (b,ρ'):=by unfold tZ;rw[h]
theorem Kz(h:g.ht=false)(hm:yX (gD g) []=some (.bl b,gD g1)):cS [some (gD g,.own)]=some (b,[some (gD g1,.own)]):=by
 have:=JR (g:=g);rw[h] at this;refine Eq.trans ?_ (Xe (xo (ρ:=[some (gD g,.own)]) (m:="put_out_more") rfl hm));unfold cS uB;rw[this];rfl
theorem Iw(h:c ρ=some (false,aF)):jT c f (n+1) ρ=some (.nx aF):=by rw[jT,h]
theorem abc(h:c ρ=some (true,aF))(h2:f aF=some (.nx aQ)):jT c f (n+1) ρ=jT c f n aQ:=by
 rw[jT,h];dsimp only;rw[h2]
theorem NQ(k:Gd g):sZ (xO 0 "Gate" "put_out_leaning" ya aH) [some (gD g,.own)]=some (.nx [some (gD (fX g),.own)]):=by
 unfold sZ;rw[xo rfl (VE k.gc k.gr)];rfl
theorem UI(m:x∈wl g):x∈bf 1 g.C.length:=(adz.mp m).1
theorem wY(k:Gd g)(lf:Lf g):fX g=g:=by
 have:∀l:List Int,(∀x∈l,x∈wl g)->l.foldl (c8 g.C) g.gr=g.gr:=λl=>by
  induction l with
  |nil=>intro _;rfl
  |cons x l ih=>
   intro h;have e:c8 g.C g.gr x=g.gr:=by
    unfold c8;rw[show gone g.C g.gr x=[] from afb.mpr λy my=>by rw[show bz g.gr y=false from lf x (h x aat) y my];exact abR]
   rw[ad9,e];exact ih λy m=>h y (aad _ m)
 unfold fX;rw[this (wl g) λx m=>m]
theorem BJ(k:Gd g):Up g g.ld (fX g).gr/\Lf (fX g):=by
 obtain⟨a,b,c⟩:=yY k.gr λx m=>UI m
 have sub:∀x∈wl (fX g),x∈wl g:=λx m=>by
  have h:=eE.mp m;refine eE.mpr ⟨h.1,h.2.1,h.2.2.1,?_⟩;cases q:fR g x with
  |false=>rfl
  |true=>rw[show fR (fX g) x=true from b x q] at h;cases h.2.2.2
 refine⟨⟨k.cut (aeM _) a λx m=>?_,b,LM CI (λx m=>(eE.mp m).2.2.2),(λ_ s=>s.cut (aeM _) b),λpl p m=>.inl (by rwa [wY k λx mx y my=>by rw[pl.lean (mh x mx)] at my;cases my] at m)⟩,λx m y my=>Cb k.gc.bd pI mh k.gr x (sub x m) (eE.mp m).2.2.2 y my⟩;cases q:bz (fX g).gr x with
 |false=>rfl
 |true=>
  rcases c x q with q|q
  .rw[show bz g.gr x=false from k.k7 x m] at q;cases q
  .have:=eE.mp q;exact((ada.mp m).elim this.2.1 this.2.2.1).elim
theorem LL(k:Gd g)(h:¬Lf g):nH g (fX g).gr:=by
 have⟨x,hx⟩:=afn.mp h;have⟨mx,hx⟩:=afn.mp hx;have⟨y,hy⟩:=afn.mp hx;have⟨my,hy⟩:=afn.mp hy;obtain⟨u,_⟩:=BJ k;refine⟨x,?_,(eE.mp mx).2.2.2⟩;cases q:bz (fX g).gr x with
 |true=>rfl
 |false=>
  have h1:=Cb k.gc.bd pI mh k.gr x mx q y my;rw[show bz ((wl g).foldl (c8 g.C) g.gr) y=true from u.mo y (by simpa using hy)] at h1;cases h1
theorem Up.trans(a:Up g ld gr)(b:Up { g with ld:=ld,gr:=gr } Uk Q4):Up g Uk Q4:=⟨b.gd,λx q=>b.mo x (a.mo x q),a.pf.trans b.pf,λpl s=>b.so pl (a.so pl s),λpl p m=>(b.nw pl p m).elim (a.nw pl p) .inr⟩
def pO(g:G):Nat:=((bf 1 g.C.length).filter λx=>!fR g x).length
theorem Ej:(bf a n).Nodup:=(yg a n).imp λh=>by lia
theorem acY(mo:∀x,bz g.gr x=true->bz gr x=true):pO { g with ld:=ld,gr:=gr }<=pO g:=sub_len (Ej.sublist ael) λx m=>by
 obtain⟨m1,m2⟩:=adz.mp m;refine adz.mpr ⟨m1,?_⟩;cases q:fR g x with
 |false=>rfl
 |true=>rw[show fR ({ g with ld:=ld,gr:=gr }:G) x=true from mo x q] at m2;cases m2
theorem Sd(u:Up g ld gr)(n:nH g gr):pO { g with ld:=ld,gr:=gr } < pO g:=by
 obtain⟨x,h1,h2⟩:=n;have:=sub_len (l:=x::(bf 1 g.C.length).filter λx=>!bz gr x) (m:=(bf 1 g.C.length).filter λx=>!fR g x) (ado.mpr ⟨(λm=>by have:=(adz.mp m).2;rw[h1] at this;cases this),Ej.sublist ael⟩) λy m=>by
  rcases abG.mp m with rfl|m
  .exact adz.mpr ⟨u.gd.gr.bd h1,by rw[h2];rfl⟩
  .obtain⟨m1,m2⟩:=adz.mp m;refine adz.mpr ⟨m1,?_⟩;cases q:fR g y with
   |false=>rfl
   |true=>rw[u.mo y q] at m2;cases m2
 exact this
theorem Q6(m n:Nat)(g:G)(hm:pO g<=m)(hn:m<n)(k:Gd g)(lf:Lf g)(hh:g.ht=false):∃ld gr,jT cS (sZ (xO 0 "Gate" "put_out_leaning" ya aH)) n [some (gD g,.own)]=some (.nx [some (gD { g with ld:=ld,gr:=gr },.own)])/\Up g ld gr/\Fin { g with ld:=ld,gr:=gr }/\(nH g gr\/gr=g.gr/\(bR g≠none->ld=g.ld)/\(Full g->ld=g.ld))/\(Fin g->gr=g.gr/\ld=g.ld)/\(∀p,bR g=some p->p≠1->ld=g.ld)/\(bR g=some 1->cnt g.gr+1<=cnt gr):=by
 induction n generalizing m g with
 |zero=>omega
 |succ n ih=>
  obtain⟨b,ld,gr,e,u,ht,hf,hs,Bx,qf⟩:=TH k lf;cases b with
  |false=>
   obtain⟨f1,f2,f3,f4⟩:=hf rfl;refine⟨ld,gr,Iw (Kz hh e),u,f2 hh,.inr ⟨f1,f3,f4⟩,λf=>⟨f1,?_⟩,(λp e _=>f3 (by rw[e];exact λz=>by cases z)),λe=>by have:=qf e;rw[f1] at this;omega⟩;cases hb:bR g with
   |none=>exact f4 ((f.go hh).2.2 hb)
   |some p=>exact f3 (by rw[hb];exact λz=>by cases z)
  |true=>
   have nw:=ht rfl;have l1:=Sd u nw;obtain⟨u2,lf2⟩:=BJ u.gd;cases m with
   |zero=>omega
   |succ m=>
    have l2:=acY (ld:=ld) u2.mo;obtain⟨Vc,Tr,e3,u3,f3,_⟩:=ih m (fX { g with ld:=ld,gr:=gr }) (ad5 l2 (by omega)) (by omega) u2.gd lf2 hh;have u4:=(u.trans u2).trans u3;refine⟨Vc,Tr,(abc (Kz hh e) (NQ u.gd)).trans e3,u4,f3,.inl ?_,(λf=>absurd (hs f hh) (by decide)),(λp e np=>absurd (Bx p e np) (by decide)),λe=>ad5 (qf e) (Eg (u2.pf.trans u3.pf))⟩;obtain⟨x,h1,h2⟩:=nw;exact⟨x,u3.mo x (u2.mo x h1),h2⟩
theorem acz(k:Gd g):∃ld gr,p_ (gD g) []=some (.aB,gD (iQ { g with ld:=ld,gr:=gr }))/\Up g ld gr/\Fin { g with ld:=ld,gr:=gr }/\(g.ht=true->ld=g.ld)/\(nH g gr\/gr=g.gr/\(bR g≠none->ld=g.ld)/\(Full g->ld=g.ld))/\(Fin g->gr=g.gr/\ld=g.ld)/\(∀p,bR g=some p->p≠1->ld=g.ld)/\(bR g=some 1->g.ht=false->cnt g.gr+1<=cnt gr):=by
 obtain⟨u,lf⟩:=BJ k;have fin:∀{ld} {gr},Up g ld gr->jT cS (sZ (xO 0 "Gate" "put_out_leaning" ya aH)) 4000 [some (gD (fX g),.own)]=some (.nx [some (gD { g with ld:=ld,gr:=gr },.own)])->p_ (gD g) []=some (.aB,gD (iQ { g with ld:=ld,gr:=gr })):=λ{ld gr} u e=>by
  have hl:=u.gd.len;have hl:=hl;exact vz rfl (sq (iY (NQ k)) (sq (iY e) (uD (jc rfl (Xh (by show g.ln.length+ld.length<=900;lia) (by show ld.length<64;lia) (by have:=k.h1;show g.h<=60;lia))) rfl rfl rfl))) rfl
 have old:(∀z,nH (fX g) z->nH g z):=λz ⟨x,h1,h2⟩=>⟨x,h1,by
  cases q:fR g x with
  |false=>rfl
  |true=>rw[show fR (fX g) x=true from u.mo x q] at h2;cases h2⟩
 by_cases hh:g.ht=true
 .refine⟨g.ld,(fX g).gr,fin u (Iw (Td hh)),u,⟨lf,λh=>by rw[show g.ht=true from hh] at h;cases h⟩,λ_=>rfl,?_,λf=>?_,λ_ _ _=>rfl,λ_ h=>by rw[hh] at h;cases h⟩
  .by_cases l:Lf g
   .exact .inr ⟨by rw[wY k l],λ_=>rfl,λ_=>rfl⟩
   .exact .inl (LL k l)
  .rw[wY k f.lf];exact⟨rfl,rfl⟩
 .have hh:g.ht=false:=by simpa using hh
  have nl:pO (fX g)<=60:=by
   have:=aep (λx=>!fR (fX g) x) (bf 1 g.C.length);rw[ju] at this;have:=k.gc.ln;unfold pO;show((bf 1 g.C.length).filter λx=>!fR (fX g) x).length<=60
   lia
  obtain⟨ld,gr,e,u3,f3,d,s,n1,n2⟩:=Q6 60 4000 (fX g) nl (by lia) u.gd lf hh;refine⟨ld,gr,fin (u.trans u3) e,u.trans u3,f3,(λh=>by rw[hh] at h;cases h),?_,λf=>?_,n1,λe _=>ad5 (Nat.add_le_add_right (Eg u.pf) 1) (n2 e)⟩
  .by_cases l:Lf g
   .rw[wY k l] at d;exact d
   .obtain⟨x,h1,h2⟩:=LL k l;exact .inl ⟨x,u3.mo x h1,h2⟩
  .rw[wY k f.lf] at s;exact s f
theorem U_(h:fv ρ=some (.int j,t))(h0:ρ[0]? = some (some (gD g,.own)))(hl:(gF g).lookup f=some (.int i))(e:dw f (.int (i+j)) (gF g)=gF g'):jZ (Aa 0 "Gate" f fv) ρ=some (.nx (bB ρ 0 (gD g'))):=by
 refine iY ?_;unfold Aa;rw[h,h0];show(if("Gate":Str)="Gate"/\(gF g).length<1000 then(match(gF g).lookup f with|some (.int k)=>some (Out.nx (bB ρ 0 (.ins "Gate" (dw f (.int (k+j)) (gF g)))))|_=>none) else none)=_;rw[if_pos ⟨rfl,by show 12<1000;decide⟩,hl];dsimp only;rw[e];rfl
theorem ME(h0:ρ[0]? = some (some (gD g,.own)))(h:F (gD g) []=some (r,gD g'))(hm:(gF g).lookup m=none:=by rfl):jZ (sZ (xO 0 "Gate" m F aH)) ρ=some (.nx (bB ρ 0 (gD g'))):=iY (by
 unfold sZ;rw[xo h0 h hm];rfl)
noncomputable def jK(g:G)(c:Ch):G:={ g with C:=g.C++[c] }
theorem T7(hl:l.length<=100)(hE:E.length<=100)(hm:uK g.C.length q l E=true)(hC:g.C.length<60)(h:p_ (gD (jK g (q,l,E))) []=some (.aB,gD g3)):Hs (gD g) [.int q,iL l,eL E]=some (.int (g.C.length+1),gD g3):=by
 have h1:A9 0 "Gate" "known" "Changes" "added" z7 (au (aj 1) (au (aj 2) (au (aj 3) aH))) [some (gD g,.own),some (.int q,.sh []),some (iL l,.sh []),some (eL E,.sh []),none]=some (.int (g.C.length+1),[some (gD (jK g (q,l,E)),.own),some (.int q,.sh []),some (iL l,.sh []),some (eL E,.sh []),none]):=by
  show(if("Gate":Str)="Gate"/\("Changes":Str)="Changes"/\([("entries",D.lst (g.C.map ent))]:List (Str×D)).lookup ("added":Str)=none/\apart 0 [(.int q,.sh []),(iL l,.sh []),(eL E,.sh [])]=true then(z7 (obj g.C) [.int q,iL l,eL E]).map _ else none)=_;rw[if_pos ⟨rfl,rfl,rfl,rfl⟩,Qv hl hE hm hC];rfl
 refine jS rfl (sq (ρ':=[some (gD (jK g (q,l,E)),.own),some (.int q,.sh []),some (iL l,.sh []),some (eL E,.sh []),some (.int (g.C.length + 1),.own)]) (iY (by
  show(match A9 0 "Gate" "known" "Changes" "added" z7 (au (aj 1) (au (aj 2) (au (aj 3) aH))) [some (gD g,.own),some (.int q,.sh []),some (iL l,.sh []),some (eL E,.sh []),none] with|some (d,ρ')=>some (Out.nx (h_ ρ' 4 d .own))|none=>none)=_;rw[h1];rfl)) (sq (ME rfl h) rfl))
abbrev hd(ta:Ta)(L:List Int):List Str:=(jb ta L).getD []
theorem Sn{L:List Int}:(aW (mO n t ta) (kL L)).getD (tob n t [])=tob n t (hd ta L):=by
 rw[KS];unfold hd;cases jb ta L<;>rfl
theorem abp{L:List Int}:putD (mO n t ta) (kL L) (tob n t h)=mO n t (gp ta L h):=Jk (λ_ _=>qC)
theorem abn{L:List Int}(hL:L≠[])(k:Gd g)(tn:(g.ta.map (·.1)).Nodup)(tl:g.ta.length<=5000)(hw:w∈(["yes","no","unsure"]:List Str))(hm:word g.n g.t (hd g.ta L)="more"):
  sC "Gate" "tallies" "Tally" "tell" (oz "Tally" As (au (e2 cL (bS "Gate" "numbers" (aj 0)) (eC (.int 2))) (au (e2 cL (bS "Gate" "numbers" (aj 0)) (eC (.int 3))) aH))) IW [some (gD g,.own),some (tD L,.sh []),some (.str w,.sh []),none,none] =
   some (.nx [some (gD { g with ta:=gp g.ta L (hd g.ta L++[w]) },.own),some (tD L,.sh []),some (.str w,.sh []),none,some (.str (word g.n g.t (hd g.ta L++[w])),.own)]):=by
 have e1:oz "Tally" As (au (e2 cL (bS "Gate" "numbers" (aj 0)) (eC (.int 2))) (au (e2 cL (bS "Gate" "numbers" (aj 0)) (eC (.int 3))) aH)) [some (gD g,.own),some (tD L,.sh []),some (.str w,.sh []),none,none]=some (tob g.n g.t [],.own):=by
  show(match As (.ins "Tally" []) [.int g.n,.int g.t] with|some (.aB,d)=>some (d,Tag.own)|_=>none)=_;rw[acI k.nt]
 have n1:((mO g.n g.t g.ta).map (·.1)).Nodup:=by
  unfold mO;rw[adG,show((λkv:List Key×D=>kv.1) ∘ λp:List Int×List Str=>(kL p.1,tob g.n g.t p.2))=kL ∘ (·.1) from rfl,<- adG];unfold List.Nodup at tn ⊢;rw[aeB];exact tn.imp λq e=>q (qC e)
 refine(aam rfl rfl rfl rfl rfl (qU _) e1 Sn (VT hw hm (by have:=Vt hm;have:=k.nt;lia)) ⟨rfl,by unfold kL;rw[afM];exact adW.mpr λ_ _=>rfl,λz=>hL (List.map_eq_nil_iff.mp z),n1,size_le (by unfold mO;rw[List.length_map];lia),rfl⟩).trans ?_;rw[abp];rfl
def ck(g:G)(L:List Int)(w:Str):G:={ g with ta:=gp g.ta L (hd g.ta L++[w]),an:=g.an+1,en:=if(word g.n g.t (hd g.ta L++[w]) == "more")=true then g.en else g.en++[.tup [tD L,.str (word g.n g.t (hd g.ta L++[w]))]] }
def kX(g:G)(L:List Int):G:={ g with ld:=g.ld.drop (L.length-g.ln.length),ln:=L,gw:=g.gw++[L] }
theorem Kn(L:List (List Int)):aI (cK L)=true:=rq.mpr λd m=>by
 obtain⟨l,_,rfl⟩:=adp.mp m;exact dY l
theorem V_{L:List Int}(h1:g.ln.length<=L.length)(h2:L.length<=g.ln.length+g.ld.length)(hg:g.gw.length<=5000):rN (gD g) [tD L]=some (.aB,gD (kX g L)):=by
 have c:z_ (bS "Gate" "laid_ones" (aj 0)) (e2 kq (e1 dR (aj 1)) (e1 dR (bS "Gate" "on_line" (aj 0)))) [some (gD g,.own),some (tD L,.sh [])]=some (iL (g.ld.drop (L.length-g.ln.length)),.own):=by
  have e1:e2 kq (e1 dR (aj 1)) (e1 dR (bS "Gate" "on_line" (aj 0))) [some (gD g,.own),some (tD L,.sh [])]=some (.int ((L.length-g.ln.length:Nat):Int),.own):=aP (bY rfl (by show some (D.int (L.map D.int).length)=_;rw[List.length_map])) (bY (fl rfl) (by show some (D.int (g.ln.map D.int).length)=_;rw[List.length_map])) (by show some (D.int (_-_))=_;rw[Int.natCast_sub h1]);unfold z_;rw[fl rfl,e1];show(if aI (g.ld.map D.int)=true then some (D.lst (cutD (g.ld.map D.int) (some ((L.length-g.ln.length:Nat):Int)) none),Tag.own) else none)=_;rw[if_pos (dY _),PU (by rw[List.length_map];lia),<- List.map_drop];rfl
 refine vz rfl (sq (uD c rfl rfl rfl) (sq (uD (g:={ g with ld:=g.ld.drop (L.length - g.ln.length) }) (bY rfl KC) rfl rfl rfl) (iY ((AI (es:=gF { g with ld:=g.ld.drop (L.length - g.ln.length),ln:=L }) rfl rfl rfl ?_).trans (by
  have:gD (kX g L)=.ins "Gate" (dw "grown" (.lst (cK g.gw++[tD L])) (gF { g with ld:=g.ld.drop (L.length-g.ln.length),ln:=L })):=by
   unfold gD gF kX cK;rw[adQ];rfl
  rw[<- this]))))) rfl
 rw[Kn,show aA (tD L)=true from dY L,abL (size_le (by unfold cK;rw[List.length_map];lia))];rfl
def pF(g:G)(L:List Int)(w:Str):G:=if(word g.n g.t (hd g.ta L++[w]) == "yes")=true then kX (ck g L w) L else ck g L w
theorem Vw{L:List Int}(hk:L∈g.lk)(hL:L≠[])(k:Gd g)(tn:(g.ta.map (·.1)).Nodup)(tl:g.ta.length<=5000)(hw:w∈(["yes","no","unsure"]:List Str))(hm:word g.n g.t (hd g.ta L)="more")(em:aI g.en=true)(el:g.en.length<=5000)(gl:g.gw.length<=5000)(h1:g.ln.length<=L.length)(h2:L.length<=g.ln.length+g.ld.length)
  (hs:p_ (gD (pF g L w)) []=some (.aB,gD g3)):JF (gD g) [tD L,.str w]=some (.str (word g.n g.t (hd g.ta L++[w])),gD g3):=by
 generalize ew:word g.n g.t (hd g.ta L++[w])=u;have ft:=abn hL k tn tl hw hm;rw[ew] at ft;have hu:∀g':G,jZ (sZ (xO 0 "Gate" "grow" rN (au (aj 1) aH))) [some (gD g',.own),some (tD L,.sh []),some (.str w,.sh []),none,some (.str u,.own)]=(rN (gD g') [tD L]).map λv=>.nx [some (v.2,.own),some (tD L,.sh []),some (.str w,.sh []),none,some (.str u,.own)]:=λg'=>by
  show jZ (λρ=>(xO 0 "Gate" "grow" rN (au (aj 1) aH) ρ).map λw=>.nx w.2) _=_;have:xO 0 "Gate" "grow" rN (au (aj 1) aH) [some (gD g',.own),some (tD L,.sh []),some (.str w,.sh []),none,some (.str u,.own)]=(rN (gD g') [tD L]).map λv=>(v.1,bB [some (gD g',.own),some (tD L,.sh []),some (.str w,.sh []),none,some (.str u,.own)] 0 v.2):=by
   show(if("Gate":Str)="Gate"/\(gF g').lookup ("grow":Str)=none/\apart 0 [(tD L,.sh [])]=true then _ else none)=_;rw[if_pos ⟨rfl,rfl,rfl⟩];rfl
  unfold jZ;dsimp only;rw[this];cases rN (gD g') [tD L]<;>rfl
 refine jS rfl (fH (bQ (aP rfl (fl rfl) ((OI true L g.lk).trans (by rw[abL hk];rfl)))) (sq ft (sq (ρ':=[some (gD { g with ta:=gp g.ta L (hd g.ta L++[w]),an:=g.an+1 },.own),some (tD L,.sh []),some (.str w,.sh []),none,some (.str u,.own)]) (U_ rfl rfl rfl rfl) (sq (ρ':=[some (gD (ck g L w),.own),some (tD L,.sh []),some (.str w,.sh []),none,some (.str u,.own)]) ?_ (sq (ρ':=[some (gD (pF g L w),.own),some (tD L,.sh []),some (.str w,.sh []),none,some (.str u,.own)]) ?_ (sq (ME rfl hs) rfl))))))
 .have ht:tV (e2 iG (aj 4) (eC (.str "more"))) [some (gD { g with ta:=gp g.ta L (hd g.ta L++[w]),an:=g.an+1 },.own),some (tD L,.sh []),some (.str w,.sh []),none,some (.str u,.own)]=some (!(u == "more")):=rfl;unfold ck;rw[ew];cases e:(u==("more":Str)) with
  |true=>rw[e] at ht;rw[iC,ht];rfl
  |false=>
   rw[e] at ht;refine vJ ht (iY ((AI (d:=.tup [tD L,.str u]) rfl rfl rfl ?_).trans ?_))
   .have:aA (.tup [tD L,.str u])=true:=by unfold tD;simp only[aA,aI,dY,aeD]
    rw[this,em,abL (size_le (by lia))];rfl
   .rfl
 .have ht:tV (e2 oEq (aj 4) (eC (.str "yes"))) [some (gD (ck g L w),.own),some (tD L,.sh []),some (.str w,.sh []),none,some (.str u,.own)]=some (u == "yes"):=rfl;unfold pF;rw[ew];cases e:(u==("yes":Str)) with
  |true=>
   rw[e] at ht;refine vJ ht ((hu (ck g L w)).trans ?_);rw[V_ (g:=ck g L w) h1 h2 gl];rfl
  |false=>rw[e] at ht;rw[iC,ht];rfl
theorem acv(n t:Int)(h:List Str):word n t h="yes"\/bw (word n t h)=true\/word n t h="more":=by
 unfold word
 split
 .exact .inl rfl
 .split
  .exact .inr (.inl rfl)
  .split
   .exact .inr (.inl rfl)
   .exact .inr (.inr rfl)
theorem JY(h:1<=n/\n<=t/\t<=20):word n t []="more":=by
 unfold word;rw[acZ (by show ¬((0:Nat):Int) >= n;omega),acZ (by show ¬((0:Nat):Int) >= n;omega),acZ (by show ¬((0:Nat):Int) >= t;omega)]
theorem nh(k:Gd g)(l:List Int):wd g l=word g.n g.t (hd g.ta l):=by
 unfold wd hd;cases jb g.ta l with
 |none=>exact(JY k.nt).symm
 |some h=>rfl
structure Gt(k:Nat)(g:G):Prop where
 tn:(g.ta.map (·.1)).Nodup
 tl:g.ta.length<=k
 yl:∀l,word g.n g.t (hd g.ta l)="yes"->l.length<=g.ln.length
 em:aI g.en=true
 el:g.en.length<=k
 gl:g.gw.length<=k
 lg:g.gw.getLastD []=g.ln
 st:g.ht=true->g.ld=[]
 ll:(g.lk.length:Int)<=g.h
structure Lk(g:G)(ps:List Int):Prop where
 ri:kJ (eo g) ps
 ge:lim (eo g) g.h<=ps.length
 le:(ps.length:Int)<=g.h
 eq:g.lk=ps.map λp=>cI g p.toNat
structure Gi(k:Nat)(g:G):Prop where
 gd:Gd g
 gt:Gt k g
 fin:Fin g
 E4:∃ps,Lk g ps
theorem nV(h:p<=g.ld.length):(cI g p).length=g.ln.length+p:=by
 unfold cI;rw[ab9,aft];lia
theorem WD(k:Gd g)(hl:(g.lk.length:Int)<=g.h):Lk (iQ g) (lK g):=by
 have hk:(ie g).length<=g.lk.length:=by
  have:=sub_len (l:=(ie g).map λp=>cI g p.toNat) (m:=g.lk) ?_ λl m=>?_
  .rwa [List.length_map] at this
  .unfold List.Nodup;rw[aeB];refine oS.1.imp_of_mem λ{a b} ma mb lt e=>?_
   have:=congrArg List.length e;have ha:=(oS).2.1 a ma;have hb:=(oS).2.1 b mb;rw[nV (by lia),nV (by lia)] at this
   lia
  .obtain⟨p,mp,rfl⟩:=adp.mp m;exact abd ((abm _ _).mp (adz.mp mp).2).1
 have hi:(i7 (eo g) (ie g)).length<=(ie g).length:=aep _ _;have hh:=k.h1;obtain⟨a,b⟩:=NW (aR:=g.h) 100 (i7 (eo g) (ie g)) (by lia);exact⟨(Mi (g:=g)).1,a,b (by lia),rfl⟩
theorem settled(gd:Gd g)(gt:Gt k g):∃ld gr,p_ (gD g) []=some (.aB,gD (iQ { g with ld:=ld,gr:=gr }))/\Gi k (iQ { g with ld:=ld,gr:=gr })/\Up g ld gr/\(nH g gr\/gr=g.gr/\(bR g≠none->ld=g.ld)/\(Full g->ld=g.ld))/\(Fin g->gr=g.gr/\ld=g.ld)/\(∀p,bR g=some p->p≠1->ld=g.ld)/\(bR g=some 1->g.ht=false->cnt g.gr+1<=cnt gr):=by
 obtain⟨ld,gr,e,u,f,h,d,s⟩:=acz gd;have L:=WD (g:={ g with ld:=ld,gr:=gr }) u.gd gt.ll;have v:=u.gd;refine⟨ld,gr,e,⟨⟨v.w1,v.h1,v.nt,v.gc,v.row,v.nd,v.lS,v.k7,v.gr,v.run⟩,⟨gt.tn,gt.tl,gt.yl,gt.em,gt.el,gt.gl,gt.lg,λq=>(h q).trans (gt.st q),?_⟩,⟨f.lf,f.go⟩,_,L⟩,u,d,s⟩;rw[L.eq,List.length_map];exact L.le
theorem Gi.mem(i:Gi k g)(m:l∈g.lk):∃p:Nat,1<=p/\(p:Int)<eo g/\p<=g.ld.length/\l=cI g p/\word g.n g.t (hd g.ta l)="more":=by
 obtain⟨ps,L⟩:=i.E4;rw[L.eq] at m;obtain⟨x,mx,rfl⟩:=adp.mp m;have hx:=L.ri.bd x mx;have he:=Ah (g:=g);have hp:x.toNat<=g.ld.length:=by omega
 refine⟨x.toNat,by omega,by omega,hp,rfl,?_⟩;have nb:gm g x.toNat=false:=by
  cases e:bR g with
  |none=>exact Ce.mp e _ (by omega) hp
  |some q=>
   refine(l7 e).2.2.2 _ (by omega) ?_;unfold eo nR at hx;rw[e] at hx;have:x<(q:Int):=hx.2;omega
 unfold gm at nb;rw[nh i.gd] at nb;rcases acv g.n g.t (hd g.ta (cI g x.toNat)) with h|h|h
 .have:=i.gt.yl _ h;rw[nV hp] at this;omega
 .rw[h] at nb;cases nb
 .exact h
theorem Gd.re(k:Gd g)(ta:Ta)(lk:List (List Int))(ht:Bool)(gw:List (List Int))(en:List D)(an br:Int):Gd { g with ta:=ta,lk:=lk,ht:=ht,gw:=gw,en:=en,an:=an,br:=br }:=⟨k.w1,k.h1,k.nt,k.gc,k.row,k.nd,k.lS,k.k7,k.gr,k.run⟩
theorem oR{L l:List Int}:hd (gp ta L h) l=if l=L then h else hd ta l:=by
 unfold hd jb
 by_cases e:l=L
 .rw[if_pos e,e,MB];rfl
 .rw[acZ e,PX e]
theorem Sz[DecidableEq κ]{es:List (κ×α)}:(gp es q d).length<=es.length+1:=by
 unfold gp
 split
 .rw[List.length_map];lia
 .rw[ab9];exact acy _
theorem VG{a b:List Int}(ha:a.Pairwise (· < ·))(hb:b.Pairwise (· < ·))(h:∀x,x∈a↔x∈b):a=b:=by
 have p:=(List.perm_ext_iff_of_nodup (ha.imp λh=>by lia) (hb.imp λh=>by lia)).mpr h;exact(u_ p (ha.imp λh=>by lia)).trans (u_ (List.Perm.refl _) (hb.imp λh=>by lia)).symm
noncomputable abbrev yS:List Str:=["yes"]
noncomputable abbrev nS:List Str:=["no"]
noncomputable def bl(q:Nat):Nat:=if q=0 then 0 else if q<2 then 1 else if q<4 then 2 else if q<8 then 3 else if q<16 then 4 else 5
theorem Eu(h:a<=b):bl a<=bl b:=by
 unfold bl
 repeat' split
 all_goals lia
theorem R6(h:2<=q)(h2:q<=16):bl (q / 2)+1=bl q:=by
 unfold bl
 repeat' split
 all_goals lia
theorem G8(h:1<=q):1<=bl q:=Eu (a:=1) h
def f6(g:G):Int:=bl g.w.toNat
noncomputable def jn(g:G):Int:=(g.en.length:Int)-g.gw.length
def jd(g:G):Int:=f6 g*(cnt g.gr:Int)
theorem AE(k:Gd g):1<=f6 g:=by
 have h1:=k.w1;have:=G8 (q:=g.w.toNat) (by lia);unfold f6;lia
def m7(ta:Ta):Ta:=ta.filter λq=>q.2==nS
def Ok(ta:Ta)(p:Key×D):Prop:=∃x l,l.length<=60/\p=(Sum.inl x,.tup [.str "look",tD l,tD (l++[x]),.str "no"])/\hd ta (l++[x])=nS/\(l=[]\/hd ta l=yS)
structure Cc(g:G):Prop where
 h1:g.h=1
 n1:g.n=1
 t1:g.t=1
 pl:Pl g.C
 ht:g.ht=false
 gw:g.gw.length<=g.ln.length
 so:kD g
 tw:∀q∈g.ta,q.2=yS\/q.2=nS
 te:g.ta.length=g.en.length
 ty:((m7 g.ta).length:Int)=jn g
 gk:∀p∈g.gr,Ok g.ta p
 lo:g.ln=[]\/hd g.ta g.ln=yS
def Di(g:G)(lk:List (List Int)):Prop:=jn g<=jd g\/∃q,bR g=some q/\jn g<=jd g+(f6 g-bl q+1)/\(q≠1->lk=[cI g (q / 2)])
theorem CG{m a b:Int}(hm:0<=m)(h:a<=b):m*a<=m*b:=Int.mul_le_mul_of_nonneg_left h hm
theorem Di.w(c:Di g lk)(k:Gd g):jn g<=jd g+f6 g:=by
 have:=AE k;rcases c with h|⟨q,hb,h,_⟩
 .lia
 .have:=G8 (l7 hb).1;lia
theorem ade{ta:Ta}(tw:∀q∈ta,q.2=yS\/q.2=nS)(l:List Int):hd ta l=[]\/hd ta l=yS\/hd ta l=nS:=by
 unfold hd jb gv;cases e:ta.find? λkv=>decide (kv.1=l) with
 |none=>exact .inl rfl
 |some q=>exact .inr (tw q (ad4 e))
theorem Ox{ta:Ta}{L:List Int}(tw:∀q∈ta,q.2=yS\/q.2=nS)(h:hd ta L=[]):gp ta L d=ta++[(L,d)]:=by
 unfold gp;refine acZ λz=>?_
 obtain⟨q,mq,e⟩:=adS.mp z;unfold hd jb gv at h;cases e:ta.find? λkv=>decide (kv.1=L) with
 |none=>exact aet.mp e q mq (by assumption)
 |some q=>
  rw[e] at h;have h:q.2=[]:=h;rcases tw q (ad4 e) with z|z<;>rw[h] at z<;>cases z
theorem Ok.put{L:List Int}(h:Ok ta p)(hn:hd ta L=[]):Ok (gp ta L d) p:=by
 obtain⟨x,l,e0,e,h1,h2⟩:=h;refine⟨x,l,e0,e,?_,h2.imp id λh2=>?_⟩
 .rw[oR,acZ λz=>?_]
  .exact h1
  .rw[z,hn] at h1;cases h1
 .rw[oR,acZ λz=>?_]
  .exact h2
  .rw[z,hn] at h2;cases h2
theorem Cc.wd(c:Cc g)(v:Gd g)(l:List Int):hd g.ta l=[]/\wd g l="more"\/hd g.ta l=yS/\wd g l="yes"\/hd g.ta l=nS/\wd g l="no":=by
 rw[nh v,c.n1,c.t1];rcases ade c.tw l with h|h|h
 .exact .inl ⟨h,by rw[h];rfl⟩
 .exact .inr (.inl ⟨h,by rw[h];rfl⟩)
 .exact .inr (.inr ⟨h,by rw[h];rfl⟩)
theorem Cw(v:Gd g)(t:Gt k g)(c:Cc g)(hd:Di g (j8 g)):∃ld gr,p_ (gD g) []=some (.aB,gD (iQ { g with ld:=ld,gr:=gr }))/\Gi k (iQ { g with ld:=ld,gr:=gr })/\Cc (iQ { g with ld:=ld,gr:=gr })/\Di (iQ { g with ld:=ld,gr:=gr }) (j8 { g with ld:=ld,gr:=gr }):=by
 obtain⟨ld,gr,e,i',u,_,_,n1,n2⟩:=settled v t;have s:=u.so c.pl c.so;refine⟨ld,gr,e,i',⟨c.h1,c.n1,c.t1,c.pl,c.ht,c.gw,⟨s.so,s.be⟩,c.tw,c.te,c.ty,λp m=>?_,c.lo⟩,?_⟩
 .refine(u.nw c.pl p m).elim (c.gk p) λ⟨x,e,b⟩=>⟨x,g.ln,?_⟩
  rcases c.wd v (g.ln++[x]) with⟨h,q⟩|⟨h,q⟩|⟨h,q⟩
  .rw[q] at b;exact absurd b (by decide +kernel)
  .rw[q] at b;exact absurd b (by decide +kernel)
  .rw[q] at e;exact⟨by have:=v.len;lia,e,h,c.lo⟩
 have mp:=AE v;have cm:=Eg u.pf;have up:jd g<=jd (iQ { g with ld:=ld,gr:=gr }):=CG (by lia) (by show(cnt g.gr:Int)<=(cnt gr:Int);lia);rcases hd with h|⟨q,hb,h,hk⟩
 .exact .inl (afL h up)
 .by_cases h1:q=1
  .subst h1;have n2:=n2 hb c.ht;refine .inl (afL h ?_);have:f6 g*((cnt g.gr:Int)+1)<=f6 g*(cnt gr:Int):=CG (by lia) (by lia);rw[Int.mul_add,Int.mul_one] at this;show jd g+(f6 g-((1:Nat):Int)+1)<=f6 g*(cnt gr:Int);have:jd g=f6 g*(cnt g.gr:Int):=rfl
   lia
  .have el:=n1 q hb h1;subst el;exact .inr ⟨q,hb,afL h (Int.add_le_add_right up _),hk⟩
theorem Ub{g:G}(K:Lk g ps)(hm:∀l∈g.lk,wd g l="more"):j8 g=g.lk:=by
 have ek:=VG oS.1 K.ri.so λx=>by
  have hx:kp g (cI g x.toNat)=decide (cI g x.toNat∈g.lk/\wd g (cI g x.toNat)="more"):=by
   unfold kp;rw[Bool.decide_and]
   congr 1
  unfold ie;rw[adz,hx,afI,gX];have adL:=Ah (g:=g);constructor
  .rintro⟨h1,h2,_⟩
   rw[K.eq] at h2;obtain⟨y,my,ey⟩:=adp.mp h2;have hy:=K.ri.bd y my;have:=congrArg List.length ey;rw[nV (by lia),nV (by lia)] at this;have:x=y:=by lia
   exact this ▸ my
  .intro mx;have hx:=K.ri.bd x mx;have ml:cI g x.toNat∈g.lk:=by rw[K.eq];exact adp.mpr ⟨x,mx,rfl⟩
   exact⟨⟨hx.1,by lia⟩,ml,hm _ ml⟩
 unfold j8;have:lK g=ps:=by
  unfold lK W;show gO _ _ (eo g) g.h 100 (i7 (eo g) (ie g))=ps;rw[ek,show i7 (eo g) ps=ps from List.filter_eq_self.mpr λx m=>abL (K.ri.bd x m).2];exact Nz K.ge
 rw[this];exact K.eq.symm
theorem LV(hb:bR g=some q)(hq:2<=q)(h1:g.h=1)(hk:∀l∈g.lk,wd g l≠"more"):j8 g=[cI g (q / 2)]:=by
 have ek:ie g=[]:=afb.mpr λx _ z=>by
  obtain⟨a,b⟩:=(abm _ _).mp z;exact hk _ (abd a) (eq_of_beq b)
 have ep:lK g=[(q:Int) / 2]:=by
  unfold lK W nR;rw[ek,hb,h1];show gO g.ld.length (some (q:Int)) (q:Int) 1 100 []=_;have hl:lim (q:Int) 1=1:=by unfold lim;split<;>lia
  have hn:jB (g.ld.length:Int) (some (q:Int)) (q:Int) []=[(q:Int) / 2]:=by
   have hb:best (0,0) (pairs (fence [] (q:Int)))=(0,(q:Int)):=by
    show best (if(0:Int)-0<(q:Int)-0 then(0,(q:Int)) else(0,0)) []=_;rw[if_pos (by lia)];rfl
   have hm:mid (fence [] (q:Int))=(q:Int) / 2:=by
    show((best (0,0) (pairs (fence [] (q:Int)))).1+(best (0,0) (pairs (fence [] (q:Int)))).2) / 2=_;rw[hb];rw[Int.zero_add]
   show cB [mid (fence [] (q:Int))]=_;rw[hm];rfl
  unfold gO;rw[hl,if_pos (by show((0:Nat):Int)<1;lia),hn];exact Nz (by rw[hl];show(1:Int)<=((1:Nat):Int);lia)
 unfold j8;rw[ep];show[cI g ((q:Int) / 2).toNat]=_;rw[show((q:Int) / 2).toNat=q / 2 by lia]
theorem LU(h1:1<=p)(h2:p<=g.ld.length)(h3:gm g p=true)(h4:∀q,1<=q->q<p->gm g q=false):bR g=some p:=by
 cases e:bR g with
 |none=>rw[Ce.mp e p h1 h2] at h3;cases h3
 |some q=>
  obtain⟨a,b,c,d⟩:=l7 e;rcases Nat.lt_trichotomy q p with h|h|h
  .rw[h4 q a h] at c;cases c
  .rw[h]
  .rw[d p h1 h] at h3;cases h3
structure Gc(n:Nat)(c:Ch):Prop where
 ee:Ee c.2.2
 bd:∀x∈c.2.1,1<=x/\x<=(n:Int)
 few:c.2.1.length<=60
 ok:uK n c.1 c.2.1 c.2.2=true
section
variable{C:List Ch}{c:Ch}{m:Int}
theorem MH(h1:1<=m)(h2:m<=(C.length:Int)):ch (C++[c]) m=ch C m:=by
 unfold ch;rw[aej (by omega)]
theorem WU(h1:1<=m)(h2:m<=(C.length:Int)):lean (sec (C++[c])) m=lean (sec C) m:=by
 rw[<- pJ h1 (by rw[ab9,adY];lia),MH h1 h2,pJ h1 h2]
theorem Ee.nil:Ee []:=⟨⟨.nil,adZ _⟩,.nil,λp m=>nomatch m⟩
theorem Zg(g:GoodC C)(k:Gc C.length c)(hl:C.length<60):GoodC (C++[c]):=by
 have at_:∀(Q:Ch->Prop),Q (0,[],[])->Q c->(∀m,Q (ch C m))->∀m,Q (ch (C++[c]) m):=λQ q0 qc h m=>by
  unfold ch;rw[List.getElem?_append]
  split
  .exact h m
  .cases e:([c]:List Ch)[(m-1).toNat-C.length]? with
   |none=>exact q0
   |some x=>
    have:=aeN e;rw[aaS.mp this];exact qc
 refine⟨by rw[ab9,adY];lia,λm=>at_ (λc=>Ee c.2.2) Ee.nil k.ee (λm=>g.ed m) m,λm x h1 h2 mx=>?_,λm=>?_⟩
 .rw[ab9,adY] at h2
  by_cases h3:m<=(C.length:Int)
  .rw[WU h1 h3] at mx;exact g.bd m x h1 h3 mx
  .have e:(ch (C++[c]) m)=c:=by
    unfold ch;rw[show(m-1).toNat=C.length by lia,aex (acy _),Nat.sub_self];rfl
   rw[<- pJ h1 (by rw[ab9,adY];lia),e] at mx;have:=k.bd x mx
   lia
 .by_cases h1:1<=m
  .by_cases h2:m<=((C++[c]).length:Int)
   .rw[<- pJ h1 h2];refine at_ (λc=>c.2.1.length<=60) (adZ _) k.few (λm=>?_) m;unfold ch;cases e:C[(m-1).toNat]? with
    |none=>exact adZ _
    |some x=>
     have cN:=(adO.mp e).1;have:=g.few (((m-1).toNat:Int)+1);rw[<- pJ (by lia) (by lia)] at this;unfold ch at this;rw[show((((m-1).toNat:Int)+1-1).toNat)=(m-1).toNat by lia,e] at this;exact this
   .unfold lean;rw[if_pos h1,afe (by rw[List.length_map];lia)];exact adZ _
  .unfold lean;rw[acZ h1];exact adZ _
theorem SV(h:Row C row):eW (C++[c]) row=eW C row:=aeA λx m=>by
 unfold cG;rw[MH (h x m).1 (h x m).2]
end
noncomputable abbrev c4:Ch:=(4,[],[])
theorem P6(i:Gi k g)(cn:Cc g)(di:Di g g.lk)(hl:g.C.length<60):∃ld gr,Hs (gD g) [.int 4,iL [],eL []]=some (.int (g.C.length+1),gD (iQ { jK g c4 with ld:=ld,gr:=gr }))/\Gi k (iQ { jK g c4 with ld:=ld,gr:=gr })/\Cc (iQ { jK g c4 with ld:=ld,gr:=gr })/\Di (iQ { jK g c4 with ld:=ld,gr:=gr }) (iQ { jK g c4 with ld:=ld,gr:=gr }).lk:=by
 have v:=i.gd;have lc:(g.C++[c4]).length=g.C.length+1:=by rw[ab9];rfl
 have v':Gd (jK g c4):=⟨v.w1,v.h1,v.nt,Zg v.gc ⟨Ee.nil,(λ_ m=>nomatch m),adZ _,rfl⟩ hl,(λx m=>by have:=v.row x m;show 1<=x/\x<=(((g.C++[c4]).length:Nat):Int);rw[lc];lia),v.nd,v.lS,v.k7,⟨v.gr.im,v.gr.nd,(λq m=>by
  obtain⟨x,e,mx⟩:=v.gr.ks q m;have:=gX.mp mx;exact⟨x,e,gX.mpr (show 1<=x/\x<1+(((g.C++[c4]).length:Nat):Int) by rw[lc];lia)⟩),v.gr.tp⟩,by
  obtain⟨w,h⟩:=v.run;exact⟨w,(congrArg (eV []) (SV v.row)).trans h⟩⟩
 have t:=i.gt;obtain⟨ps,K⟩:=i.E4;have so:kD (jK g c4):=⟨cn.so.so,λx mx y my=>by
  have hy:=eE.mp my;have r:=v.row x mx
  by_cases q:y<=(g.C.length:Int)
  .exact cn.so.be x mx y (eE.mpr ⟨⟨hy.1.1,q⟩,hy.2⟩)
  .lia⟩
 have pl:Pl (jK g c4).C:=λc m=>(ada.mp m).elim (cn.pl c) aaS.mp
 obtain⟨ld,gr,e,i',c',d'⟩:=Cw v' ⟨t.tn,t.tl,t.yl,t.em,t.el,t.gl,t.lg,t.st,t.ll⟩ ⟨cn.h1,cn.n1,cn.t1,pl,cn.ht,cn.gw,so,cn.tw,cn.te,cn.ty,cn.gk,cn.lo⟩ (by
  have ek:j8 (jK g c4)=g.lk:=Ub (g:=jK g c4) ⟨K.ri,K.ge,K.le,K.eq⟩ λl m=>by
   obtain⟨_,_,_,_,_,h⟩:=i.mem m;exact(nh i.gd l).trans h
  rw[ek];exact di)
 exact⟨ld,gr,T7 (l:=[]) (E:=[]) (by decide) (by decide) rfl hl e,i',c',d'⟩
theorem len_one{l:List (List Int)}{L:List Int}(m:L∈l)(h:(l.length:Int)<=1):l=[L]:=by
 cases l with
 |nil=>cases m
 |cons a r=>
  cases r with
  |nil=>rw[aaS.mp m]
  |cons b r=>simp only[adu] at h;lia
theorem acG{L:List Int}{w:Str}:(m7 (ta++[(L,[w])])).length=(m7 ta).length+if w="no" then 1 else 0:=by
 unfold m7;rw[afD,ab9]
 congr 1
 by_cases h:w="no"
 .rw[h];rfl
 .rw[acZ h,aeQ (by simpa using h)];rfl
theorem UW{w:Str}(i:Gi k g)(c:Cc g)(dd:Di g g.lk)(hk:k<=4000){L:List Int}(hL:L∈g.lk)(hw:w="yes"\/w="no"):∃g',JF (gD g) [tD L,.str w]=some (.str w,gD g')/\Gi (k+1) g'/\Cc g'/\Di g' g'.lk/\g'.ta=g.ta++[(L,[w])]/\g'.C=g.C/\g'.w=g.w:=by
 obtain⟨p,p1,p2,p3,eL,hm⟩:=i.mem hL;have wU:L.length=g.ln.length+p:=by rw[eL,nV p3]
 have nL:L≠[]:=λe=>by rw[e] at wU;simp at wU;lia
 have t:=i.gt;have v:=i.gd;have mp:=AE v;have hn:hd g.ta L=[]:=by
  rcases c.wd v L with h|⟨_,h⟩|⟨_,h⟩
  .exact h.1
  .rw[nh v,hm] at h;exact absurd h (by decide +kernel)
  .rw[nh v,hm] at h;exact absurd h (by decide +kernel)
 have rZ:word g.n g.t (hd g.ta L++[w])=w:=by
  rw[hn,c.n1,c.t1];rcases hw with rfl|rfl<;>rfl
 have nw:(w==("more":Str))=false:=by rcases hw with rfl|rfl<;>rfl
 have eta:gp g.ta L (hd g.ta L++[w])=g.ta++[(L,[w])]:=by rw[hn];exact Ox c.tw hn
 have Ji:(ck g L w).en=g.en++[.tup [tD L,.str w]]:=by
  unfold ck;dsimp only;rw[rZ,nw];rfl
 have fa:=λ(g3:G) (hs:p_ (gD (pF g L w)) []=some (.aB,gD g3))=>rZ ▸ Vw hL nL v t.tn (ad5 t.tl (by lia)) (by rcases hw with rfl|rfl<;>simp) hm t.em (ad5 t.el (by lia)) (ad5 t.gl (by lia)) (by lia) (by lia) hs
 have Pq:aI (ck g L w).en=true:=by
  rw[Ji];refine rq.mpr λd m=>?_
  rcases ada.mp m with m|m
  .exact rq.mp t.em d m
  .rw[aaS.mp m];unfold tD;simp only[aA,aI,dY,aeD]
 have Dq:(ck g L w).en.length=g.en.length+1:=by rw[Ji,ab9];rfl
 have IE:(ck g L w).en.length<=k+1:=by have:=t.el;lia
 have OD:(ck g L w).ta.length<=k+1:=ad5 Sz (by have:=t.tl;lia);have NK:((ck g L w).ta.map (·.1)).Nodup:=NT t.tn;have v1:Gd (ck g L w):=v.re _ g.lk g.ht g.gw _ _ g.br;have L3:∀q∈(ck g L w).ta,q.2=yS\/q.2=nS:=λq m=>by
  have m:q∈gp g.ta L (hd g.ta L++[w]):=m;rw[eta] at m;rcases ada.mp m with m|m
  .exact c.tw q m
  .rw[aaS.mp m];exact hw.imp (λe=>by rw[e]) λe=>by rw[e]
 have G6:(ck g L w).ta.length=(ck g L w).en.length:=by
  rw[Dq,<- c.te];show(gp g.ta L (hd g.ta L++[w])).length=_;rw[eta,ab9];rfl
 have MQ:((m7 (ck g L w).ta).length:Int)=jn g+if w="no" then 1 else 0:=by
  show((m7 (gp g.ta L (hd g.ta L++[w]))).length:Int)=_;rw[eta,acG,<- c.ty]
  split<;>lia
 have IT:∀p∈g.gr,Ok (ck g L w).ta p:=λp m=>(c.gk p m).put hn
 have uS:∀l,wd (ck g L w) l=if l=L then w else wd g l:=λl=>by
  rw[nh v1,nh v];show word g.n g.t (hd (gp g.ta L (hd g.ta L++[w])) l)=_;rw[oR]
  split
  .exact rZ
  .rfl
 have ne:∀r:Nat,r<=g.ld.length->r≠p->cI g r≠L:=λr hr hn e=>by
  have:=congrArg List.length e;rw[nV hr] at this
  lia
 have one:g.lk=[L]:=len_one hL (c.h1 ▸ t.ll);have pq:∀{q},bR g=some q->p<q:=λ{q} a=>by
  unfold eo nR at p2;rw[a] at p2;have p2:(p:Int)<(q:Int):=p2
  lia
 rcases hw with rfl|rfl
 .have e2:pF g L "yes"=kX (ck g L "yes") L:=by unfold pF;rw[rZ];rfl
  have dp:L.length-g.ln.length=p:=by lia
  have ea:L++g.ld.drop (L.length-g.ln.length)=g.ln++g.ld:=by rw[dp,eL];unfold cI;rw[adT,List.take_append_drop]
  have v2:Gd (kX (ck g L "yes") L):=by
   refine⟨v.w1,v.h1,v.nt,v.gc,?_,?_,?_,?_,v.gr,?_⟩
   .show Row g.C (L++g.ld.drop (L.length-g.ln.length));rw[ea];exact v.row
   .show(L++g.ld.drop (L.length-g.ln.length)).Nodup;rw[ea];exact v.nd
   .show((g.ld.drop (L.length-g.ln.length)).length:Int)<=g.w;rw[List.length_drop];have:=v.lS;lia
   .show ∀x∈L++g.ld.drop (L.length-g.ln.length),fR g x=false;rw[ea];exact v.k7
   .show ∃v,eV [] (eW g.C (L++g.ld.drop (L.length-g.ln.length)))=some v;rw[ea];exact v.run
  have so:kD (kX (ck g L "yes") L):=by
   refine⟨?_,?_⟩
   .show(L++g.ld.drop (L.length-g.ln.length)).Pairwise (· < ·);rw[ea];exact c.so.so
   .show ∀x∈L++g.ld.drop (L.length-g.ln.length),_;rw[ea];intro x mx y my;have hy:=eE.mp my;have ny:y∉L++g.ld.drop (L.length-g.ln.length):=λm=>(ada.mp m).elim hy.2.1 hy.2.2.1
    rw[ea] at ny;exact c.so.be x mx y (eE.mpr ⟨hy.1,λm=>ny (abT _ m),λm=>ny (aaY _ m),hy.2.2.2⟩)
  have no:jn (kX (ck g L "yes") L)=jn g:=by
   unfold jn;show((ck g L "yes").en.length:Int)-((g.gw++[L]).length:Nat)=_;rw[Dq,ab9];show((g.en.length+1:Nat):Int)-((g.gw.length+1:Nat):Int)=_
   lia
  obtain⟨ld,gr,e,i',c',d'⟩:=Cw v2 ⟨NK,OD,(λl hl=>by
   have hl:word g.n g.t (hd (gp g.ta L (hd g.ta L++yS)) l)="yes":=hl;rw[oR] at hl;show l.length<=L.length
   split at hl
   .rename_i q;rw[q];exact acy _
   .have:=t.yl l hl;lia),Pq,IE,(by show(g.gw++[L]).length<=k+1;rw[ab9];have:=t.gl;simp;lia),(by show(g.gw++[L]).getLastD []=L;rw[List.getLastD_concat]),(λq=>by
   have:=c.ht;rw[show g.ht=true from q] at this;cases this),t.ll⟩ ⟨c.h1,c.n1,c.t1,c.pl,c.ht,(by
    show(g.gw++[L]).length<=L.length;rw[ab9];have:=c.gw;show g.gw.length+1<=_
    lia),so,L3,G6,(by rw[no];exact MQ.trans (Int.add_zero _)),IT,.inr (by
    show hd (gp g.ta L (hd g.ta L++yS)) L=_;rw[oR,if_pos rfl,hn];rfl)⟩ (by
   unfold Di;rw[no];rcases dd with h|⟨q,a,b,d⟩
   .exact .inl h
   .obtain⟨b1,b2,b3,b4⟩:=l7 a;have pq:=pq a;have Xm:∀j:Nat,cI (kX (ck g L "yes") L) j=cI g (p+j):=λj=>by
     show L++(g.ld.drop (L.length-g.ln.length)).take j=g.ln++g.ld.take (p+j);rw[dp,List.take_add,<- adT];rw[eL];rfl
    have Oa:∀j:Nat,1<=j->p+j<=g.ld.length->gm (kX (ck g L "yes") L) j=gm g (p+j):=λj h1 h2=>by
     unfold gm;rw[Xm];show bw (wd (ck g L "yes") (cI g (p+j)))=_;rw[uS,acZ (ne _ h2 (by lia))]
    have hb:bR (kX (ck g L "yes") L)=some (q-p):=by
     refine LU (by lia) ?_ ?_ λr r1 r2=>?_
     .show q-p<=(g.ld.drop (L.length-g.ln.length)).length;rw[List.length_drop];lia
     .rw[Oa _ (by lia) (by lia),show p+(q-p)=q by lia];exact b3
     .rw[Oa _ r1 (by lia)];exact b4 _ (by lia) (by lia)
    refine .inr ⟨q-p,hb,?_,λn1=>LV hb (by lia) c.h1 λl m=>?_⟩
    .have:=Eu (show q-p<=q by lia);show jn g<=jd g+(f6 g-bl (q-p)+1)
     lia
    .have m:l∈g.lk:=m;rw[one] at m;rw[aaS.mp m];show wd (ck g L "yes") L≠"more";rw[uS,if_pos rfl]
     decide +kernel)
  exact⟨_,fa _ (by rw[e2];exact e),i',c',d',eta,rfl,rfl⟩
 .have e2:pF g L "no"=ck g L "no":=by
   unfold pF;rw[rZ];rfl
  have t1:Gt (k + 1) (ck g L "no"):=⟨NK,OD,(λl hl=>by
   have hl:word g.n g.t (hd (gp g.ta L (hd g.ta L++nS)) l)="yes":=hl;rw[oR] at hl
   split at hl
   .rw[rZ] at hl;exact absurd hl (by decide +kernel)
   .exact t.yl l hl),Pq,IE,(by have:=t.gl;show g.gw.length<=k+1;lia),t.lg,t.st,t.ll⟩
  have no:jn (ck g L "no")=jn g+1:=by
   unfold jn;rw[Dq];show((g.en.length+1:Nat):Int)-(g.gw.length:Int)=_
   lia
  have nb:∀r:Nat,1<=r->r<p->gm g r=false:=λr r1 r2=>by
   cases e:bR g with
   |none=>exact Ce.mp e r r1 (by lia)
   |some q=>exact(l7 e).2.2.2 r r1 (by have:=pq e;lia)
  have hb:bR (ck g L "no")=some p:=by
   refine LU p1 p3 ?_ λr r1 r2=>?_
   .unfold gm;rw[uS,if_pos (show cI (ck g L "no") p=L from eL.symm)];rfl
   .unfold gm;show bw (wd (ck g L "no") (cI g r))=false;rw[uS,acZ (ne r (by lia) (by lia))];exact nb r r1 r2
  have pw:p<=g.w.toNat:=by have:=v.lS;lia
  have di:Di (ck g L "no") (j8 (ck g L "no")):=by
   refine .inr ⟨p,hb,?_,λn1=>LV hb (by lia) c.h1 λl m=>?_⟩
   .rw[no];show jn g+1<=jd g+(f6 g-bl p+1);rcases dd with h|⟨q,a,b,d⟩
    .have:=Eu pw;have:(bl p:Int)<=f6 g:=by unfold f6;lia
     lia
    .have pq:=pq a;have:bl p+1<=bl q:=by
      have hl:=d (by lia);rw[one] at hl;have hl:L=cI g (q / 2):=(List.cons.inj hl).1;have q2:=(l7 a).2.1;have:=congrArg List.length hl;rw[nV (by lia)] at this;have ep:p=q / 2:=by lia
      rw[ep];have:=v.lS;have:=v.w1;rw[R6 (by lia) (by lia)];exact acy _
     lia
   .have m:l∈g.lk:=m;rw[one] at m;rw[aaS.mp m,uS,if_pos rfl]
    decide +kernel
  obtain⟨ld,gr,e,i',c',d'⟩:=Cw v1 t1 ⟨c.h1,c.n1,c.t1,c.pl,c.ht,c.gw,⟨c.so.so,c.so.be⟩,L3,G6,by rw[no];exact MQ,IT,c.lo.imp id λh=>by
   show hd (gp g.ta L (hd g.ta L++nS)) g.ln=_;rw[oR,acZ λz=>?_]
   .exact h
   .rw[z,hn] at h;cases h⟩ di
  exact⟨_,fa _ (by rw[e2];exact e),i',c',d',eta,rfl,rfl⟩
def Wq(Q:Out->Prop)(o:Option Out):Prop:=∃r,o=some r/\Q r
section
variable{Q:Out->Prop}{ρ ρ':aO}{f:EF}{tf:TF}{sf sg:SF}{d:D}{t:Tag}{i j:Nat}{b:Bool}
theorem m_(h:sf ρ=some (.nx ρ'))(k:Wq Q (sg ρ')):Wq Q (bH sf sg ρ):=let⟨x,e,p⟩:=k;⟨x,sq h e,p⟩
theorem oG(h:f ρ=some (d,t))(k:Wq Q (sg (h_ ρ i d t))):Wq Q (bH (dO i f) sg ρ):=m_ (by rw[r6,h];rfl) k
theorem o_(ρ':aO)(k:Wq Q (sg ρ'))(e:ρ=ρ':=by rfl):Wq Q (sg ρ):=e ▸ k
theorem Ii(h:tf ρ=some b)(h1:b=true->Wq Q (sf ρ))(h2:b=false->Wq Q (sg ρ)):Wq Q (c9 tf sf sg ρ):=by
 rw[iC,h];cases b with
 |true=>exact h1 rfl
 |false=>exact h2 rfl
theorem U4(I:Nat->aO->Prop)(h0:I 0 ρ)(st:∀j ρ d,ds[j]? = some d->I j ρ->∃aF,g d t ρ=some aF/\Wq (λr=>∃aQ,r=.nx aQ/\I (j+1) aQ) (sf aF)):∃ρ',b_ g t sf ds ρ=some (.nx ρ')/\I ds.length ρ':=by
 obtain⟨ρ',lp,h⟩:=Ng I h0 (λj ρ d hd h=>by
  rw[afw] at h ⊢;obtain⟨aF,e1,_,e2,aQ,rfl,h2⟩:=st j ρ d hd h;exact⟨aF,aQ,e1,.inl e2,h2⟩)
 rw[afw] at h;exact⟨ρ',lp,h⟩
theorem S5(I:Nat->aO->Prop)(hi:it ρ=some ((bf a n).map D.int,.own))(h0:I 0 ρ)(st:∀j ρ,j<n->I j ρ->∃aF,gN x (.int (a+j)) (.sh []) ρ=some aF/\Wq (λr=>∃aQ,r=.nx aQ/\I (j+1) aQ) (sf aF))(k:∀ρ',I n ρ'->Wq Q (sg ρ')):Wq Q (bH (iD it (gN x) sf) sg ρ):=by
 obtain⟨ρ',e,h⟩:=U4 (ds:=(bf a n).map D.int) I h0 (λj ρ d hd h=>by
  unfold bf at hd;rw[adG,adA] at hd;obtain⟨y,hy,rfl⟩:=adC.mp hd;obtain⟨hj,e⟩:=adO.mp hy;rw[ae1] at hj;rw[List.getElem_range] at e;subst e;exact st j ρ hj h)
 rw[List.length_map,ju] at h;exact m_ (wZ hi e) (k ρ' h)
theorem DS{P:D->Prop}(hl:ds.length=n)(h:Wq (λr=>∃d,r=.rt d/\P d) (B (Cg N ds))):∃d,bx n N B ds=some d/\P d:=let⟨_,e,d,h,p⟩:=h;⟨d,b8 hl (e.trans (by rw[h])),p⟩
end
theorem Ql{ρ aF:aO}{i:Nat}{l:List Int}{m:Int}{ga:lX}{s:D×Tag}(h0:ρ[i]? = some (some s))(h:aF[i]? = some (some (iL l,.own)))(hm:0<m)(hg:ga ρ=some ([.int m],aF)):∃v l',xM i nE ga ρ=some (.int v,bB aF i (iL l'))/\0<=v/\v<m:=by
 have e:∀w:D×List Int,nE l [.int m]=some w->xM i nE ga ρ=some (w.1,bB aF i (iL w.2)):=λw hw=>by
  unfold xM;rw[h0,hg];dsimp only;rw[h];show(match cU (l.map D.int) with|some ns=>(nE ns [.int m]).map λ(w:D×List Int)=>(w.1,bB aF i (.lst (w.2.map D.int)))|none=>none)=_;rw[rX];dsimp only;rw[hw];rfl
 by_cases hl:l=[]
 .exact⟨0,[],e (.int 0,[]) (by show(if l=[] then some (D.int 0,[]) else _)=_;rw[if_pos hl]),Int.le_refl _,hm⟩
 .exact⟨l.getLastD 0 % m,l.dropLast,e (.int (l.getLastD 0 % m),l.dropLast) (by show(if l=[] then _ else if 0<m then some (D.int (l.getLastD 0 % m),l.dropLast) else none)=_;rw[acZ hl,if_pos hm]),Int.emod_nonneg _ (by omega),Int.emod_lt_of_pos _ hm⟩
theorem yC{ρ:aO}{i:Nat}{l:List Int}{m:Int}{ga:lX}(h:ρ[i]? = some (some (iL l,.own)))(hm:0<m)(hg:ga ρ=some ([.int m],ρ)):∃v l',xM i nE ga ρ=some (.int v,bB ρ i (iL l'))/\0<=v/\v<m:=Ql h h hm hg
section
variable{g:G}
theorem T5:Y8 [gD g]=some (iL g.ln):=b8 rfl (cO (bY (fl rfl) um))
theorem ZQ:XA [gD g]=some (iL g.ld):=b8 rfl (cO (bY (fl rfl) um))
theorem abe:Uz [gD g]=some (.lst (cK g.lk)):=b8 rfl (cO (bY (fl (d:=.lst (cK g.lk)) rfl) (if_pos (Kn _))))
def outD(gr:List (Key×D))(x:Int):D:=.tup [.int x,(aW gr (Sum.inl x:Key)).getD .aB]
theorem Em(k:Gd g):RL [gD g]=some (.lst ((cB (fJ g.gr)).map (outD g.gr))):=by
 have hl:=k.gr.len;have gl:=k.gc.ln;obtain⟨ek,e⟩:=qx k.gr.ks;have el:(fJ g.gr).length=g.gr.length:=by have:=congrArg List.length ek;rw[List.length_map,List.length_map] at this;exact this.symm
 have hs:e1 lA (bS "Gate" "grounds" (aj 0)) [some (gD g,.sh [])]=some (iL (cB (fJ g.gr)),.own):=bY (fl rfl) (by
  show(match jz g.gr with|some ns=>if ns.length<64 then some (D.lst ((cB ns).map D.int)) else none|none=>none)=_;rw[e];dsimp only;rw[if_pos (by lia)];rfl)
 have hc:=jx (js:=[none,some 0]) (g:=gN 0) (tt:=lu) (k:=λd=>match d with | .int x=>some (outD g.gr x) | _=>none) (iF hs) (by rw[List.length_map,yZ];exact size_le (by lia)) (λd m=>by
  obtain⟨x,mx,rfl⟩:=adp.mp m;have mi:=k.gr.mem.mp (sN.mp mx);unfold bz at mi;obtain⟨v,hv⟩:=aeG.mp mi;have iv:=rq.mp k.gr.im v (by
   unfold aW at hv;obtain⟨kv,h1,rfl⟩:=adC.mp hv;exact adp.mpr ⟨kv,ad4 h1,rfl⟩)
  have hg:e2 lQ (bS "Gate" "grounds" (aj 1)) (aj 0) [some (.int x,.sh []),some (gD g,.sh [])]=some (v,.own):=aP (fl rfl) rfl (by
   show(aW g.gr (Sum.inl x:Key)).bind _=_;rw[hv,adH,if_pos iv])
  have ho:∃t,j_ (au (aj 0) (au (e2 lQ (bS "Gate" "grounds" (aj 1)) (aj 0)) aH)) [some (.int x,.sh []),some (gD g,.sh [])]=some (outD g.gr x,t):=by
   rw[qo,aY,aY,hg];unfold outD;rw[hv];exact⟨_,rfl⟩
  obtain⟨t,ho⟩:=ho;exact ua rfl rfl ho (by
   unfold outD;rw[hv];simp only[aeV,aA,aI,iv,aeD]))
 rw[aeg,show((cB (fJ g.gr)).filterMap ((λd=>match d with|D.int x=>some (outD g.gr x)|_=>none) ∘ D.int))=(cB (fJ g.gr)).map (outD g.gr) from l9 (outD g.gr) _] at hc;exact b8 rfl (cO hc)
end
noncomputable def g0(w h n t:Int):G:=⟨w,h,n,t,[],[],[],[],[],[],false,[],[],0,0⟩
theorem YD(hw:1<=w/\w<=16)(hh:1<=h/\h<=8)(nt:1<=n/\n<=t/\t<=20):Ye (.ins "Gate" []) [.int w,.int h,.int n,.int t]=some (.aB,gD (g0 w h n t)):=by
 have q:∀{i:Nat}{v b:Int},aj i [some (.ins "Gate" [],.own),some (.int w,.sh []),some (.int h,.sh []),some (.int n,.sh []),some (.int t,.sh [])]=some (.int v,.sh [])->1<=v/\v<=b->tV (cC mF (au (aj i) (au (eC (.int 1)) (au (eC (.int b)) aH)))) [some (.ins "Gate" [],.own),some (.int w,.sh []),some (.int h,.sh []),some (.int n,.sh []),some (.int t,.sh [])]=some true:=λh hb=>(xj h).trans (by unfold inR;rw[abL hb.1,abL hb.2];rfl)
 refine vz (ρ:=[some (gD (g0 w h n t),.own),some (.int w,.sh []),some (.int h,.sh []),some (.int n,.sh []),some (.int t,.sh [])]) rfl (fH (kN ((BL (q rfl hw)).trans ((BL (q rfl hh)).trans (bQ (c_ (ps:=[(.int n,.sh []),(.int t,.sh [])]) rfl (MP nt)))))) ?_) rfl
 kernel_rfl
theorem ZY(hw:1<=w/\w<=16)(hh:1<=h/\h<=8)(nt:1<=n/\n<=t/\t<=20):Gi 0 (g0 w h n t):=by
 refine⟨⟨hw,hh,nt,⟨adZ _,λm=>Ee.nil,λm x h1 h2=>?_,λm=>?_⟩,(λx m=>nomatch m),.nil,?_,(λx m=>nomatch m),⟨rfl,.nil,(λk m=>nomatch m),λp m=>nomatch m⟩,[],rfl⟩,⟨.nil,acy _,λl hl=>?_,rfl,acy _,acy _,rfl,λ_=>rfl,?_⟩,⟨(λx m=>nomatch m),λ_=>⟨(λe=>nomatch e),λ_=>rfl,λ_=>.inr λx m=>nomatch m⟩⟩,[],⟨.nil,λx m=>nomatch m⟩,?_,?_,rfl⟩
 .have h2:m<=((0:Nat):Int):=h2
  lia
 .unfold lean;split<;>exact adZ _
 .show((0:Nat):Int)<=w;lia
 .rw[show hd (g0 w h n t).ta l=[] from rfl,show word (g0 w h n t).n (g0 w h n t).t []="more" from JY nt] at hl;exact absurd hl (by decide +kernel)
 .show((0:Nat):Int)<=h;lia
 .show lim ((0:Nat)+1:Int) h<=((0:Nat):Int);unfold lim;split<;>lia
 .show((0:Nat):Int)<=h;lia
section
variable{Q:Out->Prop}{ρ ρ':aO}{sf sg:SF}{t:Tag}{ds:List D}{g:GF}{it:IF}
theorem Si(I:Nat->aO->Prop)(R:D->Prop)(h0:I 0 ρ)(st:∀j ρ d,ds[j]? = some d->I j ρ->∃aF,g d t ρ=some aF/\Wq (λr=>(∃aQ,r=.nx aQ/\I (j+1) aQ)\/∃x,r=.rt x/\R x) (sf aF)):(∃ρ',b_ g t sf ds ρ=some (.nx ρ')/\I ds.length ρ')\/∃x,b_ g t sf ds ρ=some (.rt x)/\R x:=by
 rcases Jm (ds:=ds) (ρ:=ρ) (n:=0) I (λ_=>R) h0 (λj ρ d hd h=>by
  rw[afw] at h ⊢;obtain⟨aF,e1,r,e2,h⟩:=st j ρ d hd h;refine⟨aF,e1,h.imp (λ⟨aQ,e,h⟩=>⟨aQ,.inl (e2.trans (by rw[e])),h⟩) λ⟨x,e,h⟩=>⟨x,e2.trans (by rw[e]),h⟩⟩) with⟨ρ',e,h⟩|⟨_,x,e,h,_⟩
 .rw[afw] at h;exact .inl ⟨ρ',e,h⟩
 .exact .inr ⟨x,e,h⟩
theorem zP(I:Nat->aO->Prop)(R:D->Prop)(hi:it ρ=some (ds,t))(ht:t=.own\/t=.sh [])(h0:I 0 ρ)(st:∀j ρ d,ds[j]? = some d->I j ρ->∃aF,g d (.sh []) ρ=some aF/\Wq (λr=>(∃aQ,r=.nx aQ/\I (j+1) aQ)\/∃x,r=.rt x/\R x) (sf aF))(k:∀ρ',I ds.length ρ'->Wq Q (sg ρ'))(q:∀x,R x->Q (.rt x)):Wq Q (bH (iD it g sf) sg ρ):=by
 rcases Si I R h0 st with⟨ρ',e,h⟩|⟨x,e,h⟩
 .refine m_ ?_ (k ρ' h);rcases ht with rfl|rfl
  .exact se hi e
  .exact se hi e
 .refine⟨_,ia ?_,q x h⟩;rcases ht with rfl|rfl
  .exact A8 hi e
  .exact A8 hi e
end
theorem UK(h:1<=w/\w<=16):Qo [.int w]=some (.int (bl w.toNat)):=by
 obtain⟨n,rfl⟩:=Int.eq_ofNat_of_zero_le (show 0<=w by lia);have:n<=16:=by lia
 have:1<=n:=by lia
 match n,this with
 |1,_|2,_|3,_|4,_|5,_|6,_|7,_|8,_|9,_|10,_|11,_|12,_|13,_|14,_|15,_|16,_=>kernel_rfl
 |0,h=>lia
 |n+17,_=>lia
noncomputable def mx(c k m:Int):Int:=(c % 2147483629+11)*(982451653+57885161*k*k) % 2147483629 % m
theorem C7(h:-(2 ^ 64)<i/\i<2 ^ 64):nC i j=true:=by unfold nC;rw[abL h.1,abL h.2];rfl
theorem zS(h:-(2 ^ 64)<j/\j<2 ^ 64):nC i j=true:=by unfold nC;rw[abL h.1,abL h.2];simp
theorem TJ(hk:0<=k/\k<=100000)(hm:0<m):LQ [.int c,.int k,.int m]=some (.int (mx c k m)):=
 b8 rfl (jO (aP (aP (aP rfl rfl (vR (by decide))) rfl j9) (aP rfl (aP (aP rfl rfl (qW (C7 (by decide)))) rfl (qW (zS (by omega)))) j9) (qW (C7 (by omega)))) (cO (aP (aP rfl rfl (vR (by decide))) rfl (vR hm))))
theorem mix(h0:fc ρ=some (.int c,t0))(h1:fk ρ=some (.int k,t1))(h2:fm ρ=some (.int m,t2))(hk:0<=k/\k<=100000)(hm:0<m):cC LQ (au fc (au fk (au fm aH))) ρ=some (.int (mx c k m),.own):=
 c_ (ps:=[(.int c,t0),(.int k,t1),(.int m,t2)]) (by rw[aY,aY,aY,h0,h1,h2];rfl) (TJ hk hm)
theorem uR{tf:TF}{sf sg:SF}{Q:Out->Prop}(h:tf ρ=some b)(h1:b=true->Wq Q (bH sf sg ρ))(h2:b=false->Wq Q (sg ρ)):Wq Q (bH (c9 tf sf d7) sg ρ):=by
 cases b with
 |true=>obtain⟨r,e,q⟩:=h1 rfl;exact⟨r,mz h e,q⟩
 |false=>obtain⟨r,e,q⟩:=h2 rfl;exact⟨r,fH h e,q⟩
theorem LK{sf sg:SF}{Q:Out->Prop}(h:Wq (λr=>∃x,r=.rt x/\Q r) (sf ρ)):Wq Q (bH sf sg ρ):=by
 obtain⟨r,e,x,rfl,q⟩:=h;exact⟨_,ia e,q⟩
def rg(l:List Int)(c w:Int)(s3 s4 s5:Slot):aO:=[some (tD l,.sh []),some (.int c,.sh []),some (.int w,.sh []),s3,s4,s5]
theorem uZ{l:List Int}{P:Int->Prop}(hl:∀x∈l,P x){j:Nat}{d:D}(h:(l.map D.int)[j]? = some d):∃x,d=.int x/\P x:=by
 rw[adA] at h;obtain⟨x,hx,rfl⟩:=adC.mp h;exact⟨x,rfl,hl x (aeN hx)⟩
theorem UT(hl:∀x∈l,1<=x/\x<=60):∃d,DE [tD l,.int c,.int w]=some d/\∃b,d=.bl b:=by
 refine DS rfl (o_ (rg l c w none none none) (uR (bQ (aP rfl rfl rfl)) (λ_=>LK ?_) λ_=>?_))
 .refine oG (aP rfl rfl (vR (by decide))) (o_ (rg l c w (some (.int (c % 65521),.own)) none none) ?_);refine zP (λj ρ=>∃v s4,ρ=rg l c w (some (.int v,.own)) s4 none/\0<=v/\v<65521) (λ_=>False) (Hy rfl) (.inr rfl) ⟨_,_,rfl,Int.emod_nonneg _ (by decide),Int.emod_lt_of_pos _ (by decide)⟩ (λj ρ d hd ⟨v,s4,e,v0,v1⟩=>?_) (λρ ⟨v,s4,e,v0,v1⟩=>?_) λ_ h=>h.elim
  .obtain⟨x,rfl,hx⟩:=uZ hl hd;subst e;refine⟨rg l c w (some (.int v,.own)) (some (.int x,.sh [])) none,rfl,_,?_,.inl ⟨_,rfl,_,some (.int x,.sh []),rfl,Int.emod_nonneg ((v*4099+x*x)+7) (by decide),Int.emod_lt_of_pos _ (by decide)⟩⟩;rw[r6,aP (aP (aP (aP rfl rfl (qW (zS (by decide)))) (aP rfl rfl (qW (zS (by omega)))) j9) rfl j9) rfl (vR (by decide))];rfl
  .subst e;exact⟨_,cO (aP (mix rfl rfl rfl (by decide) (by decide)) rfl rfl),_,rfl,_,rfl,_,rfl⟩
 .refine zP (λj ρ=>∃s4 s5,ρ=rg l c w none s4 s5/\(s5=none\/∃v,s5=some (.int v,.own))) (λx=>∃b,x=.bl b) (Hy rfl) (.inr rfl) ⟨_,_,rfl,.inl rfl⟩ (λj ρ d hd ⟨s4,s5,e,h5⟩=>?_) (λρ ⟨s4,s5,e,h5⟩=>?_) λx h=>⟨x,rfl,h⟩
  .obtain⟨x,rfl,hx⟩:=uZ hl hd;subst e;refine⟨rg l c w none (some (.int x,.sh [])) s5,by rcases h5 with rfl|⟨v,rfl⟩<;>rfl,?_⟩;refine Ii (bQ (aP (mix rfl rfl rfl (by omega) (by decide)) rfl rfl)) (λ_=>?_) λ_=>⟨_,rfl,.inl ⟨_,rfl,_,_,rfl,h5⟩⟩
   refine oG (aP rfl (mix rfl (aP rfl rfl j9) rfl (by omega) (by decide)) j9) (o_ (rg l c w none (some (.int x,.sh [])) (some (.int (1+mx c (50+x) 10),.own))) ?_);have tb:∃b,jM (tV (e2 oEq (aj 2) (eC (.int 0)))) (jM (tV (e2 (AX true) (aj 5) (aj 0))) (tV (e2 oEq (aj 5) (aj 4)))) (rg l c w none (some (.int x,.sh [])) (some (.int (1+mx c (50+x) 10),.own)))=some b:=by
    cases h:(w==0) with
    |true=>exact⟨true,J8 (bQ (aP rfl rfl (by rw[<- h];rfl)))⟩
    |false=>
     rw[mC (bQ (aP rfl rfl (by rw[<- h];rfl)))];have hi:tV (e2 (AX true) (aj 5) (aj 0)) (rg l c w none (some (.int x,.sh [])) (some (.int (1+mx c (50+x) 10),.own)))=some (!l.any (· == (1+mx c (50+x) 10))):=bQ (aP rfl rfl (Dk (neg:=true)));cases h2:!l.any (· == (1+mx c (50+x) 10)) with
     |true=>exact⟨true,J8 (hi.trans (by rw[h2]))⟩
     |false=>
      rw[mC (hi.trans (by rw[h2]))];exact⟨_,bQ (aP rfl rfl rfl)⟩
   obtain⟨b,tb⟩:=tb;exact Ii tb (λ_=>⟨_,rfl,.inr ⟨_,rfl,_,rfl⟩⟩) λ_=>⟨_,rfl,.inl ⟨_,rfl,_,_,rfl,.inr ⟨_,rfl⟩⟩⟩
  .subst e;exact⟨_,rfl,_,rfl,_,rfl⟩
def wV(G:List D->Option D):List D->Option D:=bx 2 2 (yb G)
section
variable{H:List D->Option D}
theorem Zv(a:Int):wV H [.int a,.int a]=some (.bl true):=by
 have:wV H [.int a,.int a]=some (.bl (a==a)):=rfl;rw[this,aew]
theorem Z2{ds:List D}{x:Int}(h1:0<=x)(h2:x<ds.length):∃d∈ds,d_ ds x=some d:=by
 refine⟨ds[x.toNat]'(by omega),List.getElem_mem _,?_⟩;unfold d_ nQ;rw[if_pos h1,if_pos h2,adH,acr (by omega)]
theorem ZK{w:List D->D}{ds:List D}(hlen:dR (w ds)=some (.int ds.length))(P_:∀x d,d_ ds x=some d->aA d=true->cL (w ds) (.int x)=some d)(hi:aI ds=true)(hl:ds.length<=900)(h:∀d∈ds,H [d,d]=some (.bl true)):
  e1 oA (fV [none,some 0,some 1] (mQ (e1 dR (aj 1))) (gN 0) lu (cC H (au (e2 cL (aj 1) (aj 0)) (au (e2 cL (aj 2) (aj 0)) aH)))) [some (w ds,.sh []),some (w ds,.sh [])]=some (.bl true,.own):=by
 have hc:=GB (js:=[none,some 0,some 1]) (g:=gN 0) (te:=cC H (au (e2 cL (aj 1) (aj 0)) (au (e2 cL (aj 2) (aj 0)) aH))) (ρ:=[some (w ds,.sh []),some (w ds,.sh [])]) (l:=bf 0 ds.length) (p:=λ_=>true) (DV (e:=e1 dR (aj 1)) (bY (d:=w ds) (t:=.sh []) rfl hlen) (by omega)) (by unfold bf;rw[List.length_map,ae1];omega) (λx mx=>by
  have hx:=gX.mp mx;obtain⟨d,md,hd⟩:=Z2 (ds:=ds) hx.1 (by omega);have o:=P_ x d hd (rq.mp hi d md);have e:∀i,aj i [some (.int x,.sh []),some (w ds,.sh []),some (w ds,.sh [])]=some (w ds,.sh [])->e2 cL (aj i) (aj 0) [some (.int x,.sh []),some (w ds,.sh []),some (w ds,.sh [])]=some (d,.own):=λi hv=>aP hv (d2:=.int x) (t2:=.sh []) rfl o
  exact nI (aF:=[some (.int x,.sh []),some (w ds,.sh []),some (w ds,.sh [])]) rfl rfl (c_ (ps:=[(d,.own),(d,.own)]) (by rw[aY,aY,e 1 rfl,e 2 rfl];rfl) (h d md)))
 rw[hc,adW.mpr λ_ _=>rfl]
theorem Uc{w:List D->D}{ds:List D}(hlen:dR (w ds)=some (.int ds.length)):tV (e2 iG (e1 dR (aj 0)) (e1 dR (aj 1))) [some (w ds,.sh []),some (w ds,.sh [])]=some false:=bQ (aP (bY (d:=w ds) (t:=.sh []) rfl hlen) (bY (d:=w ds) (t:=.sh []) rfl hlen) (by rw[JG,aew];rfl))
theorem Xj{ds:List D}(hi:aI ds=true)(hl:ds.length<=900)(h:∀d∈ds,H [d,d]=some (.bl true)):wV H [.tup ds,.tup ds]=some (.bl true):=
 b8 rfl (mz (b:=true) rfl (ia (fH ((mC (by rfl)).trans (Uc (w:=D.tup) rfl)) (cO (ZK (w:=D.tup) rfl (λx d h1 h2=>Kf h1 h2) hi hl h)))))
end
theorem WW{H:List D->Option D}(l:List Int)(hl:l.length<=900):wV (wV H) [tD l,tD l]=some (.bl true):=Xj (dY l) (by rw[List.length_map];exact hl) λd m=>by
 obtain⟨x,_,rfl⟩:=adp.mp m;exact Zv x
noncomputable def hw(h:List Str):Str:=h.headD Str.empty
def sE(ta:Ta):List (List Key×D):=ta.map λp=>(kL p.1,.str (hw p.2))
def sD(ta:Ta):D:=.cQ (sE ta)
theorem Ky{l:List Int}(h:l≠[]):oW (tD l)=some (kL l):=by
 unfold oW tD;dsimp only;rw[qU];dsimp only;exact if_pos ⟨by unfold kL;rw[afM];exact adW.mpr λ_ _=>rfl,λe=>h (List.map_eq_nil_iff.mp e)⟩
theorem Ot(ta:Ta):aW (sE ta) (kL l)=(jb ta l).map λh=>.str (hw h):=CZ (ψ:=λh=>D.str (hw h)) (λ_ _=>qC) ta
theorem MJ{ta:Ta}{l:List Int}{w:Str}(h:hd ta l=[w]):aW (sE ta) (kL l)=some (.str w):=by
 rw[Ot];cases e:jb ta l with
 |none=>unfold hd at h;rw[e] at h;cases h
 |some x=>unfold hd at h;rw[e] at h;have h:x=[w]:=h;rw[h];rfl
theorem IB{ta:Ta}{l:List Int}{w:Str}(h:hd ta l=[w])(hl:l≠[]):Ad (sD ta) (tD l) .aB=some (.str w):=by
 unfold Ad sD;rw[Ky hl];dsimp only;rw[MJ h];rfl
def oV(l:List Int)(x:Int):D:=.tup [.str "look",tD l,tD (l++[x]),.str "no"]
theorem yx(l:List Int):aA (tD l)=true:=dY l
theorem Qt(k:Gd g)(gk:∀p∈g.gr,Ok g.ta p)(mx:x∈cB (fJ g.gr)):∃l,l.length<=60/\outD g.gr x=.tup [.int x,oV l x]/\hd g.ta (l++[x])=nS/\(l=[]\/hd g.ta l=yS):=by
 have mi:=k.gr.mem.mp (sN.mp mx);unfold bz at mi;obtain⟨v,hv⟩:=aeG.mp mi;obtain⟨kv,h1,rfl⟩:=adC.mp (show(g.gr.find? λkv=>decide (kv.1=(Sum.inl x:Key))).map (·.2)=some v from hv);have hk:kv.1=Sum.inl x:=by simpa using afC h1
 obtain⟨y,l,h0,e,h2,h3⟩:=gk kv (ad4 h1);rw[e] at hk;cases hk;refine⟨l,h0,?_,h2,h3⟩;unfold outD;rw[hv,e];rfl
theorem U0{l:List Int}(h:l.length<=60):Ar (tD l) (.tup [.int x])=some (tD (l++[x])):=by
 unfold tD;show(if(aI (l.map D.int)&&aI [D.int x]&&(!false&&decide ((l.map D.int).length+1<=sizeLine)))=true then some (D.tup (l.map D.int++[D.int x])) else none)=_;rw[dY,abL (by rw[List.length_map];exact aen (size_le (by lia))),adQ];rfl
theorem Ho{op:D->D->D->Option D}(h:f ρ=some (d1,t1))(h2:g ρ=some (d2,t2))(h3:k ρ=some (d3,t3))(h4:op d1 d2 d3=some d):e3 op f g k ρ=some (d,.own):=by
 unfold e3;rw[h,h2,h3];dsimp only;rw[h4];rfl
def uT(o:D)(ta:Ta)(s2 s3:Slot):aO:=[some (o,.sh []),some (sD ta,.sh []),s2,s3]
theorem ab0(k:Gd g)(gk:∀p∈g.gr,Ok g.ta p):J4 [.lst ((cB (fJ g.gr)).map (outD g.gr)),sD g.ta]=some (.bl true):=by
 generalize eo:D.lst ((cB (fJ g.gr)).map (outD g.gr))=o;have e:∃d,J4 [o,sD g.ta]=some d/\d=.bl true:=by
  refine DS rfl (o_ (uT o g.ta none none) (zP (λj ρ=>∃s2 s3,ρ=uT o g.ta s2 s3) (λ_=>False) (iF (by rw[<- eo];rfl)) (.inr rfl) ⟨_,_,rfl⟩ (λj ρ d hd ⟨s2,s3,e⟩=>?_) (λρ ⟨s2,s3,e⟩=>?_) λ_ h=>h.elim))
  .rw[adA] at hd;obtain⟨x,hx,rfl⟩:=adC.mp hd;obtain⟨l,l6,g1,g2,g3⟩:=Qt k gk (aeN hx);rw[g1];subst e;have ig:aA (oV l x)=true:=by unfold oV;simp only[aA,aI,yx,aeD]
   have ix:∀{m:Int}{d:D},d_ [.str "look",tD l,tD (l++[x]),.str "no"] m=some d->aA d=true->e2 cL (aj 3) (eC (.int m)) (uT o g.ta (some (.int x,.own)) (some (oV l x,.own)))=some (d,.own):=λh hi=>aP rfl rfl (Kf h hi)
   have i1:=ix (m:=1) rfl (yx l);have i2:=ix (m:=2) rfl (yx (l++[x]));refine⟨uT o g.ta (some (.int x,.own)) (some (oV l x,.own)),?_,_,fH ?_ (fH ?_ ?_),.inl ⟨_,rfl,some (.int x,.own),some (oV l x,.own),rfl⟩⟩
   .show(if aA (D.int x)=true then _ else none)=_;rw[if_pos (show aA (D.int x)=true from rfl)];show(if aA (oV l x)=true then _ else none)=_;rw[if_pos ig];rfl
   .refine(mC (by rfl)).trans ?_;refine(mC (by rfl)).trans ?_;exact(mC (bQ (aP (ix (m:=0) (d:=.str "look") rfl rfl) rfl rfl))).trans (bQ (aP (ix (m:=3) (d:=.str "no") rfl rfl) rfl rfl))
   .refine(mC (kN (b:=true) (bQ (c_ (ps:=[(tD (l++[x]),.own),(tD (l++[x]),.own)]) ?_ (WW (l++[x]) (by rw[ab9,adY];lia)))))).trans ?_
    .rw[aY,aY,i2,aP i1 (d2:=.tup [.int x]) rfl (U0 l6)];rfl
    .exact bQ (aP (Ho rfl i2 rfl (IB g2 (by simp))) rfl rfl)
   .refine Kh ?_ rfl
    by_cases hn:l=[]
    .subst hn;exact PB (bQ (aP i1 rfl (Bs (d:=.tup []) rfl)))
    .have g3:=g3.resolve_left hn;have hb:∃b,tV (e2 jD (e2 cL (aj 3) (eC (.int 1))) (j_ aH)) (uT o g.ta (some (.int x,.own)) (some (oV l x,.own)))=some b:=⟨_,bQ (aP i1 rfl (if_pos (by rw[IJ];rfl)))⟩
     obtain⟨b,hb⟩:=hb;cases b with
     |true=>exact(BL hb).trans (bQ (aP (Ho rfl i1 rfl (IB g3 hn)) rfl rfl))
     |false=>exact PB hb
  .subst e;exact⟨_,rfl,_,rfl,rfl⟩
 obtain⟨_,e,rfl⟩:=e;exact e
theorem Tu(i:Gi k g)(c:Cc g)(h:g.lk=[]):g.ld=[]/\wl g=[]:=by
 obtain⟨ps,K⟩:=i.E4;have hp:ps=[]:=List.map_eq_nil_iff.mp (K.eq.symm.trans h);have hg:=K.ge;rw[hp,c.h1] at hg;have he:=Ah (g:=g);have e1:eo g=1:=by
  unfold lim at hg;have hg:(if eo g-1<1 then eo g-1 else 1)<=((0:Nat):Int):=hg
  split at hg<;>lia
 obtain⟨f1,f2,_⟩:=i.fin.go c.ht;have uh:g.ld=[]:=by
  unfold eo nR at e1;cases e:bR g with
  |some q=>
   rw[e] at e1;have e1:(q:Int)=1:=e1;rw[e,show q=1 by lia] at f1;exact absurd rfl f1
  |none=>
   rw[e] at e1;have e1:(g.ld.length:Int)+1=1:=e1;exact ad1 (by lia)
 exact⟨uh,f2 uh⟩
theorem Qs(i:Gi k g)(uh:g.ld=[])(DA:wl g=[]):cB (g.ln++cB (fJ g.gr))=bf 1 g.C.length/\(g.ln++cB (fJ g.gr)).length<=60:=by
 have mem:∀x,x∈g.ln++cB (fJ g.gr)↔x∈bf 1 g.C.length:=λx=>by
  rw[ada,sN,i.gd.gr.mem];constructor
  .rintro(q|q)
   .have:=i.gd.row x (abT _ q);exact gX.mpr (by lia)
   .exact i.gd.gr.bd q
  .intro q;have q:=gX.mp q;refine aek λnn=>?_
   have:x∈wl g:=eE.mpr ⟨by lia,λz=>nn (.inl z),by rw[uh];exact adX,by
    cases z:fR g x with
    |false=>rfl
    |true=>exact absurd (.inr z) nn⟩
   rw[DA] at this;cases this
 have nd:(g.ln++cB (fJ g.gr)).Nodup:=adE.mpr ⟨(adE.mp i.gd.nd).1,(pZ _).nodup_iff.mpr i.gd.gr.nK,λa ma b mb e=>by
  have:=i.gd.k7 a (abT _ ma);rw[show fR g a=true from e ▸ i.gd.gr.mem.mp (sN.mp mb)] at this;cases this⟩
 refine⟨(u_ ((List.perm_ext_iff_of_nodup Ej nd).mpr λx=>(mem x).symm) ((yg 1 _).imp λq=>by lia)).symm,?_⟩;have:=sub_len nd λx q=>(mem x).mp q
 rw[ju] at this;have:=i.gd.gc.ln
 lia
theorem HG:bl q<=5:=by
 unfold bl
 repeat' split
 all_goals lia
theorem Ic(k:Gd g):cnt g.gr<=(fJ g.gr).length:=by
 have ek:=congrArg List.length (qx k.gr.ks).1;rw[List.length_map,List.length_map] at ek;have:=acC (a:=g.gr)
 lia
theorem acs(i:Gi k g)(c:Cc g)(d:Di g lk):g.ta.length<=6*g.C.length+5:=by
 have w:=d.w i.gd;have h1:=Ic i.gd;have h2:=sub_len (l:=fJ g.gr) (m:=bf 1 g.C.length) i.gd.gr.nK λx q=>i.gd.gr.bd (i.gd.gr.mem.mp q)
 rw[ju] at h2;have h3:=sub_len (l:=g.ln) (m:=bf 1 g.C.length) (adE.mp i.gd.nd).1 λx q=>by have:=i.gd.row x (abT _ q);exact gX.mpr (by lia)
 rw[ju] at h3;have h4:=c.gw;have h5:=c.te;have h6:(bl g.w.toNat:Int)<=5:=by have:=HG (q:=g.w.toNat);lia
 have h7:jd g+f6 g<=5*((g.C.length:Int)+1):=by
  have:jd g+f6 g=(bl g.w.toNat:Int)*((cnt g.gr:Int)+1):=by unfold jd f6;rw[Int.mul_add,Int.mul_one]
  rw[this];exact Int.mul_le_mul h6 (by lia) (by lia) (by lia)
 unfold jn at w
 lia
theorem acW(i:Gi k g)(c:Cc g)(d:Di g lk):((m7 g.ta).length:Int)<=(((cB (fJ g.gr)).length:Int)+1)*(bl g.w.toNat:Int):=by
 rw[c.ty,yZ];have h1:=Ic i.gd;have mp:=AE i.gd;refine afL (d.w i.gd) ?_;have:jd g+f6 g=f6 g*((cnt g.gr:Int)+1):=by unfold jd;rw[Int.mul_add,Int.mul_one]
 rw[this,Int.mul_comm _ (bl g.w.toNat:Int)];exact CG (by lia) (by lia)
theorem UC{ta:Ta}(tw:∀q∈ta,q.2=yS\/q.2=nS):(qF "no" (sE ta)).length=(m7 ta).length:=by
 unfold qF sE m7;rw[List.length_map,List.filter_map,List.length_map]
 congr 1
 refine List.filter_congr λq m=>?_
 rcases tw q m with h|h<;>(show decide (hw q.2="no")=(q.2==nS);rw[h];rfl)
theorem aaC(tn:(ta.map (·.1)).Nodup)(tl:ta.length<=1000)(h:ρ[8]? = some (some (sD ta,.own))):Ec 8 "no" ρ=some (.lst (qF "no" (sE ta)),.own):=by
 unfold Ec;rw[h];show(if((sE ta).map (·.1)).Nodup/\(sE ta).length<sizeLine/\∀p∈sE ta,(oH p.2).isSome=true then _ else none)=_;refine if_pos ⟨?_,?_,λp m=>?_⟩
 .unfold sE;rw[adG,show((λkv:List Key×D=>kv.1) ∘ λp:List Int×List Str=>(kL p.1,D.str (hw p.2)))=kL ∘ (·.1) from rfl,<- adG];unfold List.Nodup;rw[aeB];exact tn.imp λq e=>q (qC e)
 .unfold sE;rw[List.length_map];exact size_le (by lia)
 .obtain⟨q,_,rfl⟩:=adp.mp m;rfl
noncomputable def dI(ns:List Int):D:=.gH (ns.map D.int)
def Fx(s:Slot):Prop:=∀i,j4 i s=s
def rL(ns l:List Int)(w c y m:Int)(g:G)(s7 s8 s9 eF dX:Slot):aO:=[some (dI ns,.sh []),some (iL l,.own),some (.int w,.own),some (.int c,.own),some (.int y,.own),some (.int m,.own),some (gD g,.own),s7,s8,s9,eF,dX,none]
theorem DJ(h7:Fx s7)(h8:Fx s8)(h9:Fx s9)(Cm:Fx eF)(BI:Fx dX):bB (rL ns l w c y m g s7 s8 s9 eF dX) 6 (gD g')=rL ns l w c y m g' s7 s8 s9 eF dX:=by
 show[some (dI ns,.sh []),some (iL l,.own),some (.int w,.own),some (.int c,.own),some (.int y,.own),some (.int m,.own),some (gD g',.own),j4 6 s7,j4 6 s8,j4 6 s9,j4 6 eF,j4 6 dX,none]=_;rw[h7,h8,h9,Cm,BI];rfl
theorem acH(h7:Fx s7)(h9:Fx s9)(Cm:Fx eF)(BI:Fx dX):bB (rL ns l w c y m g s7 s8 s9 eF dX) 8 d=rL ns l w c y m g s7 (some (d,.own)) s9 eF dX:=by
 show[some (dI ns,.sh []),some (iL l,.own),some (.int w,.own),some (.int c,.own),some (.int y,.own),some (.int m,.own),some (gD g,.own),j4 8 s7,some (d,.own),j4 8 s9,j4 8 eF,j4 8 dX,none]=_;rw[h7,h9,Cm,BI];rfl
theorem XR{ta:Ta}{L:List Int}(tw:∀q∈ta,q.2=yS\/q.2=nS)(h:hd ta L=[]):jb ta L=none:=by
 unfold hd jb gv at *;cases e:ta.find? λkv=>decide (kv.1=L) with
 |none=>rfl
 |some q=>
  rw[e] at h;have h:q.2=[]:=h;rcases tw q (ad4 e) with z|z<;>rw[h] at z<;>cases z
theorem Qg{ta:Ta}{L:List Int}{u:Str}{i:Nat}(h0:ρ[i]? = some (some (sD ta,.own)))(hk:fk ρ=some (tD L,t))(hv:fv ρ=some (.str u,t2))(nL:L≠[])(tl:ta.length<=1000):Ag i fk fv ρ=some (.nx (bB ρ i (sD (gp ta L [u])))):=by
 unfold Ag;rw[h0,hk,hv];show(match oW (tD L) with|some k=>if(aA (.str u)&&aI ((sE ta).map λq:List Key×D=>q.2)&&decide ((sE ta).length<sizeLine))=true then some (Out.nx (bB ρ i (.cQ (putD (sE ta) k (.str u))))) else none|none=>none)=_;rw[Ky nL];dsimp only;rw[if_pos]
 .rw[show putD (sE ta) (kL L) (.str u)=sE (gp ta L [u]) from(Jk (ψ:=λh=>D.str (hw h)) (λ_ _=>qC):putD (sE ta) (kL L) ((λh=>D.str (hw h)) [u])=sE (gp ta L [u]))];rfl
 .rw[show aI ((sE ta).map λq:List Key×D=>q.2)=true from rq.mpr λd m=>by
   obtain⟨q,mq,rfl⟩:=adp.mp m;obtain⟨z,_,rfl⟩:=adp.mp mq;rfl,abL (by unfold sE;rw[List.length_map];exact size_le (by lia))];rfl
theorem Ma{ta:Ta}{L:List Int}{u:Str}(h0:fa ρ=some (sD ta,t))(hk:fk ρ=some (tD L,t2))(h:hd ta L=[u]):wN fa fk ρ=some (.str u,jo t):=by
 unfold wN;rw[h0,hk];show(gC (L.map D.int)).bind _=_;rw[qU,adH,MJ h];rfl
theorem Pp{i:Nat}(h0:ρ[i]? = some (some (gD g,.own)))(hg:ga ρ=some ps)(ha:apart i ps=true)(h:F (gD g) (ps.map (·.1))=some (r,gD g'))(hm:(gF g).lookup m=none:=by rfl):xO i "Gate" m F ga ρ=some (r,bB ρ i (gD g')):=by
 unfold xO;rw[h0,hg];show(if("Gate":Str)="Gate"/\(gF g).lookup m=none/\apart i ps=true then(F (gD g) (ps.map (·.1))).map _ else none)=_;rw[if_pos ⟨rfl,hm,ha⟩,h];rfl
theorem ac7{ps:List (D×Tag)}(hg:ga ρ=some ps)(hF:F (.ins "Gate" []) (ps.map (·.1))=some (.aB,gD g)):oz "Gate" F ga ρ=some (gD g,.own):=by
 unfold oz;rw[hg,adH,hF]
theorem yV{f:XF}(h:f ρ=some (d,ρ')):zm i f ρ=some (.nx (h_ ρ' i d .own)):=by unfold zm;rw[h]
theorem Hh{f:XF}{fb:EF}(h:f ρ=some (d,ρ'))(h2:fb ρ'=some (d2,t))(h3:iG d d2=some (.bl false)):Ak (A1 f fb) sf d7 ρ=some (.nx ρ'):=by
 unfold Ak A1;rw[h];dsimp only;rw[h2];dsimp only;rw[h3];rfl
theorem Ut{gr:List (Key×D)}(h:f ρ=some (.lst (l.map (outD gr)),t))(hl:l.length<=1000):fV [none] (gA f) (gN 0) lu (e2 cL (aj 0) (eC (.int 0))) ρ=some (iL l,.own):=by
 have hc:=jx (js:=[none]) (g:=gN 0) (tt:=lu) (te:=e2 cL (aj 0) (eC (.int 0))) (ρ:=ρ) (k:=λd=>match d with | .tup [.int x,_]=>some (.int x) | _=>none) (iF h) (by rw[List.length_map];exact size_le (by lia)) (λd m=>by
  obtain⟨x,mx,rfl⟩:=adp.mp m;exact nI (aF:=[some (outD gr x,.sh [])]) rfl rfl rfl)
 rw[hc,aeg,show l.filterMap ((λd=>match d with|D.tup [.int x,_]=>some (D.int x)|_=>none) ∘ outD gr)=l.map D.int from l9 D.int _];rfl
theorem ab1{l:List Int}(h:l.Pairwise (· < ·)):cB l=l:=(u_ (.refl _) (h.imp λq=>by lia)).symm
theorem Pz(h:f ρ=some (iL l,t))(s:l.Pairwise (· < ·))(hl:l.length<64):tV (e2 jD (e1 lA f) f) ρ=some false:=
 bQ (aP (bY h ((Eb hl).trans (by rw[ab1 s];rfl))) h (Bs (lay_ints l)))
structure It(w m:Int)(j:Nat)(g:G):Prop where
 gi:Gi j g
 cc:Cc g
 di:Di g g.lk
 cl:(g.C.length:Int)=m
 w:g.w=w
 tl:g.ta.length=j
theorem WH{m:Nat}(h:fm ρ=some (.int (m+1),t))(hm:m<=1000):yG (au (eC (.int 1)) (au fm aH)) ρ=some (iL (bf 1 m),.own):=by
 unfold yG;rw[aY,aY,h];show(if -(2 ^ 20)<=(1:Int)/\(1:Int)<2 ^ 20/\-(2 ^ 20)<=((m:Int)+1)/\((m:Int)+1)<2 ^ 20 then some (D.lst ((List.range ((m:Int)+1-1).toNat).map λn:Nat=>D.int (1+n)),Tag.own) else none)=_;rw[if_pos (by lia),show((m:Int)+1-1).toNat=m by lia];unfold iL bf;rw[adG];rfl
theorem QW(hw:1<=w/\w<=16):It w 0 0 (g0 w 1 1 1):=
 ⟨ZY hw (by decide) (by decide),⟨rfl,rfl,rfl,(λ_ m=>nomatch m),rfl,acy _,⟨.nil,λ_ m=>nomatch m⟩,(λ_ m=>nomatch m),rfl,rfl,(λ_ m=>nomatch m),.inl rfl⟩,.inl (by
  show(0:Int)<=(bl w.toNat:Int)*0
  lia),rfl,rfl,rfl⟩
theorem QG{ns:List Int}(hl:ns.length<=63):vD [dI ns]=some (.bl true):=by
 have e:∃d,vD [dI ns]=some d/\d=.bl true:=by
  have q1:e1 J5 (e1 (kh none (some 200)) (aj 0)) [some (dI ns,.sh []),none,none,none,none,none,none,none,none,none,none,none,none]=some (iL ns.reverse,.own):=bY (bY rfl (acK hl)) (by
   show(if aI (ns.map D.int)=true then some (D.lst (ns.map D.int).reverse) else none)=_;rw[if_pos (dY ns),<- List.map_reverse];rfl)
  refine DS rfl (oG q1 ?_);generalize ns.reverse=l0;obtain⟨w',l1,x1,w0,w1⟩:=yC (ρ:=[some (dI ns,.sh []),some (iL l0,.own),none,none,none,none,none,none,none,none,none,none,none]) (i:=1) (l:=l0) (m:=16) (ga:=qg (xP (eC (.int 16))) wo) rfl (by decide) rfl;refine m_ (yV (ZG (RP (t:=.own) rfl rfl) x1 j9)) ?_;obtain⟨w,hw,ew⟩:∃w,1+w'=w/\(1<=w/\w<=16):=⟨_,rfl,by lia⟩
  rw[hw];obtain⟨c,l2,x2,_,_⟩:=yC (ρ:=[some (dI ns,.sh []),some (iL l1,.own),some (.int w,.own),none,none,none,none,none,none,none,none,none,none]) (i:=1) (l:=l1) (m:=1000000000000) (ga:=qg (xP (e2 MX (eC (.int 10)) (eC (.int 12)))) wo) rfl (by decide) rfl;refine m_ (yV x2) ?_;obtain⟨y,l3,x3,_,_⟩:=yC (ρ:=[some (dI ns,.sh []),some (iL l2,.own),some (.int w,.own),some (.int c,.own),none,none,none,none,none,none,none,none,none]) (i:=1) (l:=l2) (m:=3) (ga:=qg (xP (eC (.int 3))) wo) rfl (by decide) rfl;refine m_ (yV x3) ?_;obtain⟨m,l,x4,m0,m1⟩:=yC (ρ:=[some (dI ns,.sh []),some (iL l3,.own),some (.int w,.own),some (.int c,.own),some (.int y,.own),none,none,none,none,none,none,none,none]) (i:=1) (l:=l3) (m:=11) (ga:=qg (xP (eC (.int 11))) wo) rfl (by decide) rfl;refine m_ (yV x4) ?_;refine oG (d:=gD (g0 w 1 1 1)) (t:=.own) ?_ (o_ (rL ns l w c y m (g0 w 1 1 1) none none none none none) ?_)
  .exact ac7 rfl (YD ew (by decide) (by decide))
  obtain⟨M,rfl⟩:=Int.eq_ofNat_of_zero_le m0;refine S5 (λj ρ=>∃g s7,ρ=rL ns l w c y M g s7 none none none none/\Fx s7/\It w j 0 g) (DV (n:=M) rfl (by lia)) ⟨_,_,rfl,λ_=>rfl,QW ew⟩ (λj ρ hj ⟨g,s7,e,f7,T⟩=>?_) λρ ⟨g,s7,e,f7,T⟩=>?_
  .subst e;obtain⟨ld,gr,e1,i1,c1,d1⟩:=P6 T.gi T.cc T.di (by have:=T.cl;lia);refine⟨rL ns l w c y M g (some (.int (0+j),.sh [])) none none none none,rfl,_,Hh (Pp (g:=g) (ps:=[(.int 4,.own),(iL [],.own),(eL [],.own)]) rfl rfl rfl e1) rfl ?_,_,rfl,_,some (.int (0+j),.sh []),DJ (λ_=>rfl) (λ_=>rfl) (λ_=>rfl) (λ_=>rfl) (λ_=>rfl),λ_=>rfl,i1,c1,d1,?_,T.w,T.tl⟩
   .rw[JG,show((g.C.length:Int)+1)=0+(j:Int)+1 by have:=T.cl;lia,aew];rfl
   .show(((g.C++[c4]).length:Nat):Int)=((j+1:Nat):Int);rw[ab9];have:=T.cl;show((g.C.length+1:Nat):Int)=_
    lia
  .subst e;refine oG (d:=sD []) (t:=.own) rfl (o_ (rL ns l w c y M g s7 (some (sD g.ta,.own)) none none none) ?_ (by rw[ad1 T.tl];rfl));have hi:mQ (e2 lG (e2 ED (eC (.int 20)) (aj 5)) (eC (.int 1))) (rL ns l w c y M g s7 (some (sD g.ta,.own)) none none none)=some ((bf 0 (20 * M + 1)).map D.int,.own):=DV (n:=20 * M + 1) (t:=.own) (by
    rw[aP (aP rfl (d2:=.int M) (t2:=.sh [5]) rfl (qW (C7 (by decide)))) (d2:=.int 1) rfl j9]
    push_cast
    rfl) (by lia)
   refine zP (λj ρ=>∃g s9 eF dX,ρ=rL ns l w c y M g s7 (some (sD g.ta,.own)) s9 eF dX/\(Fx s9/\Fx eF/\Fx dX)/\It w M j g/\(0<j->1<=M)) (λx=>x=.bl true) hi (.inl rfl) ⟨g,_,_,_,rfl,⟨λ_=>rfl,λ_=>rfl,λ_=>rfl⟩,T,λh=>absurd h (ad8 _)⟩ (λj ρ d hD ⟨g,s9,eF,dX,e,⟨f9,f10,f11⟩,T,hM⟩=>?_) (λρ ⟨g,s9,eF,dX,e,f,T,hM⟩=>?_) λx h=>⟨x,rfl,h⟩
   .rw[adA] at hD;obtain⟨x,hx,rfl⟩:=adC.mp hD;have hj:=(adO.mp hx).1;rw[ju] at hj;subst e;have v:=T.gi.gd;have vl:=v.len;have so:=aeO.mp T.cc.so.so;refine⟨rL ns l w c y M g s7 (some (sD g.ta,.own)) (some (.int x,.sh [])) eF dX,rfl,?_⟩;refine oG (jc (g:=g) (t:=.sh [6]) rfl abe) (o_ (rL ns l w c y M g s7 (some (sD g.ta,.own)) (some (.int x,.sh [])) (some (.lst (cK g.lk),.own)) dX) ?_);refine oG (jc (g:=g) (t:=.sh [6]) rfl T5) (o_ (rL ns l w c y M g s7 (some (sD g.ta,.own)) (some (.int x,.sh [])) (some (.lst (cK g.lk),.own)) (some (iL g.ln,.own))) ?_);refine uR (b:=false) ((mC (Pz (l:=g.ln) (t:=.sh [11]) rfl so.1 (by lia))).trans (Pz (jc (g:=g) (t:=.sh [6]) rfl ZQ) so.2.1 (by lia))) (λh=>nomatch h) λ_=>?_
    by_cases hk:g.lk=[]
    .obtain⟨uh,DA⟩:=Tu T.gi T.cc hk;obtain⟨es,el⟩:=Qs T.gi uh DA;rw[ab9] at el;have oo:=jc (g:=g) (t:=.sh [6]) (fo:=aj 6) (mm:="outs") (ρ:=rL ns l w c y M g s7 (some (sD g.ta,.own)) (some (.int x,.sh [])) (some (.lst (cK g.lk),.own)) (some (iL g.ln,.own))) rfl (Em v);have eM:g.C.length=M:=by have:=T.cl;lia
     refine uR (b:=true) (bQ (aP (d1:=.lst (cK g.lk)) (t1:=.sh [10]) rfl (d2:=.lst []) rfl (by rw[hk];rfl))) (λ_=>LK ?_) (λh=>nomatch h);refine m_ (Kh (bQ (aP (bY (aP (d1:=iL g.ln) (t1:=.sh [11]) rfl (Ut oo (by lia)) (uv (by rw[aeJ];lia))) ((Eb (by rw[ab9];lia)).trans (by rw[es,eM];rfl))) (WH (m:=M) (aP rfl rfl j9) (by lia)) (Bs (lay_ints (bf 1 M))))) rfl) ?_;refine oG (bY (aaC T.gi.gt.tn (by have:=T.tl;lia) rfl) uP) ?_;refine⟨_,cO (sQ (b:=true) (c:=true) (c_ (ps:=[(.lst ((cB (fJ g.gr)).map (outD g.gr)),.own),(sD g.ta,.sh [8])]) ?_ (ab0 v T.cc.gk)) (aP (d1:=.int (qF "no" (sE g.ta)).length) (t1:=.sh [12]) rfl (aP (aP (bY (jc (g:=g) (t:=.sh [6]) rfl (Em v)) uP) rfl j9) (c_ (ps:=[(.int w,.sh [2])]) rfl (UK ew)) (qW (zS ?_))) ?_)),_,rfl,.inr ⟨_,rfl,rfl⟩⟩
     .rw[aY,aY,jc (g:=g) (t:=.sh [6]) rfl (Em v)];rfl
     .have:=HG (q:=w.toNat);lia
     .have:=acW T.gi T.cc T.di;rw[T.w] at this;show some (D.bl (decide _))=_;rw[UC T.cc.tw,List.length_map,abL this]
    .obtain⟨L,hL⟩:=List.exists_mem_of_ne_nil _ hk;have one:g.lk=[L]:=len_one hL (T.cc.h1 ▸ T.gi.gt.ll);obtain⟨p,p1,p2,p3,eL,hm⟩:=T.gi.mem hL;have wU:L.length=g.ln.length+p:=by rw[eL,nV p3]
     have nL:L≠[]:=λe=>by rw[e] at wU;simp at wU;lia
     have hn:hd g.ta L=[]:=by
      rcases T.cc.wd v L with h|⟨_,h⟩|⟨_,h⟩
      .exact h.1
      .rw[nh v,hm] at h;exact absurd h (by decide +kernel)
      .rw[nh v,hm] at h;exact absurd h (by decide +kernel)
     have tl:g.ta.length<=1000:=by have:=T.tl;lia
     have rows:∀x∈L,1<=x/\x<=60:=λx m=>by
      rw[eL] at m;have:=v.row x ((ada.mp m).elim (abT _) λm=>aaY _ (List.mem_of_mem_take m));have:=v.gc.ln
      lia
     have M1:1<=M:=by
      have:=T.cl;have:=v.lS;have:=v.row (g.ld[0]'(by lia)) (aaY _ (List.getElem_mem _))
      lia
     rw[one];refine uR (b:=false) (bQ (aP (d1:=.lst (cK [L])) (t1:=.sh [10]) rfl (d2:=.lst []) rfl ?_)) (λh=>nomatch h) λ_=>?_
     .show(if(cM (.lst (cK [L]))&&cM (.lst []))=true then some (D.bl (PyData.eqv (py (.lst (cK [L]))) (py (.lst [])))) else none)=_;rw[if_pos (by rw[IS];rfl)];rfl
     obtain⟨d,fg,b,rfl⟩:=UT (c:=c) (w:=y) rows;have ix:∀{h:G} {s8 dX},e2 cL (aj 10) (eC (.int 0)) (rL ns l w c y M h s7 s8 (some (.int x,.sh [])) (some (.lst (cK [L]),.own)) dX)=some (tD L,.own):=aP (d1:=.lst (cK [L])) (t1:=.sh [10]) rfl rfl (vL rfl (yx L));refine uR (b:=false) ((mC (by rfl)).trans ((mC (bQ (aP ix (d2:=sD g.ta) (t2:=.sh [8]) rfl ?_))).trans (kN (b:=true) (bQ (bY ix rfl))))) (λh=>nomatch h) λ_=>?_
     .show(gC (L.map D.int)).map (λk=>D.bl ((aW (sE g.ta) k).isSome))=_;rw[qU,Option.map_some,Ot];rw[XR T.cc.tw hn];rfl
     obtain⟨u,hu,eu⟩:∃u:Str,(u="yes"\/u="no")/\e2 cL (iN (au (eC (.str "no")) (au (eC (.str "yes")) aH))) (e1 Gj (cC DE (au (e2 cL (aj 10) (eC (.int 0))) (au (aj 3) (au (aj 4) aH))))) (rL ns l w c y M g s7 (some (sD g.ta,.own)) (some (.int x,.sh [])) (some (.lst (cK [L]),.own)) (some (iL g.ln,.own)))=some (.str u,.own):=by
      have hc:cC DE (au (e2 cL (aj 10) (eC (.int 0))) (au (aj 3) (au (aj 4) aH))) (rL ns l w c y M g s7 (some (sD g.ta,.own)) (some (.int x,.sh [])) (some (.lst (cK [L]),.own)) (some (iL g.ln,.own)))=some (.bl b,.own):=c_ (ps:=[(tD L,.own),(.int c,.sh [3]),(.int y,.sh [4])]) (by rw[aY,ix];rfl) fg;cases b with
      |true=>exact⟨"yes",.inl rfl,aP rfl (bY hc rfl) rfl⟩
      |false=>exact⟨"no",.inr rfl,aP rfl (bY hc rfl) rfl⟩
     refine m_ (Qg rfl ix eu nL tl) ?_;rw[acH f7 (λ_=>rfl) (λ_=>rfl) (λ_=>rfl)];obtain⟨g',e1,i1,c1,d1,et,eC,Xv⟩:=UW T.gi T.cc T.di (by lia) hL hu;have hp:hd (gp g.ta L [u]) L=[u]:=by rw[oR,if_pos rfl]
     have eg:gp g.ta L [u]=g'.ta:=by rw[et];exact Ox T.cc.tw hn
     rw[eg] at hp ⊢;refine⟨_,Hh (Pp (g:=g) (ps:=[(tD L,.own),(.str u,.sh [8])]) rfl ?_ rfl e1) (Ma (t:=.sh [8]) (t2:=.own) rfl ?_ hp) ?_,.inl ⟨_,rfl,g',some (.int x,.sh []),some (.lst (cK [L]),.own),some (iL g.ln,.own),DJ f7 (λ_=>rfl) (λ_=>rfl) (λ_=>rfl) (λ_=>rfl),⟨λ_=>rfl,λ_=>rfl,λ_=>rfl⟩,⟨i1,c1,d1,by rw[eC];exact T.cl,Xv.trans T.w,by rw[et,ab9,T.tl];rfl⟩,λ_=>M1⟩⟩
     .rw[aY,aY,ix,Ma (t:=.sh [8]) rfl ix hp];rfl
     .rw[DJ f7 (λ_=>rfl) (λ_=>rfl) (λ_=>rfl) (λ_=>rfl)];exact ix
     .show some (D.bl (!(u==u)))=_;rw[aew];rfl
   .have:=acs T.gi T.cc T.di;rw[T.tl] at this;rw[List.length_map,ju] at this hM;have:=T.cl;have:=hM (by lia)
    lia
 obtain⟨_,e,rfl⟩:=e;exact e
end K44
namespace HT
open PySem PySem.W PyProof.Rows
section
variable{K:Params->Frag}
end
end HT
namespace K44
open PySem L2 L2.Ev
local macro_rules | `(tactic| walk_at "ba")=>`(tactic| first | exact ba_n 1 rfl fun _ _ _ _ _ _ _=>rfl | exact ba_n 2 rfl fun _ _ _ _ _ _ _=>rfl | exact ba_n 3 rfl fun _ _ _ _ _ _ _=>rfl | exact ba_n 4 rfl fun _ _ _ _ _ _ _=>rfl | exact ba_n 5 rfl fun _ _ _ _ _ _ _=>rfl)
set_option maxHeartbeats 0 in
theorem all_mk{l:PySem.W.OpenLaw}{w:World}{K:PySem.W.Frag}{h:Heap}{mg:Str->Option Value}{fa:Addr}(X:K.In h)(G:h.Ns mainGlobals mg)(Dz:mg "law"=some (.ref fa))(q:qG L K=true)(t:tab.map (look K)=tab.map want):
  ∃fd:FuncData,(∀(s:Shared) (v:Value),BindsTo s fd ⟨[v],[]⟩ [("_law_script",v)])/\∀base:Heap,K.In base->base.Ns mainGlobals mg->bP l.prog w K mg base cR 14 fa fd ["_law_script"] (aZ K vD):=by
 refine V3 (sp:=λ_=>aZ K vD) X G Dz (By (s:=top 53) 23 t rfl) (λ_ _ _ _ _ _ _ _=>.of_eq rfl) λbase _ _ _ _ F=>?_
 have E:En L ⟨l.prog,w,K,mg,base⟩:=abI X G q;have W0:=fG X G t 0 (Xq _ E);have W1:=fG X G t 1 (E5 _ E);have W2:=fG X G t 2 (CS _ ⟨E,W1⟩);have U3:=Gp t q 24 (OX _ E);have ZM:=Gp t q 33 (B8 _ ⟨E,W2,W1,U3⟩);have W3:=fG X G t 3 (GY _ E);have Cy:=dF t 25 (Bu _ E);have HF:=dF t 26 (FQ _ ⟨E,W1,Cy⟩);have W4:=fG X G t 4 (BE _ ⟨E,W1,W3⟩);have QM:=dF t 27 (FO _ ⟨E,W1,W3,HF,W4⟩);have Yz:=dF t 28 (CU _ ⟨E,QM,Cy⟩);have W34:=dF t 34 (CK _ E);have Bp:=dF t 35 (Ep _ ⟨E,Cy,W34⟩);have CD:=dF t 29 (CO _ ⟨E,HF⟩);have KZ:=dF t 30 (FD _ ⟨E,CD⟩);have S3:=dF t 36 (Ey _ ⟨E,Bp,KZ⟩);have K7:=dF t 54 (F_ _ E);have CA:=dF t 37 (CY _ ⟨E,K7⟩);have DC:=dF t 38 (BF _ E);have CC:=dF t 39 (Cr _ ⟨E,CA,DC⟩);have W5:=fG X G t 5 (Gf _ E);have W6:=fG X G t 6 (D9 _ E);have W7:=fG X G t 7 (Nn _ ⟨E,W5,W6⟩);have xW:=dF t 31 (Ge _ ⟨E,CD⟩);have W8:=fG X G t 8 (BS _ ⟨E,W7,xW⟩);have W9:=fG X G t 9 (BN _ ⟨E,W8⟩);have ZP:=dF t 32 (Dn _ ⟨E,CD⟩);have Wi:=fG X G t 10 (Fi _ ⟨E,ZP⟩);have YT:=fG X G t 11 (BY _ ⟨E,W5,xW⟩);have W12:=fG X G t 12 (Dj _ ⟨E,Wi,YT⟩);have HX:=fG X G t 13 (EU _ ⟨E,KZ⟩);have Xc:=fG X G t 14 (CM _ ⟨E,W9,W12,HX,xW⟩);have XE:=dF t 40 (ET _ ⟨E,CC,DC,CA⟩);have Sm:=dF t 41 (Cj _ ⟨E,W8⟩);have Zo:=fG X G t 15 (Bd _ ⟨E,W5⟩);have YC:=dF t 42 (GJ _ ⟨E,HX,Bp,Sm,Zo,xW⟩);have Vd:=dF t 43 (BP _ ⟨E,CC,Xc,Bp,XE,YC⟩);have RZ:=dF t 44 (BW _ ⟨E,CA⟩);have RM:=fG X G t 16 (D3 _ E);have VS:=fG X G t 17 (CP _ ⟨E,RM⟩);have W45:=dF t 45 (F3 _ ⟨E,RZ,DC,VS,CC⟩);have HZ:=dF t 46 (Gg _ ⟨E,S3,Vd,W45⟩);have Ud:=dF t 47 (DG _ ⟨E,Yz,HZ⟩);have To:=dF t 48 (F4 _ E);have Ss:=dF t 49 (Du _ E);have Wh:=dF t 50 (De _ E);have Ri:=dF t 51 (C1 _ E);have V2:=fG X G t 18 (BK _ E);have W19:Hz _:=XD X G (By 19 t rfl) (λm k b F=>ab7 E m k b F) (by walk_at "ba");have Wa:=fG X G t 20 (Ff _ ⟨E,W19⟩);have ZI:=fG X G t 21 (DZ _ E);have Sy:=fG X G t 22 (Dl _ ⟨E,ZI⟩);have Uo:=dF t 55 (Fw _ ⟨E,K7⟩);have W56:=Gp t q 56 (Bf _ ⟨E,W2⟩);have Zp:=dF t 52 (Et _ E);have Y0:=dF t 53 (B6 _ ⟨E,Uo,W56,Zp,HZ⟩);exact o_law _ ⟨E,W0,ZM,Ud,To,Ss,Wh,Ri,V2,Wa,Sy,Y0⟩ _ _ F
theorem wk:Wk:=λhY hT hL hq ht vf Uu=>
 L2.ZN (n:=63) (k:=14) (x:="_law_script") (CX:=λ_=>cR) (sp:=λw=>aZ (_:PySem.W.Frag) vD) rfl (by decide) vf ⟨λ_=>rfl,by decide,by decide,rfl⟩ hY hT hL (λw mg fa h KX G v_=>all_mk KX G (Uu ▸ v_) (hq w) (ht w)) (λw H a ns hl hz=>by
  refine⟨[dI ns],[]++[],.bl true,.cons (.Ay hz (pU ns)) .nil,QG hl,λH' v i_ _ r _ _=>?_⟩;cases r;rfl) λ_ _ _ _ _ z=>z
open PySem PySem.W PyProof.Rows L2 L2.Ev
end K44
theorem PySem.Challenge.cw_linegate_k44_whole_halving_by_two_looks_holds : PySem.Challenge.rw_linegate_k44_whole_halving_by_two_looks.Holds := by
 exact K44.early K44.wk
