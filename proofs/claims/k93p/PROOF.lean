import PyProof.Rows.All
import Wide.All
import OpenK.AllK
import Wide.FinOn
import PySem.Challenge.RW_linegate_k93_whole_done_again
set_option Elab.async false
set_option linter.all false
set_option maxRecDepth 100000
set_option hygiene false
local macro_rules(kind:=Lean.Parser.Command.declaration)|s=>if s[0][4].isNone&&(s[1].isOfKind ``Lean.Parser.Command.definition||s[1].isOfKind ``Lean.Parser.Command.abbrev) then pure (s.modifyArg 0 (·.setArg 4 (Lean.mkNullNode #[Lean.mkNode ``Lean.Parser.Command.noncomputable #[Lean.mkAtom "noncomputable"]]))) else Lean.Macro.throwUnsupported
local macro_rules(kind:=Lean.Parser.Tactic.tacticLet__)|s=>if s[2][0][0].isOfKind `«term#[_,]» then do
  let N k a:=Lean.Syntax.node .none k a;let T:=`Lean.Parser.Tactic;let L k a:=N (T++`rcasesPatLo) #[N (T++`rcasesPatMed) #[N `null #[N (T++k) a]],N `null #[]]
  let p:=s[2][0][0].rewriteBottomUp fun x=>if x.isIdent then L `rcasesPat.one #[x] else if x.isOfKind `Lean.Parser.Term.hole then L `rcasesPat.ignore #[x[0]] else if x.isOfKind `«term#[_,]» then L `rcasesPat.tuple #[Lean.mkAtom "⟨",x[1],Lean.mkAtom "⟩"] else x;`(tactic|obtain $(.mk p[0]):rcasesPatMed:=$(.mk s[2][0][4]))
 else Lean.Macro.throwUnsupported
local macro_rules|`(tactic|apply $x)=>`(tactic|exact $x)
local macro_rules|`(tactic|ext $x:ident)=>`(tactic|cases $x:ident)
local macro_rules|`(#[$a,*])=>`(⟨$a,*⟩)
abbrev Fr:=PySem.W.Frag
local macro_rules|`(tactic|exists $n:num,$p)=>do
 let some v:=("20 Q d tg ok e q;21 Q d tg ok e k;22 Q c ok e k;23 E o ok e k;24 R ds tg ok e k;25 E o ok e q;26 Q c Y' ok e k;27 Q d Y' ok e0 kk".splitOn ";").find? (·.startsWith s!"{n.getNat} ")|Lean.Macro.throwUnsupported
 let v:=(v.splitOn " ").tail.toArray.map fun x=>Lean.mkIdent (.mkSimple x)
 `(tactic|refine #[_,$p,@fun H0 S z aq Y U H $v* =>?_])
local macro_rules|`(tactic|exists $n:num)=>do
 let some v:=("40 X hP hw hK hc i af s U H E I hf st hg;41 H x y d1 d2 f1 f2 d Q r1 r2 e k;42 af s U H x y v u Q I rx ry h;43 af s U H xs us Q I r h;44 af s U H Q I h".splitOn ";").find? (·.startsWith s!"{n.getNat} ")|Lean.Macro.throwUnsupported
 let v:=(v.splitOn " ").tail.toArray.map fun x=>Lean.mkIdent (.mkSimple x)
 `(tactic|intro $v*)
set_option hygiene true
noncomputable section
abbrev aaq:=@PySem.wpAny_bind
abbrev aar:=@List.mem_cons_of_mem
abbrev aat:=@PySem.Heap.get?_push_of_some
abbrev aav:=@List.mem_cons_self
abbrev aaG:=@List.map_cons
abbrev aaH:=@List.mem_append_right
abbrev aaM:=@Bool.and_eq_true
abbrev aaO:=@List.mem_cons
abbrev aaP:=@decide_eq_true
abbrev aa1:=@List.getElem?_eq_getElem
abbrev aa5:=@Option.bind_eq_some_iff
abbrev aa6:=@List.mem_singleton
abbrev abl:=@of_decide_eq_true
abbrev abm:=@Bool.false_ne_true
abbrev abq:=@List.getElem?_eq_some_iff
abbrev abz:=@List.mem_append_left
abbrev abD:=@Nat.le_refl
abbrev abG:=@PySem.Heap.lt_size
abbrev abH:=@List.mem_append
abbrev abM:=@if_neg
abbrev abP:=@PySem.wpAny_pure
abbrev abV:=@List.length_append
abbrev abX:=@Option.map_eq_some_iff
abbrev ab8:=@List.mem_map
abbrev ab9:=@List.size_toArray
abbrev acm:=@PySem.Heap.get?_push_size
abbrev acp:=@decide_eq_false
abbrev acv:=@List.length_cons
abbrev acw:=@List.nodup_cons
abbrev acy:=@List.getElem?_map
abbrev acB:=@Option.some.inj
abbrev acE:=@List.nodup_nil
abbrev acG:=@Option.bind_some
abbrev acK:=@List.not_mem_nil
abbrev acL:=@List.append_nil
abbrev acN:=@List.getElem?_set_ne
abbrev acO:=@Nat.ne_of_lt
abbrev acP:=@Nat.zero_le
abbrev acS:=@Nat.lt_of_lt_of_le
abbrev acU:=@List.nodup_append
abbrev ada:=@Nat.le_trans
abbrev adk:=@List.map_append
abbrev ado:=@List.all_eq_true
abbrev adw:=@List.map_map
abbrev adx:=@List.find?_cons
abbrev adz:=@List.contains_iff_mem
abbrev adB:=@Option.ite_none_right_eq_some
abbrev adF:=@List.mem_filter
abbrev adI:=@PySem.wpAny_mono
abbrev adO:=@List.getElem?_append_left
abbrev adQ:=@List.getD_eq_getElem?_getD
abbrev adW:=@List.mem_of_getElem?
abbrev adX:=@List.any_eq_true
abbrev adY:=@beq_eq_false_iff_ne
abbrev adZ:=@List.filterMap_cons
abbrev ad6:=@PySem.Heap.get?_update_other
abbrev aed:=@List.getElem?_set_self
abbrev aeh:=@List.getElem?_append_right
abbrev aej:=@List.lookup_cons
abbrev aep:=@Nat.lt_irrefl
abbrev aeq:=@PyProof.Rows.slot_tuple_getitem
abbrev aes:=@List.length_singleton
abbrev aeu:=@List.foldl_cons
abbrev aex:=@PySem.wpAny_newObj_type
abbrev aeC:=@List.filterMap_map
abbrev aeE:=@or_false
abbrev aeI:=@Array.length_toList
abbrev aeY:=@List.length_filter_le
abbrev ae1:=@PySem.wpAny_holding
abbrev afi:=@PySem.wpAny_truthy_bool
abbrev afn:=@List.append_assoc
abbrev afq:=@PySem.wpAny_Call_Name_kw
abbrev aft:=@List.find?_cons_of_neg
abbrev afv:=@Ne.symm
abbrev afz:=@List.mem_of_find?_eq_some
abbrev afK:=@PySem.sizeLine_eq
abbrev afR:=@Nat.le_of_lt
abbrev afW:=@Option.isSome_iff_exists
abbrev af3:=@PySem.wpAny_field
abbrev af5:=@PySem.wpAny_callSpecial?_slot
abbrev aga:=@List.cons.injEq
abbrev agc:=@List.pairwise_cons
abbrev agd:=@PySem.Around.under_plainId
abbrev agf:=@beq_self_eq_true
abbrev agh:=@List.append_eq_nil_iff
abbrev agr:=@Nat.le_succ_of_le
abbrev agB:=@List.map_congr_left
abbrev agJ:=@Bool.eq_false_iff
abbrev agQ:=@PySem.wpAny_seqItems
abbrev agR:=@PySem.codeAny_builtin
abbrev agX:=@PySem.Heap.get?_update_self
abbrev agY:=@Nat.ne_of_gt
abbrev ag3:=@List.length_set
abbrev ag4:=@List.mem_filterMap
abbrev ahb:=@beq_iff_eq
abbrev ahf:=@PySem.tupleKind_room_in1
abbrev ahm:=@Nat.lt_of_le_of_lt
abbrev aho:=@List.find?_eq_none
abbrev ahw:=@Bool.and_self
abbrev ahA:=@Option.isSome_map
abbrev ahC:=@PyProof.Rows.callWith_type1
abbrev ahE:=@PySem.Heap.get?_update_ne
abbrev ahK:=@PySem.F.slot_tuple_iterator_next
abbrev ahL:=@PySem.wpAny_call_entry
abbrev ahO:=@Nat.lt_succ_self
abbrev ahW:=@List.length_take
abbrev ah3:=@PySem.F.plain_min_loop
abbrev ah8:=@Bool.false_eq_true
abbrev aif:=@PySem.Heap.size_push
abbrev aii:=@PySem.wpAny_passesOwn
abbrev ain:=@Nat.zero_add
abbrev aip:=@List.any_map
abbrev aiv:=@List.getElem?_replicate
abbrev aiw:=@List.any_cons
abbrev aix:=@PySem.plainId_quiet
abbrev aiB:=@List.filter_cons_of_pos
abbrev aiH:=@List.filter_cons_of_neg
abbrev aiQ:=@List.filter_sublist
abbrev aiR:=@List.take_length
abbrev ai4:=@List.find?_cons_of_pos
abbrev ai7:=@PySem.wpAny_setField_rec
abbrev ajb:=@List.getElem?_eq_none
abbrev aji:=@Bool.or_eq_true
abbrev ajn:=@Int.le_refl
abbrev ajo:=@decide_eq_true_eq
abbrev ajw:=@List.pairwise_map
abbrev ajC:=@Array.perm_iff_toList_perm
abbrev ajD:=@Bool.and_eq_true_iff
abbrev ajI:=@List.getElem?_of_mem
abbrev ajN:=@PySem.wpAny_tryCatch
abbrev ajR:=@List.drop_eq_getElem_cons
abbrev ajV:=@List.getElem?_zip_eq_some
abbrev ajW:=@List.filter_cons
abbrev ajX:=@Option.getD_some
abbrev ajY:=@decide_eq_decide
abbrev aj0:=@List.prefix_refl
abbrev aj3:=@Nat.le_succ
abbrev aj4:=@List.length_pos_iff
abbrev aj5:=@PySem.wpAny_typeOf
abbrev aj6:=@List.all_map
abbrev aj7:=@Bool.eq_iff_iff
abbrev aj8:=@List.all_cons
abbrev aj9:=@PySem.wpAny_updateSeq
abbrev akc:=@List.find?_some
abbrev akd:=@PySem.wpAny_rule
abbrev ake:=@Sum.inl.inj
abbrev akf:=@Int.toNat_natCast
abbrev aki:=@Nat.lt_succ_of_lt
abbrev akk:=@PySem.wpAny_letGo
abbrev akl:=@List.mem_range
abbrev akm:=@List.map_nil
namespace L2
open PySem PySem.Spec
open PySem PySem.Spec PyProof.Rows
def wB(o:Obj):Option (Value×Str×Pos):=match o.data with
 |.func fd=>match fd.body with
  |.stmts [.Return (some (.Call _ _ [#[_,.Lambda _ _ _ pos,_]] _)) _]=>some (fd.code,fd.qualname++".<locals>."++"<lambda>",pos)
  |_=>none
 |_=>none
def CG(K:Fr)(p:Addr×Obj):Option (Addr×Addr×Str×Pos):=match wB p.2 with
 |some (.ref c,q,pos)=>match K.lookup c with
  |some #[_,_,.fields vs,_]=>match(vs[11]? : Option Value) with
   |some (.ref P)=>some (c,P,q,pos)
   |_=>none
  |_=>none
 |_=>none
def jA(K:Fr):List (Addr×Addr×Str×Pos):=K.filterMap (CG K)
def rm(K:Fr):Bool:=K.all λp=>match p.2.data with
 |.seq av _=>av.size==0||av.toList.any λv=>match v with|.int _ _=>false|_=>true
 |_=>true
def AH(K:Fr):Bool:=(rm K&&K.all λp=>(wB p.2).isNone||(CG K p).isSome)&&match jA K with
 |[]=>true
 |[r]=>PySem.W.codeHdIn K r.1 r.2.1&&(K.lookup r.2.1).isNone
 |_=>false
end L2
namespace L2
open PySem PySem.Spec PyProof.Rows
def inClass(s:Stmt)(j:Nat):Stmt:=match s with
 |.ClassDef _ _ _ body _ _ _ _ _ _ _=>body.getD j (.Pass #[0,0,0,0])
 |_=>.Pass #[0,0,0,0]
def mK(s:Stmt):Arguments:=match s with
 |.FunctionDef _ a _ _ _ _ _ _ _ _=>a
 |_=>{ posonlyargs:=[],args:=[],vararg:=none,kwonlyargs:=[],kw_defaults:=[],kwarg:=none,defaults:=[] }
def gS(s:Stmt):List Stmt:=match s with
 |.FunctionDef _ _ b _ _ _ _ _ _ _=>b
 |_=>[]
def cE(s:Stmt):Scope:=match s with
 |.FunctionDef _ _ _ _ _ _ sc _ _ _=>sc
 |_=>{ kind:=.function,names:=[],isGenerator:=false,isCoroutine:=false }
end L2
namespace L2.Ev
open PySem PySem.W
abbrev Qv:List Value:=[.type "ValueError",.type "Exception",.type "BaseException",.type "object"]
def zu(K:Frag)(C:Addr):Bool:=match K.lookup C with
 |some #[c,_,.cls cd,#[sl]]=>c == .type "type"&&cd.mro == .ref C::cd.mro.tail&&sl==[sl.getD 0 none,sl.getD 1 none,sl.getD 2 none,sl.getD 3 none,some (.builtin "ValueError.__new__"),sl.getD 5 none]&&cd.hasDel==false&&tailIn K Qv cd.mro.tail&&nsOkIn K cd.ns&&nsIn K cd.ns "__init__" == some none
 |_=>false
end L2.Ev
namespace L2
open PySem PySem.Spec PyProof.Rows
def tabs_ok{K:Params->Fr}{e:∀P,as=(K P).map (·.1)}(h:∀w:World,(jA (K w.params)).map (·.2.1)=ts)(w:World)(hp:Heap)(YY:(PySem.W.kmHook K as e ts).says w hp):∀r∈jA (K w.params),hp.get? r.2.1=some (PySem.W.tabObj ([].toArray)):=
 λr m=>PySem.W.km_tabs_of YY _ (by rw[<- h w];apply List.mem_map_of_mem m)
end L2
namespace L2.Ev
open PySem PySem.Spec PySem.W PyProof.Rows
structure Ls where
 bt:List Str
 gi:List (Str×Int)
 tp:List (Str×List Str)
 cl:List Str
 na:List (Str×Str)
 ni:Bool
 ex:List Str
 xc:List Str
 ct:List (Str×List Str)
 kt:List (Str×List (Str×Bool))
 ki:List (Str×List Str×List (Str×Bool))
def cA(K:Frag)(c:Str):Addr:=match nsIn K mainGlobals c with
 |some (some (.ref a))=>a
 |_=>0
def kv(K:Frag)(c:Str):Value:=if c == "ValueError" then .type "ValueError" else .ref (cA K c)
def ia:Stmt->Str
 |.FunctionDef x ..=>x
 |_=>Str.empty
def iy(c:Str)(s:Stmt):Str:=if c==Str.empty then ia s else c++"."++ia s
def strOf:Value->Option Str
 |.str s _=>some s
 |_=>none
def Fp(K:Frag)(x:Str)(l:List Str):Bool:=match nsIn K mainGlobals x with
 | some (some (.ref a))=>(match K.lookup a with
  |some #[c,none,.seq av _,_]=>c == .type "tuple"&&decide (av.size<=sizeLine)&&av.toList.map strOf==l.map some
  |_=>false)
 |_=>false
def Ql(K:Frag)(x:Str)(n:Int):Bool:=match nsIn K mainGlobals x with
 |some (some (.int m _))=>m==n
 |_=>false
def AW(K:Frag)(c:Str):Bool:=nsIn K mainGlobals c==some (some (.ref (cA K c)))&&plainGet K (cA K c) Str.empty&&hasDictIn K (cA K c)&&plainOver K (cA K c)&&findIn K (.ref (cA K c)) "__setattr__" == some (some (.builtin "object.__setattr__"))&&makesIn K (cA K c)&&keepIn K (.ref (cA K c))
def ek(K:Frag)(r:Str):Bool:=findIn K (.ref (cA K r)) "__getattribute__" == some (some (.builtin "BaseException.__getattribute__"))&&findIn K (.ref (cA K r)) "__getattr__" == some none&&findIn K (.ref (cA K r)) "__class__" == some (some (.builtin "object.__class__"))&&specialIn K (.builtin "object.__class__") "__get__" == some (some (.builtin "getset_descriptor.__get__"))&&takesIn K (.builtin "object.__class__")==some true&&mroIn K (cA K r) (.type "object")==some true&&mroIn K (cA K r) (.type "BaseException")==some true
def Vz(L:Ls)(K:Frag):Bool:=L.ex.all (λc=>nsIn K mainGlobals c==some (some (.ref (cA K c))))&&L.xc.all (λc=>zu K (cA K c))&&L.ct.all (λp=>L.xc.contains p.1&&mroIn K (cA K p.1) (.type "BaseException")==some true&&p.2.all λr=>L.xc.contains r&&L.ex.contains r&&mroIn K (cA K r) (.ref (cA K p.1))==some true)&&L.kt.all (λp=>p.2.all λr=>L.ex.contains r.1&&ek K r.1&&kitOne K (.ref (cA K r.1)) (kv K p.1)==some r.2)&&L.ki.all (λp=>p.2.2.all λr=>L.ex.contains r.1&&ek K r.1&&kitAny K (.ref (cA K r.1)) ((p.2.1.map (cA K)).map Value.ref)==some r.2)
def vj(L:Ls)(K:Frag):Bool:=(!L.ni||rm K)&&Vz L K&&L.bt.all (λx=>nsIn K mainGlobals x==some none)&&L.gi.all (λp=>Ql K p.1 p.2)&&L.tp.all (λp=>Fp K p.1 p.2)&&L.cl.all (AW K)&&L.na.all (λp=>findIn K (.ref (cA K p.1)) p.2==some none)
def Qk(fd:FuncData):FuncData:={ fd with kwdefaults:=.none,doc:=.none,pyModule:=.none,annotations:=none,code:=.none,closureTuple:=.none }
def HC(K:Frag)(q:Str):Option (Option Value)->Option FuncData
 | some (some (.ref a))=>(match K.lookup a with
  |some #[_,_,.func fd,_]=>if(codeIn K fd.code q&&keepIn K (.ref a)&&isFn K (.ref a))=true then some (Qk fd) else none
  |_=>none)
 |_=>none
def look(K:Frag)(p:Str×Stmt):Option FuncData:=HC K (iy p.1 p.2) (if p.1==Str.empty then nsIn K mainGlobals (ia p.2) else findIn K (.ref (cA K p.1)) (ia p.2))
def want(p:Str×Stmt):Option FuncData:=some (fnOf (ia p.2) (iy p.1 p.2) (mK p.2) (gS p.2) (cE p.2) .none .none .none .none none .none .none)
end L2.Ev
namespace K93
open PySem L2 L2.Ev
def top(i:Nat):Stmt:=PySem.Challenge.pw_linegate_k93_whole_done_again.main.body.getD i (.Pass #[0,0,0,0])
def L:Ls:=#[["all","bool","dict","int","isinstance","len","list","min","range","repr","sorted","tuple","zip"],[("GREATEST_RANK",9),("GREATEST_SLOT",999),("GREATEST_VALUE",1000000000),("MOST_CHANGES",60),("MOST_EDITS",20),("MOST_HANDS",8),("MOST_TRIES",20),("MOST_WIDTH",16)],[("BAD_WORDS",["no","unsure"]),("WORDS",["yes","no","unsure"])],["Book","Changes","Gate","Tally"],[("Book","gate"),("Book","written"),("Changes","entries"),("Gate","answers"),("Gate","breaks"),("Gate","ended"),("Gate","grounds"),("Gate","grown"),("Gate","halted"),("Gate","known"),("Gate","laid_ones"),("Gate","looks"),("Gate","numbers"),("Gate","on_line"),("Gate","tallies"),("Tally","heard"),("Tally","need"),("Tally","tries")],true,["LinegateError","NoLook"],["LinegateError","NoLook"],[("LinegateError",["NoLook"])],[("NoLook",[("NoLook",true)])],[]]
end K93
namespace HT
open PySem PySem.W PyProof.Rows
def Lh:List Obj->List Obj
 |[]=>[]
 |[a]=>[a]
 |a::_::l=>a::Lh l
def J_:Nat->List Obj->BT
 |0,_=>.nil
 |_+1,[]=>.nil
 |k+1,o::l=>.node o (J_ k (Lh l)) (J_ k (Lh l.tail))
def oN(tb:String->Option Builtin)(p:Program)(w:World)(xX:Nat)(ann:Option Value):Nat->SharedT->Thread->Option SharedT
 |0,_,_=>none
 |k+1,s,t=>match through t with
  |true=>some s
  |false=>match stepOk xX ann t with
   |false=>none
   |true=>match stepT (denote tb) p w s t with
    |none=>none
    |some (s',t')=>oN tb p w xX ann k s' t'
theorem OV:∀{k} {s s'} {t},oN tb p w xX ann k s t=some s'->topRun tb p w xX ann k s.abs t=some s'.abs
 |0,_,_,_,h=>by ext h
 |k+1,s,s',t,h=>by
  unfold oN at h;unfold topRun;cases e:through t with
  |true=>rw[e] at h;ext h;rfl
  |false=>
   rw[e] at h;cases o:stepOk xX ann t with
   |false=>rw[o] at h;ext h
   |true=>
    rw[o] at h;cases g:stepT (denote tb) p w s t with
    |none=>rw[g] at h;ext h
    |some r=>let#[s2,t2]:=r;rw[g] at h;rw[stepT_spec g];apply OV h
def Hw(P:Params):BT:=J_ 12 (boot_heap P).objs.toList
def oq:Nat:=11
def V6(P:Params):(boot_heap P).objs.size=oq:=by kernel_rfl
def boot_abs(P:Params):absHeap (Hw P) oq (boot_heap P).life=boot_heap P:=by kernel_rfl
def tW(P:Params)(os:OsState):SharedT:=#[Hw P,oq,(boot_heap P).life,Array.mk [],boot_drawn,boot_toks,os]
def agj
  (he:opening p=plainProg p.main.scope.names) (hf:∀s,fenceModules? p s=some s) (hN:Nat.ble 600 N=true)
  (hz:∀P:Params,((boot_heap P).isNs mainGlobals,(boot_heap P).nsMap mainGlobals "__annotations__")=(true,ann))
  (h:∀(w) (os),(oN treeTable p w oq ann N (tW w.params os) (topStub p)).map (λsT=>
    ((staticsOk (importedModules p.main.body) (boot_heap w.params) sT.abs.heap&&namesBound p sT.abs.heap&&gensDone sT.abs&&laidKept (boot_heap w.params) sT.abs.heap),openSeen q loose (importedModules p.main.body) Xt true sT.abs,Yf sT.abs))=some (true,openGood q loose,Ya w)) :
  LeftO p q loose Xt Yf Ya N:=λw=>by
 let#[#[hh,gs,d,k,os],e,e']:=abX.mp (boot_open he hN hf w);obtain⟨rfl,rfl,rfl,rfl⟩:hh=boot_heap w.params/\gs=Array.mk []/\d=boot_drawn/\k=boot_toks:=by simpa using e'
 obtain⟨z1,z2⟩:_/\_:=by simpa only[Prod.mk.injEq] using hz w.params
 let#[sT,r,l]:=abX.mp (h w os);obtain⟨l1,l2,l3⟩:_/\_/\_:=by simpa only[Prod.mk.injEq] using l
 have r':=OV r;have ab:(tW w.params os).abs=#[boot_heap w.params,Array.mk [],boot_drawn,boot_toks,os]:=by
  show Shared.mk (absHeap (Hw w.params) oq (boot_heap w.params).life) _ _ _ _=_;rw[boot_abs];rfl
 rw[ab] at r';have t:topFrom treeTable p w N #[boot_heap w.params,Array.mk [],boot_drawn,boot_toks,os]=some sT.abs:=by
  unfold topFrom;dsimp only;rw[z1,z2,V6,r'];show(match staticsOk (importedModules p.main.body) (boot_heap w.params) sT.abs.heap&&namesBound p sT.abs.heap&&gensDone sT.abs&&laidKept (boot_heap w.params) sT.abs.heap with|true=>_|false=>_)=_;rw[l1]
 unfold openEnds;rw[e];show(topFrom treeTable p w N _).map _=_;rw[t];apply congrArg some (Prod.ext l2 l3)
def agW
  (he:opening p=plainProg p.main.scope.names) (hf:∀s,fenceModules? p s=some s) (hN:Nat.ble 600 N=true)
  (hz:∀P:Params,((boot_heap P).isNs mainGlobals,(boot_heap P).nsMap mainGlobals "__annotations__")=(true,ann))
  (h1:∀(w) (os),(oN treeTable p w oq ann N (tW w.params os) (topStub p)).map (λsT=>((staticsOk (importedModules p.main.body) (boot_heap w.params) sT.abs.heap&&namesBound p sT.abs.heap&&gensDone sT.abs&&laidKept (boot_heap w.params) sT.abs.heap),openSeen q loose (importedModules p.main.body) Xt true sT.abs))=some (true,openGood q loose))
  (h3:∀(w) (os),(oN treeTable p w oq ann N (tW w.params os) (topStub p)).map (λsT=>Yf sT.abs)=some (Ya w)) :
  LeftO p q loose Xt Yf Ya N:=agj he hf hN hz λw os=>by
 let#[sT,r,e1]:=abX.mp (h1 w os);have e3:=h3 w os;rw[r] at e3 ⊢;have e3:=acB e3;obtain⟨e1,e2⟩:_/\_:=by simpa only[Prod.mk.injEq] using e1
 show some (_,_,_)=some (true,openGood q loose,Ya w);rw[e1,<- e2,<- e3]
def tg(s:SharedT)(a:Nat):Option Obj:=match Nat.blt a s.n with
 |true=>match s.tree.get a with
  |some o=>alive o
  |none=>none
 |false=>none
def acX(h:tg s a=some o):s.abs.heap.get? a=some o:=by
 unfold tg at h;cases e:Nat.blt a s.n with
 |false=>rw[e] at h;ext h
 |true=>
  rw[e] at h;dsimp only at h;cases g:s.tree.get a with
  |none=>rw[g] at h;ext h
  |some o'=>
   rw[g] at h;have cM:a<s.n:=by simpa using e
   apply(abs_get cM g).trans h
theorem Jz:∀{as:List Addr}{os:List Obj},as.map (tg s)=os.map some->as.map s.abs.heap.get? = os.map some
 |[],[],_=>rfl
 |[],_::_,h=>by ext h
 |_::_,[],h=>by ext h
 |a::as,o::os,h=>by
  rw[aaG,aaG] at h;injection h with h1 h2;rw[aaG,aaG,acX h1,Jz h2]
end HT
namespace HT
open PySem PySem.W PyProof.Rows
variable{K:Params->Frag}
def ai1(he:opening p=plainProg p.main.scope.names)(hf:∀s,fenceModules? p s=some s)(hN:Nat.ble 600 N=true)
  (hz:∀P:Params,((boot_heap P).isNs mainGlobals,(boot_heap P).nsMap mainGlobals "__annotations__")=(true,ann))
  (h1:∀(w:World) (os),(oN treeTable p w oq ann N (tW w.params os) (topStub p)).map (λsT=>((staticsOk (importedModules p.main.body) (boot_heap w.params) sT.abs.heap&&namesBound p sT.abs.heap&&gensDone sT.abs&&laidKept (boot_heap w.params) sT.abs.heap),openSeen q loose (importedModules p.main.body) Xt true sT.abs))=some (true,openGood q loose))
  (h3:∀(w) (os),(oN treeTable p w oq ann N (tW w.params os) (topStub p)).map (λsT=>(as.map (tg sT),ts.map (tg sT)))=some (((K w.params).map (·.2)).map some,(ts.map λ_=>tabObj ([].toArray)).map some)) :
  LeftO p q loose Xt (Hook.obs (kmHook K as e ts)) (Hook.val (kmHook K as e ts)) N:=agW he hf hN hz h1 λw os=>by
 let#[sT,r,e1]:=abX.mp (h3 w os);obtain⟨e1,e2⟩:_/\_:=by simpa only[Prod.mk.injEq] using e1
 rw[r];show some (as.map sT.abs.heap.get?,ts.map sT.abs.heap.get?)=some ((K w.params).map λp=>some p.2,ts.map λ_=>some (tabObj ([].toArray)));rw[Jz e1,Jz e2,adw,adw];rfl
end HT
namespace K93
open PySem L2 L2.Ev
def tab:List (Str×Stmt):=[53,54,12,42,20,21,18,27,59,58,55,56,57,60,51,50,62,13,19,33,32,34,31,29,30,17,37,36,50,63,61,64,65].map (λi=>(Str.empty,top i))++[0,1,1,3,4,5,2].map (λi=>(("Book":Str),inClass (top 49) i))++[0,2,9,10,5,11,1,4,3].map (λi=>(("Changes":Str),inClass (top 26) i))++[0,15,14,10,9,19,8,7,6,18,13,12,21,20,11,3,24,26,27,25,29,28,23,1,2,22,3,4,5,16].map (λi=>(("Gate":Str),inClass (top 47) i))++[3,0,1].map (λi=>(("Tally":Str),inClass (top 41) i))
def isNm:Stmt->Bool
 |.FunctionDef x ..=>!(x == "law")
 |_=>true
def lo:List Str:=(["_wall","LinegateError","NoFit","NoChange","TooMany","NoRule","NoAnswer","NoLook","TooLate","NoRow","within","rising","GREATEST_SLOT","GREATEST_VALUE","unfit","edited_in_turn","are_edits","misfit","sheet_of_values","MOST_CHANGES","MOST_EDITS","GREATEST_RANK","Changes","sheet_of","free","filled","first_fitting","in_turn","values_behind","fits","wanted_places","middle_of_gap","WORDS","MOST_TRIES","Tally","makes_tally","MOST_WIDTH","MOST_HANDS","BAD_WORDS","Gate","Book","done","all_tuples","_law_draw","_law_settings","_law_edits","_law_spec","_law_word","_law_way","_law_tellings","_law_row","_law_on_gate","_law_refused","_law_booked","_law_book_right"]:List String).map Str.ofString
def vw:Program:={ PySem.Challenge.pw_linegate_k93_whole_done_again with main:={ (PySem.Challenge.pw_linegate_k93_whole_done_again).main with body:=(PySem.Challenge.pw_linegate_k93_whole_done_again).main.body.filter λs=>!isNm s } }
def Wk:Prop:=∀{YP:World->Heap->Prop}{K:Params->Fr}{d:DefRec},(∀(w:World) (h:Heap),YP w h->(K w.params).In h)->(∀(w:World) (h:Heap),YP w h->∀r∈jA (K w.params),h.get? r.2.1=some (PySem.W.tabObj ([].toArray)))->(∀w:World,AH (K w.params)=true)->(∀w:World,vj L (K w.params)=true)->(∀w:World,tab.map (look (K w.params))=tab.map want)->d.params.defaults=[]->d.name="law"->PySem.W.WalkO vw lo (PySem.W.XL vw []) YP (PySem.W.OpenLaw.row PySem.Challenge.rw_linegate_k93_whole_done_again).toRowW d [] (λf vs=>PySem.call f vs)
end K93
namespace K93
open PySem L2 L2.Ev
open PySem PySem.W PyProof.Rows L2 L2.Ev
def xt(s:Shared):Bool:=xlAt vw [] s&&recOk (RowW.records (OpenRow.toRowW (OpenLaw.row PySem.Challenge.rw_linegate_k93_whole_done_again))) s
def xt1(s:Shared)(e:xt s=true):XL vw [] (s.heap.nsMap mainGlobals) s.heap:=xl_of s (ajD.mp e).1
def rn(w:World)(os:OsState):(HT.oN treeTable PySem.Challenge.pw_linegate_k93_whole_done_again w HT.oq (some (.ref 6)) 20000 (HT.tW w.params os) (topStub PySem.Challenge.pw_linegate_k93_whole_done_again)).map (λsT=>((staticsOk (importedModules (PySem.Challenge.pw_linegate_k93_whole_done_again).main.body) (boot_heap w.params) sT.abs.heap&&namesBound PySem.Challenge.pw_linegate_k93_whole_done_again sT.abs.heap&&gensDone sT.abs&&laidKept (boot_heap w.params) sT.abs.heap),openSeen vw lo (importedModules (PySem.Challenge.pw_linegate_k93_whole_done_again).main.body) xt true sT.abs))=some (true,openGood vw lo):=by kernel_rfl
def xt2(s:Shared)(e:xt s=true):RecFacts (RowW.records (OpenRow.toRowW (OpenLaw.row PySem.Challenge.rw_linegate_k93_whole_done_again))) s.heap:=recFacts_of (ajD.mp e).2
abbrev RR:=OpenLaw.row PySem.Challenge.rw_linegate_k93_whole_done_again
def hdo{α:Type}{Yf:Shared->α}{Ya:World->α}{YP:World->Heap->Prop}{d:DefRec}{JN}(a:∀w (s:Shared),Yf s=Ya w->YP w s.heap)(b:∀w (h h':Heap),YP w h->(∀b o,h.get? b=some o->h'.get? b=some o)->YP w h')(c:WalkO vw lo (XL vw []) YP (OpenRow.toRowW RR) d JN λf vs=>call f vs)(hl:LeftO RR.prog vw lo xt Yf Ya 20000:=by apply HT.ai1 (ann:=some (.ref 6)) (by rfl) (λ_=>rfl) (by decide) (λ_=>by kernel_rfl) rn λw os=>by kernel_rfl)(s:RR.wellSaid=true:=by assumption)(p:defOf vw RR.name=some (d,JN):=by rfl)(q:RR.prog.theDef RR.name=some (d.params,d.body,d.scope):=by rfl)(r:kwWritten? d.params.kwonlyargs d.params.kw_defaults=some JN:=by rfl)(w:(OpenLaw.row PySem.Challenge.rw_linegate_k93_whole_done_again).promised:=by w_witness2):RR.Holds:=
 holds_open hl a b xt1 XL.keeps p q r xt2 rfl s (by decide +kernel) #[rfl,rfl,rfl,rfl,rfl,by decide +kernel] w c
local macro_rules | `(tactic| o_head $H)=>`(tactic| refine K93.hdo (Hook.of $H) (Hook.keeps $H) ?hc)
def wsd:OpenLaw.wellSaid PySem.Challenge.rw_linegate_k93_whole_done_again=true:=by kernel_rfl
set_option maxHeartbeats 0 in
def early(H:Wk):PySem.Challenge.rw_linegate_k93_whole_done_again.Holds:=by
 w_on;refine holds_law wsd λaj1=>?_;k_head
 k_fill
 apply H (λw h YY=>PySem.W.km_in_of YY) (L2.tabs_ok λw=>by kernel_rfl) (λw=>by kernel_rfl) (λw=>by kernel_rfl) (λw=>by kernel_rfl) rfl rfl
end K93
local macro_rules|`(tactic|walk_at "va")=>`(tactic|exact {})
local macro_rules | `(tactic| exists $h:ident, $x, $w:ident, $e:ident, 0) => `(tactic| (rcases $h:ident : $x:term with _ | $w:ident; (rw [$h:ident] at $e:ident; cases $e:ident)))
local macro_rules|`(tactic|exists $h:ident,$x,$w,$e:ident)=>`(tactic|(exists $h,$x,$w,$e,0;rw [$h:ident] at $e:ident))
def ci{c:Prop}[Decidable c]{α:Type}{a:Option α}{y:α}(e:(if c then a else none)=some y):c/\a=some y:=by
 by_cases h:c
 .rw[if_pos h] at e;apply#[h,e]
 .rw[abM h] at e;ext e
namespace L2
open PySem PySem.Spec
def adR:entryFor table "proto.unchain"=some Builtin.«proto.unchain»:=entryFor_of_tree (by kernel_rfl)
def Xo{α:Type}{Q:α->Shared->Prop}(hh:A.handled=some (.ref h))(he:s.heap.get? e=some oe)(hd:oe.data=.fields ve)(h2:2<ve.size)
  (hx:s.heap.get? h=some oh) (IA:oh.data=.fields vh) (zY:vh[2]? = some .none) (ne:h≠e) (q:E (.ref e) { s with heap:=s.heap.update e (Obj.mapFields (·.setIfInBounds 2 (.ref h))) }):wpAny (model prog w) A (raiseNew (.ref e):Sem α) Q E s:=by
 unfold raiseNew;refine aaq (wpAny_handled ?_);rw[hh];dsimp only;rw[if_pos (by simpa using ne)];refine aaq (ae1 (wpAny_runValue (agR adR ?_)));unfold Builtin.«proto.unchain»;refine aaq (af3 hx IA zY ?_);rw[if_pos (by rfl)];refine abP ?_;refine aaq ?_;unfold updateField;refine aaq (wpAny_load he ?_);rw[hd];dsimp only;rw[if_pos h2];apply wpAny_update' he (wpAny_throw q)
def aiG{prog:Program}{w:World}{A:Around}{E:Value->Shared->Prop}{s:Shared}{it h:Addr}{x left step:Int}{oh:Obj}{vh:Array Value}{Q:Option Value->Shared->Prop}(hh:A.handled=some (.ref h))(hx:s.heap.get? h=some oh)(IA:oh.data=.fields vh)(zY:vh[2]? = some .none)(hit:IsRangeIter s.heap it x left step)(ah2:left<=0)
  (hQ:∀h',Heap.ExtBut it s.heap h'->Q none { s with heap:=h' }):wpAny (model prog w) A (pyNext (.ref it)) Q E s:=by
 have hT:s.TypeIs (.ref it) "range_iterator":=#[_,hit,rfl]
 unfold pyNext;refine aaq (wpAny_attempt (af5 hT F.slot_range_iterator_next
  (ahL F.slot_range_iterator_next hT F.entry_range_iterator_next ?_ (F.args_range_iterator_next_1 _))))
 show wpAny _ _ (field (.ref it) 0 >>= _) _ _ s;refine aaq (af3 hit rfl rfl ?_);refine aaq (af3 hit rfl rfl ?_);refine aaq (af3 hit rfl rfl ?_);show wpAny _ _ (if left<=0 then _ else _) _ _ s;rw[if_pos ah2];refine aaq (akd ?_);refine aaq ?_;refine aaq ?_;simp only[newExc,newTuple];refine aaq (aex ?_ (by size_fits));refine aaq (wpAny_of_eq (by first|rfl|(simp only[firstArgMember];rfl)) ?_);refine aex ?_ (by size_fits);have hn:h≠(s.heap.push { cls:=.type "tuple",dict:=none,data:=.seq ([]:List Value).toArray }).objs.size:=acO (abG (aat _ hx));refine Xo (by first|exact hh|(show A.in1.handled=_;apply hh)) (acm _ rfl) rfl (by simp<;>lia) (aat _ (aat _ hx)) IA zY hn ?_;refine aaq (wpAny_isInstance #[_,agX _ (acm _ rfl) rfl,rfl] isSubtype_stop ?_);refine abP (hQ _ λb o hb e=>?_);rw[ad6 _ _ (afv (acO (abG (aat _ e))))];apply aat _ (aat _ e)
open PySem PySem.Spec PyProof.Rows
abbrev Key:=Sum Int Str
def ug:Key->Value->Bool
 |.inl k,v=>Value.isInt k v
 |.inr x,v=>Value.isStrOf x v
def acY(w:World):Key->Int
 |.inl k=>hashInt k
 |.inr x=>hashStr w x
def m9:∀{k} {v},ug k v=true->(∃i t,k=Sum.inl i/\v=Value.int i t)\/(∃x t,k=Sum.inr x/\v=Value.str x t)
 |.inl i,v,h=>by
  let#[t,e]:=Value.isInt_shape h;apply .inl #[i,t,rfl,e]
 |.inr x,v,h=>by
  let#[t,e]:=Value.isStrOf_shape h;apply .inr #[x,t,rfl,e]
def ai3(i:Int)(t:Tok):ug (.inl i) (.int i t)=true:=by simp[ug,Value.isInt]
def agA(x:Str)(t:Tok):ug (.inr x) (.str x t)=true:=by simp[ug,Value.isStrOf]
def afs(a b:Int):decide ((Sum.inl a:Key)=Sum.inl b)=(a==b):=by
 by_cases e:a=b
 .subst e;simp
 .have h:¬(Sum.inl a:Key)=Sum.inl b:=λq=>e (ake q)
  rw[acp h];apply(adY.mpr e).symm
def aic(a b:Str):decide ((Sum.inr a:Key)=Sum.inr b)=decide (a=b):=by
 by_cases e:a=b
 .subst e;simp
 .have h:¬(Sum.inr a:Key)=Sum.inr b:=λq=>e (Sum.inr.inj q)
  rw[acp h,acp e]
def V1(a:Int)(b:Str):decide ((Sum.inl a:Key)=Sum.inr b)=false:=acp (λq=>nomatch q)
def ahj(a:Str)(b:Int):decide ((Sum.inr a:Key)=Sum.inl b)=false:=acp (λq=>nomatch q)
def f7(prog:Program)(w:World):PySem.KeyKind prog w Key where
 is:=ug
 hash:=acY w
 inj:=λv a b ha hb=>by
  rcases m9 ha with⟨i,t,rfl,rfl⟩|⟨x,t,rfl,rfl⟩
  .rcases m9 hb with⟨j,u,rfl,e⟩|⟨y,u,rfl,e⟩
   .injection e with e1 _;rw[e1]
   .exact nomatch e
  .rcases m9 hb with⟨j,u,rfl,e⟩|⟨y,u,rfl,e⟩
   .exact nomatch e
   .injection e with e1 _;rw[e1]
 byValue:=λk v h=>by
  rcases m9 h with⟨i,t,rfl,rfl⟩|⟨x,t,rfl,rfl⟩<;>rfl
 pyHash:=λhv h=>by
  rcases m9 hv with⟨i,t,rfl,rfl⟩|⟨x,t,rfl,rfl⟩
  .exact wpAny_pyHash_int h
  .exact wpAny_pyHash_str h
 eqBool:=λhu hv h=>by
  rcases m9 hu with⟨i,t,rfl,rfl⟩|⟨x,t,rfl,rfl⟩
  .rcases m9 hv with⟨j,u,rfl,rfl⟩|⟨y,u,rfl,rfl⟩
   .rw[afs] at h;apply wpAny_eqBool_int h
   .rw[V1] at h;apply SeqAt.EqAt.int_str i t y u _ _ _ _ h
  .rcases m9 hv with⟨j,u,rfl,rfl⟩|⟨y,u,rfl,rfl⟩
   .rw[ahj] at h;apply SeqAt.EqAt.str_int x t j u _ _ _ _ h
   .rw[aic] at h;apply wpAny_eqBool_str h
 «strs»:=λk x t v h=>by
  rcases m9 h with⟨i,u,rfl,e⟩|⟨y,u,rfl,e⟩
  .exact nomatch e
  .injection e with e1 _;subst e1;ext v<;>rfl
def aeT(prog:Program)(w:World)(i:Int)(t:Tok):(f7 prog w).is (.inl i) (.int i t)=true:=ai3 i t
def aa0(prog:Program)(w:World)(x:Str)(t:Tok):(f7 prog w).is (.inr x) (.str x t)=true:=agA x t
inductive V where
 |aC|bl (b:Bool)|int (i:Int)|str (x:Str)|jO (b:Array UInt8)|tE (b:UInt64)|ref (a:Addr)|ty (n:String)
 deriving DecidableEq
def RelV:V->Value->Prop
 |.aC,u=>u=Value.none
 |.bl b,u=>u=Value.bool b
 |.int i,u=>∃t,u=Value.int i t
 |.str x,u=>∃t,u=Value.str x t
 |.jO b,u=>∃t,u=Value.bytes b t
 |.tE b,u=>∃t,u=Value.float b t
 |.ref a,u=>u=Value.ref a
 |.ty n,u=>u=Value.type n
abbrev aS:List V->List Value->Prop:=Paired RelV
def aS.length(r:aS xs us):xs.length=us.length:=Paired.length r
def aS.get:∀{xs} {us}{i:Nat} {x},aS xs us->xs[i]? = some x->∃u,us[i]? = some u/\RelV x u
 |_,_,_,_,.nil,e=>by simp at e
 |_,_,0,_,.cons r _,e=>by simp at e;subst e;apply#[_,rfl,r]
 |_,_,i+1,x,.cons _ t,e=>by
  let#[u,h1,h2]:=aS.get t (by simpa using e);apply#[u,by simpa using h1,h2]
def aS.append:∀{xs ys} {us ws},aS xs us->aS ys ws->aS (xs++ys) (us++ws)
 |_,_,_,_,.nil,s=>s
 |_,_,_,_,.cons r t,s=>.cons r (aS.append t s)
def aS.take:∀{xs} {us} (n),aS xs us->aS (xs.take n) (us.take n)
 |_,_,0,_=>.nil
 |_,_,_+1,.nil=>.nil
 |_,_,n+1,.cons r t=>.cons r (aS.take n t)
def aS.drop:∀{xs} {us} (n),aS xs us->aS (xs.drop n) (us.drop n)
 |_,_,0,r=>r
 |_,_,_+1,.nil=>.nil
 |_,_,n+1,.cons _ t=>aS.drop n t
def iI:Option V->Option Value->Prop
 |some v,some u=>RelV v u
 |none,none=>True
 |_,_=>False
def KV{κ:Type}:List (κ×V)->List (κ×Value)->Prop:=Paired λ(p:κ×V) (q:κ×Value)=>p.1=q.1/\RelV p.2 q.2
def kV:Key->V
 |.inl i=>.int i
 |.inr x=>.str x
def nE(h:Heap)(a:Addr)(items:Array Value):Prop:=∃o,h.get? a=some o/\o.cls=.type "tuple"/\o.dict=none/\∃n,o.data=.seq items n
def nE.isTup(x:nE h a items):IsTup h a items:=let#[o,e,c,_,d]:=x;#[o,e,c,d]
def nE.lt(x:nE h a items):a<h.objs.size:=let#[_,e,_]:=x;abG e
def nE.new(h:Heap)(items:Array Value):nE (h.push { cls:=.type "tuple",data:=.seq items }) h.objs.size items:=#[_,acm _ rfl,rfl,rfl,_,rfl]
inductive HO where
 |lst (xs:List V)
 |tup (xs:List V)
 |dK (ak:List (Key×V))|dT (ak:List (List Key×V))
 |set (S:Int->Bool) (n:Nat)
 |ins (C dx:Addr) (fs:List (Str×V))
 |own (x:Addr)
 |xd (fs:List (Str×V))
 |met (f x:Addr)
 |dH (lo hi:Int)
 |cC (o:Obj) (u:HO)
 |qH (ps:Array Value)
 |iV (q:Str) (pos:Pos)|jv (q:Str)
 |ext (φ:Heap->Prop)
abbrev Hp:=Addr->Option HO
inductive m8 where
 |tup (xs:List V)|vQ (o:Obj) (xs:List V)|iV (q:Str) (pos:Pos)|jv (q:Str)
def m8.ho:m8->HO
 |.tup xs=>.tup xs
 |.vQ o xs=>.cC o (.tup xs)
 |.iV q p=>.iV q p
 |.jv q=>.jv q
def m8.tp:m8->Option (List V)
 |.tup xs=>some xs
 |.vQ _ xs=>some xs
 |_=>none
def Tk(H:Hp)(b:Addr)(xs:List V):Prop:=∃t:m8,t.tp=some xs/\H b=some t.ho
def upd(H:Hp)(a:Addr)(o:HO):Hp:=λb=>if b=a then some o else H b
def bP:upd H a o a=some o:=by unfold upd;rw[if_pos rfl]
def aJ(h:b≠a):upd H a o b=H b:=by unfold upd;rw[abM h]
def ac7{H:Hp}(h:H a=some o)(h':H b=some u)(d:o≠u):a≠b:=by
 intro e;subst e;rw[h] at h';apply d (acB h')
def cU{H:Hp}(h:H a=some o)(h':H b=none):a≠b:=by
 intro e;subst e;rw[h] at h';ext h'
section
variable(P:Program)(w:World)
def dD(H:Hp)(h:Heap)(a:Addr):HO->Prop
 |.lst xs=>xs.length<=sizeLine/\∃(av:List Value) (n:Nat),aS xs av/\h.get? a=some { cls:=.type "list",data:=.seq av.toArray n }
 |.tup xs=>xs.length<=sizeLine/\∃av:List Value,aS xs av/\nE h a av.toArray
 |.dK ak=>ak.length<=sizeLine/\(a==sysModules)=false/\∃vs,KV ak vs/\h.DictOf (f7 P w) a vs
 |.dT ak=>ak.length<=sizeLine/\(a==sysModules)=false/\∃xs:List (List Key×Addr×Value),
   Paired (λ(p:List Key×V) (q:List Key×Addr×Value)=>p.1=q.1/\Tk H q.2.1 (p.1.map kV)/\RelV p.2 q.2.2) ak xs/\
   ∃o es ep,h.get? a=some o/\o.ExactDict/\o.data=.dict es ep/\es.toList=xs.map (entryOfKey (tupleKind (f7 P w)))/\(xs.map (·.1)).Nodup
 |.set S n=>h.SetOf (intKind P w) a S n
 |.ins C dx fs=>H dx=some (.own a)/\fs.length<=1000/\dx≠a/\h.get? a=some (PySem.W.instObj C dx)/\
   ∃mA,h.Ns1 dx mA/\(∀f,iI (fs.lookup f) (mA f))/\PySem.Within mA (fs.map (·.1))
 |.own _=>∃o,h.get? a=some o
 |.xd fs=>∃mA,h.Ns1 a mA/\∀f,iI (fs.lookup f) (mA f)
 |.dH lo hi=>∃t u v,h.get? a=some { cls:=.type "range",data:=.fields ([.int lo t,.int hi u,.int 1 v].toArray) }
 |.cC o u=>h.get? a=some o/\dD H h a u
 |.qH ps=>h.get? a=some { cls:=.none,data:=.fields ps }
 |.iV q pos=>∃ps:Array Value,h.get? a=some { cls:=.none,data:=.fields ps }/\(ps=([].toArray)\/∃c,ps=([rawInt pos.line,rawInt pos.col,.ref c].toArray)/\H c=some (.jv q))
 |.jv q=>h.CodeRec (.ref a) q
 |.met f x=>h.get? a=some (PySem.W.methodObj (.ref f) (.ref x))
 |.ext φ=>φ h/\(∃o,h.get? a=some o)/\∀h1 h2:Heap,φ h1->(∀o,h1.get? a=some o->h2.get? a=some o)->φ h2
def cY(H:Hp)(h:Heap):Prop:=∀a o,H a=some o->dD P w H h a o
end
def dD.lt(x:dD P w H h a o):a<h.objs.size:=by
 cases o with
 |lst xs=>let#[_,_,_,_,e]:=x;apply abG e
 |tup xs=>let#[_,_,_,p]:=x;apply p.lt
 |dK ak=>let#[_,_,_,_,o,_,_,e,_]:=x;apply abG e
 |dT ak=>let#[_,_,_,_,o,_,_,e,_]:=x;apply abG e
 |set S n=>let#[o,_,_,_,e,_]:=x;apply abG e
 |ins C dx fs=>let#[_,_,_,e,_]:=x;apply abG e
 |own y=>let#[_,e]:=x;apply abG e
 |xd fs=>let#[_,#[_,_,_,e,_],_]:=x;apply abG e
 |dH lo hi=>let#[_,_,_,e]:=x;apply abG e
 |cC ob u=>let#[e,_]:=x;apply abG e
 |qH ps=>apply abG (show h.get? a=some _ from x)
 |iV q pos=>let#[_,e,_]:=x;apply abG e
 |jv q=>let#[_,_,_,_,e,g,_]:=x;ext e;apply abG g
 |met f y=>apply abG (show h.get? a=some _ from x)
 |ext φ=>let#[_,#[_,e],_]:=x;apply abG e
def Paired.CL:∀{Oj} {NV},Paired F Oj NV->(∀a b,F a b->G a b)->Paired G Oj NV
 |_,_,.nil,_=>.nil
 |_,_,.cons r t,f=>.cons (f _ _ r) (Paired.CL t f)
def dD.gH(x:dD P w H h a o)(k:∀b u,(b=a\/H b=some (.own a))->h.get? b=some u->h'.get? b=some u)
  (ho:∀b,H b=some (.own a)->H' b=some (.own a)) (ht:∀b (t:m8),H b=some t.ho->H' b=some t.ho):dD P w H' h' a o:=by
 induction o with
 |lst xs=>let#[z,av,n,r,e]:=x;apply#[z,av,n,r,k _ _ (.inl rfl) e]
 |tup xs=>let#[z,av,r,ob,e,c]:=x;apply#[z,av,r,ob,k _ _ (.inl rfl) e,c]
 |dK ak=>let#[z,y,vs,r,ob,es,ep,e,c]:=x;apply#[z,y,vs,r,ob,es,ep,k _ _ (.inl rfl) e,c]
 |dT ak=>
  let#[z,y,xs,r,ob,es,ep,e,c]:=x;apply#[z,y,xs,Paired.CL r λp q z=>#[z.1,let#[t,e,g]:=z.2.1;#[t,e,ht _ t g],z.2.2],ob,es,ep,k _ _ (.inl rfl) e,c]
 |set S n=>let#[ob,es,ep,t,e,c]:=x;apply#[ob,es,ep,t,k _ _ (.inl rfl) e,c]
 |ins C dx fs=>
  let#[d,z,ne,e,mA,#[od,es,ep,e2,c],r]:=x;apply#[ho _ d,z,ne,k _ _ (.inl rfl) e,mA,#[od,es,ep,k _ _ (.inr d) e2,c],r]
 |own y=>let#[ob,e]:=x;apply#[ob,k _ _ (.inl rfl) e]
 |xd fs=>let#[mA,#[od,es,ep,e,c],r]:=x;apply#[mA,#[od,es,ep,k _ _ (.inl rfl) e,c],r]
 |dH lo hi=>let#[t,u,v,e]:=x;apply#[t,u,v,k _ _ (.inl rfl) e]
 |cC ob u ih=>let#[e,q]:=x;apply#[k _ _ (.inl rfl) e,ih q]
 |iV q pos=>let#[ps,e,g]:=x;apply#[ps,k _ _ (.inl rfl) e,g.imp id λ⟨c,e1,e2⟩=>#[c,e1,ht c (.jv q) e2]]
 |jv q=>let#[_,o,vs,t,e,g,r]:=x;ext e;apply#[_,o,vs,t,rfl,k _ _ (.inl rfl) g,r]
 |qH ps=>
  have e:=x;apply k a _ (.inl rfl) e
 |met f y=>
  have e:=x;apply k a _ (.inl rfl) e
 |ext φ=>let#[p,#[o,e],st]:=x;apply#[st _ _ p λo q=>k _ _ (.inl rfl) q,#[o,k _ _ (.inl rfl) e],st]
def cY.lt(x:cY P w H h)(e:H a=some o):a<h.objs.size:=(x a o e).lt
def cY.fresh(x:cY P w H h)(e:h.objs.size<=a):H a=none:=by
 cases q:H a with
 |none=>rfl
 |some u=>apply absurd (acS (x.lt q) e) (aep _)
def cY.kept(x:cY P w H h)(k:∀b u,h.get? b=some u->h'.get? b=some u):cY P w H h':=λa o e=>
 (x a o e).gH (λb u _ q=>k b u q) (λ_ q=>q) λ_ _ q=>q
def cY.laid(x:cY P w H h)(k:∀b u,h.get? b=some u->h'.get? b=some u)(hp:h.objs.size<=a)(new:dD P w (upd H a o) h' a o):cY P w (upd H a o) h':=λb u e=>by
 have hn:=x.fresh hp
 by_cases hb:b=a
 .subst hb;rw[bP] at e;ext e;apply new
 .rw[aJ hb] at e;apply(x b u e).gH (λc v _ q=>k c v q) (λc q=>by rw[aJ (cU q hn)];apply q) λc xs q=>by rw[aJ (cU q hn)];apply q
def Rd(H:Hp)(a:Addr)(u:HO):Prop:=H a=some u\/∃o,H a=some (.cC o u)
def Rd.ok(r:Rd H a u)(x:cY P w H h):dD P w H h a u:=by
 rcases r with r|⟨o,r⟩
 .exact x a u r
 .let#[_,q]:=x a _ r;apply q
def zR:Option HO->Prop
 |some (.lst _)=>True
 |some (.dK _)=>True
 |some (.dT _)=>True
 |some (.set _ _)=>True
 |some (.ins _ _ _)=>True
 |some (.ext _)=>True
 |_=>False
def cY.write(ok:cY P w H h)(mu:zR (H x))(he:e=x\/H e=some (.own x))(k:∀b u,b≠e->h.get? b=some u->h'.get? b=some u)(xK:∃u,h'.get? e=some u)
  (new:dD P w (upd H x o') h' x o'):cY P w (upd H x o') h':=λb u q=>by
 have MY:∀c y,H c=some (.own y)->c≠x:=λc y r z=>by subst z;rw[r] at mu;apply mu
 have Yz:∀c (t:m8),H c=some t.ho->c≠x:=λc t r z=>by subst z;rw[r] at mu;ext t<;>apply mu
 by_cases hb:b=x
 .subst hb;rw[bP] at q;ext q;apply new
 .rw[aJ hb] at q
  by_cases uG:b=e
  .have q':H b=some (.own x):=by
    rcases he with z|z
    .exact absurd (uG.trans z) hb
    .rw[uG];apply z
   rw[q] at q';ext q';let#[v,hv]:=xK;apply#[v,by rw[uG];apply hv]
  .refine(ok b u q).gH (λc v hc r=>k c v ?_ r) (λc r=>by rw[aJ (MY c b r)];apply r) λc xs r=>by rw[aJ (Yz c xs r)];apply r
   rcases hc with rfl|hc
   .exact uG
   .rintro rfl
    rcases he with z|z
    .exact MY c b hc z
    .rw[hc] at z;ext z;apply hb rfl
structure Un(fs ex:List Addr)(H H':Hp)(h h':Heap):Prop where
 keep:∀b o,h.get? b=some o->H b=none->b∉fs->b∉ex->h'.get? b=some o
 slot:∀b o,h.get? b=some o->H b=none->b∈fs->b∉ex->∃sl,h'.get? b=some { o with slots:=sl }
 free:∀b o,h.get? b=some o->H b=none->b∉ex->H' b=none
 there:∀b o,h.get? b=some o->b∉ex->∃o',h'.get? b=some o'
 jy:∀b (t:m8),H b=some t.ho->H' b=some t.ho
 i9:∀b o u,H b=some (.cC o u)->H' b=some (.cC o u)
 jT:∀b ps,H b=some (.qH ps)->∃more,H' b=some (.qH (ps++more))
def Un.any(u:Un fs ex H H1 h h1)(q:h.get? b=some ob)(n:H b=none)(hx:b∉ex):∃sl,h1.get? b=some { ob with slots:=sl }:=by
 by_cases hb:b∈fs
 .exact u.slot b ob q n hb hx
 .exact#[ob.slots,u.keep b ob q n hb hx]
def Un.kept(k:∀b u,h.get? b=some u->h'.get? b=some u):Un fs ex H H h h':=
 #[λb ob q _ _ _=>k b ob q,λb ob q _ _ _=>#[ob.slots,k b ob q],λ_ _ _ n _=>n,λb ob q _=>#[ob,k b ob q],λ_ _ q=>q,λ_ _ _ q=>q,λ_ ps q=>#[([].toArray),by rw[q];simp]]
def Un.refl:Un fs ex H H h h:=Un.kept λ_ _ q=>q
def Un.laid(k:∀b u,h.get? b=some u->h'.get? b=some u)(hp:h.objs.size<=a)(hn:H a=none):Un fs ex H (upd H a o) h h' where
 keep:=λb u q _ _ _=>k b u q
 slot:=λb u q _ _ _=>#[u.slots,k b u q]
 free:=λb u q n _=>by rw[aJ (acO (acS (abG q) hp))];apply n
 there:=λb u q _=>#[u,k b u q]
 jy:=λb xs q=>by rw[aJ (cU q hn)];apply q
 i9:=λb u xs q=>by rw[aJ (cU q hn)];apply q
 jT:=λb ps q=>#[([].toArray),by rw[aJ (cU q hn),q];simp]
def Un.write(mu:zR (H x))(he:e=x\/H e=some (.own x))(k:∀b u,b≠e->h.get? b=some u->h'.get? b=some u)(xK:∃u,h'.get? e=some u):Un fs ex H (upd H x o) h h':=by
 have hx:∀b,H b=none->b≠x:=λb n z=>by subst z;rw[n] at mu;apply mu
 have hb:∀b,H b=none->b≠e:=λb n z=>by
  subst z;rcases he with r|r
  .exact hx b n r
  .rw[n] at r;ext r
 have hm:∀b u,H b=some u->¬zR (some u)->b≠x:=λb u q nm z=>by subst z;rw[q] at mu;apply nm mu
 refine#[λb u q n _ _=>k b u (hb b n) q,λb u q n _ _=>#[u.slots,k b u (hb b n) q],λb u q n _=>by rw[aJ (hx b n)];apply n,λb u q _=>?_,
  λb xs q=>by rw[aJ (hm b _ q (by ext xs<;>apply λz=>z))];apply q,λb u xs q=>by rw[aJ (hm b _ q λz=>z)];apply q,λb ps q=>#[([].toArray),by rw[aJ (hm b _ q λz=>z),q];simp]]
 by_cases uG:b=e
 .subst uG;apply xK
 .exact#[u,k b u uG q]
def C5(h:Heap)(H:Hp):List Addr:=(List.range h.objs.size).filter λa=>(H a).isSome
def rH(h:Heap)(H:Hp):Heap:=PySem.W.hideAll h (C5 h H)
def aiJ(h:Heap)(H:Hp):(rH h H).objs.size=h.objs.size:=PySem.W.hideAll_size _ _
def IB(e:h.get? b=some o)(n:H b=none):(rH h H).get? b=some o:=
 PySem.W.hideAll_get _ e λhm=>by
  have q:=(adF.mp hm).2;rw[n] at q;simp at q
def aiV(e:(rH h H).get? b=some o):h.get? b=some o/\H b=none:=by
 have e':=PySem.W.of_hideAll (C5 h H) e;refine#[e',?_];cases q:H b with
 |none=>rfl
 |some x=>
  have hm:b∈C5 h H:=adF.mpr #[akl.mpr (abG e'),by simp[q]];have z:(rH h H).get? b=none:=PySem.W.hideAll_none (C5 h H) hm;rw[z] at e;ext e
structure Mod(K:Fr)(mg:Str->Option Value)(base:Heap):Prop where
 qG:K.In base
 glob:base.Ns mainGlobals mg
 blt:∃mb,base.Ns builtinsNs mb/\∀x:Str,x≠"__name__"->mb x=bootBuiltins x
 nolimit:base.NoLimit
 bmn:∃bm ob,mg "__builtins__"=some (.ref bm)/\bm≠builtinsNs/\base.get? bm=some ob/\ob.cls=.type "module"/\ob.dict=some builtinsNs/\ob.data=.plain
structure Cx where
 prog:Program
 w:World
 K:Fr
 mg:Str->Option Value
 base:Heap
 A:Around
 N:List Str
 cQ:Shared
 pO:Hp
 env:Env
 outer:List Env
 stack:List Env
 ex:List Addr
 fn:Str->Bool
 calm:Bool
 pn:List (Addr×Obj)
 xe:Value->Shared->Prop
abbrev w8{α:Type}(X:Cx)(A:Around)(t:Sem α):=wpAny (model X.prog X.w) A t
abbrev Y1(X:Cx)(a:Expr):Prop:=starEach [a] X.env=[(false,eval a X.env)]
abbrev j7(X:Cx)(x:Str):Prop:=X.fn x=true\/X.env.scope.names.lookup x=some .local
def bg(l:List Env):List Addr:=l.filterMap (·.frame)
abbrev Cx.fs(X:Cx):List Addr:=bg X.outer
def De(sc:Scope)(x:Str):Prop:=sc.names.lookup x=some .local\/sc.names.lookup x=some .cell\/sc.names.lookup x=some .free
def Loc(sc:Scope)(x:Str):Prop:=sc.names.lookup x=some .local\/sc.names.lookup x=some .cell
def Look(env:Env)(h:Heap)(m:Str->Option Value)(x:Str)(u:Value):Prop:=
 (env.kindOf x=some .local/\m x=some u)\/((env.kindOf x=some .cell\/env.kindOf x=some .free)/\∃c,env.cells.lookup x=some c/\h.IsCell c (some u))
structure Cx.Ok(X:Cx):Prop where
 mod:Mod X.K X.mg X.base
 kind:X.env.scope.kind=.function
 glob:X.env.globals=mainGlobals
 blt:X.env.builtins=builtinsNs
 above:X.cQ.heap.objs.size<=X.env.locals
 inj:∀x y c,X.env.cells.lookup x=some c->X.env.cells.lookup y=some c->x=y
 has:∀x,(X.env.kindOf x=some .cell\/X.env.kindOf x=some .free)->∃c,X.env.cells.lookup x=some c
 o6:∀x c,X.fn x=true->X.env.cells.lookup x=some c->X.cQ.heap.objs.size<=c
 hd:X.calm=true->X.A.handled=none
 frames:X.A.frames=some X.stack
 rA:X.stack=X.outer\/(X.stack=X.env::X.outer/\X.env.frame=some X.env.locals)
 um:∀b∈X.ex,b≠X.env.locals/\∀x c,X.env.cells.lookup x=some c->c≠b
 bs:∀b o,X.base.get? b=some o->X.cQ.heap.get? b=some o/\X.pO b=none
 jB:X.base.objs.size<=X.cQ.heap.objs.size
 pA:∀b o,X.base.get? b=some o->b∉X.ex
 oK:∀b∈X.ex,b∉X.fs
 ju:X.cQ.heap.FunFrames X.base X.outer
 mE:∀b∈X.fs,X.pO b=none
def uH(A:Around)(H:Hp):Prop:=A.handled=none\/∃(a:Addr) (ob:Obj) (u:HO) (vs:Array Value),A.handled=some (.ref a)/\H a=some (.cC ob u)/\ob.data=.fields vs/\vs[2]? = some .none
def uH.mono(h:uH A H)(f:∀b o u,H b=some (.cC o u)->H' b=some (.cC o u)):uH A H':=h.elim .inl λ⟨a,ob,u,vs,h1,h2,h3⟩=>.inr #[a,ob,u,vs,h1,f _ _ _ h2,h3]
structure Hq(K:Fr)(A:Around)(H:Hp):Prop where
 hd:uH A H
 ok:AH K=true
 lm:∀r∈jA K,H r.2.1=some (.iV r.2.2.1 r.2.2.2)
def Hq.mono{K:Fr}(h:Hq K A H)(f:∀b o u,H b=some (.cC o u)->H' b=some (.cC o u))(g:∀b (t:m8),H b=some t.ho->H' b=some t.ho):Hq K A H':=
 #[h.hd.mono f,h.ok,λr m=>g _ (.iV _ _) (h.lm r m)]
structure Inv(X:Cx)(af:List (Addr×Obj))(U:List (Option V))(H:Hp)(s:Shared):Prop where
 ok:X.Ok
 os:s.os=X.cQ.os
 bare:AllBare s.gens
 base:Un X.fs X.ex X.pO H X.cQ.heap s.heap
 loc:∃m,s.heap.Ns X.env.locals m/\∀(i:Nat) (x) (v),X.N[i]? = some x->U[i]? = some (some v)->De X.env.scope x->∃u,RelV v u/\Look X.env s.heap m x u
 cell:∀x c,X.env.cells.lookup x=some c->∃v,s.heap.IsCell c v
 free:H X.env.locals=none
 g_:∀x c,X.env.cells.lookup x=some c->H c=none
 pin:∀p∈X.pn++af,s.heap.get? p.1=some p.2/\H p.1=none/\p.1≠X.env.locals/\p.1∉X.fs/\∀v,p.2.data≠.cell v
 aG:cY X.prog X.w H s.heap
 len:U.length=X.N.length
 hq:Hq X.K X.A H
section
variable{X:Cx}
def Cx.Ok.aiP(ok:X.Ok)(e:X.base.get? b=some o):b∉X.fs:=λhb=>by
 have:=(ok.ju.mem hb).1;rw[e] at this;ext this
def Inv.bs(I:Inv X af U H s):∀b o,X.base.get? b=some o->s.heap.get? b=some o/\H b=none:=λb o e=>
 #[I.base.keep b o (I.ok.bs b o e).1 (I.ok.bs b o e).2 (I.ok.aiP e) (I.ok.pA b o e),I.base.free b o (I.ok.bs b o e).1 (I.ok.bs b o e).2 (I.ok.pA b o e)]
def Inv.bk(I:Inv X af U H s):∀b o,X.base.get? b=some o->s.heap.get? b=some o:=λb o e=>(I.bs b o e).1
def Inv.mod(I:Inv X af U H s):Mod X.K X.mg X.base:=I.ok.mod
def Inv.dQ(I:Inv X af U H s):X.K.In s.heap:=I.ok.mod.qG.keeps I.bk
def Inv.lt(I:Inv X af U H s):X.env.locals<s.heap.objs.size:=let#[_,hn,_]:=I.loc;hn.lt
def Inv.sz(I:Inv X af U H s):X.cQ.heap.objs.size<=s.heap.objs.size:=ada I.ok.above (afR I.lt)
def Inv.Q6(I:Inv X af U H s)(h:s.heap.objs.size<=a):a∉X.fs:=λhb=>by
 let#[_,o,ho,_]:=I.ok.ju.mem hb;apply absurd (acS (abG ho) (ada I.sz h)) (aep _)
def Inv.jS(I:Inv X af U H s):∀x c,X.env.cells.lookup x=some c->c≠X.env.locals:=λx c e z=>by
 let#[v,o,ho,hd]:=I.cell x c e;let#[m,#[o',es,ep,lY,Ih,_],_]:=I.loc;rw[z,lY] at ho;ext ho;rw[Ih] at hd;ext hd
def Inv.ju(I:Inv X af U H s):s.heap.FunFrames X.base X.outer:=by
 have all:∀(l:List Env),(∀b∈bg l,b∈X.fs)->X.cQ.heap.FunFrames X.base l->s.heap.FunFrames X.base l:=by
  intro l
  induction l with
  |nil=>intro _ _;trivial
  |cons env r ih=>
   intro hs hl;let#[hk,#[L,o,hf,hn,ho,hd],hr]:=hl;have hL:=hs L (by unfold bg;rw[adZ,hf];apply aav);let#[sl,e]:=I.base.slot L o ho (I.ok.mE L hL) hL λz=>I.ok.oK L z hL
   apply#[hk,#[L,_,hf,hn,e,hd],ih (λb hb=>hs b (by unfold bg;rw[adZ,hf];apply aar _ hb)) hr]
 apply all X.outer (λ_ hb=>hb) I.ok.ju
def Inv.stack(I:Inv X af U H s):s.heap.FunFrames X.base X.stack:=by
 rcases I.ok.rA with e|⟨e,hf⟩
 .rw[e];apply I.ju
 .rw[e];let#[m,hn,_]:=I.loc;refine .cons (by rw[I.ok.kind];decide) hf hn ?_ I.ju;apply Heap.get?_none_of_le (ada I.ok.jB I.ok.above)
def Inv.Bh(I:Inv X af U H s):∀b∈bg X.stack,b∈X.env.locals::X.fs:=λb hb=>by
 rcases I.ok.rA with e|⟨e,hf⟩
 .rw[e] at hb;apply aar _ hb
 .rw[e] at hb;unfold bg at hb;rw[adZ,hf] at hb;apply hb
def Inv.vq(I:Inv X af U H s):∀b∈bg X.stack,H b=none:=λb hb=>by
 rcases aaO.mp (I.Bh b hb) with e|hb
 .rw[e];apply I.free
 .let#[_,o,ho,_]:=I.ok.ju.mem hb;apply I.base.free b o ho (I.ok.mE b hb) λz=>I.ok.oK b z hb
def Inv.step{ch:List Addr}(I:Inv X af U H s)
  (nF:∀b∈ch,(b∈X.ex\/X.cQ.heap.objs.size<=b)/\b≠X.env.locals/\(∀x c,X.env.cells.lookup x=some c->c≠b)/\∀p∈X.pn++af,p.1≠b)
  (keep:∀b o,b≠X.env.locals->b∉X.fs->b∉ch->s.heap.get? b=some o->H b=none->h'.get? b=some o)
  (slot:∀b o,b≠X.env.locals->b∈X.fs->b∉ch->s.heap.get? b=some o->H b=none->∃sl,h'.get? b=some { o with slots:=sl }) (free:∀b o,b∉ch->s.heap.get? b=some o->H b=none->H' b=none)
  (there:∀b o,b∉ch->s.heap.get? b=some o->∃o',h'.get? b=some o')
  (jy:∀b (t:m8),H b=some t.ho->H' b=some t.ho) (i9:∀b o u,H b=some (.cC o u)->H' b=some (.cC o u)) (jT:∀b ps,H b=some (.qH ps)->∃more,H' b=some (.qH (ps++more)))
  (ns:∀m,s.heap.Ns X.env.locals m->h'.Ns X.env.locals m) (aG:cY X.prog X.w H' h') (hg:AllBare g') :
  Inv X af U H' { s with heap:=h',gens:=g',drawn:=d',toks:=t' }:=by
 have BS:∀b o,X.cQ.heap.get? b=some o->b≠X.env.locals:=λb o e=>acO (acS (abG e) I.ok.above)
 have Cr:∀b o,X.cQ.heap.get? b=some o->b∉X.ex->b∉ch:=λb o e hx hb=>by
  rcases(nF b hb).1 with z|z
  .exact hx z
  .exact absurd (acS (abG e) z) (aep _)
 have cellK:∀x c,X.env.cells.lookup x=some c->∀v,s.heap.IsCell c v->h'.IsCell c v:=λx c e v #[o,ho,hd]=>by
  have mF:c∉ch:=λz=>(nF c z).2.2.1 x c e rfl
  by_cases hc:c∈X.fs
  .let#[sl,q]:=slot c o (I.jS x c e) hc mF ho (I.g_ x c e);apply#[_,q,hd]
  .exact#[o,keep c o (I.jS x c e) hc mF ho (I.g_ x c e),hd]
 refine#[I.ok,I.os,hg,#[λb o e n hb hx=>?_,λb o e n hb hx=>?_,λb o e n hx=>?_,λb o e hx=>?_,λb xs e=>jy b xs (I.base.jy b xs e),λb o xs e=>i9 b o xs (I.base.i9 b o xs e),λb ps e=>?_],?_,λx c e=>?_,?_,λx c e=>?_,λp hp=>?_,aG,I.len,I.hq.mono i9 jy]
 .exact keep b o (BS b o e) hb (Cr b o e hx) (I.base.keep b o e n hb hx) (I.base.free b o e n hx)
 .let#[sl,e1]:=I.base.slot b o e n hb hx;let#[qE,e2]:=slot b _ (BS b o e) hb (Cr b o e hx) e1 (I.base.free b o e n hx);apply#[qE,e2]
 .let#[o',e1]:=I.base.there b o e hx;apply free b o' (Cr b o e hx) e1 (I.base.free b o e n hx)
 .let#[o',e1]:=I.base.there b o e hx;apply there b o' (Cr b o e hx) e1
 .let#[m1,e1]:=I.base.jT b ps e;let#[m2,e2]:=jT b _ e1;apply#[m1++m2,by rw[e2,Array.append_assoc]]
 .let#[m,hn,hl]:=I.loc;refine#[m,ns m hn,λi x v e1 e2 e3=>?_];let#[u,r,l]:=hl i x v e1 e2 e3;refine#[u,r,?_];rcases l with l|⟨k,c,e,z⟩
  .exact .inl l
  .exact .inr #[k,c,e,cellK x c e _ z]
 .let#[v,z]:=I.cell x c e;apply#[v,cellK x c e v z]
 .let#[m,#[o,_,_,ho,_],_]:=I.loc;apply free _ o (λz=>(nF _ z).2.1 rfl) ho I.free
 .let#[v,o,ho,hd]:=I.cell x c e;apply free c o (λz=>(nF c z).2.2.1 x c e rfl) ho (I.g_ x c e)
 .let#[e,n,ne,nf,d]:=I.pin p hp;have mF:p.1∉ch:=λz=>(nF p.1 z).2.2.2 p hp rfl
  apply#[keep p.1 p.2 ne nf mF e n,free p.1 p.2 mF e n,ne,nf,d]
def Inv.un(I:Inv X af U H s)(u:Un X.fs [] H H' s.heap h')(aG:cY X.prog X.w H' h'):Inv X af U H' { s with heap:=h',toks:=t' }:=by
 let#[m,#[o,es,ep,ho,r],_]:=id I.loc;let#[sl,hL]:=u.any ho I.free (by simp);apply I.step (g':=s.gens) (d':=s.drawn) (ch:=[]) (λ_ z=>nomatch z) (λb o _ hb _ e n=>u.keep b o e n hb (by simp)) (λb o _ hb _ e n=>u.slot b o e n hb (by simp)) (λb o _ e n=>u.free b o e n (by simp)) (λb o _ e=>u.there b o e (by simp)) u.jy u.i9 u.jT (λm' hm=>by
  let#[o',gA,zD,lY,r']:=hm;rw[ho] at lY;ext lY;apply#[_,gA,zD,hL,r']) aG I.bare
def Inv.call{ch:List Addr}(I:Inv X af U H s)(u:Un (bg X.stack) ch H H' s.heap h')(aG:cY X.prog X.w H' h')(hg:AllBare g')
  (nF:∀b∈ch,(b∈X.ex\/X.cQ.heap.objs.size<=b)/\b≠X.env.locals/\(∀x c,X.env.cells.lookup x=some c->c≠b)/\∀p∈X.pn++af,p.1≠b) :
  Inv X af U H' { s with heap:=h',gens:=g',drawn:=d',toks:=t' }:=by
 let#[m,#[o,es,ep,ho,r],_]:=id I.loc;let#[sl,hL]:=u.any ho I.free λz=>(nF _ z).2.1 rfl
 apply I.step (ch:=ch) nF (λb o hL hb hc e n=>u.keep b o e n (λz=>(aaO.mp (I.Bh b z)).elim hL hb) hc) (λb o _ _ hc e n=>u.any e n hc) (λb o hc e n=>u.free b o e n hc) (λb o hc e=>u.there b o e hc) u.jy u.i9 u.jT (λm' hm=>by
  let#[o',gA,zD,lY,r']:=hm;rw[ho] at lY;ext lY;apply#[_,gA,zD,hL,r']) aG hg
def Inv.turned{it:Addr}(I:Inv X af U H s)(k:∀b o,b≠it->s.heap.get? b=some o->h'.get? b=some o)(hn:H it=none)(hL:it≠X.env.locals)
  (h1:it∈X.ex\/X.cQ.heap.objs.size<=it) (h2:∀x c,X.env.cells.lookup x=some c->c≠it) (h3:∀p∈X.pn++af,p.1≠it):Inv X af U H { s with heap:=h',toks:=t' }:=by
 have Tr:∀b u,H b=some u->b≠it:=λb u e z=>by rw[z,hn] at e;ext e
 refine I.step (g':=s.gens) (d':=s.drawn) (ch:=[it]) (λb hb=>?_) (λb o _ _ hc e _=>k b o (λz=>hc (by simp[z])) e) (λb o _ _ hc e _=>#[o.slots,k b o (λz=>hc (by simp[z])) e]) (λ_ _ _ _ n=>n)
  (λb o hc e=>#[o,k b o (λz=>hc (by simp[z])) e]) (λ_ _ e=>e) (λ_ _ _ e=>e) (λb ps e=>#[([].toArray),by rw[e];simp]) (λm hm=>?_) (λb u e=>?_) I.bare
 .have e:b=it:=by simpa using hb
  subst e;apply#[h1,hL,h2,h3]
 .let#[o,es,ep,ho,r]:=hm;apply#[o,es,ep,k _ o (afv hL) ho,r]
 .refine(I.aG b u e).gH (λc v hc q=>k c v ?_ q) (λ_ q=>q) λ_ _ q=>q
  rcases hc with z|z
  .rw[z];apply Tr b u e
  .exact Tr c _ z
def Inv.tok(I:Inv X af U H s)(t:Nat):Inv X af U H { s with toks:=t }:=I.un Un.refl I.aG
def Inv.kept(I:Inv X af U H s)(k:∀b u,s.heap.get? b=some u->h'.get? b=some u):Inv X af U H { s with heap:=h',toks:=t' }:=I.un (Un.kept k) (I.aG.kept k)
def Inv.laid(I:Inv X af U H s)(k:∀b u,s.heap.get? b=some u->h'.get? b=some u)(hp:s.heap.objs.size<=a)(new:dD X.prog X.w (upd H a o) h' a o):
  Inv X af U (upd H a o) { s with heap:=h',toks:=t' }:=I.un (Un.laid k hp (I.aG.fresh hp)) (I.aG.laid k hp new)
def Inv.write(I:Inv X af U H s)(mu:zR (H x))(he:e=x\/H e=some (.own x))(k:∀b u,b≠e->s.heap.get? b=some u->h'.get? b=some u)(xK:∃u,h'.get? e=some u)
  (new:dD X.prog X.w (upd H x o) h' x o):Inv X af U (upd H x o) { s with heap:=h',toks:=t' }:=I.un (Un.write mu he k xK) (I.aG.write mu he k xK new)
def Inv.tY(I:Inv X af U H s)(h:∀p∈yt,s.heap.get? p.1=some p.2/\H p.1=none/\p.1≠X.env.locals/\p.1∉X.fs/\∀v,p.2.data≠.cell v):Inv X yt U H s:=
 #[I.ok,I.os,I.bare,I.base,I.loc,I.cell,I.free,I.g_,λp hp=>(abH.mp hp).elim (λz=>I.pin p (abz _ z)) (h p),I.aG,I.len,I.hq]
def GU{N:List Str}(hN:N.Nodup){i j:Nat}(a:N[i]? = some x)(b:N[j]? = some x):i=j:=by
 let#[h1,e1]:=abq.mp a;let#[h2,e2]:=abq.mp b;apply(List.getElem_inj hN).mp (e1.trans e2.symm)
def Pg{M:Model}(I:Inv X af U H s)(hN:X.N.Nodup)(hi:X.N[i]? = some x)(hx:Loc X.env.scope x)(r:RelV v u)
  (h:∀s',Inv X af (U.set i (some v)) H s'->(∃a,Heap.SameBut a s.heap s'.heap/\(a=X.env.locals\/X.env.cells.lookup x=some a))->Q () s') (hf:j7 X x:=by first|exact .inl rfl|exact .inr rfl|assumption):wpAny M A (storeName X.env x u) Q E s:=by
 let#[m,hn,hl]:=id I.loc;have yr:(X.env.scope.kind == .class||(X.env.scope.kind == .module&&X.env.locals != X.env.globals))=false:=by rw[I.ok.kind];rfl
 have Rx:i<U.length:=by rw[I.len];apply(abq.mp hi).1
 have jS:=I.jS;have tracked:∀{a:Addr} {h'},(∃o,s.heap.get? a=some o/\H a=none)->Heap.SameBut a s.heap h'->cY X.prog X.w H h':=λ{a h'} ha hs b ob e=>by
  let#[_,_,RZ]:=ha;refine(I.aG b ob e).gH (λc w' hc q=>(hs.2 c ?_).trans q) (λ_ q=>q) λ_ _ q=>q
  rintro rfl
  rcases hc with rfl|hc
  .rw[RZ] at e;ext e
  .rw[RZ] at hc;ext hc
 rcases hx with hk|hk
 .refine wpAny_storeName_local hk hn (λh' G6 hs=>?_) yr;let#[oL,_,_,C4,_]:=id hn;refine h _ #[I.ok,I.os,I.bare,#[λb o e n hb hx=>?_,λb o e n hb hx=>?_,I.base.free,λb o e hx=>?_,I.base.jy,I.base.i9,I.base.jT],#[_,G6,λj y v' e1 e2 e3=>?_],λy c e=>?_,I.free,I.g_,λp hp=>?_,tracked #[oL,C4,I.free] hs,by simpa using I.len,I.hq] #[_,hs,.inl rfl]
  .exact(hs.2 b (acO (acS (abG e) I.ok.above))).trans (I.base.keep b o e n hb hx)
  .let#[sl,e1]:=I.base.slot b o e n hb hx;apply#[sl,(hs.2 b (acO (acS (abG e) I.ok.above))).trans e1]
  .let#[o',e1]:=I.base.there b o e hx;apply#[o',(hs.2 b (acO (acS (abG e) I.ok.above))).trans e1]
  .by_cases hj:j=i
   .subst hj;rw[hi] at e1;ext e1;rw[aed Rx] at e2;ext e2;apply#[u,r,.inl #[hk,by simp]]
   .rw[acN (afv hj)] at e2;let#[u',r',q]:=hl j y v' e1 e2 e3;refine#[u',r',?_];rcases q with⟨k,e⟩|⟨k,c,e,z⟩
    .refine .inl #[k,?_];have:y≠x:=λe=>hj (GU hN e1 (e ▸ hi))
     simp[this,e]
    .exact .inr #[k,c,e,z.sameBut hs (jS y c e)]
  .let#[w',z]:=I.cell y c e;apply#[w',z.sameBut hs (jS y c e)]
  .let#[e,n,ne,nf,d]:=I.pin p hp;apply#[(hs.2 p.1 ne).trans e,n,ne,nf,d]
 .have Lq:X.fn x=true:=by
   rcases hf with z|z
   .exact z
   .rw[z] at hk;ext hk
  let#[c,hc]:=I.ok.has x (.inl hk);let#[w',z]:=I.cell x c hc;refine wpAny_storeName_cell I.ok.kind hk hc z (λh' tU hs=>?_);let#[oc,uE,ahD]:=id z;refine h { s with heap:=h' } #[I.ok,I.os,I.bare,#[λb o e n hb hx=>?_,λb o e n hb hx=>?_,I.base.free,λb o e hx=>?_,I.base.jy,I.base.i9,I.base.jT],#[m,hn.sameBut hs (afv (jS x c hc)),λj y v' e1 e2 e3=>?_],λy c' e=>?_,I.free,I.g_,λp hp=>?_,tracked #[oc,uE,I.g_ x c hc] hs,by simpa using I.len,I.hq] #[c,hs,.inr hc]
  .exact(hs.2 b (acO (acS (abG e) (I.ok.o6 x c Lq hc)))).trans (I.base.keep b o e n hb hx)
  .let#[sl,e1]:=I.base.slot b o e n hb hx;apply#[sl,(hs.2 b (acO (acS (abG e) (I.ok.o6 x c Lq hc)))).trans e1]
  .let#[o',e1]:=I.base.there b o e hx;apply#[o',(hs.2 b (acO (acS (abG e) (I.ok.o6 x c Lq hc)))).trans e1]
  .by_cases hj:j=i
   .subst hj;rw[hi] at e1;ext e1;rw[aed Rx] at e2;ext e2;apply#[u,r,.inr #[.inl hk,c,hc,tU]]
   .rw[acN (afv hj)] at e2;let#[u',r',q]:=hl j y v' e1 e2 e3;refine#[u',r',?_];rcases q with q|⟨k,c',e,z'⟩
    .exact .inl q
    .refine .inr #[k,c',e,z'.sameBut hs ?_]
     rintro rfl
     apply hj (GU hN e1 (I.ok.inj _ _ _ e hc ▸ hi))
  .by_cases SI:c'=c
   .subst SI;apply#[_,tU]
   .let#[w2,z2]:=I.cell y c' e;apply#[w2,z2.sameBut hs SI]
  .let#[e,n,ne,nf,d]:=I.pin p hp;refine#[(hs.2 p.1 ?_).trans e,n,ne,nf,d];intro q;rw[q,uE] at e;have q':=acB e;apply d w' (by rw[<- q'];apply ahD)
def BH(I:Inv X af U H s)(hN:X.N.Nodup)(hi:X.N[i]? = some x)(hx:Loc X.env.scope x)(r:RelV v u)
  (h:∀s',Inv X af (U.set i (some v)) H s'->Q () s') (hf:j7 X x:=by first|exact .inl rfl|exact .inr rfl|assumption):wpAny M A (storeName X.env x u) Q E s:=
 Pg I hN hi hx r (λs' I' _=>h s' I') hf
def Inv.Vb(I:Inv X af U H s)(ho:s'.os=s.os)(u:Un (bg X.stack) ch H H' s.heap s'.heap)(aG:cY X.prog X.w H' s'.heap)(hg:AllBare s'.gens)
  (nF:∀b∈ch,(b∈X.ex\/X.cQ.heap.objs.size<=b)/\b≠X.env.locals/\(∀x c,X.env.cells.lookup x=some c->c≠b)/\∀p∈X.pn++af,p.1≠b):Inv X af U H' s':=by
 let#[h',g',d',t',o']:=s';have e:=ho;subst e;apply I.call (g':=g') (d':=d') u aG hg nF
end
abbrev XK:=Value->Option Addr->Hp->Prop
abbrev St:=List (Option V)
abbrev VK:=V->Hp->Prop
abbrev TE:=St->Hp->VK->Prop
abbrev TT:=St->Hp->(Bool->Hp->Prop)->Prop
abbrev TA:=St->Hp->(List V->Hp->Prop)->Prop
structure Ends where
 nx:St->Hp->Prop
 rt:VK
 bk:St->Hp->Prop:=λ_ _=>False
 ct:St->Hp->Prop:=λ_ _=>False
abbrev TS:=Ends->St->Hp->Prop
def EP(X:Cx)(af:List (Addr×Obj))(U:St)(Q:VK)(u:Value)(s':Shared):Prop:=∃v H',Inv X af U H' s'/\RelV v u/\Q v H'
def TP(X:Cx)(af:List (Addr×Obj))(U:St)(Q:Bool->Hp->Prop)(b:Bool)(s':Shared):Prop:=∃H',Inv X af U H' s'/\Q b H'
def AP(X:Cx)(af:List (Addr×Obj))(U:St)(Q:List V->Hp->Prop)(us:List Value)(s':Shared):Prop:=∃vs H',Inv X af U H' s'/\aS vs us/\Q vs H'
def SP(X:Cx)(af:List (Addr×Obj))(D:Ends)(f:Flow)(s':Shared):Prop:=
 match f with
 |.next=>∃aF H',Inv X af aF H' s'/\D.nx aF H'
 |.brk=>∃aF H',Inv X af aF H' s'/\D.bk aF H'
 |.cont=>∃aF H',Inv X af aF H' s'/\D.ct aF H'
 |.ret u=>∃v aF H',Inv X af aF H' s'/\RelV v u/\D.rt v H'
def PE(X:Cx)(e:Expr)(t:TE):Prop:=
 ∀(af) (s) (U) (H) (Q),Inv X af U H s->t U H Q->w8 X X.A (eval e X.env) (EP X af U Q) X.xe s
def PT(X:Cx)(e:Expr)(t:TT):Prop:=
 ∀(af) (s) (U) (H) (Q),Inv X af U H s->t U H Q->w8 X X.A (isTrue e X.env (eval e X.env)) (TP X af U Q) X.xe s
def PW(X:Cx)(e:Expr)(t:TT):Prop:=
 ∀(whole) (af) (s) (U) (H) (Q),Inv X af U H s->t U H Q->w8 X X.A (isTrue e X.env whole) (TP X af U Q) X.xe s
def PW.pt(h:PW X e t):PT X e t:=h _
def PA(X:Cx)(es:List Expr)(t:TA):Prop:=
 ∀(pos) (af) (s) (U) (H) (Q),Inv X af U H s->t U H Q->w8 X X.A (spliced (backTo pos (starEach es X.env))) (AP X af U Q) X.xe s
def PS(X:Cx)(st:Stmt)(t:TS):Prop:=
 ∀(af) (s) (U) (H) (D),Inv X af U H s->t D U H->w8 X X.A (exec st X.env) (SP X af D) X.xe s
def iP(X:Cx)(st:List Stmt)(t:TS):Prop:=
 ∀(af) (s) (U) (H) (D),Inv X af U H s->t D U H->w8 X X.A (execs st X.env) (SP X af D) X.xe s
def cL(h:wpAny M A t Q E s)(hQ:∀a s,Q a s->Q' a s):wpAny M A t Q' E s:=adI h hQ λ_ _ x=>x
def Fc(h:wpAny M A t (EP X af U Q) E s)(k:∀v s1 x H1,Inv X af U H1 s1->RelV x v->Q x H1->Q' v s1):wpAny M A t Q' E s:=cL h λv s1 #[x,H1,I,r,q]=>k v s1 x H1 I r q
def Ag(h:wpAny M A t (AP X af U Q) E s)(k:∀v s1 x H1,Inv X af U H1 s1->aS x v->Q x H1->Q' v s1):wpAny M A t Q' E s:=cL h λv s1 #[x,H1,I,r,q]=>k v s1 x H1 I r q
def Kh(h:wpAny M A t (TP X af U Q) E s)(k:∀v s1 H1,Inv X af U H1 s1->Q v H1->Q' v s1):wpAny M A t Q' E s:=cL h λv s1 #[H1,I,q]=>k v s1 H1 I q
def PE.n(a:PE X e t)(I:Inv X af U H s)(h:t U H Q)(k:∀v s1 x H1,Inv X af U H1 s1->RelV x v->Q x H1->Q' v s1):w8 X X.A (eval e X.env) Q' X.xe s:=Fc (a af s U H Q I h) k
def PT.n(a:PT X e t)(I:Inv X af U H s)(h:t U H Q)(k:∀v s1 H1,Inv X af U H1 s1->Q v H1->Q' v s1):w8 X X.A (isTrue e X.env (eval e X.env)) Q' X.xe s:=Kh (a af s U H Q I h) k
def PA.n(a:PA X e t)(I:Inv X af U H s)(h:t U H Q)(k:∀v s1 x H1,Inv X af U H1 s1->aS x v->Q x H1->Q' v s1):w8 X X.A (spliced (backTo pos (starEach e X.env))) Q' X.xe s:=Ag (a pos af s U H Q I h) k
section
def pS(i:Nat):TE:=λU H Q=>∃v,U[i]? = some (some v)/\Q v H
def tC(v:V):TE:=λ_ H Q=>Q v H
def M7(hN:X.N[i]? = some x)(hv:De X.env.scope x)(hd:(x==("__debug__":Str))=false:=by decide)(gZ:(x==("__classdict__":Str))=false:=by decide):PE X (.Name x pos) (pS i):=by
 exists 44;let#[v,e,h]:=h;let#[m,hn,hl]:=I.loc;let#[u,r,l]:=hl i x v hN e hv;have fin:EP X af U Q u s:=#[v,H,I,r,h]
 rcases l with⟨hk,hm⟩|⟨hk,c,hc,OM⟩
 .exact wpAny_Name (wpAny_loadName_local I.ok.kind hk hn hm fin) hd
 .rcases hk with hk|hk
  .exact wpAny_Name (wpAny_loadName_cell I.ok.kind hk hc OM fin) hd
  .exact wpAny_Name (wpAny_loadName_free I.ok.kind hk hc OM fin gZ) hd
def Jl{i j pos}:PE X (.Constant (.int i) j pos) (tC (.int i)):=λ_ _ _ H _ I h=>wpAny_Constant_int #[.int i,H,I.tok _,#[_,rfl],h]
def ac9{b j pos}:PE X (.Constant (.bool b) j pos) (tC (.bl b)):=λ_ _ _ H _ I h=>Constant_bool #[.bl b,H,I,rfl,h]
def aeN{j pos}:PE X (.Constant .none j pos) (tC .aC):=λ_ _ _ H _ I h=>Constant_none #[.aC,H,I,rfl,h]
def P_{x j pos}:PE X (.Constant (.str x) j pos) (tC (.str x)):=λ_ _ _ H _ I h=>Calls.Constant_str #[.str x,H,I.tok _,#[_,rfl],h]
def Gl(X:Cx)(x:Str):Prop:=X.env.kindOf x=some .globalImplicit
def rV(I:Inv X af U H s)(hg:Gl X x)(hm:X.mg x=some u)(h:Q u s)
  (hd:(x==("__debug__":Str))=false:=by decide):w8 X X.A (eval (.Name x pos) X.env) Q E s:=
 Calls.Name_function_global I.ok.kind hg (Calls.loadGlobal_global (by rw[I.ok.glob];apply I.mod.glob.keeps I.bk) hm h) hd
def rN(I:Inv X af U H s)(hg:Gl X x)(hm:X.mg x=none)(hv:bootBuiltins x=some u)(h:Q u s)
  (hn:x≠"__name__":=by decide) (hd:(x==("__debug__":Str))=false:=by decide):w8 X X.A (eval (.Name x pos) X.env) Q E s:=by
 let#[mb,h1,h2]:=I.mod.blt;apply Calls.Name_function_global I.ok.kind hg (Calls.loadGlobal_builtin (by rw[I.ok.glob];apply I.mod.glob.keeps I.bk) hm (by rw[I.ok.blt];apply h1.keeps I.bk) ((h2 x hn).trans hv) h) hd
def UL(hg:Gl X x)(hm:X.mg x=some u)(r:RelV v u)(hd:(x==("__debug__":Str))=false:=by decide):PE X (.Name x pos) (tC v):=
 λ_ _ _ H _ I h=>rV I hg hm #[v,H,I,r,h] hd
def ab2(hg:Gl X x)(hm:X.mg x=none)(hv:bootBuiltins x=some u)(r:RelV v u)(hn:x≠"__name__":=by decide)(hd:(x==("__debug__":Str))=false:=by decide):PE X (.Name x pos) (tC v):=
 λ_ _ _ H _ I h=>rN I hg hm hv #[v,H,I,r,h] hn hd
def PC(X:Cx)(op:CmpOp)(a b:Expr)(t:TE):Prop:=
 ∀(af) (s) (U) (H) (Q),Inv X af U H s->t U H Q->
  w8 X X.A (eval a X.env) (λv bZ=>w8 X X.A (eval b X.env) (λu qI=>w8 X X.A (compareOp op v u) (EP X af U Q) X.xe qI) X.xe bZ) X.xe s
def tB(t:TE):TT:=λU H Q=>t U H λx H1=>∃c,x=.bl c/\Q c H1
def S2(h:PC X op a b t)(h1:behindInMarks op b=false:=by first|exact ajp _ (by decide) (by decide)|rfl):PE X (.Compare a [op] [b] pos) t:=λaf s U H Q I hw=>wpAny_Compare1 (h af s U H Q I hw) h1
def ahV(h:PC X op a b t)(h1:behindInMarks op b=false:=by first|exact ajp _ (by decide) (by decide)|rfl):PT X (.Compare a [op] [b] pos) (tB t):=by
 intro af s U H Q I hw;refine wpAny_isTrue_Compare1 (cL (h af s U H _ I hw) λv s1 h1=>cL h1 λu s2 h2=>cL h2 λc s3 #[x,H1,I1,r1,q1]=>?_) h1;let#[d,rfl,q]:=q1;ext r1;apply afi #[H1,I1,q]
def F2(h:PE X e t)(he:∀whole,isTrue e X.env whole=(do let v <- whole;standAt e.pos;holding [v] (truthy v)):=by intro _;rfl):PT X e (tB t):=by
 intro af s U H Q I hw;refine isTrue_plain (h.n I hw λv s1 x H1 I1 r1 q1=>?_) (he _);let#[d,rfl,q]:=q1;ext r1;apply afi #[H1,I1,q]
variable{rest:List Expr}
def Y_(t u:TT):TT:=λU H Q=>t U H λc H1=>if c=true then u U H1 Q else Q false H1
def tOr(t u:TT):TT:=λU H Q=>t U H λc H1=>if c=true then Q true H1 else u U H1 Q
def aeb(t:TT):TT:=λU H Q=>t U H λc H1=>Q (!c) H1
def Oo(ha:PT X a tA):PW X (.BoolOp .And [a] pos) tA:=by
 intro wh af s U H Q I h;refine isTrue_and (cL (ha af s U H Q I h) λc s1 e=>?_);cases c with
 |true=>apply isTrue_and_nil e
 |false=>apply e
def aba(ha:PT X a tA):PW X (.BoolOp .Or [a] pos) tA:=by
 intro wh af s U H Q I h;refine isTrue_or (cL (ha af s U H Q I h) λc s1 e=>?_);cases c with
 |false=>apply isTrue_or_nil e
 |true=>apply e
def Ma(ha:PT X a tA)(hb:PW X (.BoolOp .And (b::rest) pos) E7):PW X (.BoolOp .And (a::b::rest) pos) (Y_ tA E7):=by
 intro wh af s U H Q I h;refine isTrue_and (ha.n I h λc s1 H1 I1 q1=>?_);cases c with
 |true=>apply hb wh af s1 U H1 Q I1 q1
 |false=>apply#[H1,I1,q1]
def acW(ha:PT X a tA)(hb:PW X (.BoolOp .Or (b::rest) pos) E7):PW X (.BoolOp .Or (a::b::rest) pos) (tOr tA E7):=by
 intro wh af s U H Q I h;refine isTrue_or (ha.n I h λc s1 H1 I1 q1=>?_);cases c with
 |true=>apply#[H1,I1,q1]
 |false=>apply hb wh af s1 U H1 Q I1 q1
def OS(ha:PT X a tA):PT X (.UnaryOp .Not a pos) (aeb tA):=by
 exists 44;apply isTrue_not (ha af s U H (λc H1=>Q (!c) H1) I h)
def ab5(ta tb:TE):TE:=λU H Q=>ta U H λx H1=>∃c,x=.bl c/\if c=true then tb U H1 Q else Q (.bl false) H1
def aiU(ta tb:TE):TE:=λU H Q=>ta U H λx H1=>∃c,x=.bl c/\if c=true then Q (.bl true) H1 else tb U H1 Q
def adD(ta:TE):TE:=λU H Q=>ta U H λx H1=>∃c,x=.bl c/\Q (.bl (!c)) H1
def U8{op}(h:PE X a t):PE X (.BoolOp op [a] pos) t:=λaf s U H Q I hw=>BoolOp_one (h af s U H Q I hw)
def aax(ha:PE X a ta)(hb:PE X (.BoolOp .And (b::rest) pos) tb):PE X (.BoolOp .And (a::b::rest) pos) (ab5 ta tb):=by
 exists 44;refine BoolOp_and (ha.n I h λv s1 x H1 I1 r1 q1=>?_);let#[c,rfl,q1]:=q1;ext r1;refine afi ?_;cases c with
 |true=>apply hb af s1 U H1 Q I1 q1
 |false=>apply#[.bl false,H1,I1,rfl,q1]
def ZF(ha:PE X a ta)(hb:PE X (.BoolOp .Or (b::rest) pos) tb):PE X (.BoolOp .Or (a::b::rest) pos) (aiU ta tb):=by
 exists 44;refine BoolOp_or (ha.n I h λv s1 x H1 I1 r1 q1=>?_);let#[c,rfl,q1]:=q1;ext r1;refine afi ?_;cases c with
 |false=>apply hb af s1 U H1 Q I1 q1
 |true=>apply#[.bl true,H1,I1,rfl,q1]
def abS(ha:PE X a ta):PE X (.UnaryOp .Not a pos) (adD ta):=by
 exists 44;refine UnaryOp_ (ha.n I h λv s1 x H1 I1 r1 q1=>?_);let#[c,rfl,q1]:=q1;ext r1;apply not_of (afi #[.bl (!c),H1,I1,rfl,q1])
def X_(t:TT)(ta tb:TE):TE:=λU H Q=>t U H λc H1=>if c=true then ta U H1 Q else tb U H1 Q
def aag(hc:PT X c tA)(ha:PE X a ta)(hb:PE X b tb):PE X (.IfExp c a b pos) (X_ tA ta tb):=by
 exists 44;refine wpAny_IfExp (hc.n I h λd s1 H1 I1 q1=>?_);cases d with
 |true=>apply ha af s1 U H1 Q I1 q1
 |false=>apply hb af s1 U H1 Q I1 q1
end
def cJ(K:Fr)(H:Hp)(a:Addr)(xs:List V):Prop:=
 Rd H a (.lst xs)\/
  ∃(o:Obj) (av:Array Value) (n:Nat),K.lookup a=some o/\o.cls=.type "list"/\o.dict=none/\o.data=.seq av n/\av.size<=sizeLine/\aS xs av.toList
def bQ(K:Fr)(H:Hp)(a:Addr)(xs:List V):Prop:=
 Rd H a (.tup xs)\/
  ∃(o:Obj) (av:Array Value) (n:Nat),K.lookup a=some o/\o.cls=.type "tuple"/\o.dict=none/\o.data=.seq av n/\av.size<=sizeLine/\aS xs av.toList
def aeg:Value->Option V
 |.none=>some .aC
 |.bool b=>some (.bl b)
 |.int i _=>some (.int i)
 |.str x _=>some (.str x)
 |.bytes b _=>some (.jO b)
 |.float b _=>some (.tE b)
 |.ref a=>some (.ref a)
 |.type n=>some (.ty n)
 |_=>none
def RelV.abs(r:RelV x u):aeg u=some x:=by
 cases x with
 |aC=>ext r;rfl
 |bl _=>ext r;rfl
 |int _=>let#[t,rfl]:=r;rfl
 |str _=>let#[t,rfl]:=r;rfl
 |jO _=>let#[t,rfl]:=r;rfl
 |tE _=>let#[t,rfl]:=r;rfl
 |ref _=>ext r;rfl
 |ty _=>ext r;rfl
def RelV.inj(r:RelV x u)(q:RelV y u):x=y:=acB (r.abs.symm.trans q.abs)
def aS.inj:∀{xs ys} {us},aS xs us->aS ys us->xs=ys
 |_,_,_,.nil,.nil=>rfl
 |_,_,_,.cons r t,.cons r' t'=>by rw[r.inj r',aS.inj t t']
def cJ.of{K:Fr}(h:H a=some (.lst xs)):cJ K H a xs:=.inl (.inl h)
def bQ.of{K:Fr}(h:H a=some (.tup xs)):bQ K H a xs:=.inl (.inl h)
def Inv.list(I:Inv X af U H s)(h:cJ X.K H a xs):∃av:List Value,aS xs av/\PlainL s.heap a av.toArray/\xs.length<=sizeLine:=by
 rcases h with h|⟨o,av,n,hk,hc,hd,hs,hz,r⟩
 .let#[z,av,n,r,e]:=h.ok I.aG;apply#[av,r,#[_,n,e,rfl,rfl,rfl],z]
 .refine#[av.toList,r,#[o,n,I.dQ a o hk,hc,hd,by simpa using hs],?_];have e:=r.length;simp only[aeI] at e;omega
def Inv.ac1(I:Inv X af U H s)(h:bQ X.K H a xs):∃av:List Value,aS xs av/\nE s.heap a av.toArray/\xs.length<=sizeLine:=by
 rcases h with h|⟨o,av,n,hk,hc,hd,hs,hz,r⟩
 .let#[z,av,r,p]:=h.ok I.aG;apply#[av,r,p,z]
 .refine#[av.toList,r,#[o,I.dQ a o hk,hc,hd,n,by simpa using hs],?_];have e:=r.length;simp only[aeI] at e;omega
def Inv.tuple(I:Inv X af U H s)(h:bQ X.K H a xs):∃av:List Value,aS xs av/\IsTup s.heap a av.toArray/\xs.length<=sizeLine:=by
 rcases h with h|⟨o,av,n,hk,hc,hd,hs,hz,r⟩
 .let#[z,av,r,p]:=h.ok I.aG;apply#[av,r,p.isTup,z]
 .refine#[av.toList,r,#[o,I.dQ a o hk,hc,n,by simpa using hs],?_];have e:=r.length;simp only[aeI] at e;omega
def Inv.IY(I:Inv X af U H s)(h:cJ X.K H a xs)(h':cJ X.K H a ys):xs=ys:=by
 let#[av,r,#[o,n,e,_,_,d],_]:=I.list h;let#[its',r',#[o',n',e',_,_,d'],_]:=I.list h';rw[e] at e';ext e';rw[d] at d';injection d' with d1 _;have:av=its':=by simpa using congrArg Array.toList d1
 subst this;apply r.inj r'
def Inv.Ik(I:Inv X af U H s)(h:bQ X.K H a xs)(h':bQ X.K H a ys):xs=ys:=by
 let#[av,r,#[o,e,_,n,d],_]:=I.tuple h;let#[its',r',#[o',e',_,n',d'],_]:=I.tuple h';rw[e] at e';ext e';rw[d] at d';injection d' with d1 _;have:av=its':=by simpa using congrArg Array.toList d1
 subst this;apply r.inj r'
abbrev Cx.kK(X:Cx)(E:Value->Shared->Prop):Cx:={ X with xe:=E }
abbrev Cx.eY(X:Cx):Cx:=X.kK λ_ _=>False
def Cx.Ok.kK{X:Cx}(ok:X.Ok)(E:Value->Shared->Prop):(X.kK E).Ok:=
 #[ok.mod,ok.kind,ok.glob,ok.blt,ok.above,ok.inj,ok.has,ok.o6,ok.hd,ok.frames,ok.rA,ok.um,ok.bs,ok.jB,ok.pA,ok.oK,ok.ju,ok.mE]
def Cx.Ok.mH{X:Cx}(ok:(X.kK E).Ok):X.Ok:=
 #[ok.mod,ok.kind,ok.glob,ok.blt,ok.above,ok.inj,ok.has,ok.o6,ok.hd,ok.frames,ok.rA,ok.um,ok.bs,ok.jB,ok.pA,ok.oK,ok.ju,ok.mE]
def Inv.kK(I:Inv X af U H s)(E:Value->Shared->Prop):Inv (X.kK E) af U H s:=#[I.ok.kK E,I.os,I.bare,I.base,I.loc,I.cell,I.free,I.g_,I.pin,I.aG,I.len,I.hq]
def Inv.mH(I:Inv (X.kK E) af U H s):Inv X af U H s:=#[I.ok.mH,I.os,I.bare,I.base,I.loc,I.cell,I.free,I.g_,I.pin,I.aG,I.len,I.hq]
def SP.mH(h:SP (X.kK E) af D f s'):SP X af D f s':=by
 cases f with
 |next=>let#[aF,H',I,q]:=h;apply#[aF,H',I.mH,q]
 |brk=>let#[aF,H',I,q]:=h;apply#[aF,H',I.mH,q]
 |cont=>let#[aF,H',I,q]:=h;apply#[aF,H',I.mH,q]
 |ret u=>let#[v,aF,H',I,r,q]:=h;apply#[v,aF,H',I.mH,r,q]
def iP.eY{st:List Stmt}(h:iP X.eY st t):iP X st t:=λaf s U H D I hw=>
 adI (h af s U H D (I.kK _) hw) (λ_ _ q=>q.mH) λ_ _ z=>False.elim z
section
variable{st:Stmt}{rest:List Stmt}
def Xr:TS:=λD U H=>D.nx U H
def abZ(t u:TS):TS:=λD U H=>t { D with nx:=u D } U H
def Mm:iP X [] Xr:=λ_ _ U H _ I h=>wpAny_execs_nil #[U,H,I,h]
def x6(h1:PS X st t)(h2:iP X rest u):iP X (st::rest) (abZ t u):=by
 intro af s U H D I h;refine wpAny_execs_cons (cL (h1 af s U H { D with nx:=u D } I h) λf s1 q=>?_);cases f with
 |next=>
  let#[aF,H',I',q]:=q;apply h2 af s1 aF H' D I' q
 |ret v=>apply q
 |brk=>apply q
 |cont=>apply q
def OU(h1:PS X st t):iP X [st] t:=by
 intro af s U H D I h;refine wpAny_execs_cons (cL (h1 af s U H D I h) λf s1 q=>?_);cases f with
 |next=>apply wpAny_execs_nil q
 |ret v=>apply q
 |brk=>apply q
 |cont=>apply q
def Inv.quiet(I:Inv X af U H s):interactive X.env=false:=by simp[interactive,I.ok.kind]
def agU(te:TE):TS:=λD U H=>te U H λ_ H1=>D.nx U H1
def vd(he:PE X e te)(hs:swapsWith e none pos.line X.env=pure false:=by rfl):PS X (.Expr e pos) (agU te):=by
 intro af s U H D I h;apply wpAny_Expr_any (he.n I h λv s1 x H1 I1 r1 q1=>#[U,H1,I1,q1]) I.quiet hs
def ZK(te:TE):TS:=λD U H=>te U H D.rt
def xY(he:PE X e te):PS X (.Return (some e) pos) (ZK te):=by
 intro af s U H D I h;apply wpAny_Return_some (he.n I h λv s1 x H1 I1 r1 q1=>#[x,U,H1,I1,r1,q1])
def ZH(c:TT)(t u:TS):TS:=λD U H=>c U H λb H1=>if b=true then t D U H1 else u D U H1
def CN(hc:PT X c tc)(ha:iP X a t)(hb:iP X b u):PS X (.If c a b pos) (ZH tc t u):=by
 intro af s U H D I h;refine wpAny_If (hc.n I h λd s1 H1 I1 q1=>?_);cases d with
 |true=>apply ha af s1 U H1 D I1 q1
 |false=>apply hb af s1 U H1 D I1 q1
def Tv:TS:=λ_ _ _=>False
def Q7:PS X st Tv:=λ_ _ _ _ _ _ h=>h.elim
def YV:iP X sts Tv:=λ_ _ _ _ _ _ h=>h.elim
end
abbrev TG:=V->St->Hp->(St->Hp->Prop)->Prop
abbrev yg:=List V->St->Hp->(St->Hp->Prop)->Prop
def PG(X:Cx)(target:Expr)(t:TG):Prop:=
 ∀(af) (s) (U) (H) (v) (u) (Q),Inv X af U H s->RelV v u->t v U H Q->
  w8 X X.A (assign target X.env u) (λ_ s'=>∃aF H',Inv X af aF H' s'/\Q aF H') X.xe s
def yD(X:Cx)(ts:List Expr)(t:yg):Prop:=
 ∀(af) (s) (U) (H) (vs) (us) (Q),Inv X af U H s->aS vs us->t vs U H Q->
  w8 X X.A (assignInOrder ((assignEach ts X.env).map (·.2)) us) (λ_ s'=>∃aF H',Inv X af aF H' s'/\Q aF H') X.xe s
def uS(i:Nat):TG:=λv U H Q=>Q (U.set i (some v)) H
def Uc(hN:X.N.Nodup)(hi:X.N[i]? = some x)(hx:Loc X.env.scope x)(hf:j7 X x:=by first|exact .inl rfl|exact .inr rfl|assumption):PG X (.Name x pos) (uS i):=by
 intro af s U H v u Q I r h;apply wpAny_assign_Name (BH I hN hi hx r (λs' I'=>#[_,H,I',h]) hf)
def ade:yg:=λvs U H Q=>vs=[]/\Q U H
def V4(t:TG)(u:yg):yg:=λvs U H Q=>∃v r,vs=v::r/\t v U H λaF H'=>u r aF H' Q
def Xn:yD X [] ade:=by
 intro af s U H vs us Q I r h;let#[e,h]:=h;subst e;ext r;apply assignInOrder_nil #[U,H,I,h]
def Xl(h1:PG X e t)(h2:yD X es u)
  (hs:(assignEach (e::es) X.env).map (·.2)=assign e X.env::(assignEach es X.env).map (·.2):=by rfl):yD X (e::es) (V4 t u):=by
 intro af s U H vs us Q I r h;let#[v,vr,e1,h]:=h;subst e1;cases r with
 |cons r rr=>
  rw[hs];refine assignInOrder_cons (cL (h1 af s U H _ _ _ I r h) ?_)
  rintro _ s1 ⟨qe,H1,I1,q1⟩
  apply h2 af s1 qe H1 _ _ Q I1 rr q1
def aeJ(K:Fr)(n:Nat)(t:yg):TG:=λv U H Q=>∃a xs,v=.ref a/\bQ K H a xs/\xs.length=n/\t xs U H Q
def air(hc:X.calm=true)(h:yD X es t)
  (hn:(assignEach es X.env).length=n:=by rfl) (dG:(assignEach es X.env).findIdx? (·.1)=none:=by rfl):PG X (.Tuple es k pos) (aeJ X.K n t):=by
 intro af s U H v u Q I r hw;let#[a,xs,e1,hq,hl,hw]:=hw;subst e1;ext r;let#[av,rv,ht,hz]:=I.tuple hq;refine assign_Tuple_tuple (I.ok.hd hc) ht (by simp[hn,<- hl,rv.length]) dG λh' hx=>?_
 have I1:=I.kept (t':=s.toks) λb o e=>hx b o (acO (abG e)) e
 apply h af _ U H xs _ Q I1 (by simpa using rv) hw
def RD(te:TE)(g:TG):TS:=λD U H=>te U H λx H1=>g x U H1 D.nx
def CM(hN:X.N.Nodup)(hi:X.N[i]? = some x)(hx:Loc X.env.scope x)(he:PE X e te)(hs:swapsWith e (some (.Name x pos')) pos.line X.env=pure false:=by rfl)(hf:j7 X x:=by first|exact .inl rfl|exact .inr rfl|assumption):
  PS X (.Assign [.Name x pos'] e pos) (RD te (uS i)):=by
 intro af s U H D I h;refine wpAny_Assign_Name (he.n I h λv s1 y H1 I1 r1 q1=>?_) hs;apply BH I1 hN hi hx r1 (λs2 I2=>#[_,H1,I2,q1]) hf
def aas(c:TT)(tb:TS):TS:=λD U H=>∃W:Nat->St->Hp->Prop,(∃m,W m U H)/\∀m U H,W m U H->
 c U H λb H1=>if b=true then ∃N:St->Hp->Prop,(∀aF H',N aF H'->∃m',m'<m/\W m' aF H')/\tb { D with nx:=N,ct:=N,bk:=D.nx } U H1 else D.nx U H1
def RN(hp:PassesOwn (model X.prog X.w) X.A X.env X.xe)(hc:PT X c tc)(hb:iP X body tb):PS X (.While c body [] pos) (aas tc tb):=by
 intro af s U H D I h;let#[W,#[m0,w0],turn]:=h;refine wpAny_While (codeAny_whileLoop (λn s'=>∃aF H',Inv X af aF H' s'/\W n aF H') ?_ m0 #[U,H,I,w0])
 rintro n s1 ⟨qe,H1,I1,w1⟩
 refine aii hp (Kh (hc af s1 qe H1 _ I1 (turn n qe H1 w1)) λb s2 H2 I2 q2=>?_);cases b with
 |true=>
  let#[N,hN,q2]:=q2;rw[if_pos rfl];refine aii hp (cL (hb af s2 qe H2 _ I2 q2) λf s3 q3=>?_);cases f with
  |next=>
   let#[dF,H3,I3,n3]:=q3;let#[m',hm,w3]:=hN dF H3 n3;apply#[m',hm,dF,H3,I3,w3]
  |cont=>
   let#[dF,H3,I3,n3]:=q3;let#[m',hm,w3]:=hN dF H3 n3;apply#[m',hm,dF,H3,I3,w3]
  |brk=>apply q3
  |ret v=>apply q3
 |false=>
  rw[abM abm];apply wpAny_execs_nil #[qe,H2,I2,q2]
structure It where
 go:Nat->Hp->Prop
 x_:Nat->Hp->V->Hp->Prop
 stop:Nat->Hp->Prop
 rg:Bool
def iY(X:Cx)(af:List (Addr×Obj))(H:Hp)(b:Addr):Prop:=
 H b=none/\b≠X.env.locals/\b∉X.fs/\(b∈X.ex\/X.cQ.heap.objs.size<=b)/\(∀x c,X.env.cells.lookup x=some c->c≠b)/\∀p∈X.pn++af,p.1≠b
def Inv.rq(I:Inv X af U H s)(hb:s.heap.objs.size<=b)(hn:H' b=none):iY X af H' b:=by
 refine#[hn,agY (acS I.lt hb),I.Q6 hb,.inr (ada I.sz hb),λx c e z=>?_,λp hp z=>?_]
 .let#[v,q]:=I.cell x c e;apply absurd (acS q.lt (by rw[z];apply hb)) (aep _)
 .exact absurd (acS (abG (I.pin p hp).1) (by rw[z];apply hb)) (aep _)
structure Turn(P:Program)(w:World)(K:Fr)(tg:Expr)(J:It)(fp:List Addr)(it:Addr)(tn:Nat->Heap->Prop):Prop where
 mem:it∈fp
 obj:∀i h,tn i h->∀b∈fp,∃o,h.get? b=some o/\∀v,o.data≠.cell v
 keep:∀i h h',tn i h->(∀b∈fp,∀o,h.get? b=some o->h'.get? b=some o)->tn i h'
 item:∀(X),X.prog=P->X.w=w->X.K=K->(X.calm=true\/J.rg=true)->∀(i) (af) (s) (U) (H) (E),Inv X af U H s->(∀b∈fp,iY X af H b)->tn i s.heap->J.go i H->
  wpAny (model P w) X.A (pyNext (.ref it)) (λr s1=>∃u,r=some u/\
   wpAny (model P w) X.A (letOwnedTupleGo tg (.ref it) u) (λ_ s2=>∃x H',Inv X af U H' s2/\RelV x u/\J.x_ i H x H'/\tn (i+1) s2.heap/\∀b∈fp,H' b=none) E s1) E s
 done:∀(X),X.prog=P->X.w=w->X.K=K->(X.calm=true\/J.rg=true)->∀(i) (af) (s) (U) (H) (E),Inv X af U H s->(∀b∈fp,iY X af H b)->tn i s.heap->J.stop i H->
  wpAny (model P w) X.A (pyNext (.ref it)) (λr s1=>r=none/\Inv X af U H s1) E s
 self:∀(A) (i) (s) (Q) (E),tn i s.heap->Q (.ref it) s->wpAny (model P w) A (pyIter (.ref it)) Q E s
abbrev TI:=St->Hp->(It->Hp->Prop)->Prop
def NI(X:Cx)(af:List (Addr×Obj))(U:St)(tg:Expr)(R:It->Hp->Prop)(CB:Value)(s2:Shared):Prop:=
 ∃(it:Addr) (fp:List Addr) (tn:Nat->Heap->Prop) (J:It) (H':Hp),CB=.ref it/\Inv X af U H' s2/\Turn X.prog X.w X.K tg J fp it tn/\tn 0 s2.heap/\(∀b∈fp,iY X af H' b)/\R J H'
def PI(X:Cx)(tg iter:Expr)(wi:TI):Prop:=
 ∀(af) (s) (U) (H) (R),Inv X af U H s->wi U H R->
  w8 X X.A (eval iter X.env) (λv s1=>w8 X X.A (pyIter v) (NI X af U tg R) X.xe s1) X.xe s
def DA(ho:s.heap.get? it=some o)(hc:o.cls=.type n)(hd:o.data=.fields vs)
    (hn:["enumerate","zip","dict_itemiterator","dict_reverseitemiterator","odict_iterator","itertools.zip_longest","itertools.pairwise"].contains n=false) (hQ:Q () s):wpAny M A (letOwnedTupleGo tg (.ref it) u) Q E s:=by
  unfold letOwnedTupleGo;ext tg<;>first
    |exact abP hQ
    | (cases u <;> first
        |exact abP hQ
        | (refine aaq (wpAny_load ho ?_)
           rw[hc,hd];show wpAny M A (if(["enumerate","zip","dict_itemiterator","dict_reverseitemiterator","odict_iterator","itertools.zip_longest","itertools.pairwise"].contains n&&vs[0]?==some (rawInt _))=true then _ else _) Q E s;rw[abM (by intro h;rw[hn,Bool.false_and] at h;ext h)];apply abP hQ))
def Gk(K:Fr)(a:Addr):It:=
 #[λi H=>∃xs x,cJ K H a xs/\xs[i]? = some x,λi H x H'=>H'=H/\∀xs,cJ K H a xs->xs[i]? = some x,λi H=>∃xs,cJ K H a xs/\xs.length<=i,false]
def LP(K:Fr)(a:Addr):It:=
 #[λi H=>∃xs x,bQ K H a xs/\xs[i]? = some x,λi H x H'=>H'=H/\∀xs,bQ K H a xs->xs[i]? = some x,λi H=>∃xs,bQ K H a xs/\xs.length<=i,false]
def Ar(lo:Int)(n:Nat):It:=#[λi _=>i<n,λi H x H'=>H'=H/\x=.int (lo+i),λi _=>n<=i,true]
def YN{K:Fr}(a it:Addr):Turn P w K tg (Gk K a) [it] it (λi h=>h.IsListIter it a i) where
 mem:=by simp
 obj:=λi h st b hb=>by
  have e:b=it:=by simpa using hb
  subst e;let#[o,e,c,d]:=st;apply#[o,e,λv z=>by rw[d] at z;ext z]
 keep:=λi h h' st k=>st.at λo e=>k it (by simp) o e
 item:=by
  exists 40;subst hP hw hK;let#[xs,x,hq,hx]:=hg;let#[av,rv,p,hz]:=I.list hq;let#[u,hu,ru]:=rv.get hx;let#[f0,f1,f2,f3,f4,f5]:=hf it (by simp);refine wpAny_pyNext_list_item st p.isList (by simpa using hu) λh' lF sb=>?_
  have I1:=I.turned (t':=s.toks) (λb o hb e=>(sb.2 b hb).trans e) f0 f1 f3 f4 f5;let#[o,e,c,d]:=id lF;apply#[u,rfl,DA e c d (by decide) #[x,H,I1,ru,#[rfl,λys hy=>by rw[I.IY hy hq];apply hx],lF,λb hb=>(hf b hb).1]]
 done:=by
  exists 40;subst hP hw hK;let#[xs,hq,hx]:=hg;let#[av,rv,p,hz]:=I.list hq;let#[f0,f1,f2,f3,f4,f5]:=hf it (by simp);have hl:=rv.length;apply wpAny_pyNext_list_end (I.ok.hd (hc.resolve_right λz=>abm z)) st p.isList (by simp;omega) λh' eb=>#[rfl,I.turned (λb o hb e=>eb b o hb e) f0 f1 f3 f4 f5]
 self:=λ_ _ _ _ _ st h=>wpAny_pyIter_listiter st h
def ahq{K:Fr}(a it:Addr):Turn P w K tg (LP K a) [it] it (λi h=>h.IsTupleIter it a i) where
 mem:=by simp
 obj:=λi h st b hb=>by
  have e:b=it:=by simpa using hb
  subst e;let#[o,e,c,d]:=st;apply#[o,e,λv z=>by rw[d] at z;ext z]
 keep:=λi h h' st k=>st.at λo e=>k it (by simp) o e
 item:=by
  exists 40;subst hP hw hK;let#[xs,x,hq,hx]:=hg;let#[av,rv,p,hz]:=I.tuple hq;let#[u,hu,ru]:=rv.get hx;let#[f0,f1,f2,f3,f4,f5]:=hf it (by simp);refine wpAny_pyNext_tuple_item st (show s.heap.IsTuple a av.toArray from p) (by simpa using hu) λh' lF sb=>?_
  have I1:=I.turned (t':=s.toks) (λb o hb e=>(sb.2 b hb).trans e) f0 f1 f3 f4 f5;let#[o,e,c,d]:=id lF;apply#[u,rfl,DA e c d (by decide) #[x,H,I1,ru,#[rfl,λys hy=>by rw[I.Ik hy hq];apply hx],lF,λb hb=>(hf b hb).1]]
 done:=by
  exists 40;subst hP hw hK;let#[xs,hq,hx]:=hg;let#[av,rv,p,hz]:=I.tuple hq;let#[f0,f1,f2,f3,f4,f5]:=hf it (by simp);have hl:=rv.length;apply wpAny_pyNext_tuple_end (I.ok.hd (hc.resolve_right λz=>abm z)) st (show s.heap.IsTuple a av.toArray from p) (by simp;omega) λh' eb=>#[rfl,I.turned (λb o hb e=>eb b o hb e) f0 f1 f3 f4 f5]
 self:=λ_ _ _ _ _ st h=>wpAny_pyIter_tupleiter st h
def ahv{K:Fr}(it:Addr)(lo:Int)(n:Nat):Turn P w K tg (Ar lo n) [it] it (λi h=>IsRangeIter h it (lo+(i:Nat)*1) ((n:Int)-(i:Nat)) 1) where
 mem:=by simp
 obj:=λi h st b hb=>by
  have e:b=it:=by simpa using hb
  subst e;apply#[_,st,λv z=>by
   have z':=z;ext z']
 keep:=λi h h' st k=>k it (by simp) _ st
 item:=by
  exists 40;subst hP hw hK;let#[f0,f1,f2,f3,f4,f5]:=hf it (by simp);refine wpAny_pyNext_range_item st (by have:i<n:=hg;omega) λh' lF sb=>?_
  have I1:Inv X af U H { s with heap:=h',toks:=s.toks+1 }:=I.turned (λb o hb e=>(sb.2 b hb).trans e) f0 f1 f3 f4 f5;have e1:lo+((i+1:Nat):Int)*1=lo+(i:Int)*1+1:=by omega
  have e2:(n:Int)-((i+1:Nat):Int)=(n:Int)-(i:Int)-1:=by omega
  refine#[_,rfl,DA lF rfl rfl (by decide) #[.int (lo+i),H,I1,#[s.toks,?_],#[rfl,rfl],by rw[e1,e2];apply lF,λb hb=>(hf b hb).1]];rw[Int.mul_one]
 done:=by
  exists 40;subst hP hw hK;let#[f0,f1,f2,f3,f4,f5]:=hf it (by simp);rcases I.hq.hd with h0|⟨a',ob,u,vs,h0,h1,h2,h3⟩
  .exact wpAny_pyNext_range_end h0 st (by have:n<=i:=hg;omega) λh' eb=>#[rfl,I.turned (λb o hb e=>eb b o hb e) f0 f1 f3 f4 f5]
  .exact aiG h0 (I.aG a' _ h1).1 h2 h3 st (by have:n<=i:=hg;omega) λh' eb=>#[rfl,I.turned (λb o hb e=>eb b o hb e) f0 f1 f3 f4 f5]
 self:=λ_ _ _ _ _ st h=>wpAny_pyIter_rangeiter st h
def TQ{lo hi:Int}{tk:Nat}(I:Inv X af U H s)(h1:-(2 ^ 62)<=lo)(h2:lo<2 ^ 62)(h3:-(2 ^ 62)<=hi)(h4:hi<2 ^ 62)
  (q:R (Ar lo (hi-lo).toNat) H):w8 X X.A (pyIter (.ref s.heap.objs.size)) (NI X af U tg R) E { s with heap:=s.heap.push { cls:=.type "range",data:=.fields ([.int lo t,.int hi u,.int 1 v].toArray) },toks:=tk }:=by
 refine wpAny_pyIter_range (IsRange.new ..) (small_one h1 h2 h3 h4) ?_;have I1:Inv X af U H { s with heap:=s.heap.push { cls:=.type "range",data:=.fields ([.int lo t,.int hi u,.int 1 v].toArray) },toks:=tk }:=I.kept λb o e=>aat _ e
 refine#[(s.heap.push { cls:=.type "range",data:=.fields ([.int lo t,.int hi u,.int 1 v].toArray) }).objs.size,[(s.heap.push { cls:=.type "range",data:=.fields ([.int lo t,.int hi u,.int 1 v].toArray) }).objs.size],_,_,H,rfl,
  I1.kept λb o e=>aat _ e,ahv _ lo (hi-lo).toNat,?_,λb hb=>?_,q]
 .have e1:lo+((0:Nat):Int)*1=lo:=by simp
  have e2:(((hi-lo).toNat:Nat):Int)-((0:Nat):Int)=Builtin.Range.rangeSize lo hi 1:=by rw[rangeSize_one];split<;>omega
  rw[e1,e2];apply acm _ rfl
 .have e:b=(s.heap.push { cls:=.type "range",data:=.fields ([.int lo t,.int hi u,.int 1 v].toArray) }).objs.size:=by simpa using hb
  subst e;apply I1.rq (abD _) (I1.aG.fresh (abD _))
def Xg(ta:TA):TI:=λU H R=>ta U H λvs H1=>∃j:Int,vs=[.int j]/\-(2 ^ 62)<=j/\j<2 ^ 62/\R (Ar 0 j.toNat) H1
def ac5(ta:TA):TI:=λU H R=>ta U H λvs H1=>∃i j:Int,vs=[.int i,.int j]/\(-(2 ^ 62)<=i/\i<2 ^ 62/\-(2 ^ 62)<=j/\j<2 ^ 62)/\R (Ar i (j-i).toNat) H1
def ae0{ta:TA}(hg:Gl X "range")(hm:X.mg "range"=none)(ha:PA X [a] ta)(hs:Y1 X a:=by rfl):PI X tg (.Call (.Name "range" p) [a] [] pos) (Xg ta):=by
 intro af s U H R I h;refine Call_ (rN I hg hm boot_range (ahC (ha.n I h λus s1 vs H1 I1 r1 q1=>?_) hs rfl));let#[j,e,q1,q2,q]:=q1;subst e;cases r1 with
 |cons r rr=>
  ext rr;let#[t,rfl]:=r;apply call_range_1 (TQ I1 (by omega) (by omega) q1 q2 (by simpa using q))
def aeO(hg:Gl X "range")(hm:X.mg "range"=none)(ha:PA X [a,b] ta)(hs:starEach [a,b] X.env=[(false,eval a X.env),(false,eval b X.env)]:=by rfl)(eU:Y1 X b:=by rfl):
  PI X tg (.Call (.Name "range" p) [a,b] [] pos) (ac5 ta):=by
 intro af s U H R I h;refine Call_ (rN I hg hm boot_range (ahC (ha.n I h λus s1 vs H1 I1 r1 q1=>?_) (by rw[hs,eU]) (by rw[eU];rfl)));let#[i,j,e,#[q1,q2,q3,q4],q]:=q1;subst e;cases r1 with
 |cons r rr=>
  cases rr with
  |cons r' rr=>
   ext rr;let#[t,rfl]:=r;let#[t',rfl]:=r';apply call_range_2 (TQ I1 q1 q2 q3 q4 q)
def abA(wi:TI)(g:TG)(tb:TS):TS:=λD U H=>wi U H λJ H1=>∃W:Nat->Nat->St->Hp->Prop,(∃m,W 0 m U H1)/\∀i m U H,W i m U H->
 (J.stop i H/\D.nx U H)\/(J.go i H/\∃N:St->Hp->Prop,(∀aF H',N aF H'->∃m',m'<m/\W (i+1) m' aF H')/\∀x H',J.x_ i H x H'->g x U H' λiW H2=>tb { D with nx:=N,ct:=N,bk:=D.nx } iW H2)
def Aa(fp:List Addr)(h:Heap):List (Addr×Obj):=fp.filterMap λb=>(h.get? b).map λo=>(b,o)
def BD(hb:b∈fp)(e:h.get? b=some o):(b,o)∈Aa fp h:=ag4.mpr #[b,hb,by rw[e];rfl]
def aht(hp:p∈Aa fp h):p.1∈fp/\h.get? p.1=some p.2:=by
 let#[b,hb,e]:=ag4.mp hp;exists q,h.get? b,o,e;have e':=acB e;subst e';apply#[hb,q]
def Inv.pinned(I:Inv X af U H s)(hf:∀b∈fp,iY X af H b)(ho:∀b∈fp,∃o,s.heap.get? b=some o/\∀v,o.data≠.cell v):Inv X (af++Aa fp s.heap) U H s:=
 I.tY λp hp=>(abH.mp hp).elim (λz=>I.pin p (aaH _ z)) λz=>by
  let#[hb,e]:=aht z;let#[f0,f1,f2,_]:=hf p.1 hb;let#[o,e',d]:=ho p.1 hb;rw[e] at e';ext e';apply#[e,f0,f1,f2,d]
def Inv.zT(I:Inv X (af++pl) U H s):Inv X af U H s:=I.tY λp hp=>I.pin p (aaH _ (abz _ hp))
def ahG(hp:PassesOwn (model X.prog X.w) X.A X.env X.xe)(hc:X.calm=true)(hi:PI X tg iter wi)(hg:PG X tg g)(hb:iP X body tb)
  (hs:∀x,foldedSetIterable iter X.env x=pure x:=by intro _;rfl):PS X (.For tg iter body [] pos) (abA wi g tb):=by
 intro af s U H D I h;refine wpAny_For (cL (hi af s U H _ I h) λv s1 h1=>cL h1 λCB s2 h2=>?_) hs;let#[it,fp,tn,J,H2,e,I2,T,uX,f2,W,#[m0,w0],turn]:=h2;subst e;have tL:∀{H':Hp},(∀b∈fp,H' b=none)->∀b∈fp,iY X af H' b:=λhn b hb=>#[hn b hb,(f2 b hb).2]
 refine codeAny_forLoop_any (λn s'=>∃i aF H',Inv X af aF H' s'/\tn i s'.heap/\(∀b∈fp,H' b=none)/\W i n aF H') ?_ m0 #[0,U,H2,I2,uX,λb hb=>(f2 b hb).1,w0]
 rintro n s3 ⟨i,dF,H3,I3,Qy,TV,w3⟩
 rcases turn i n dF H3 w3 with⟨stop,qn⟩|⟨go,N,hN,step⟩
 .refine aii hp (cL (T.done X rfl rfl rfl (.inl hc) i af s3 dF H3 X.xe I3 (tL TV) Qy stop) ?_)
  rintro r s4 ⟨hr,I4⟩
  subst hr;apply wpAny_execs_nil #[dF,H3,I4,qn]
 .refine aii hp (cL (T.item X rfl rfl rfl (.inl hc) i af s3 dF H3 X.xe I3 (tL TV) Qy go) ?_)
  rintro r s4 ⟨u,hr,h4⟩
  subst hr;refine aii hp (cL h4 ?_)
  rintro _ s5 ⟨x,H5,I5,r5,y5,vS,mY⟩
  have I5':=I5.pinned (tL mY) (T.obj _ _ vS);refine aii hp (cL (hg _ s5 dF H5 x u _ I5' r5 (step x H5 y5)) ?_)
  rintro _ s6 ⟨nQ,H6,I6,q6⟩
  refine aii hp (cL (hb _ s6 nQ H6 _ I6 q6) λf s7 q7=>?_);have again:∀{mV:St}{H7:Hp},Inv X (af++Aa fp s5.heap) mV H7 s7->N mV H7->∃m,m<n/\∃i aF H',Inv X af aF H' s7/\tn i s7.heap/\(∀b∈fp,H' b=none)/\W i m aF H':=λ{mV H7} I7 n7=>by
   let#[m',hm,w7]:=hN mV H7 n7;refine#[m',hm,i+1,mV,H7,I7.zT,T.keep _ _ _ vS λb hb o e=>(I7.pin (b,o) (aaH _ (aaH _ (BD hb e)))).1,λb hb=>?_,w7];let#[o,e,d]:=T.obj _ _ vS b hb;apply(I7.pin (b,o) (aaH _ (aaH _ (BD hb e)))).2.1
  cases f with
  |next=>let#[mV,H7,I7,n7]:=q7;apply again I7 n7
  |cont=>let#[mV,H7,I7,n7]:=q7;apply again I7 n7
  |brk=>let#[mV,H7,I7,q7]:=q7;apply#[mV,H7,I7.zT,q7]
  |ret v=>let#[x7,mV,H7,I7,r7,q7]:=q7;apply#[x7,mV,H7,I7.zT,r7,q7]
abbrev R2:=V->V->Hp->VK->Prop
def dO(X:Cx)(f:Value->Value->Sem Value)(r:R2):Prop:=
 ∀(af:List (Addr×Obj)) (s:Shared) (U:St) (H:Hp) (x y:V) (v u:Value) (Q:VK),Inv X af U H s->RelV x v->RelV y u->r x y H Q->
  w8 X X.A (f v u) (EP X af U Q) X.xe s
def Ft(X:Cx)(f:Value->Sem Value)(r:V->Hp->VK->Prop):Prop:=
 ∀(af:List (Addr×Obj)) (s:Shared) (U:St) (H:Hp) (x:V) (v:Value) (Q:VK),Inv X af U H s->RelV x v->r x H Q->
  w8 X X.A (f v) (EP X af U Q) X.xe s
def ie(X:Cx)(f:Value)(r:List V->Hp->VK->Prop):Prop:=
 ∀(af:List (Addr×Obj)) (s:Shared) (U:St) (H:Hp) (xs:List V) (us:List Value) (Q:VK),Inv X af U H s->aS xs us->r xs H Q->
  w8 X X.A (call f us) (EP X af U Q) X.xe s
def ah6(X:Cx)(r:V->Hp->(Bool->Hp->Prop)->Prop):Prop:=
 ∀(af:List (Addr×Obj)) (s:Shared) (U:St) (H:Hp) (x:V) (v:Value) (Q:Bool->Hp->Prop),Inv X af U H s->RelV x v->r x H Q->
  w8 X X.A (truthy v) (TP X af U Q) X.xe s
def qQ(r:R2)(ta tb:TE):TE:=λU H Q=>ta U H λx H1=>tb U H1 λy H2=>r x y H2 Q
def tUn(r:V->Hp->VK->Prop)(ta:TE):TE:=λU H Q=>ta U H λx H1=>r x H1 Q
def rI(C:Int->Int->Prop)(g:Int->Int->V):R2:=λx y H Q=>∃i j,x=.int i/\y=.int j/\C i j/\Q (g i j) H
def oB(g:Int->Int->V):R2:=λx y H Q=>∃i j,x=.int i/\y=.int j/\Q (g i j) H
def rU(g:Int->V):V->Hp->VK->Prop:=λx H Q=>∃i,x=.int i/\Q (g i) H
def Lw(ha:PE X a ta)(hb:PE X b tb){R:V->V->Hp->Prop}(I:Inv X af U H s)
  (h:ta U H λx H1=>tb U H1 λy H2=>R x y H2) {f:Value->Value->Sem Value}
  (hf:∀v u s2 x y H2,Inv X af U H2 s2->RelV x v->RelV y u->R x y H2->w8 X X.A (f v u) Q X.xe s2) :
  w8 X X.A (eval a X.env) (λv bZ=>w8 X X.A (eval b X.env) (λu qI=>w8 X X.A (f v u) Q X.xe qI) X.xe bZ) X.xe s:=by
 refine ha.n I h λv s1 x H1 I1 r1 q1=>?_
 refine hb.n I1 q1 λu s2 y H2 I2 r2 q2=>?_
 apply hf v u s2 x y H2 I2 r1 r2 q2
def SS{r:R2}(ho:dO X (binaryOp op) r)(ha:PE X a ta)(hb:PE X b tb):PE X (.BinOp a op b pos) (qQ r ta tb):=by
 exists 44;apply wpAny_BinOp (Lw ha hb I h λv u s2 x y H2 I2 rx ry q=>ho af s2 U H2 x y v u Q I2 rx ry q)
def ajx(ho:Ft X (unaryOp op) r)(ha:PE X a ta):PE X (.UnaryOp op a pos) (tUn r ta):=by
 exists 44;apply UnaryOp_ (ha.n I h λv s1 x H1 I1 r1 q1=>ho af s1 U H1 x v Q I1 r1 q1)
def EH{g:Int->Int->Int}
  (rule:∀(i j:Int) (t u:Tok) (s:Shared) (Q:Value->Shared->Prop) (E:Value->Shared->Prop),C i j->Q (.int (g i j) s.toks) { s with toks:=s.toks+1 }->w8 X X.A (f (.int i t) (.int j u)) Q E s) :
  dO X f (rI C λi j=>.int (g i j)):=by
 exists 42;let#[i,j,rfl,rfl,hc,q]:=h;let#[t,rfl]:=rx;let#[t',rfl]:=ry;apply rule i j t t' s _ _ hc #[.int (g i j),H,I.tok _,#[_,rfl],q]
def ON{g:Int->Int->Int}
  (rule:∀(i j:Int) (t u:Tok) (s:Shared) (Q:Value->Shared->Prop) (E:Value->Shared->Prop),Q (.int (g i j) s.toks) { s with toks:=s.toks+1 }->w8 X X.A (f (.int i t) (.int j u)) Q E s) :
  dO X f (oB λi j=>.int (g i j)):=by
 exists 42;let#[i,j,rfl,rfl,q]:=h;let#[t,rfl]:=rx;let#[t',rfl]:=ry;apply rule i j t t' s _ _ #[.int (g i j),H,I.tok _,#[_,rfl],q]
def Bc{g:Int->Int->Bool}
  (rule:∀(i j:Int) (t u:Tok) (s:Shared) (Q:Value->Shared->Prop) (E:Value->Shared->Prop),Q (.bool (g i j)) s->w8 X X.A (f (.int i t) (.int j u)) Q E s) :
  dO X f (oB λi j=>.bl (g i j)):=by
 exists 42;let#[i,j,rfl,rfl,q]:=h;let#[t,rfl]:=rx;let#[t',rfl]:=ry;apply rule i j t t' s _ _ #[.bl (g i j),H,I,rfl,q]
def aem(i j:Int):Prop:=0<j/\j<1073741824
def yS(i j:Int):Prop:=(-(2 ^ 64)<i/\i<2 ^ 64)\/(-(2 ^ 64)<j/\j<2 ^ 64)
def yS.ok(h:yS i j):IntMulOk i j:=by
 rcases h with⟨h1,h2⟩|⟨h1,h2⟩
 .exact .of_left (intBits_le_64 h1 h2)
 .exact .of_right (intBits_le_64 h1 h2)
def V_:dO X (binaryOp .Add) (oB λi j=>.int (i+j)):=ON λ_ _ _ _ _ _ _ q=>add_int q
def af8:dO X (binaryOp .Sub) (oB λi j=>.int (i-j)):=ON λ_ _ _ _ _ _ _ q=>sub_int q
def Yo:dO X (binaryOp .Mult) (rI yS λi j=>.int (i*j)):=EH λ_ _ _ _ _ _ _ hc q=>mul_int q hc.ok
def WL:dO X (binaryOp .FloorDiv) (rI aem λi j=>.int (i / j)):=EH λi j _ _ _ _ _ hc q=>by
 have h1:=hc.1;have h2:j<1073741824:=hc.2;apply floordiv_int (by omega) (by rw[Int.fdiv_eq_ediv_of_nonneg i (by omega)];apply q) (.inl (PyProof.noPylong_small (by omega)))
def aje:dO X (binaryOp .Mod) (rI (λ_ j=>0<j) λi j=>.int (i % j)):=EH λi j _ _ _ _ _ hc q=>by
 have h1:=hc;apply mod_int' (by omega) (by rw[Int.fmod_eq_emod_of_nonneg i (by omega)];apply q)
def Y7{g:Int->Int}
  (rule:∀(i:Int) (t:Tok) (s:Shared) (Q:Value->Shared->Prop) (E:Value->Shared->Prop),Q (.int (g i) s.toks) { s with toks:=s.toks+1 }->w8 X X.A (f (.int i t)) Q E s) :
  Ft X f (rU λi=>.int (g i)):=by
 intro af s U H x v Q I rx h;let#[i,rfl,q]:=h;let#[t,rfl]:=rx;apply rule i t s _ _ #[.int (g i),H,I.tok _,#[_,rfl],q]
def Y8:Ft X (unaryOp .USub) (rU λi=>.int (-i)):=Y7 λ_ _ _ _ _ q=>neg_int q
def Tj:V->V->Bool
 |.aC,.aC=>true|.aC,.int _=>true|.int _,.aC=>true|.aC,.bl _=>true|.bl _,.aC=>true|.aC,.str _=>true|.str _,.aC=>true
 |.int _,.int _=>true|.bl _,.bl _=>true|.str _,.str _=>true|.jO _,.jO _=>true
 |.int _,.str _=>true|.str _,.int _=>true|.bl _,.str _=>true|.str _,.bl _=>true
 |_,_=>false
def Fk:R2:=λx y H Q=>Tj x y=true/\Q (.bl (decide (x=y))) H
def SA:R2:=λx y H Q=>Tj x y=true/\Q (.bl (!decide (x=y))) H
def BG:decide (V.int i=V.int j)=(i==j):=by
 rw[aj7];simp
def BJ:decide (V.bl i=V.bl j)=(i==j):=by
 rw[aj7];simp
def C7:decide (V.str i=V.str j)=(i==j):=by
 rw[aj7];simp
def RY:decide (V.jO i=V.jO j)=(i.toList==j.toList):=by
 rw[aj7];ext i;ext j;simp
def dY(I:Inv X af U H s)(q:Q (.bl k) H)(e:k=k'):EP X af U Q (.bool k') s:=by
 subst e;apply#[.bl k,H,I,rfl,q]
def DJ:dO X (compareOp .Eq) Fk:=by
 exists 42;let#[hs,q]:=h;cases x with
 |aC=>
  ext rx;cases y with
  |aC=>ext ry;apply PySem.EqNone.eq_none_none (dY I q (by simp))
  |bl j=>ext ry;apply PySem.EqNone.eq_none_bool (dY I q (by simp))
  |int j=>let#[t',rfl]:=ry;apply PySem.EqNone.eq_none_int (dY I q (by simp))
  |str j=>let#[t',rfl]:=ry;apply PySem.EqNone.eq_none_str (dY I q (by simp))
  |_=>apply absurd (show false=true from hs) abm
 |bl i=>
  ext rx;cases y with
  |aC=>ext ry;apply PySem.EqNone.eq_bool_none (dY I q (by simp))
  |bl j=>ext ry;apply eq_bool (dY I q BJ)
  |str j=>let#[t',rfl]:=ry;apply PySem.EqMixed.eq_bool_str (dY I q (by simp))
  |_=>apply absurd (show false=true from hs) abm
 |int i=>
  let#[t,rfl]:=rx;cases y with
  |aC=>ext ry;apply PySem.EqNone.eq_int_none (dY I q (by simp))
  |int j=>let#[t',rfl]:=ry;apply eq_int (dY I q BG)
  |str j=>let#[t',rfl]:=ry;apply PySem.EqMixed.eq_int_str (dY I q (by simp))
  |_=>apply absurd (show false=true from hs) abm
 |str i=>
  let#[t,rfl]:=rx;cases y with
  |aC=>ext ry;apply PySem.EqNone.eq_str_none (dY I q (by simp))
  |bl j=>ext ry;apply PySem.EqMixed.eq_str_bool (dY I q (by simp))
  |int j=>let#[t',rfl]:=ry;apply PySem.EqMixed.eq_str_int (dY I q (by simp))
  |str j=>let#[t',rfl]:=ry;apply eq_str (dY I q C7)
  |_=>apply absurd (show false=true from hs) abm
 |jO i=>
  let#[t,rfl]:=rx;cases y with
  |jO j=>let#[t',rfl]:=ry;apply PySem.W.eq_bytes (dY I q RY)
  |_=>apply absurd (show false=true from hs) abm
 |_=>ext y<;>apply absurd (show false=true from hs) abm
def MX:dO X (compareOp .NotEq) SA:=by
 exists 42;let#[hs,q]:=h;cases x with
 |aC=>
  ext rx;cases y with
  |aC=>ext ry;apply PySem.EqNone.ne_none_none (dY I q (by simp))
  |bl j=>ext ry;apply PySem.EqNone.ne_none_bool (dY I q (by simp))
  |int j=>let#[t',rfl]:=ry;apply PySem.EqNone.ne_none_int (dY I q (by simp))
  |str j=>let#[t',rfl]:=ry;apply PySem.EqNone.ne_none_str (dY I q (by simp))
  |_=>apply absurd (show false=true from hs) abm
 |bl i=>
  ext rx;cases y with
  |aC=>ext ry;apply PySem.EqNone.ne_bool_none (dY I q (by simp))
  |bl j=>ext ry;apply ne_bool (dY I q (congrArg not BJ))
  |str j=>let#[t',rfl]:=ry;apply PySem.EqMixed.ne_bool_str (dY I q (by simp))
  |_=>apply absurd (show false=true from hs) abm
 |int i=>
  let#[t,rfl]:=rx;cases y with
  |aC=>ext ry;apply PySem.EqNone.ne_int_none (dY I q (by simp))
  |int j=>let#[t',rfl]:=ry;apply ne_int (dY I q (congrArg not BG))
  |str j=>let#[t',rfl]:=ry;apply PySem.EqMixed.ne_int_str (dY I q (by simp))
  |_=>apply absurd (show false=true from hs) abm
 |str i=>
  let#[t,rfl]:=rx;cases y with
  |aC=>ext ry;apply PySem.EqNone.ne_str_none (dY I q (by simp))
  |bl j=>ext ry;apply PySem.EqMixed.ne_str_bool (dY I q (by simp))
  |int j=>let#[t',rfl]:=ry;apply PySem.EqMixed.ne_str_int (dY I q (by simp))
  |str j=>let#[t',rfl]:=ry;apply ne_str (dY I q (congrArg not C7))
  |_=>apply absurd (show false=true from hs) abm
 |jO i=>
  let#[t,rfl]:=rx;cases y with
  |jO j=>let#[t',rfl]:=ry;apply PySem.W.ne_bytes (dY I q (congrArg not RY))
  |_=>apply absurd (show false=true from hs) abm
 |_=>ext y<;>apply absurd (show false=true from hs) abm
def M3:dO X (compareOp .Lt) (oB λi j=>.bl (decide (i<j))):=Bc λ_ _ _ _ _ _ _ q=>lt_int q
def EA:dO X (compareOp .LtE) (oB λi j=>.bl (decide (i<=j))):=Bc λ_ _ _ _ _ _ _ q=>le_int q
def ZO:dO X (compareOp .Gt) (oB λi j=>.bl (decide (j<i))):=Bc λ_ _ _ _ _ _ _ q=>gt_int q
def afl:dO X (compareOp .GtE) (oB λi j=>.bl (decide (j<=i))):=Bc λ_ _ _ _ _ _ _ q=>ge_int q
def Qx:dO X (compareOp .Is) (λx y H Q=>y=.aC/\Q (.bl (decide (x=.aC))) H):=by
 exists 42;let#[rfl,q]:=h;ext ry;refine is_none_gen (dY I q ?_);ext x<;>first
  |(ext rx;rfl)
  |(let#[t,rfl]:=rx;rfl)
def Pb:dO X (compareOp .IsNot) (λx y H Q=>y=.aC/\Q (.bl (!decide (x=.aC))) H):=by
 exists 42;let#[rfl,q]:=h;ext ry;refine isnot_none_gen (dY I q ?_);ext x<;>first
  |(ext rx;rfl)
  |(let#[t,rfl]:=rx;rfl)
def jm(b:Expr)(h:op≠.In:=by decide)(h2:op≠.NotIn:=by decide):behindInMarks op b=false:=by
 have e1:(op==CmpOp.In)=false:=by ext op<;>first|rfl|exact absurd rfl h
 have e2:(op==CmpOp.NotIn)=false:=by ext op<;>first|rfl|exact absurd rfl h2
 ext b<;>simp[behindInMarks,e1,e2]
def T5{r:R2}(ho:dO X (compareOp op) r)(ha:PE X a ta)(hb:PE X b tb)(hm:behindInMarks op b=false):PE X (.Compare a [op] [b] pos) (qQ r ta tb):=by
 exists 44;apply wpAny_Compare1 (Lw ha hb I h λv u s2 x y H2 I2 rx ry q=>ho af s2 U H2 x y v u Q I2 rx ry q) hm
def QE(t:TE):TT:=λU H Q=>t U H λx H'=>∃k,x=.bl k/\Q k H'
def B7(ho:dO X (compareOp op) r)(ha:PE X a ta)(hb:PE X b tb)(hm:behindInMarks op b=false):PT X (.Compare a [op] [b] pos) (QE (qQ r ta tb)):=by
 exists 44;refine wpAny_isTrue_Compare1 (ha.n I h λv s1 x H1 I1 r1 q1=>hb.n I1 q1 λu s2 y H2 I2 r2 q2=>
  cL (ho af s2 U H2 x y v u _ I2 r1 r2 q2) λc s3 #[z,H3,I3,r3,k,e,q3]=>?_) hm
 subst e;ext r3;apply afi #[H3,I3,q3]
def XZ(r r':R2)(ta tb tc:TE):TE:=λU H Q=>ta U H λx H1=>tb U H1 λy H2=>r x y H2 λz H3=>∃k,z=.bl k/\
 (if k=true then tc U H3 λw' H4=>r' y w' H4 Q else Q (.bl false) H3)
def agt(ho:dO X (compareOp op) r)(lY:dO X (compareOp z9) r')(ha:PE X a ta)(hb:PE X b tb)(hc:PE X c tc)
  (hm:lastMarks [op,z9] [b,c]=false:=by with_unfolding_all rfl):PE X (.Compare a [op,z9] [b,c] pos) (XZ r r' ta tb tc):=by
 exists 44;refine Compare_chain (ha.n I h λv s1 x H1 I1 r1 q1=>chain_link (hb.n I1 q1 λu s2 y H2 I2 r2 q2=>
  cL (ho af s2 U H2 x y v u _ I2 r1 r2 q2) λd s3 #[z,H3,I3,r3,k,e,q3]=>?_)) hm
 subst e;ext r3;refine afi ?_;cases k with
 |false=>apply ite_ff #[.bl false,H3,I3,rfl,q3]
 |true=>apply ite_tt (chain_last (hc.n I3 q3 λw' s4 z' H4 I4 r4 q4=>lY af s4 U H4 y z' u w' Q I4 r2 r4 q4))
def P6(K:Fr)(x:V)(H:Hp)(k:Bool):Prop:=
 match x with
 |.aC=>k=false
 |.bl b=>k=b
 |.int i=>k=(i != 0)
 |.str y=>y.length<=sizeLine/\k=((y.length:Int) != 0)
 |.jO y=>y.size<=sizeLine/\k=((y.size:Int) != 0)
 |.ref p=>(∃xs,cJ K H p xs/\k=!xs.isEmpty)\/(∃xs,bQ K H p xs/\k=!xs.isEmpty)\/∃ak,H p=some (.dK ak)/\k=!ak.isEmpty
 |_=>False
def adH(r:KV ak vs):(!vs.isEmpty)=!ak.isEmpty:=by
 ext r<;>rfl
def Qe(r:aS xs av):(!av.toArray.isEmpty)=!xs.isEmpty:=by
 ext r<;>simp
def yF:(sizeLine:Nat)<2 ^ 63:=by rw[afK];decide
def ahc:ah6 X (λx H Q=>∃k,P6 X.K x H k/\Q k H):=by
 intro af s U H x v Q I rx h;let#[k,e,q]:=h;have hl:=yF;have hs:=afK;cases x with
 |aC=>
  ext rx;have e':=e;subst e';apply truthy_none #[H,I,q]
 |bl b=>
  ext rx;have e':=e;subst e';apply afi #[H,I,q]
 |int i=>
  let#[t,rfl]:=rx;have e':=e;subst e';apply PySem.P.truthy_int #[H,I,q]
 |str y=>
  let#[t,rfl]:=rx;obtain⟨hy,e'⟩:y.length<=sizeLine/\k=((y.length:Int) != 0):=e;subst e';apply PySem.P.truthy_str (by omega) #[H,I.tok _,q]
 |jO y=>
  let#[t,rfl]:=rx;obtain⟨hy,e'⟩:y.size<=sizeLine/\k=((y.size:Int) != 0):=e;subst e';apply PySem.W.truthy_bytes (by omega) #[H,I.tok _,q]
 |ref p=>
  ext rx;have e':=e;rcases e' with⟨xs,hx,e'⟩|⟨xs,hx,e'⟩|⟨ak,hx,e'⟩
  .subst e';let#[av,r,pl,hz]:=I.list hx;have hlen:=r.length;apply wpAny_truthy_list pl.isList (by simp only[ab9];omega) #[H,I.tok _,by rw[Qe r];apply q]
  .subst e';let#[av,r,pl,hz]:=I.tuple hx;have hlen:=r.length;apply truthy_tuple pl (by simp only[ab9];omega) #[H,I.tok _,by rw[Qe r];apply q]
  .subst e';obtain⟨hz,hS,vs,r,m⟩:ak.length<=sizeLine/\(p==sysModules)=false/\∃vs,KV ak vs/\s.heap.DictOf (f7 X.prog X.w) p vs:=I.aG p _ hx;have hlen:=Paired.length r;apply wpAny_truthy_dict hS m (by omega) #[H,I.tok _,by rw[adH r];apply q]
 |_=>apply(show False from e).elim
def agl(ha:PE X a ta)(he:∀whole,isTrue a X.env whole=(do let v <- whole;standAt a.pos;holding [v] (truthy v))):
  PT X a (λU H Q=>ta U H λx H'=>∃k,P6 X.K x H' k/\Q k H'):=by
 exists 44;apply isTrue_plain (ha.n I h λv s1 x H1 I1 r1 q1=>ahc af s1 U H1 x v Q I1 r1 q1) (he _)
def adC:dO X (binaryOp .Add) (λx y H Q=>∃i j,x=.str i/\y=.str j/\i.length+j.length<=sizeLine/\Q (.str (i++j)) H):=by
 exists 42;let#[i,j,rfl,rfl,hz,q]:=h;let#[t,rfl]:=rx;let#[t',rfl]:=ry;apply add_str (λt' tk=>#[.str (i++j),H,I.tok _,#[_,rfl],q]) hz
def vals1(r:aS [x] us):∃u,us=[u]/\RelV x u:=by
 cases r with
 |cons r1 r2=>ext r2;apply#[_,rfl,r1]
def vals2(r:aS [x,y] us):∃u w',us=[u,w']/\RelV x u/\RelV y w':=by
 cases r with
 |cons r1 r2=>
  cases r2 with
  |cons r3 r4=>ext r4;apply#[_,_,rfl,r1,r3]
def adt(hc:X.calm=true):ie X (.builtin "min") (λxs H Q=>∃i j,xs=[.int i,.int j]/\Q (.int (if j<i then j else i)) H):=by
 exists 43;let#[i,j,rfl,q]:=h;let#[u,w',rfl,#[t,rfl],#[t',rfl]]:=vals2 r;refine min_two_ints (I.ok.hd hc) λh' tk k=>#[_,H,I.kept k,?_,q]
 by_cases hj:j<i
 .rw[if_pos hj,if_pos hj];apply#[_,rfl]
 .rw[abM hj,abM hj];apply#[_,rfl]
structure uI(h:Heap)(x dx C:Addr)(mA:Str->Option Value):Prop where
 obj:h.get? x=some (PySem.W.instObj C dx)
 ns:h.Ns1 dx mA
 ne:dx≠x
def adJ{h:Heap}(n:h.Ns1 dx mA):∃od,h.get? dx=some od/\∀name,PySem.W.lookIn name od=some (mA name):=by
 let#[o,es,ep,ho,hd,hk,_,hm]:=n;refine#[o,ho,λname=>?_];have e:=hm name;unfold nsFind findBy at e;rw[<- Array.find?_toList] at e;unfold PySem.W.lookIn;rw[hd];dsimp only
 split
 .rename_i y q;rw[q] at e;apply congrArg some e
 .rename_i q;rw[q] at e;have a:es.toList.any (·.refKey)=false:=by
   rw[List.any_eq_false];intro y hy;let#[z,t,zX]:=hk y (Array.mem_toList_iff.mp hy);simp[DictEntry.refKey,zX]
  have a':¬es.toList.any (·.refKey)=true:=by rw[a];apply abm
  rw[abM a'];apply congrArg some e
def uI.look(I:uI h x dx C mA):∃od,PySem.W.InstAt h x (PySem.W.instObj C dx) C (some od)/\∀name,PySem.W.lookIn name od=some (mA name):=
 let#[od,ho,hl]:=adJ I.ns
 #[od,#[I.obj,rfl,rfl,ho],hl]
section
variable{K:Fr}
def get_map(X:K.In s.heap)(I:uI s.heap x dx C mA)(hg:PySem.W.plainGet K C name=true)(hh:PySem.W.hasDictIn K C=true)
  (ha:PySem.W.findIn K (.ref C) name=some none) (hv:mA name=some v) (jN:PySem.W.handedIn v=true) (h:Q v { s with toks:=s.toks+1 }) :
  wpAny (model prog w) A (getAttr (.ref x) name expr) Q E s:=by
 let#[od,J,hl]:=I.look;apply PySem.W.get_value X J (PySem.W.plainGet_of hg).1 (PySem.W.findObj_own hh ha rfl (by rw[hl,hv])) jN h
def aaz(X:K.In s.heap)(I:uI s.heap x dx C mA)(hg:PySem.W.plainGet K C name=true)
  (hf:PySem.W.findIn K (.ref C) name=some (some (.ref f))) (ht:PySem.W.isFn K (.ref f)=true) (hv:mA name=none) (h:Q (.ref f,[.ref x]) s) :
  wpAny (model prog w) A (getMethod (.ref x) name pl) Q E s:=by
 let#[od,J,hl]:=I.look;apply PySem.W.method_fn X J (PySem.W.plainGet_of hg).1 (PySem.W.plainGet_of hg).2 hf (ahb.mp ht) (by show(PySem.W.lookIn name od).map (·.isSome)=some false;rw[hl,hv];rfl) h
def aiM(X:K.In s.heap)(I:uI s.heap x dx C mA)
  (hs:PySem.W.findIn K (.ref C) "__setattr__"=some (some (.builtin "object.__setattr__"))) (hp:PySem.W.plainOver K C=true) (ht:PySem.W.takerIn K C name=some none) (hh:PySem.W.hasDictIn K C=true)
  (hw:PySem.Within mA ns) (hsz:ns.length<=sizeLine)
  (h:∀h',uI h' x dx C (λy=>if y=name then some v else mA y)->Heap.SameBut dx s.heap h'->Q () { s with heap:=h',toks:=s.toks+2 }) :
  wpAny (model prog w) A (setAttr (.ref x) name v) Q E s:=by
 let#[od,J,hl]:=I.look;refine PySem.W.set_plain X J hs (PySem.W.osa_open (r:=none) X J hp ht λb=>?_);let#[cd,hc,Ih]:=PySem.W.any_some hh;have hx:=I.obj;refine aaq (abP (aaq (aaq (wpAny_loadPart hx (aaq (PySem.W.Looks.here (PySem.W.looks_clsIn X hc) ?_))))));rw[Ih];refine abP (aaq (abP (aaq ?_)));refine wpAny_nsSet1 I.ns λh' DM eU=>?_
 let#[oD,esD,epD,Lu,hdD,hcD]:=DM.count (PySem.Within.cons name v hw);refine aaq (wpAny_lookBehind Lu (by rw[hdD];apply pastItsLine_dict (ada hcD (by rw[acv];omega))) ?_);apply abP (h _ #[(eU.2 _ (afv I.ne)).trans I.obj,DM,I.ne] eU)
def aei(X:K.In s.heap)(hm:PySem.W.makesIn K C=true)
  (hi:PySem.W.findIn K (.ref C) "__init__"=some (some (.ref f))) (hf:PySem.W.typeIn K (.ref f)=some (.type "function"))
  (h:codeAny (model prog w) (A.under (.builtin "type.__call__" #[.ref C::vs,kw])) (.call (.ref f) #[.ref (s.heap.objs.size + 1)::vs,kw]) (PySem.W.InitBack (s.heap.objs.size + 1) R)
   { s with heap:=(s.heap.push PySem.W.emptyDict).push (PySem.W.instObj C s.heap.objs.size) }) :
  codeAny (model prog w) A (.call (.ref C) #[vs,kw]) R s:=by
 let#[hh,g,d,t,os]:=s;apply PySem.W.make_core (PySem.W.makes_of X hm) (PySem.W.looks_findIn X hi) (λself=>PySem.W.bind_fn X self hf) (.inl rfl) h
end
def fN(f:Str)(v:V):List (Str×V)->List (Str×V)
 |[]=>[(f,v)]
 |(g,x)::r=>if g=f then(g,v)::r else(g,x)::fN f v r
theorem Uw(f g:Str)(v:V):∀fs:List (Str×V),(fN f v fs).lookup g=if g=f then some v else fs.lookup g
 |[]=>by
  show List.lookup g [(f,v)]=_
  by_cases h:g=f
  .have hb:=ahb.mpr h;simp only[List.lookup,hb,if_pos h]
  .have hb:=adY.mpr h;simp only[List.lookup,hb,abM h]
 |(k,x)::r=>by
  have ih:=Uw f g v r;rw[show fN f v ((k,x)::r)=(if k=f then(k,v)::r else(k,x)::fN f v r) from rfl]
  by_cases hk:k=f
  .rw[if_pos hk]
   by_cases h:g=k
   .have hb:=ahb.mpr h;simp only[List.lookup,hb,if_pos (h.trans hk)]
   .have hb:=adY.mpr h;simp only[List.lookup,hb,abM (λe:g=f=>h (e.trans hk.symm))]
  .rw[abM hk]
   by_cases h:g=k
   .have hb:=ahb.mpr h;simp only[List.lookup,hb,abM (λe:g=f=>hk (h.symm.trans e))]
   .have hb:=adY.mpr h;simp only[List.lookup,hb];apply ih
theorem L6(f:Str)(v:V):∀fs:List (Str×V),f∈(fN f v fs).map (·.1)/\∀g,g∈fs.map (·.1)->g∈(fN f v fs).map (·.1)
 |[]=>#[by simp[fN],λg h=>by simp at h]
 |(k,x)::r=>by
  let#[i1,i2]:=L6 f v r;rw[show fN f v ((k,x)::r)=(if k=f then(k,v)::r else(k,x)::fN f v r) from rfl]
  by_cases hk:k=f
  .rw[if_pos hk];subst hk;apply#[by simp,λg h=>by simpa using h]
  .rw[abM hk];refine#[?_,λg h=>?_]
   .rw[aaG];apply aar _ i1
   .rw[aaG] at h ⊢;rcases aaO.mp h with e|e
    .exact aaO.mpr (.inl e)
    .exact aar _ (i2 g e)
theorem Uo(f:Str)(v:V):∀fs:List (Str×V),(fN f v fs).length<=fs.length+1
 |[]=>by simp[fN]
 |(k,x)::r=>by
  have ih:=Uo f v r;rw[show fN f v ((k,x)::r)=(if k=f then(k,v)::r else(k,x)::fN f v r) from rfl]
  by_cases hk:k=f
  .rw[if_pos hk,acv,acv];omega
  .rw[abM hk,acv,acv];omega
def iI.some_of(r:iI (some v) o):∃u,o=some u/\RelV v u:=by
 cases o with
 |none=>apply(show False from r).elim
 |some u=>apply#[u,rfl,r]
def iI.none_of(r:iI none o):o=none:=by
 cases o with
 |none=>rfl
 |some u=>apply(show False from r).elim
def aae(r:RelV v u):PySem.W.handedIn u=true:=by
 cases v with
 |aC=>cases(show u=Value.none from r);rfl
 |bl b=>cases(show u=Value.bool b from r);rfl
 |int i=>let#[t,e]:=(show ∃t,u=Value.int i t from r);ext e;rfl
 |str x=>let#[t,e]:=(show ∃t,u=Value.str x t from r);ext e;rfl
 |jO b=>let#[t,e]:=(show ∃t,u=Value.bytes b t from r);ext e;rfl
 |tE b=>let#[t,e]:=(show ∃t,u=Value.float b t from r);ext e;rfl
 |ref a=>cases(show u=Value.ref a from r);rfl
 |ty n=>cases(show u=Value.type n from r);rfl
def By(aG:cY P w H h)(e:H a=some (.ins C dx fs)):∃mA,uI h a dx C mA/\(∀f,iI (fs.lookup f) (mA f))/\PySem.Within mA (fs.map (·.1))/\fs.length<=1000/\H dx=some (.own a):=by
 let#[d,z,ne,ob,mA,n,r,q]:=(show dD P w H h a (.ins C dx fs) from aG a _ e)
 apply#[mA,#[ob,n,ne],r,q,z,d]
structure j9(K:Fr)(C:Addr):Prop where
 pg:PySem.W.plainGet K C Str.empty=true
 hd:PySem.W.hasDictIn K C=true
 po:PySem.W.plainOver K C=true
 sa:PySem.W.findIn K (.ref C) "__setattr__"=some (some (.builtin "object.__setattr__"))
def j9.get{K:Fr}(c:j9 K C)(f:Str):PySem.W.plainGet K C f=true:=c.pg
def iQ(K:Fr)(C:Addr)(f:Str):Prop:=PySem.W.findIn K (.ref C) f=some none
def iQ.aiE{K:Fr}(n:iQ K C f):PySem.W.takerIn K C f=some none:=by
 unfold PySem.W.takerIn;rw[show PySem.W.findIn K (.ref C) f=some none from n];rfl
structure kD(K:Fr)(C:Addr)(m:Str)(f:Addr):Prop where
 at_:PySem.W.findIn K (.ref C) m=some (some (.ref f))
 fn:PySem.W.isFn K (.ref f)=true
 kp:PySem.W.keepIn K (.ref f)=true
def Ro(I:Inv X af U H s)(e:H a=some (.ins C dx fs))(c:j9 X.K C)(n:iQ X.K C f)(l:fs.lookup f=some v)
  (h:∀u s',Inv X af U H s'->RelV v u->Q u s'):wpAny (model X.prog X.w) A (getAttr (.ref a) f b) Q E s:=by
 let#[mA,O,r,_,_,_]:=By I.aG e;let#[u,hu,ru]:=iI.some_of (by rw[<- l];apply r f);apply get_map I.dQ O (c.get f) c.hd n hu (aae ru) (h u _ (I.tok _) ru)
def KZ(I:Inv X af U H s)(e:H a=some (.ins C dx fs))(c:j9 X.K C)(k:kD X.K C m g)(l:fs.lookup m=none)
  (h:Q (.ref g,[.ref a]) s):wpAny (model X.prog X.w) A (getMethod (.ref a) m pl) Q E s:=by
 let#[mA,O,r,_,_,_]:=By I.aG e;have hn:=iI.none_of (by rw[<- l];apply r m);apply aaz I.dQ O (c.get m) k.at_ k.fn hn h
def PR(I:Inv X af U H s)(e:H a=some (.ins C dx fs))(c:j9 X.K C)(n:iQ X.K C f)(hl:fs.length<1000)(ry:RelV y u)
  (h:∀s',Inv X af U (upd H a (.ins C dx (fN f y fs))) s'->Q () s'):wpAny (model X.prog X.w) A (setAttr (.ref a) f u) Q E s:=by
 let#[mA,O,r,wi,_,ho]:=By I.aG e;have hz:(fs.map (·.1)).length<=sizeLine:=by rw[List.length_map,afK];omega
 refine aiM I.dQ O c.sa c.po n.aiE c.hd wi hz λh' O' sb=>h _ ?_
 have hd:∃o,h'.get? dx=some o:=let#[o,_,_,e',_]:=O'.ns;#[o,e']
 refine I.write (by rw[e];apply True.intro) (.inr ho) (λb q hb z=>(sb.2 b hb).trans z) hd ?_;refine#[by rw[aJ O.ne];apply ho,?_,O.ne,O'.obj,_,O'.ns,λg=>?_,λg hg=>?_]
 .have:=Uo f y fs;omega
 .show iI ((fN f y fs).lookup g) (if g=f then some u else mA g);rw[Uw]
  by_cases q:g=f
  .rw[if_pos q,if_pos q];apply ry
  .rw[abM q,abM q];apply r g
 .by_cases q:g=f
  .rw[q];apply(L6 f y fs).1
  .refine(L6 f y fs).2 g (wi g λz=>hg ?_);show(if g=f then some u else mA g)=none;rw[abM q];apply z
def Inv.made(I:Inv X af U H s):Inv X af U (upd (upd H s.heap.objs.size (.own (s.heap.objs.size+1))) (s.heap.objs.size+1) (.ins C s.heap.objs.size []))
  { s with heap:=(s.heap.push PySem.W.emptyDict).push (PySem.W.instObj C s.heap.objs.size) }:=by
 have e1:(s.heap.push PySem.W.emptyDict).get? s.heap.objs.size=some PySem.W.emptyDict:=acm s.heap rfl;have e2:((s.heap.push PySem.W.emptyDict).push (PySem.W.instObj C s.heap.objs.size)).get? (s.heap.objs.size+1)=some (PySem.W.instObj C s.heap.objs.size):=by
  have:=acm (s.heap.push PySem.W.emptyDict) (o:=PySem.W.instObj C s.heap.objs.size) rfl
  rwa [aif] at this
 have e3:(s.heap.push PySem.W.emptyDict).Ns s.heap.objs.size (λ_=>none):=#[PySem.W.emptyDict,([].toArray),_,e1,rfl,(λe he=>absurd he (by simp)),λ_=>rfl]
 have I1:=I.laid (o:=.own (s.heap.objs.size+1)) (t':=s.toks) (λb u q=>aat _ q) (abD _) #[_,e1];refine I1.laid (λb u q=>aat _ q) (Nat.le_of_eq (aif _ _)) ?_;have ne:s.heap.objs.size≠s.heap.objs.size+1:=acO (ahO _);refine#[by rw[aJ ne,bP],acP _,ne,e2,λ_=>none,(Heap.Ns1.of_empty e3).at λo q=>aat _ q,λ_=>True.intro,λy hy=>absurd rfl hy]
def Wv(hb:attributeBase e f env (eval e env)=eval e env)
  (h:wpAny (model prog w) A (eval e env) (λo bZ=>wpAny (model prog w) A (getAttr o f true) Q E bZ) E s):wpAny (model prog w) A (eval (.Attribute e f pos) env) Q E s:=
 Attribute_any_ h (by rw[arm_eval_Attribute,hb])
def G8(K:Fr)(ta:TE)(f:Str):TE:=λU H Q=>ta U H λx H1=>∃a C dx fs v,x=.ref a/\H1 a=some (.ins C dx fs)/\j9 K C/\iQ K C f/\fs.lookup f=some v/\Q v H1
def Xy(K:Fr)(ta tv:TE)(f:Str):TS:=λD U H=>tv U H λy H1=>ta U H1 λx H2=>∃a C dx fs,x=.ref a/\H2 a=some (.ins C dx fs)/\j9 K C/\iQ K C f/\fs.length<1000/\
 D.nx U (upd H2 a (.ins C dx (fN f y fs)))
def Uy(X:Cx)(op:Operator)(rd:V->V->Hp->VK->Prop):Prop:=
 ∀(af) (s) (U) (H) (x y) (u v) (Q),Inv X af U H s->RelV x u->RelV y v->rd x y H Q->w8 X X.A (inplaceOp op u v) (EP X af U Q) X.xe s
def adu(K:Fr)(ta tv:TE)(rd:V->V->Hp->VK->Prop)(f:Str):TS:=λD U H=>ta U H λx H1=>∃a C dx fs v,x=.ref a/\H1 a=some (.ins C dx fs)/\j9 K C/\iQ K C f/\fs.lookup f=some v/\
 tv U H1 λy H2=>rd v y H2 λz H3=>∃zF vY,H3 a=some (.ins C zF vY)/\vY.length<1000/\D.nx U (upd H3 a (.ins C zF (fN f z vY)))
def n_(he:PE X e ta)(hb:attributeBase e f X.env (eval e X.env)=eval e X.env):PE X (.Attribute e f pos) (G8 X.K ta f):=by
 exists 44;refine Wv hb (he.n I h λu s1 x H1 I1 rx q=>?_);let#[a,C,dx,fs,v,ex,ea,c,n,l,q]:=q;subst ex;obtain rfl:u=Value.ref a:=rx;apply Ro I1 ea c n l λu' s2 I2 ru=>#[v,H1,I2,ru,q]
def abb(ha:PE X o ta)(hv:PE X value tv)(hs:swapsWith value (some (.Attribute o f pos')) pos.line X.env=pure false):PS X (.Assign [.Attribute o f pos'] value pos) (Xy X.K ta tv f):=by
 intro af s U H D I h;refine plainObj_wpAny_Assign_Attribute (hv.n I h λu s1 y H1 I1 ry q=>ha.n I1 q λov s2 x H2 I2 rx q=>?_) hs;let#[a,C,dx,fs,ex,ea,c,n,l,q2]:=q;subst ex;obtain rfl:ov=Value.ref a:=rx;apply PR I2 ea c n l ry λs3 I3=>#[U,_,I3,q2]
def Yk(ha:PE X o ta)(hv:PE X value tv)(hop:Uy X op rd):PS X (.AugAssign (.Attribute o f aj2) op value pos) (adu X.K ta tv rd f):=by
 intro af s U H D I h;refine wpAny_AugAssign_AttributeAny (ha.n I h λov s1 x H1 I1 rx q=>?_);let#[a,C,dx,fs,v,ex,ea,c,n,l,q]:=q;subst ex;obtain rfl:ov=Value.ref a:=rx;refine Ro I1 ea c n l λu s2 I2 ru=>hv.n I2 q λw3 s3 y H2 I3 ry q3=>Fc (hop af s3 U H2 v y u w3 _ I3 ru ry q3) λw4 s4 z H3 I4 rz q=>?_
 let#[zF,vY,ea',l',q4]:=q;apply PR I4 ea' c n l' rz λs5 I5=>#[U,_,I5,q4]
def X5:V->V->Hp->VK->Prop:=λx y H Q=>∃i j,x=.int i/\y=.int j/\Q (.int (i+j)) H
def Xs:Uy X .Add X5:=by
 rintro af s U H x y u v Q I rx ry ⟨i,j,rfl,rfl,q⟩
 let#[t,rfl]:=(show ∃t,u=Value.int i t from rx)
 let#[t',rfl]:=(show ∃t',v=Value.int j t' from ry)
 apply PyProof.Rows.iadd_int #[.int (i+j),H,I.tok _,#[_,rfl],q]
inductive j6(K:Fr)(H:Hp):V->Value->Prop where
 |aC:j6 K H .aC (.type "NoneType")
 |bl (x:Bool):j6 K H (.bl x) (.type "bool")
 |int (i:Int):j6 K H (.int i) (.type "int")
 |str (x:Str):j6 K H (.str x) (.type "str")
 |tE (x:UInt64):j6 K H (.tE x) (.type "float")
 |lst {a:Addr}{xs:List V} (e:H a=some (.lst xs)):j6 K H (.ref a) (.type "list")
 |cC {a:Addr}{o:Obj}{xs:List V} (e:H a=some (.cC o (.lst xs))):j6 K H (.ref a) (.type "list")
 |tup {a:Addr}{xs:List V} (e:H a=some (.tup xs)):j6 K H (.ref a) (.type "tuple")
 |dK {a:Addr}{ak:List (Key×V)} (e:H a=some (.dK ak)):j6 K H (.ref a) (.type "dict")
 |dT {a:Addr}{ak:List (List Key×V)} (e:H a=some (.dT ak)):j6 K H (.ref a) (.type "dict")
 |ins {a C dx:Addr}{fs:List (Str×V)} (e:H a=some (.ins C dx fs)) (cl:j9 K C) (ha:PySem.W.findIn K (.ref C) "__class__"=some (some (.builtin "object.__class__")))
   (hn:PySem.W.specialIn K (.builtin "object.__class__") "__get__"=some (some (.builtin "getset_descriptor.__get__"))) (QI:PySem.W.takesIn K (.builtin "object.__class__")=some true)
   (hm:PySem.W.mroIn K C (.type "object")=some true):j6 K H (.ref a) (.ref C)
def Zj(I:Inv X af U H s)(rx:RelV x u)(ty:j6 X.K H x t)(e:PySem.W.kitOne X.K t c=some b)(h:∀tk,Q (.bool b) { s with toks:=tk }):
  wpAny (model X.prog X.w) A (call (.builtin "isinstance") [u,c]) Q E s:=by
 cases ty with
 |aC=>cases(show u=Value.none from rx);apply PySem.W.kia_one PySem.W.kitx_none I.dQ True.intro e (λz=>nomatch z) h
 |bl y=>cases(show u=Value.bool y from rx);apply PySem.W.kia_one PySem.W.kitx_bool I.dQ True.intro e (λz=>nomatch z) h
 |int i=>let#[t,q]:=(show ∃t,u=Value.int i t from rx);ext q;apply PySem.W.kia_one PySem.W.kitx_int I.dQ True.intro e (λz=>nomatch z) h
 |str y=>let#[t,q]:=(show ∃t,u=Value.str y t from rx);ext q;apply PySem.W.kia_one PySem.W.kitx_str I.dQ True.intro e (λz=>nomatch z) h
 |tE y=>let#[t,q]:=(show ∃t,u=Value.float y t from rx);ext q;apply PySem.W.kia_one PySem.W.kitx_float I.dQ True.intro e (λz=>nomatch z) h
 | @lst a xs ea=>
  cases(show u=Value.ref a from rx);let#[_,_,n,_,h1]:=(show dD X.prog X.w H s.heap a (.lst xs) from I.aG a _ ea)
  apply PySem.W.kia_one PySem.W.kitx_list I.dQ #[_,h1,rfl] e (λz=>nomatch z) h
 | @cC a ob xs ea=>
  cases(show u=Value.ref a from rx);let#[_,_,_,n,_,h1]:=(show dD X.prog X.w H s.heap a (.cC ob (.lst xs)) from I.aG a _ ea)
  apply PySem.W.kia_one PySem.W.kitx_list I.dQ #[_,h1,rfl] e (λz=>nomatch z) h
 | @tup a xs ea=>
  cases(show u=Value.ref a from rx);let#[_,_,_,p]:=(show dD X.prog X.w H s.heap a (.tup xs) from I.aG a _ ea)
  let#[o,h1,h2,_]:=p;apply PySem.W.kia_one PySem.W.kitx_tuple I.dQ #[o,h1,h2] e (λz=>nomatch z) h
 | @dK a ak ea=>
  cases(show u=Value.ref a from rx);let#[_,_,vs,_,p]:=(show dD X.prog X.w H s.heap a (.dK ak) from I.aG a _ ea)
  let#[o,es,ep,h1,h2,_]:=p;apply PySem.W.kia_one PySem.W.kitx_dict I.dQ #[o,h1,h2.1] e (λz=>nomatch z) h
 | @dT a ak ea=>
  cases(show u=Value.ref a from rx);let#[_,_,xs,_,o,es,ep,h1,h2,_]:=(show dD X.prog X.w H s.heap a (.dT ak) from I.aG a _ ea)
  apply PySem.W.kia_one PySem.W.kitx_dict I.dQ #[o,h1,h2.1] e (λz=>nomatch z) h
 | @ins a C dx fs ea cl ha hn QI hm=>
  cases(show u=Value.ref a from rx);let#[mA,O,_]:=By I.aG ea;let#[od,J,_]:=O.look;apply PySem.W.kia_one (PySem.W.kitx_own (cl.get _) cl.hd ha hn QI hm) I.dQ J e (λz=>nomatch z) h
structure aZ(k:Nat)(A:Around)(cm:Bool:=true):Prop where
 hd:cm=true->A.handled=none
 dp:A.depth+3*k+5<recursionLimit
 un:A.units+16*k+200<cLine
 gd:A.guards=some []
def aZ.mono(r:aZ k A cm)(h:j<=k):aZ j A cm:=#[r.hd,by have:=r.dp;omega,by have:=r.un;omega,r.gd]
def aZ.deeper(r:aZ (k+1) A cm)(env:Env):aZ k (A.deeper env) cm:=
 #[r.hd,by have:=r.dp;show A.depth+1+3*k+5<_;omega,by have:=r.un;show A.units+3+16*k+200<_;omega,r.gd]
def aZ.in1(r:aZ (k+1) A cm):aZ k A.in1 cm:=
 #[r.hd,by have:=r.dp;show A.depth+3*k+5<_;omega,by have:=r.un;show A.units+1+16*k+200<_;omega,r.gd]
def aik{A:Around}:(A.under (.builtin "type.__call__" #[.ref C::us,kw])).depth=A.depth+1:=by
 first|rfl|simp[Around.under,Code.weight,Code.isCreation,Code.isGuard,Code.isCaller,Code.frames,Code.isFrame,guardIds]
def VX{A:Around}:(A.under (.builtin "type.__call__" #[.ref C::us,kw])).units=A.units+1:=by
 first|rfl|simp[Around.under,Code.cUnits,Code.frames,Code.isFrame]
def aZ.make(r:aZ (k+1) A cm)(C:Addr)(us:List Value)(kw:List (Str×Value)):aZ k (A.under (.builtin "type.__call__" #[.ref C::us,kw])) cm:=
 #[r.hd,by have:=r.dp;rw[aik];omega,by have:=r.un;rw[VX];omega,by first|exact r.gd|(simp[Around.under,Code.guards,Code.isGuard,guardIds,pushGuards];apply r.gd)]
def aZ.depth(r:aZ k A cm):A.depth<recursionLimit:=by have:=r.dp;omega
def aZ.units(r:aZ k A cm):A.units+64<cLine:=by have:=r.un;omega
def Cf:TA:=λ_ H Q=>Q [] H
def Ve(ta:TE)(tr:TA):TA:=λU H Q=>ta U H λx H1=>tr U H1 λxs H2=>Q (x::xs) H2
def e_:PA X [] Cf:=λ_ _ _ _ H Q I h=>Calls.spliced_nil #[[],H,I,.nil,h]
def dg(ha:PE X e te)(hr:PA X es t)(hs:starEach (e::es) X.env=(false,eval e X.env)::starEach es X.env:=by rfl):PA X (e::es) (Ve te t):=by
 intro pos af s U H Q I h;rw[hs];show wpAny _ _ (spliced ((false,eval e X.env)::backTo pos (starEach es X.env))) _ _ s;refine Calls.spliced_cons (ha.n I h λu s1 x H1 I1 r1 q1=>?_);apply hr.n I1 q1 λus s2 xs H2 I2 r2 q2=>#[x::xs,H2,I2,.cons r1 r2,q2]
def XD(t:TA):TE:=λU H Q=>t U H λxs H1=>xs.length<=sizeLine/\∀p,H1 p=none->Q (.ref p) (upd H1 p (.tup xs))
def uz(t:TA):TE:=λU H Q=>t U H λxs H1=>xs.length<=sizeLine/\∀p,H1 p=none->Q (.ref p) (upd H1 p (.lst xs))
def OH{x1}(h:PA X es t):PE X (.Tuple es x1 pos) (XD t):=by
 intro af s U H Q I hq;refine wpAny_Tuple_spliced (cL (h pos af s U H _ I hq) ?_)
 rintro us s1 ⟨xs,H1,I1,r,z,q⟩
 refine#[by rw[<- r.length];apply z,?_];have hf:=I1.aG.fresh (abD _);refine#[.ref s1.heap.objs.size,upd H1 s1.heap.objs.size (.tup xs),I1.laid (t':=s1.toks) (λb u e=>aat _ e) (abD _) ?_,rfl,q _ hf];apply#[z,us,r,#[_,acm _ rfl,rfl,rfl,_,rfl]]
def adb(h:PA X es t):PE X (.List es pos) (uz t):=by
 intro af s U H Q I hq;refine wpAny_List_spliced (cL (h pos af s U H _ I hq) ?_)
 rintro us s1 ⟨xs,H1,I1,r,z,q⟩
 refine#[by rw[<- r.length];apply z,?_];have hf:=I1.aG.fresh (abD _);refine#[.ref s1.heap.objs.size,upd H1 s1.heap.objs.size (.lst xs),I1.laid (t':=s1.toks) (λb u e=>aat _ e) (abD _) ?_,rfl,q _ hf];apply#[z,us,0,r,acm _ rfl]
abbrev Sp:=List V->Hp->VK->XK->Prop
abbrev sO:=List Env->Hp->Shared->XK->Value->Shared->Prop
structure tK(P:Program)(w:World)(K:Fr)(mg:Str->Option Value)(base:Heap)(A:Around)(outer:List Env)(s:Shared)(H:Hp):Prop where
 frames:A.frames=some outer
 mod:Mod K mg base
 bs:∀b o,base.get? b=some o->s.heap.get? b=some o/\H b=none
 jB:base.objs.size<=s.heap.objs.size
 ju:s.heap.FunFrames base outer
 mE:∀b∈bg outer,H b=none
 aG:cY P w H s.heap
 bare:AllBare s.gens
 hq:Hq K A H
def CE(outer:List Env)(P:Program)(w:World)(H:Hp)(s:Shared)(Q:VK)(u:Value)(s':Shared):Prop:=
 ∃v H',s'.os=s.os/\AllBare s'.gens/\Un (bg outer) [] H H' s.heap s'.heap/\cY P w H' s'.heap/\RelV v u/\Q v H'
def CR(CX:sO)(outer:List Env)(P:Program)(w:World)(H:Hp)(s:Shared)(Q:VK)(E:XK)(r:Result)(s':Shared):Prop:=
 match r with
 |.ok (.ret u)=>CE outer P w H s Q u s'
 |.ok _=>False
 |.error e=>CX outer H s E e s'
structure cg(P:Program)(w:World)(K:Fr)(mg:Str->Option Value)(base:Heap)(CX:sO)(k:Nat)(f:Addr)(fd:FuncData)(ps:List Str)(sp:Sp)(cm:Bool:=true):Prop where
 len:∀vs H Q E,sp vs H Q E->vs.length=ps.length
 run:∀(A) (outer) (s) (H) (args) (us) (vs) (Q) (E),aZ k A cm->tK P w K mg base A outer s H->BindsTo s fd args (ps.zip us)->aS vs us->sp vs H Q E->
  codeAny (model P w) A (.call (.ref f) args) (CR CX outer P w H s Q E) s
def cg.imp{K:Fr}(F:cg P w K mg base CX k f fd ps sp cm)
  (h:∀vs H Q E,Z1 vs H Q E->sp vs H Q E):cg P w K mg base CX k f fd ps Z1 cm:=
 #[λvs H Q E q=>F.len vs H Q E (h _ _ _ _ q),λA outer s H args us vs Q E hr he hb hv hs=>F.run A outer s H args us vs Q E hr he hb hv (h _ _ _ _ hs)]
def tK.make{K:Fr}(e:tK P w K mg base A outer s H)(C:Addr)(us:List Value)(kw:List (Str×Value)):
  tK P w K mg base (A.under (.builtin "type.__call__" #[.ref C::us,kw])) outer s H:=#[by first|exact e.frames|(simpa[Around.under,Code.envs,Code.isFrame,pushEnvs] using e.frames),e.mod,e.bs,e.jB,e.ju,e.mE,e.aG,e.bare,#[e.hq.hd,e.hq.ok,e.hq.lm]]
def Inv.Ex(I:Inv X af U H s):tK X.prog X.w X.K X.mg X.base X.A X.stack s H:=
 #[I.ok.frames,I.ok.mod,I.bs,ada I.ok.jB I.sz,I.stack,I.vq,I.aG,I.bare,I.hq]
def Inv.after(I:Inv X af U H s)(h:CE X.stack X.prog X.w H s Q u s'):EP X af U Q u s':=by
 let#[v,H',os,bare,un,aG,r,q]:=h;let#[hh,g,d,t,os']:=s';obtain rfl:os'=s.os:=os;apply#[v,H',I.call (g':=g) (d':=d) (ch:=[]) un aG bare (λb z=>absurd z (by simp)),r,q]
def aaQ(sp:Sp)(d7:List V)(E:XK)(t:TA):TE:=λU H Q=>t U H λvs H1=>sp (vs++d7) H1 Q E
def DL(C:Addr)(m:Str)(sp:Sp)(d7:List V)(E:XK)(ta:TE)(t:TA):TE:=λU H Q=>ta U H λx H1=>∃a dx fs,x=.ref a/\H1 a=some (.ins C dx fs)/\fs.lookup m=none/\
 t U H1 λvs H2=>sp (x::(vs++d7)) H2 Q E
def Hg(C:Addr)(sp:Sp)(d7:List V)(E:XK)(t:TA):TE:=λU H Q=>t U H λvs H1=>∀x dx,H1 x=none->H1 dx=none->dx≠x->
 sp (.ref x::(vs++d7)) (upd (upd H1 dx (.own x)) x (.ins C dx [])) (λv H2=>v=.aC/\Q (.ref x) H2) E
def Binds(K:Fr)(fd:FuncData)(ps:List Str)(ds:List Value):Prop:=
 ∀(s) (us),K.In s.heap->(us++ds).length=ps.length->BindsTo s fd #[us,[]] (ps.zip (us++ds))
def Binds.all{K:Fr}(h:∀us:List Value,us.length=ps.length->bindArgs fd #[us,[]]=pure (ps.zip us)):Binds K fd ps []:=λs us _ hl=>by
 rw[acL] at hl ⊢;apply .of_eq (h us hl)
def Passes(CX:sO)(X:Cx)(E:XK):Prop:=∀(af) (U) (H) (s) (e) (s'),Inv X af U H s->CX X.stack H s E e s'->X.xe e s'
def IU(F:cg X.prog X.w X.K X.mg X.base CX k f fd ps sp cm)(hr:aZ k X.A cm)(hb:Binds X.K fd ps ds)(hd:aS d7 ds)(hx:Passes CX X E)
  (I:Inv X af U H s) (r:aS vs us) (h:sp (vs++d7) H Q E):w8 X X.A (call (.ref f) us) (EP X af U Q) X.xe s:=by
 have r2:=r.append hd;have hl:(us++ds).length=ps.length:=by rw[<- r2.length];apply F.len _ _ _ _ h
 refine wpAny_call (codeAny_mono (F.run X.A X.stack s H #[us,[]] (us++ds) (vs++d7) Q E hr I.Ex (hb s us I.dQ hl) r2 h) λr s' hq=>?_);cases r with
 |error e=>apply hx af U H s e s' I hq
 |ok fl=>
  cases fl with
  |ret u=>apply I.after hq
  |next=>apply False.elim hq
  |brk=>apply False.elim hq
  |cont=>apply False.elim hq
def BN(F:cg X.prog X.w X.K X.mg X.base CX k f fd ps sp cm)(hr:aZ k X.A cm)(hg:Gl X x)(hm:X.mg x=some (.ref f))(hk:PySem.W.keepIn X.K (.ref f)=true)(hb:Binds X.K fd ps ds)(hd:aS d7 ds)(hx:Passes CX X E)
  (ha:PA X (e::es) t) (gI:(x==("__debug__":Str))=false:=by decide) (he:starEach (e::es) X.env=(false,eval e X.env)::starEach es X.env:=by rfl) (hpl:(backTo pos (starEach es X.env)).any (·.1)=false:=by rfl) :
  PE X (.Call (.Name x p) (e::es) [] pos) (aaQ sp d7 E t):=by
 exists 44;refine afq (rV I hg hm ?_ gI);refine PySem.W.callWith_K (h₀:=X.base) I.ok.mod.qG hk (ha.n I h λus s1 vs H1 I1 r q=>#[I1.dQ,?_]) he hpl;apply IU F hr hb hd hx I1 r q
def BC(he:PE X o ta)(c:j9 X.K C)(hm:kD X.K C m f)(F:cg X.prog X.w X.K X.mg X.base CX k f fd ps sp cm)(hr:aZ k X.A cm)(hb:Binds X.K fd ps ds)(hd:aS d7 ds)(hx:Passes CX X E)(ha:PA X (e::es) t)
  (dG:starEach (e::es) X.env=(false,eval e X.env)::starEach es X.env:=by rfl) (hpl:(backTo pos (starEach es X.env)).any (·.1)=false:=by rfl)
  (ht:eval (.Call (.Attribute o m apos) (e::es) [] pos) X.env=(do
   let ov <- eval o X.env
   standAt apos.atName
   let(f,first) <- holding [ov] (getMethod ov m pl)
   callWith pos f first (backTo pos (starEach (e::es) X.env)) (backToKw pos (keywordEach [] X.env))):=by rfl) :
  PE X (.Call (.Attribute o m apos) (e::es) [] pos) (DL C m sp d7 E ta t):=by
 exists 44;refine PySem.W.methodCall_KW (pl:=pl) (he.n I h λu s1 x H1 I1 rx q=>?_) ht;let#[a,dx,fs,ex,ea,l,q]:=q;subst ex;obtain rfl:u=Value.ref a:=rx;refine KZ I1 ea c hm l ?_;refine PySem.W.callWith_K (first:=[.ref a]) (h₀:=X.base) I.ok.mod.qG hm.kp (ha.n I1 q λus s2 vs H2 I2 r q2=>#[I2.dQ,?_]) dG hpl;apply IU (us:=.ref a::us) (vs:=.ref a::vs) F hr hb hd hx I2 (.cons rfl r) q2
def VO(he:PE X o ta)(c:j9 X.K C)(hm:kD X.K C m f)(F:cg X.prog X.w X.K X.mg X.base CX k f fd ps sp cm)(hr:aZ k X.A cm)(hb:Binds X.K fd ps ds)(hd:aS d7 ds)(hx:Passes CX X E)
  (ht:eval (.Call (.Attribute o m apos) [] [] pos) X.env=(do
   let ov <- eval o X.env
   standAt apos.atName
   let(f,first) <- holding [ov] (getMethod ov m pl)
   callWith pos f first (backTo pos (starEach [] X.env)) (backToKw pos (keywordEach [] X.env))):=by rfl) :
  PE X (.Call (.Attribute o m apos) [] [] pos) (DL C m sp d7 E ta Cf):=by
 exists 44;refine PySem.W.methodCall_KW (pl:=pl) (he.n I h λu s1 x H1 I1 rx q=>?_) ht;let#[a,dx,fs,ex,ea,l,q]:=q;subst ex;obtain rfl:u=Value.ref a:=rx;refine KZ I1 ea c hm l ?_;apply PySem.W.callWith_K0 (first:=[.ref a]) I1.dQ hm.kp (IU (us:=[.ref a]) (vs:=[.ref a]) F hr hb hd hx I1 (.cons rfl .nil) q)
structure Mk(K:Fr)(C f:Addr):Prop where
 makes:PySem.W.makesIn K C=true
 init:PySem.W.findIn K (.ref C) "__init__"=some (some (.ref f))
 fn:PySem.W.isFn K (.ref f)=true
 kp:PySem.W.keepIn K (.ref C)=true
def Ry(M:Mk X.K C f)(F:cg X.prog X.w X.K X.mg X.base CX k f fd ps sp cm)(hr:aZ (k+1) X.A cm)(hb:Binds X.K fd ps ds)(hd:aS d7 ds)
  (hx:Passes CX X E) (I:Inv X af U H s) (r:aS vs us)
  (h:∀x dx,H x=none->H dx=none->dx≠x->sp (.ref x::(vs++d7)) (upd (upd H dx (.own x)) x (.ins C dx [])) (λv H2=>v=.aC/\Q (.ref x) H2) E) :
  w8 X X.A (call (.ref C) us) (EP X af U Q) X.xe s:=by
 have hq:=h (s.heap.objs.size+1) s.heap.objs.size (I.aG.fresh (aj3 _)) (I.aG.fresh (abD _)) (acO (ahO _));have I2:=Inv.made (C:=C) I;have r2:aS (V.ref (s.heap.objs.size+1)::(vs++d7)) (Value.ref (s.heap.objs.size+1)::(us++ds)):=.cons rfl (r.append hd);have hl:(Value.ref (s.heap.objs.size+1)::us++ds).length=ps.length:=by
  have e:=r2.length;rw[F.len _ _ _ _ hq] at e;apply e.symm
 refine wpAny_call (aei I.dQ M.makes M.init (ahb.mp M.fn) (codeAny_mono (F.run _ X.stack _ _ #[Value.ref (s.heap.objs.size + 1)::us,[]] (Value.ref (s.heap.objs.size + 1)::(us++ds)) _ _ E (hr.make C us [])
  (I2.Ex.make C us []) (hb _ (Value.ref (s.heap.objs.size+1)::us) I2.dQ hl) r2 hq) λr s' lX=>?_))
 cases r with
 |error e=>apply hx af U _ _ e s' I2 lX
 |ok fl=>
  cases fl with
  |ret u=>
   let#[v,H',I3,rv,ev,q3]:=I2.after lX;subst ev;apply#[rv,#[V.ref (s.heap.objs.size+1),H',I3,rfl,q3]]
  |next=>apply False.elim lX
  |brk=>apply False.elim lX
  |cont=>apply False.elim lX
def Z9(M:Mk X.K C f)(F:cg X.prog X.w X.K X.mg X.base CX k f fd ps sp cm)(hr:aZ (k+1) X.A cm)(hg:Gl X x)(hm:X.mg x=some (.ref C))(hb:Binds X.K fd ps ds)(hd:aS d7 ds)(hx:Passes CX X E)
  (ha:PA X (e::es) t) (gI:(x==("__debug__":Str))=false:=by decide) (he:starEach (e::es) X.env=(false,eval e X.env)::starEach es X.env:=by rfl) (hpl:(backTo pos (starEach es X.env)).any (·.1)=false:=by rfl) :
  PE X (.Call (.Name x p) (e::es) [] pos) (Hg C sp d7 E t):=by
 exists 44;refine afq (rV I hg hm ?_ gI);refine PySem.W.callWith_K (h₀:=X.base) I.ok.mod.qG M.kp (ha.n I h λus s1 vs H1 I1 r q=>#[I1.dQ,?_]) he hpl;apply Ry M F hr hb hd hx I1 r q
def aap(M:Mk X.K C f)(F:cg X.prog X.w X.K X.mg X.base CX k f fd ps sp cm)(hr:aZ (k+1) X.A cm)(hg:Gl X x)(hm:X.mg x=some (.ref C))(hb:Binds X.K fd ps ds)(hd:aS d7 ds)(hx:Passes CX X E)
  (gI:(x==("__debug__":Str))=false:=by decide):PE X (.Call (.Name x p) [] [] pos) (Hg C sp d7 E Cf):=by
 exists 44;refine afq (rV I hg hm ?_ gI);apply PySem.W.callWith_K0 I.dQ M.kp (Ry (us:=[]) M F hr hb hd hx I .nil h)
structure qj(N P:List Str)(sc:Scope):Prop where
 kind:sc.kind=.function
 co:sc.isCoroutine=false
 gen:sc.isGenerator=false
 nd:N.Nodup
 pre:N.take P.length=P
 par:∀x∈P,sc.names.lookup x=some .local\/sc.names.lookup x=some .cell
 ai8:∀y∈sc.names,y.2≠.free
theorem L8{kindOf:Str->Option NameKind}:∀{binds} {m},(∀v,(x,v)∉binds)->bindL kindOf binds m x=m x
 |[],_,_=>rfl
 |(n,v)::r,m,h=>by
  unfold bindL;rw[L8 λw hw=>h w (aar _ hw)]
  split
  .have:x≠n:=by rintro rfl;apply h v aav
   simp[this]
  .rfl
theorem RE{kindOf:Str->Option NameKind}:∀{binds} {m},(∀v,(x,v)∉binds)->bindC kindOf binds m x=m x
 |[],_,_=>rfl
 |(n,v)::r,m,h=>by
  unfold bindC;rw[RE λw hw=>h w (aar _ hw)]
  split
  .rfl
  .have:x≠n:=by rintro rfl;apply h v aav
   simp[this]
theorem N4{kindOf:Str->Option NameKind}:∀{P:List Str} {vs}{i:Nat} {m},P.Nodup->P[i]? = some x->vs[i]? = some v->kindOf x=some .local->
  bindL kindOf (P.zip vs) m x=some v
 |[],_,_,_,_,h,_,_=>by simp at h
 |_::_,[],_,_,_,_,h,_=>by simp at h
 |p::P,w::vs,0,m,nd,h1,h2,hk=>by
  simp at h1 h2;subst h1;subst h2;show bindL kindOf ((p,w)::P.zip vs) m p=_;unfold bindL;rw[L8 λv hv=>(acw.mp nd).1 (List.of_mem_zip hv).1,if_pos hk];simp
 |p::P,w::vs,i+1,m,nd,h1,h2,hk=>by
  unfold bindL;apply N4 (acw.mp nd).2 (by simpa using h1) (by simpa using h2) hk
theorem UE{kindOf:Str->Option NameKind}:∀{P:List Str} {vs}{i:Nat} {m},P.Nodup->P[i]? = some x->vs[i]? = some v->kindOf x≠some .local->
  bindC kindOf (P.zip vs) m x=some v
 |[],_,_,_,_,h,_,_=>by simp at h
 |_::_,[],_,_,_,_,h,_=>by simp at h
 |p::P,w::vs,0,m,nd,h1,h2,hk=>by
  simp at h1 h2;subst h1;subst h2;show bindC kindOf ((p,w)::P.zip vs) m p=_;unfold bindC;rw[RE λv hv=>(acw.mp nd).1 (List.of_mem_zip hv).1,abM hk];simp
 |p::P,w::vs,i+1,m,nd,h1,h2,hk=>by
  unfold bindC;apply UE (acw.mp nd).2 (by simpa using h1) (by simpa using h2) hk
def start(N:List Str)(vs:List V):St:=vs.map some++List.replicate (N.length-vs.length) none
def fU(CX:sO)(P:Program)(w:World)(K:Fr)(mg:Str->Option Value)(base:Heap)(N:List Str)(qual:Str)(scope:Scope)(f:Addr)(cd:Value)(A:Around)(outer:List Env)(s:Shared)(H:Hp)(E:XK)(cm:Bool:=true):Cx where
 prog:=P
 w:=w
 K:=K
 mg:=mg
 base:=base
 A:=A.deeper (envOfC qual scope s.heap.objs.size f cd)
 N:=N
 cQ:=s
 pO:=H
 env:=envOfC qual scope s.heap.objs.size f cd
 outer:=outer
 stack:=envOfC qual scope s.heap.objs.size f cd::outer
 ex:=[]
 calm:=cm
 fn:=λ_=>true
 pn:=[]
 xe:=λe s'=>wpAny (model P w) (A.deeper (envOfC qual scope s.heap.objs.size f cd)) (leaving (envOfC qual scope s.heap.objs.size f cd) e) (λ_ ig=>CX outer H s E e ig) (λe' ig=>CX outer H s E e' ig) s'
def SG{sc:Scope}(h:sc.names.lookup x=some .cell):∃c,(cellsFrom n sc.names []).lookup x=some c:=by
 have q:=PySem.W.cellsFrom_some sc.names n [] (.inl h);apply afW.mp q
def ac8{w:World}{K:Fr}{mg:Str->Option Value}
  (S:qj N ps scope) (hd:cm=true->A.handled=none) (e0:tK P w K mg base A outer s H) (hl:vs.length=ps.length) (r:aS vs us)
  (x:InCallC s s.heap.objs.size (bindL (envOfC qual scope s.heap.objs.size f cd).kindOf (ps.zip us) λ_=>none) (cellsFrom (s.heap.objs.size+1) scope.names []) (bindC (envOfC qual scope s.heap.objs.size f cd).kindOf (ps.zip us) λ_=>none) s1) :
  Inv (fU CX P w K mg base N qual scope f cd A outer s H E cm) [] (start N vs) H s1:=by
 have hpl:ps.length<=N.length:=by have:=congrArg List.length S.pre;rw[ahW] at this;omega
 let#[h1,tk,rfl,hk]:=x.done;have ua:∀b:Addr,b∉(fU CX P w K mg base N qual scope f cd A outer s H E cm).ex:=λb z=>absurd (show b∈([]:List Addr) from z) (by simp)
 refine#[#[e0.mod,S.kind,rfl,rfl,abD _,λy z c h1 h2=>?_,λy hy=>?_,λy c _ h=>?_,hd,Around.frames_deeper e0.frames,.inr #[rfl,rfl],λb z=>absurd z (ua b),e0.bs,e0.jB,λb _ _=>ua b,λb z=>absurd z (ua b),e0.ju,e0.mE],
  rfl,e0.bare,Un.kept hk,#[_,x.toInCall.ns,λi y v h1 h2 h3=>?_],λy c h=>#[_,x.cell y c h],e0.aG.fresh (abD _),λy c h=>?_,λp hp=>absurd (show p∈([]:List (Addr×Obj)) from hp) (by simp),e0.aG.kept hk,?_,#[e0.hq.hd,e0.hq.ok,e0.hq.lm]]
 .exact name_of_addr x.apart (PySem.mem_of_lookup h1) (PySem.mem_of_lookup h2)
 .have hy:=hy;rcases hy with hy|hy
  .exact SG hy
  .exact absurd rfl (S.ai8 _ (PySem.mem_of_lookup hy))
 .exact afR (x.above y c (PySem.mem_of_lookup h))
 .have hi:i<vs.length:=by
   unfold start at h2
   by_cases hi:i<vs.length
   .exact hi
   .rw[aeh (by simpa using hi)] at h2;rw[aiv] at h2
    split at h2<;>ext h2
  have ha:vs[i]? = some v:=by
   unfold start at h2;rw[adO (by simpa using hi),acy] at h2;exists e,vs[i]?,a,h2;ext h2;rfl
  let#[u,hu,rv]:=r.get ha;have hp:ps[i]? = some y:=by
   rw[<- S.pre,List.getElem?_take_of_lt (by omega)];apply h1
  have MZ:ps.Nodup:=by rw[<- S.pre];apply S.nd.sublist (List.take_sublist _ _)
  refine#[u,rv,?_];rcases S.par y (adW hp) with k|k
  .exact .inl #[k,N4 MZ hp hu k]
  .let#[c,e]:=SG k;refine .inr #[.inl k,c,e,?_];have q:=x.cell y c e;rw[UE MZ hp hu (by show scope.names.lookup y≠_;rw[k];decide)] at q;apply q
 .exact e0.aG.fresh (afR (x.above y c (PySem.mem_of_lookup h)))
 .unfold start;show _=N.length;rw[abV,List.length_map,List.length_replicate];omega
def MG{K:Fr}{dV kV doc pm aQ ct oc:Value}
  (lk:K.lookup f=some #[oc,od,.func (PySem.W.fnOf name qual params body scope dV kV doc pm an aQ ct),qP]) (gZ:PySem.W.codeIn K aQ qual=true) (S:qj N ps scope)
  (len:∀vs H Q E,sp vs H Q E->vs.length=ps.length)
  (Gz:∀(A) (outer) (s) (H) (vs) (Q) (E),aZ k (A.deeper (envOfC qual scope s.heap.objs.size f aQ)) cm->sp vs H Q E->
   ∃t,iP (fU CX P w K mg base N qual scope f aQ A outer s H E cm) body t/\t { nx:=λ_ H'=>Q .aC H',rt:=Q } (start N vs) H) :
  cg P w K mg base CX (k+1) f (PySem.W.fnOf name qual params body scope dV kV doc pm an aQ ct) ps sp cm:=by
 refine#[len,λA outer s H args us vs Q E hr e0 hb r qw=>?_];have hl:=len _ _ _ _ qw;have KX:=e0.mod.qG.keeps λb o e=>(e0.bs b o e).1
 have lim:=e0.mod.nolimit.keeps λb o e=>(e0.bs b o e).1
 have aaL:∀y∈ps.zip us,scope.names.lookup y.1=some .local\/(scope.names.lookup y.1=some .cell/\((cellsFrom (s.heap.objs.size+1) scope.names []).lookup y.1).isSome=true):=λ⟨n,v⟩ hy=>by
  rcases S.par n (List.of_mem_zip hy).1 with q|q
  .exact .inl q
  .exact .inr #[q,PySem.W.cellsFrom_some _ _ _ (.inl q)]
 refine codeAny_call_function hr.depth (KX _ _ lk) rfl S.co S.gen rfl (PySem.W.codeRec_of KX gZ) (hb _ _ _ _ ?_);refine wpAny_newFunctionEnv_cells S.kind aaL λenv he s1 x=>?_
 subst he;refine#[lim.keeps x.toInCall.keep,codeAny_func ?_];let#[t,ht,hq]:=Gz A outer s H vs Q E (hr.deeper _) qw;have I:Inv (fU CX P w K mg base N qual scope f aQ A outer s H E cm) [] (start N vs) H s1:=ac8 S hr.hd e0 hl r x;refine adI (ht [] s1 (start N vs) H _ I hq) (λfl s' hs=>?_) λe s' hs=>hs
 have fin:∀{aF} {H'} {v} {u},Inv (fU CX P w K mg base N qual scope f aQ A outer s H E cm) [] aF H' s'->RelV v u->Q v H'->CE outer P w H s Q u s':=
  λ{aF H' v u} J rv q=>#[v,H',J.os,J.bare,J.base,J.aG,rv,q]
 cases fl with
 |ret u=>
  let#[v,aF,H',J,rv,q]:=hs;apply fin J rv q
 |next=>
  let#[aF,H',J,q]:=hs;apply fin (v:=V.aC) (u:=Value.none) J rfl q
 |brk=>
  let#[_,_,_,q]:=hs;apply False.elim q
 |cont=>
  let#[_,_,_,q]:=hs;apply False.elim q
section
variable{id T:String}
def Fx(r:List V->Hp->VK->Prop)(t:TA):TE:=λU H Q=>t U H λvs H1=>r vs H1 Q
def qk(hc:ie X (.builtin id) r)(hg:Gl X x)(hm:X.mg x=none)(hv:bootBuiltins x=some (.builtin id))(ha:PA X (e::es) t)(hn:x≠"__name__":=by decide)(gI:(x==("__debug__":Str))=false:=by decide)
  (he:starEach (e::es) X.env=(false,eval e X.env)::starEach es X.env:=by rfl) (hpl:(backTo pos (starEach es X.env)).any (·.1)=false:=by rfl):PE X (.Call (.Name x p) (e::es) [] pos) (Fx r t):=by
 exists 44;refine afq (rN I hg hm hv ?_ hn gI);apply PyProof.Rows.callWith_builtin1 (ha.n I h λus s1 vs H1 I1 r1 q1=>hc af s1 U H1 vs us Q I1 r1 q1) he hpl
def B_(hc:ie X (.type T) r)(hg:Gl X x)(hm:X.mg x=none)(hv:bootBuiltins x=some (.type T))(ha:PA X (e::es) t)(hn:x≠"__name__":=by decide)(gI:(x==("__debug__":Str))=false:=by decide)
  (he:starEach (e::es) X.env=(false,eval e X.env)::starEach es X.env:=by rfl) (hpl:(backTo pos (starEach es X.env)).any (·.1)=false:=by rfl):PE X (.Call (.Name x p) (e::es) [] pos) (Fx r t):=by
 exists 44;refine afq (rN I hg hm hv ?_ hn gI);apply ahC (ha.n I h λus s1 vs H1 I1 r1 q1=>hc af s1 U H1 vs us Q I1 r1 q1) he hpl
end
end L2
namespace HT
open PySem PyProof.Rows
def bG(n d:Nat):Option Int->Nat
 |none=>d
 |some v=>if v<0 then(v+(n:Int)).toNat else min v.toNat n
def EZ(n d:Nat):bG n d none=d:=rfl
def Gp(n d k:Nat):bG n d (some (k:Int))=min k n:=by
 show(if(k:Int)<0 then((k:Int)+(n:Int)).toNat else min (k:Int).toNat n)=min k n;rw[abM (by omega),akf]
def WS(n d:Nat)(hd:d<=n)(o:Option Int):bG n d o<=n:=by
 cases o with
 |none=>apply hd
 |some v=>
  show(if v<0 then(v+(n:Int)).toNat else min v.toNat n)<=n
  by_cases hv:v<0
  .rw[if_pos hv];omega
  .rw[abM hv];apply Nat.min_le_right _ _
def R0(v:Int)(n d:Nat):(if v<0 then max (v+(n:Int)) 0 else min v (n:Int))=((bG n d (some v):Nat):Int):=by
 show(if v<0 then max (v+(n:Int)) 0 else min v (n:Int))=(((if v<0 then(v+(n:Int)).toNat else min v.toNat n):Nat):Int)
 by_cases hv:v<0
 .simp only[if_pos hv];omega
 .simp only[abM hv];omega
def Zd(lo hi:Option Int)(n:Nat):Builtin.Slice.sliceAdjust lo hi 1 (n:Int)=(((bG n 0 lo:Nat):Int),((bG n n hi:Nat):Int)):=by
 have h1:¬((1:Int)<0):=by omega
 unfold Builtin.Slice.sliceAdjust;simp only[h1,if_false];refine Prod.ext ?_ ?_
 .cases lo with
  |none=>rfl
  |some v=>apply R0 v n 0
 .cases hi with
  |none=>rfl
  |some v=>apply R0 v n n
def abp(i j:Nat):Builtin.Slice.slicePlaces (i:Int) (j:Int) 1=j-i:=by
 unfold Builtin.Slice.slicePlaces;have h1:(1:Int) > 0:=by omega
 simp only[h1,if_true,Int.ediv_one]
 split<;>omega
def Qz(p:IsPart v o)(h:Q o s):wpAny (model prog w) A (Builtin.Slice.slicePartIndex v) Q E s:=by
 cases p with
 |none=>apply slicePart_none h
 |int i t=>apply slicePart_int h
def R9{lo hi:Option Int}{Q:Int×Int×Nat->Shared->Prop}(hs:s.heap.IsSliceOf sl vl vu .none)(pl:IsPart vl lo)(pu:IsPart vu hi)
  (h:Q (((bG n 0 lo:Nat):Int),1,bG n n hi-bG n 0 lo) s):wpAny (model prog w) A (Builtin.Slice.sliceApplied (.ref sl) (pure (n:Int))) Q E s:=by
 let#[os,o7,oX,yE]:=id hs;unfold Builtin.Slice.sliceApplied Builtin.Slice.sliceFields;refine aaq (aaq (af3 o7 yE (x:=vl) rfl (aaq (af3 o7 yE (x:=vu) rfl (aaq (af3 o7 yE (x:=.none) rfl (abP ?_)))))));refine aaq (slicePart_none ?_);show wpAny _ _ (if((1:Int)==0)=true then _ else _) _ _ s;rw[abM (by decide)];refine aaq (Qz pl (aaq (Qz pu (aaq (abP ?_)))));show wpAny _ _ (match Builtin.Slice.sliceAdjust lo hi 1 (n:Int) with|(lo,hi)=>pure (lo,(1:Int),Builtin.Slice.slicePlaces lo hi 1)) _ _ s;rw[Zd lo hi n];show wpAny _ _ (pure (((bG n 0 lo:Nat):Int),(1:Int),Builtin.Slice.slicePlaces ((bG n 0 lo:Nat):Int) ((bG n n hi:Nat):Int) 1)) _ _ s;rw[abp];apply abP h
def ac2(xs:Array Value)(i k:Nat):((List.range k).filterMap λ(m:Nat)=>xs[((i:Int)+(m:Int)*1).toNat]?).toArray=((xs.toList.drop i).take k).toArray:=by
 have e:(λ(m:Nat)=>xs[((i:Int)+(m:Int)*1).toNat]?)=λm=>xs[i+m]? :=by
  funext m
  have:((i:Int)+(m:Int)*1).toNat=i+m:=by omega
  rw[this]
 rw[e];have:=pick_run xs i k;rw[aeC] at this;have e2:((λx=>xs[x]?) ∘ λx=>i+x)=λm=>xs[i+m]? :=rfl
 rw[e2] at this;rw[this]
def ab4{lo hi:Option Int}(ht:IsTup s.heap t items)(hs:s.heap.IsSliceOf sl vl vu .none)(pl:IsPart vl lo)(pu:IsPart vu hi)
  (hw:¬(bG items.size 0 lo=0/\bG items.size items.size hi=items.size))
  (h:Q (.ref s.heap.objs.size) { s with heap:=s.heap.push { cls:=.type "tuple",data:=.seq ((items.toList.drop (bG items.size 0 lo)).take (bG items.size items.size hi-bG items.size 0 lo)).toArray } })
  (hsz:items.size<=sizeLine):wpAny (model prog w) A (getItem (.ref t) (.ref sl)) Q E s:=by
 have DC:sizeOk (.seq ((items.toList.drop (bG items.size 0 lo)).take (bG items.size items.size hi-bG items.size 0 lo)).toArray):=by
  show((items.toList.drop (bG items.size 0 lo)).take (bG items.size items.size hi-bG items.size 0 lo)).toArray.size<=sizeLine;rw[ab9,ahW,List.length_drop,aeI];omega
 have hj:bG items.size items.size hi<=items.size:=WS _ _ (abD _) hi;let#[os,o7,oX,yE]:=id hs;have F1:s.TypeIs (.ref sl) "slice":=#[os,o7,oX]
 unfold getItem
 try with_reducible refine ae1 ?_
 first|refine aaq (abP ?_)|skip
 refine aaq (wpAny_sequenceKey ht.typeIs (by decide) ?_);refine aaq (af5 (name:=Str.ofString "__getitem__") ht.typeIs aeq
  (ahL aeq ht.typeIs entry_tuple_getitem ?_ (args_tuple_getitem _ _)))
 show wpAny _ _ (Builtin.Tuple.tupleItemsOf (.ref t) >>= _) _ _ s;refine aaq (tupleItemsOf_ ht ?_);refine aaq (aj5 F1 ?_);rw[if_pos (by decide)];refine aaq (R9 hs pl pu ?_);have Ac:¬((((bG items.size 0 lo:Nat):Int)==0&&(1:Int)==1&&(bG items.size items.size hi-bG items.size 0 lo)==items.size)=true):=by
  intro q;rw[aaM,aaM] at q;have q1:=eq_of_beq q.1.1;have q2:=eq_of_beq q.2;apply hw #[by omega,by omega]
 show wpAny _ _ (if(((bG items.size 0 lo:Nat):Int)==0&&(1:Int)==1&&(bG items.size items.size hi-bG items.size 0 lo)==items.size)=true then _ else _) _ _ s;rw[abM Ac,ac2]
 first
  |exact aaq (m:=Builtin.Tuple.tupleExact _) (aex (abP #[_,rfl,abP h]) DC)
  |exact aaq (m:=Builtin.Tuple.tupleExact _) (aex (aaq (abP (abP #[_,rfl,abP h]))) DC)
  |exact aaq (aaq (m:=Builtin.Tuple.tupleExact _) (aex (abP (abP #[_,rfl,abP h])) DC))
  |exact aaq (aaq (m:=Builtin.Tuple.tupleExact _) (aex (abP #[_,rfl,abP h]) DC))
end HT
namespace L2
open PySem PySem.Spec PyProof.Rows
abbrev TO:=St->Hp->(Option Int->Hp->Prop)->Prop
def PO(X:Cx)(e:Option Expr)(t:TO):Prop:=
 ∀(af) (s) (U) (H) (Q),Inv X af U H s->t U H Q->
  w8 X X.A (evalPart e X.env) (λu s'=>∃o H',Inv X af U H' s'/\IsPart u o/\Q o H') X.xe s
def ajf:TO:=λ_ H Q=>Q none H
def afJ(t:TE):TO:=λU H Q=>t U H λx H1=>∃i,x=.int i/\Q (some i) H1
def intsAre_of:∀{us},aS (ns.map V.int) us->IntsAre us ns:=by
 induction ns with
 |nil=>intro us r;rw[akm] at r;ext r;apply .nil
 |cons n ns ih=>
  intro us r;rw[aaG] at r;cases r with
  |cons r1 r2=>
   let#[t,e]:=r1;subst e;apply .cons n t (ih r2)
section
variable{lo hi:Option Expr}
def HA:PO X none ajf:=by
 exists 44;rw[evalPart_none];apply abP #[none,H,I,.none,h]
def EL(h:PE X e te):PO X (some e) (afJ te):=by
 intro af s U H Q I hw;rw[evalPart_some];refine h.n I hw λu s1 x H1 I1 r1 q1=>?_
 let#[i,rfl,q]:=q1;let#[t,rfl]:=r1;apply#[some i,H1,I1,.int i t,q]
def sP(X:Cx)(r:V->Option Int->Option Int->Hp->VK->Prop):Prop:=
 ∀(af) (s) (U) (H) (x) (v vl vu) (lo hi) (sl) (Q),Inv X af U H s->RelV x v->s.heap.IsSliceOf sl vl vu .none->IsPart vl lo->IsPart vu hi->r x lo hi H Q->
  ∃T id,typeLookup (.type T) "__getitem__"=pure (some (.builtin id))/\s.TypeIs v T/\w8 X X.A (getItem v (.ref sl)) (EP X af U Q) X.xe s
def sP.or(h:sP X r)(h':sP X r'):sP X (λx lo hi H Q=>r x lo hi H Q\/r' x lo hi H Q):=by
 intro af s U H x v vl vu lo hi sl Q I rx hs pl pu q;rcases q with q|q
 .exact h af s U H x v vl vu lo hi sl Q I rx hs pl pu q
 .exact h' af s U H x v vl vu lo hi sl Q I rx hs pl pu q
def tSl(r:V->Option Int->Option Int->Hp->VK->Prop)(te:TE)(tl th:TO):TE:=λU H Q=>te U H λx H1=>tl U H1 λl H2=>th U H2 λu H3=>r x l u H3 Q
def Er(hr:sP X r)(he:PE X e te)(hl:PO X lo tl)(hu:PO X hi th):PE X (.Subscript e (.Slice lo hi none p2) pos) (tSl r te tl th):=by
 exists 44;refine Subscript_ (he.n I h λv s1 x H1 I1 r1 q1=>?_);refine wpAny_Slice (cL (hl af s1 U H1 _ I1 q1) ?_)
 rintro vl s2 ⟨l,H2,I2,pl,q2⟩
 refine cL (hu af s2 U H2 _ I2 q2) ?_
 rintro vu s3 ⟨u,H3,I3,pu,q3⟩
 rw[evalPart_none];refine abP ?_;have I4:Inv X af U H3 { s3 with heap:=s3.heap.push { cls:=.type "slice",data:=.fields ([vl,vu,.none].toArray) } }:=I3.kept (t':=s3.toks) λb ob q=>aat _ q
 let#[T,id,hT,ht,hg]:=hr af { s3 with heap:=s3.heap.push { cls:=.type "slice",data:=.fields ([vl,vu,.none].toArray) } } U H3 x v vl vu l u s3.heap.objs.size Q I4 r1 (Heap.IsSliceOf.new ..) pl pu q3;show w8 X X.A (subscriptTail e (.Slice lo hi none p2) v (.ref s3.heap.objs.size)) (EP X af U Q) X.xe { s3 with heap:=s3.heap.push { cls:=.type "slice",data:=.fields ([vl,vu,.none].toArray) } };apply tail_any (ops:=[.ref s3.heap.objs.size,v]) ht hT hg (by with_unfolding_all rfl)
def iM(xs:List V)(lo hi:Option Int):List V:=(xs.drop (HT.bG xs.length 0 lo)).take (HT.bG xs.length xs.length hi-HT.bG xs.length 0 lo)
def Nt(xs:List V)(lo hi:Option Int):(iM xs lo hi).length<=xs.length:=by
 unfold iM;rw[ahW,List.length_drop];omega
def aaK(K:Fr):V->Option Int->Option Int->Hp->VK->Prop:=λx lo hi H Q=>∃a xs,x=.ref a/\bQ K H a xs/\
 ¬(HT.bG xs.length 0 lo=0/\HT.bG xs.length xs.length hi=xs.length)/\∀p,H p=none->Q (.ref p) (upd H p (.tup (iM xs lo hi)))
def ahF:sP X (aaK X.K):=by
 intro af s U H x v vl vu lo hi sl Q I rx hs pl pu h;let#[a,xs,rfl,hx,hw,q]:=h;ext rx;let#[av,r,ht,hz]:=I.tuple hx;have hlen:av.toArray.size=xs.length:=by rw[ab9];apply r.length.symm
 refine#["tuple",_,aeq.lookup,ht.typeIs,?_];refine HT.ab4 ht hs pl pu (by rw[hlen];apply hw) ?_ (by rw[hlen];apply hz);rw[hlen];refine#[.ref s.heap.objs.size,_,I.laid (t':=s.toks) (o:=.tup (iM xs lo hi)) (λb ob q=>aat _ q) (abD _) ?_,rfl,q _ (I.aG.fresh (abD _))];apply#[ada (Nt xs lo hi) hz,_,(r.drop (HT.bG xs.length 0 lo)).take (HT.bG xs.length xs.length hi-HT.bG xs.length 0 lo),nE.new _ _]
end
def kh(n:Nat)(i:Int):Option Nat:=if 0<=i then(if i<n then some i.toNat else none) else if -(n:Int)<=i then some (i+n).toNat else none
def dM{α:Type}(xs:List α)(i:Int):Option α:=(kh xs.length i).bind λj=>xs[j]?
def afC(h:kh n i=some j):seqIndex? i n=some j/\j<n/\-(n:Int)<=i/\i<n:=by
 unfold kh at h
 by_cases h0:0<=i
 .rw[if_pos h0] at h;let#[h1,h]:=ci h;have e:=acB h;apply#[by rw[seqIndex_of h0 h1,e],by omega,by omega,h1]
 .rw[abM h0] at h;let#[h1,h]:=ci h;have e:=acB h;apply#[by rw[seqIndex_neg (by omega) h1,e],by omega,h1,by omega]
def FU(h:dM xs i=some v):∃j,seqIndex? i xs.length=some j/\xs[j]? = some v/\j<xs.length/\-(xs.length:Int)<=i/\i<xs.length:=by
 unfold dM at h;exists e,kh xs.length i,j,h;let#[h1,h2,h3,h4]:=afC e;apply#[j,h1,h,h2,h3,h4]
def F7(b:Expr):Prop:=∀o i,subscripted b false o i=operate [o,i] (getItem o i)
def pY(X:Cx)(r:R2):Prop:=
 ∀(value slice) (af) (s) (U) (H) (x y) (v u) (Q),Inv X af U H s->RelV x v->RelV y u->r x y H Q->
  subscripted slice false v u=operate [v,u] (getItem v u)->w8 X X.A (subscriptTail value slice v u) (EP X af U Q) X.xe s
def DU(X:Cx)(id:String)(r:V->List V->Hp->VK->Prop):Prop:=
 ∀(af) (s) (U) (H) (x) (xs) (v) (us) (Q),Inv X af U H s->RelV x v->aS xs us->r x xs H Q->
  w8 X X.A (call (.builtin id) (v::us)) (EP X af U Q) X.xe s
section
def pY.or(h:pY X r)(h':pY X r'):pY X (λx y H Q=>r x y H Q\/r' x y H Q):=by
 intro value slice af s U H x y v u Q I rx ry q hs;rcases q with q|q
 .exact h value slice af s U H x y v u Q I rx ry q hs
 .exact h' value slice af s U H x y v u Q I rx ry q hs
def JS(hr:pY X r)(ha:PE X a ta)(hb:PE X b tb)(hs:F7 b):PE X (.Subscript a b pos) (qQ r ta tb):=by
 exists 44;apply Subscript_ (Lw ha hb I h λv u s2 x y H2 I2 rx ry q=>hr a b af s2 U H2 x y v u Q I2 rx ry q (hs _ _))
def E8(K:Fr):R2:=λx y H Q=>∃p xs i v,x=.ref p/\y=.int i/\cJ K H p xs/\dM xs i=some v/\Q v H
def B4(K:Fr):R2:=λx y H Q=>∃p xs i v,x=.ref p/\y=.int i/\bQ K H p xs/\dM xs i=some v/\Q v H
def LR:R2:=λx y H Q=>∃z i c,x=.str z/\y=.int i/\z.length<=sizeLine/\dM z.cps.toList i=some c/\Q (.str #[([c].toArray)]) H
def WB:pY X (E8 X.K):=by
 intro value slice af s U H x y v u Q I rx ry h hs;let#[p,xs,i,z,rfl,rfl,hq,he,q]:=h;ext rx;let#[t,rfl]:=ry;let#[av,r,pl,hz]:=I.list hq;let#[j,h1,h2,h3,h4,h5]:=FU he;let#[w,ew,fM]:=r.get h2;have hl:=r.length;have hn:=yF;have fin:EP X af U Q w s:=#[z,H,I,fM,q]
 by_cases h0:0<=i
 .have hj:i.toNat=j:=by
   rw[seqIndex_of h0 h5] at h1;apply acB h1
  apply item_listR pl.isList h0 (by omega) (by rw[hj];simpa using ew) fin hs
 .have hj:(i+(av.toArray.size:Int)).toNat=j:=by
   rw[seqIndex_neg (by omega) h4] at h1;rw[ab9,<- hl];apply acB h1
  apply subscriptTail_builtinR pl.isList.typeIs slot_list_getitem.lookup
   (wpAny_getItem_list_neg pl.isList (by omega) (by rw[ab9]<;>omega) (by omega) (by rw[hj];simpa using ew) #[rfl,fin]) hs
def Oa:pY X (B4 X.K):=by
 intro value slice af s U H x y v u Q I rx ry h hs;let#[p,xs,i,z,rfl,rfl,hq,he,q]:=h;ext rx;let#[t,rfl]:=ry;let#[av,r,pl,hz]:=I.tuple hq;let#[j,h1,h2,h3,h4,h5]:=FU he;let#[w,ew,fM]:=r.get h2;have hl:=r.length;have hn:=yF;have fin:EP X af U Q w s:=#[z,H,I,fM,q]
 apply subscriptTail_builtinR pl.typeIs slot_tuple_getitem.lookup
  (getItem_tuple pl (by omega) (by omega) (by rw[ab9,<- hl];apply h1) (by simpa using ew) #[rfl,fin]) hs
def ZA:pY X LR:=by
 intro value slice af s U H x y v u Q I rx ry h hs;let#[z,i,c,rfl,rfl,hz,he,q]:=h;let#[t,rfl]:=rx;let#[t',rfl]:=ry;let#[j,h1,h2,h3,h4,h5]:=FU he;have hl:z.cps.toList.length=z.length:=by simp[Str.length]
 rw[hl] at h1 h4 h5;have hn:=yF;apply tail_any (typeIs_str s z t) slot_str_getitem.lookup (getItem_str (by
  have e1:decide (i < -(2 ^ 63:Int))=false:=acp (by omega);have e2:decide (i >= 2 ^ 63)=false:=acp (by omega);rw[e1,e2,Bool.or_false]) (by rw[h1];simpa using h2) #[.str #[([c].toArray)],H,I.tok _,#[_,rfl],q]) hs
def rIx(K:Fr):R2:=λx y H Q=>E8 K x y H Q\/B4 K x y H Q\/LR x y H Q
def Qs:pY X (rIx X.K):=WB.or (Oa.or ZA)
def aha(lo hi:Option Int)(n:Nat):(sliceBounds lo hi none n).1=((HT.bG n 0 lo:Nat):Int)/\(sliceBounds lo hi none n).2.1=((HT.bG n n hi:Nat):Int)/\(sliceBounds lo hi none n).2.2=1:=by
 refine#[?_,?_,rfl]
 .cases lo with
  |none=>simp[sliceBounds,HT.bG]
  |some i=>
   simp only[sliceBounds,HT.bG,Option.getD_none,show(1:Int) > 0 by decide,if_true]
   by_cases h:i<0
   .simp only[h,if_true]<;>omega
   .simp only[h,if_false]<;>omega
 .cases hi with
  |none=>simp[sliceBounds,HT.bG]
  |some i=>
   simp only[sliceBounds,HT.bG,Option.getD_none,show(1:Int) > 0 by decide,if_true]
   by_cases h:i<0
   .simp only[h,if_true]<;>omega
   .simp only[h,if_false]<;>omega
def aaV(av:List Value)(lo hi:Option Int):slicePick av.toArray lo hi none=((av.drop (HT.bG av.length 0 lo)).take (HT.bG av.length av.length hi-HT.bG av.length 0 lo)).toArray:=by
 let#[h1,h2,h3]:=aha lo hi av.toArray.size;unfold slicePick;rw[h1,h2,h3];simp only[sliceRange_one,pick_run,ab9]<;>rfl
def YO(K:Fr):V->Option Int->Option Int->Hp->VK->Prop:=λx lo hi H Q=>∃a xs,x=.ref a/\cJ K H a xs/\∀p,H p=none->Q (.ref p) (upd H p (.lst (iM xs lo hi)))
def Ke:sP X (YO X.K):=by
 intro af s U H x v vl vu lo hi sl Q I rx hs pl pu h;let#[a,xs,rfl,hx,q]:=h;ext rx;let#[av,r,ht,hz]:=I.list hx;have hlen:=r.length;refine#["list",_,slot_list_getitem.lookup,ht.isList.typeIs,?_];refine wpAny_getItem_list_slice ht.isList hs pl pu .none (by simp) ?_ (by rw[ab9]<;>omega);rw[aaV,<- hlen];refine#[.ref s.heap.objs.size,_,I.laid (λb ob q=>aat _ q) (abD _) ?_,rfl,q _ (I.aG.fresh (abD _))];apply#[ada (Nt xs lo hi) hz,_,0,(r.drop (HT.bG xs.length 0 lo)).take (HT.bG xs.length xs.length hi-HT.bG xs.length 0 lo),acm _ rfl]
def nG:V->Bool
 |.aC=>true
 |.bl _=>true
 |.int _=>true
 |.str _=>true
 |_=>false
def rQ:V->V->Bool
 |.aC,.aC=>true
 |.bl a,.bl b=>a==b
 |.bl a,.int b=>(if a then 1 else 0)==b
 |.int a,.bl b=>a==(if b then 1 else 0)
 |.int a,.int b=>a==b
 |.str a,.str b=>a==b
 |_,_=>false
def aa8(ry:RelV y u)(rx:RelV x v)(fy:nG y=true)(fx:nG x=true):SeqAt.EqAt A s u v (rQ y x):=by
 cases y with
 |aC=>
  ext ry;cases x with
  |aC=>ext rx;apply SeqAt.EqAt.same _
  |bl b=>ext rx;apply SeqAt.EqAt.none_bool b
  |int b=>let#[t,rfl]:=rx;apply SeqAt.EqAt.none_int b t
  |str b=>let#[t,rfl]:=rx;apply SeqAt.EqAt.none_str b t
  |_=>apply absurd (show false=true from fx) abm
 |bl a=>
  ext ry;cases x with
  |aC=>ext rx;apply SeqAt.EqAt.bool_none a
  |bl b=>ext rx;apply SeqAt.EqAt.bool_bool a b
  |int b=>let#[t,rfl]:=rx;apply SeqAt.EqAt.bool_int a b t
  |str b=>let#[t,rfl]:=rx;apply SeqAt.EqAt.bool_str a b t
  |_=>apply absurd (show false=true from fx) abm
 |int a=>
  let#[t',rfl]:=ry;cases x with
  |aC=>ext rx;apply SeqAt.EqAt.int_none a t'
  |bl b=>ext rx;apply SeqAt.EqAt.int_bool a t' b
  |int b=>let#[t,rfl]:=rx;apply SeqAt.EqAt.int_int a t' b t
  |str b=>let#[t,rfl]:=rx;apply SeqAt.EqAt.int_str a t' b t
  |_=>apply absurd (show false=true from fx) abm
 |str a=>
  let#[t',rfl]:=ry;cases x with
  |aC=>ext rx;apply SeqAt.EqAt.str_none a t'
  |bl b=>ext rx;apply SeqAt.EqAt.str_bool a t' b
  |int b=>let#[t,rfl]:=rx;apply SeqAt.EqAt.str_int a t' b t
  |str b=>let#[t,rfl]:=rx;apply SeqAt.EqAt.str_str a t' b t
  |_=>apply absurd (show false=true from fx) abm
 |_=>apply absurd (show false=true from fy) abm
def i7(x:V)(u:Value):Bool:=match u with
 |.none=>rQ .aC x
 |.bool b=>rQ (.bl b) x
 |.int i _=>rQ (.int i) x
 |.str z _=>rQ (.str z) x
 |_=>false
def L7(r:RelV y u)(f:nG y=true):i7 x u=rQ y x:=by
 cases y with
 |aC=>ext r;rfl
 |bl b=>ext r;rfl
 |int i=>let#[t,rfl]:=r;rfl
 |str z=>let#[t,rfl]:=r;rfl
 |_=>apply absurd (show false=true from f) abm
theorem yz:∀{xs} {us},aS xs us->xs.all nG=true->us.any (i7 x)=xs.any λy=>rQ y x
 |_,_,.nil,_=>rfl
 |y::xs,u::us,.cons r t,f=>by
  rw[aj8,aaM] at f;rw[aiw,aiw,L7 r f.1,yz t f.2]
theorem vA(rx:RelV x v)(fx:nG x=true):∀{xs} {us},aS xs us->xs.all nG=true->∀u∈us,SeqAt.EqAt A s u v (i7 x u)
 |_,_,.nil,_=>λu hu=>by ext hu
 |y::xs,u::us,.cons r t,f=>λu' hu=>by
  rw[aj8,aaM] at f;rcases aaO.mp hu with rfl|hu
  .rw[L7 r f.1];apply aa8 r rx f.1 fx
  .exact vA rx fx t f.2 u' hu
def wu(x:V)(xs:List V):Bool:=xs.any λy=>rQ y x
def DG(K:Fr)(neg:Bool):R2:=λx y H Q=>∃p xs,y=.ref p/\(cJ K H p xs\/bQ K H p xs)/\nG x=true/\xs.all nG=true/\Q (.bl (if neg then !wu x xs else wu x xs)) H
def NU:dO X (compareOp .In) (DG X.K false):=by
 exists 42;let#[p,xs,rfl,hq,fx,fs,q]:=h;ext ry;rcases hq with hq|hq
 .let#[av,r,pl,hz]:=I.list hq;refine SeqAt.in_listAt (i7 x) pl.isList (λw hw=>vA rx fx r fs w (by simpa using hw)) #[.bl _,H,I,rfl,?_];rw[show av.toArray.any (i7 x)=av.any (i7 x) by simp,yz r fs];apply q
 .let#[av,r,pl,hz]:=I.tuple hq;refine SeqAt.in_tupleAt (i7 x) pl (λw hw=>vA rx fx r fs w (by simpa using hw)) #[.bl _,H,I,rfl,?_];rw[show av.toArray.any (i7 x)=av.any (i7 x) by simp,yz r fs];apply q
def E3:dO X (compareOp .NotIn) (DG X.K true):=by
 exists 42;let#[p,xs,rfl,hq,fx,fs,q]:=h;ext ry;rcases hq with hq|hq
 .let#[av,r,pl,hz]:=I.list hq;refine SeqAt.notIn_listAt (i7 x) pl.isList (λw hw=>vA rx fx r fs w (by simpa using hw)) #[.bl _,H,I,rfl,?_];rw[show av.toArray.any (i7 x)=av.any (i7 x) by simp,yz r fs];apply q
 .let#[av,r,pl,hz]:=I.tuple hq;refine SeqAt.notIn_tupleAt (i7 x) pl (λw hw=>vA rx fx r fs w (by simpa using hw)) #[.bl _,H,I,rfl,?_];rw[show av.toArray.any (i7 x)=av.any (i7 x) by simp,yz r fs];apply q
def Zk:ie X (.builtin "len") (λxs H Q=>∃p ys,xs=[.ref p]/\(cJ X.K H p ys\/bQ X.K H p ys)/\Q (.int ys.length) H):=by
 exists 43;let#[p,ys,rfl,hq,q]:=h;let#[u,rfl,rx]:=vals1 r;ext rx;have hn:=yF;rcases hq with hq|hq
 .let#[av,r',pl,hz]:=I.list hq;have hlen:=r'.length;apply Calls.call_len_list pl.isList (by simp only[ab9]<;>omega) #[.int ys.length,H,I.tok _,#[s.toks+1,by rw[ab9,hlen]],q]
 .let#[av,r',pl,hz]:=I.tuple hq;have hlen:=r'.length;apply len_tuple pl (by simp only[ab9]<;>omega) #[.int ys.length,H,I.tok _,#[s.toks+1,by rw[ab9,hlen]],q]
def Zh:ie X (.type "list") (λxs H Q=>∃p ys,xs=[.ref p]/\(cJ X.K H p ys\/bQ X.K H p ys)/\∀l,H l=none->Q (.ref l) (upd H l (.lst ys))):=by
 exists 43;let#[p,ys,rfl,hq,q]:=h;let#[u,rfl,rx]:=vals1 r;ext rx;have fin:∀(av),aS ys av->ys.length<=sizeLine->∀(h') (c'),(∀b o',s.heap.get? b=some o'->h'.get? b=some o')->
   h'.get? s.heap.objs.size=some { cls:=.type "list",dict:=none,data:=.seq av.toArray c',slots:=([].toArray) }->EP X af U Q (.ref s.heap.objs.size) { s with heap:=h' }:=λav r' hz h' c' kp e=>
  #[.ref s.heap.objs.size,_,I.laid kp (abD _) (show dD X.prog X.w _ h' _ (.lst ys) from#[hz,av,c',r',e]),rfl,q _ (I.aG.fresh (abD _))]
 rcases hq with hq|hq
 .let#[av,r',pl,hz]:=I.list hq;have hlen:=r'.length;let#[o,ho,hc,n,hd]:=pl.isList;apply call_list_seq p (.inl rfl) ho hc hd (λh' c' kp e=>fin av r' hz h' c' kp e) (by simp only[ab9]<;>omega)
 .let#[av,r',pl,hz]:=I.tuple hq;have hlen:=r'.length;let#[o,ho,hc,n,hd]:=pl;apply call_list_seq p (.inr rfl) ho hc hd (λh' c' kp e=>fin av r' hz h' c' kp e) (by simp only[ab9]<;>omega)
def WD:ie X (.type "tuple") (λxs H Q=>∃p ys,xs=[.ref p]/\((cJ X.K H p ys/\∀l,H l=none->Q (.ref l) (upd H l (.tup ys)))\/(bQ X.K H p ys/\Q (.ref p) H))):=by
 exists 43;let#[p,ys,rfl,h]:=h;let#[u,rfl,rx]:=vals1 r;ext rx;rcases h with⟨hq,q⟩|⟨hq,q⟩
 .let#[av,r',pl,hz]:=I.list hq;have hlen:=r'.length;refine call_tuple_list pl.isList (λh' kp=>?_) (by simp only[ab9]<;>omega);have I1:=I.kept (t':=s.toks) kp;have I2:Inv X af U (upd H h'.objs.size (.tup ys)) { s with heap:=h'.push { cls:=.type "tuple",data:=.seq av.toArray } }:=
   I1.laid (λb o e=>aat _ e) (abD _) (show dD X.prog X.w _ _ _ (.tup ys) from#[hz,av,r',nE.new _ _])
  apply#[.ref h'.objs.size,_,I2,rfl,q _ (I1.aG.fresh (abD _))]
 .let#[av,r',pl,hz]:=I.tuple hq;apply call_tuple_same pl #[.ref p,H,I,rfl,q]
def JJ(K:Fr)(T:String)(x:V)(H:Hp):Prop:=match x with
 |.str _=>T="str"
 |.int _=>T="int"
 |.ref p=>(T="list"/\∃xs,cJ K H p xs)\/(T="tuple"/\∃o,K.lookup p=some o/\o.cls=.type "tuple"/\o.dict=none)\/
   (T="dict"/\((∃ak,H p=some (.dK ak))\/∃ak,H p=some (.dT ak)))\/(T="set"/\∃S n,H p=some (.set S n))
 |_=>False
def O9(I:Inv X af U H s)(r:RelV x v)(ty:JJ X.K T x H):
  s.TypeIs v T/\∀a,v=.ref a->∃ob,s.heap.get? a=some ob/\ob.dict=none:=by
 cases x with
 |str z=>
  let#[t,rfl]:=r;cases(show T="str" from ty);apply#[typeIs_str s z t,λ_ e=>nomatch e]
 |int i=>
  let#[t,rfl]:=r;cases(show T="int" from ty);apply#[typeIs_int s i t,λ_ e=>nomatch e]
 |ref p=>
  ext r;rcases ty with⟨rfl,xs,hq⟩|⟨rfl,o,hk,hc,hd⟩|⟨rfl,hk⟩|⟨rfl,S,n,hk⟩
  .let#[av,_,pl,_]:=I.list hq;refine#[pl.isList.typeIs,λa e=>?_];ext e;let#[o,n,e,c,hd,_]:=pl;apply#[o,e,hd]
  .refine#[#[o,I.dQ p o hk,hc],λa e=>?_];ext e;apply#[o,I.dQ _ o hk,hd]
  .have z:∃o,s.heap.get? p=some o/\o.ExactDict:=by
    rcases hk with⟨ak,hk⟩|⟨ak,hk⟩
    .let#[_,_,_,_,o,_,_,e,ex,_]:=I.aG p _ hk;apply#[o,e,ex]
    .let#[_,_,_,_,o,_,_,e,ex,_]:=I.aG p _ hk;apply#[o,e,ex]
   let#[o,e,ex]:=z;refine#[#[o,e,ex.1],λa e2=>?_];ext e2;apply#[o,e,ex.2.1]
  .let#[o,_,_,_,e,ex,_]:=I.aG p _ hk;refine#[#[o,e,ex.1],λa e2=>?_];ext e2;apply#[o,e,ex.2.1]
 |_=>apply False.elim ty
def Ww(K:Fr)(T:String)(r:V->List V->Hp->VK->Prop)(to:TE):TE:=λU H Q=>to U H λx H1=>JJ K T x H1/\r x [] H1 Q
def Ye(K:Fr)(T:String)(r:V->List V->Hp->VK->Prop)(to:TE)(t:TA):TE:=λU H Q=>to U H λx H1=>JJ K T x H1/\t U H1 λxs H2=>r x xs H2 Q
variable{T id:String}
def ah1(pa:PlainAttrs T)(slot:Slot T name id)(zS:typeOf (.builtin id)=pure (.type "method_descriptor"))(hm:DU X id r)(ho:PE X o to)
  (jb:attributeBase o name X.env (eval o X.env)=eval o X.env:=by rfl) (jl:(apos.endLine==fH.line)=true:=by rfl):PE X (.Call (.Attribute o name apos) [] [] fH) (Ww X.K T r to):=by
 exists 44;refine wpAny_Call_method0_late jb jl (ho.n I h λv s1 x H1 I1 r1 q=>?_);let#[ty,q1]:=q;let#[h1,h2]:=O9 I1 r1 ty;apply#[T,id,pa,slot,zS,h1,h2,Calls.callWith_builtin rfl (PySem.evalArgs_none (hm af s1 U H1 x [] v [] Q I1 r1 .nil q1))]
def vD(pa:PlainAttrs T)(slot:Slot T name id)(zS:typeOf (.builtin id)=pure (.type "method_descriptor"))(hm:DU X id r)(ho:PE X o to)(ha:PA X (e::es) t)
  (jb:attributeBase o name X.env (eval o X.env)=eval o X.env:=by rfl)
  (kq:((backTo fH (starEach (e::es) X.env)).all (λx=>!x.1)&&(backToKw fH (keywordEach [] X.env)).all (λx=>x.1.isSome)
   && decide ((e::es).length+([]:List Keyword).length+(if([]:List Keyword).isEmpty then 0 else 1)<30))=true:=by rfl)
  (jl:(apos.endLine==fH.line)=true:=by rfl) (hs:starEach (e::es) X.env=(false,eval e X.env)::starEach es X.env:=by rfl) (Wn:(backTo fH (starEach es X.env)).any (·.1)=false:=by rfl) :
  PE X (.Call (.Attribute o name apos) (e::es) [] fH) (Ye X.K T r to t):=by
 exists 44;refine wpAny_Call_method_late jb kq jl rfl (ho.n I h λv s1 x H1 I1 r1 q=>?_);let#[ty,q1]:=q;let#[h1,h2]:=O9 I1 r1 ty;refine#[T,id,pa,slot,zS,h1,h2,?_];have hA:=ha fH af s1 U H1 _ I1 q1;rw[hs] at hA ⊢;refine Calls.callWith_builtin (by show(false||(backTo fH (starEach es X.env)).any (·.1))=false;rw[Wn]<;>rfl) (Calls.evalArgs_plain ?_);refine cL hA ?_
 rintro us s2 ⟨vs,H2,I2,r2,q2⟩
 apply hm af s2 U H2 x vs v us Q I2 r1 r2 q2
end
def JT(X:Cx)(id:String)(r:V->List V->Hp->VK->Prop):Prop:=
 ∀(af) (s) (U) (H) (x) (xs) (v) (us) (Q),Inv X af U H s->RelV x v->aS xs us->r x xs H Q->
  w8 X X.A (call (.builtin id) (v::us)) (EP X af U Q) X.xe s
def aS.one(h:aS [x] us):∃u,us=[u]/\RelV x u:=by
 rcases h with _|⟨r,_|_⟩
 apply#[_,rfl,r]
def aS.zero:∀{us},aS [] us->us=[]
 |_,.nil=>rfl
def aS.dropLast(h:aS xs us):aS xs.dropLast us.dropLast:=by
 induction h with
 |nil=>apply .nil
 |cons r t ih=>
  cases t with
  |nil=>apply .nil
  |cons q t'=>apply .cons r ih
def aS.eraseIdx:∀{xs} {us} (i),aS xs us->aS (xs.eraseIdx i) (us.eraseIdx i)
 |_,_,_,.nil=>.nil
 |_,_,0,.cons _ t=>t
 |_,_,i+1,.cons r t=>.cons r (aS.eraseIdx i t)
def agz(l:List α):l.eraseIdx (l.length-1)=l.dropLast:=by
 induction l with
 |nil=>rfl
 |cons a r ih=>
  cases r with
  |nil=>rfl
  |cons b r=>
   have e:(a::b::r).length-1=((b::r).length-1)+1:=by
    have h1:(a::b::r).length=r.length+2:=rfl;have h2:(b::r).length=r.length+1:=rfl;omega
   rw[e,List.eraseIdx_cons_succ,ih]
   all_goals rfl
def Inv.F3{av its':List Value}(I:Inv X af U H s)(hH:H l=some (.lst xs))
  (e:s.heap.get? l=some { cls:=.type "list",data:=.seq av.toArray n }) (hf:f av.toArray=its'.toArray) (hv:aS ys its') (hz:ys.length<=sizeLine) :
  Inv X af U (upd H l (.lst ys)) { s with heap:=s.heap.update l (Obj.mapSeq f),toks:=t' }:=by
 have q:=PySem.IsL.update e f;rw[hf] at q;refine I.write (by rw[hH];apply trivial) (.inl rfl) (λb' u hb hu=>(ad6 s.heap (Obj.mapSeq f) (afv hb)).trans hu) #[_,q] ?_;apply#[hz,its',_,hv,q]
def Inv.aaY(I:Inv X af U H s)(hv:aS ys av)(hz:ys.length<=sizeLine):
  Inv X af U (upd H s.heap.objs.size (.lst ys)) { s with heap:=s.heap.push { cls:=.type "list",data:=.seq av.toArray },toks:=t' }:=
 I.laid (λ_ _ q=>aat _ q) (abD _) #[hz,av,0,hv,acm _ rfl]
def Inv.fresh(I:Inv X af U H s):H s.heap.objs.size=none:=I.aG.fresh (abD _)
def Inv.x8(I:Inv X af U H s)(hH:H l=some (.lst xs)):xs.length<=sizeLine/\∃(av:List Value) (n:Nat),aS xs av/\xs.length=av.length/\s.heap.get? l=some { cls:=.type "list",data:=.seq av.toArray n }:=by
 let#[z,av,n,r,e]:=I.aG l _ hH;apply#[z,av,n,r,r.length,e]
def ajt:V->List V->Hp->VK->Prop:=λx vs H Q=>∃l xs y,x=.ref l/\vs=[y]/\H l=some (.lst xs)/\xs.length<sizeLine/\Q .aC (upd H l (.lst (xs++[y])))
def Eb:JT X "list.append" ajt:=by
 intro af s U H x vs v us Q I rx rv h;let#[l,xs,y,rfl,rfl,hH,hz,q]:=h;ext rx;let#[u,rfl,ru]:=rv.one;let#[z,av,n,r,hl,e]:=I.x8 hH;refine call_meets F.slot_list_append #[_,e,rfl] F.entry_list_append (F.args_list_append_2 _ _) (PySem.list_append l av.toArray n u (by rw[ab9];omega)) #[e,?_];refine#[.aC,_,I.F3 (its':=av++[u]) hH e (by simp) (r.append (.cons ru .nil)) ?_,rfl,q];rw[abV,aes];omega
def XC:V->List V->Hp->VK->Prop:=λx vs H Q=>∃l xs y,x=.ref l/\vs=[]/\H l=some (.lst xs)/\xs[xs.length-1]? = some y/\Q y (upd H l (.lst xs.dropLast))
def af1:JT X "list.pop" XC:=by
 intro af s U H x vs v us Q I rx rv h;let#[l,xs,y,rfl,rfl,hH,hy,q]:=h;ext rx;have hus:=rv.zero;subst hus;let#[z,av,n,r,hl,e]:=I.x8 hH;let#[u,hu,ru]:=r.get hy;have hy':av.toArray[av.toArray.size-1]? = some u:=by
  show av.toArray[av.length-1]? = some u;rw[<- Array.getElem?_toList,<- hl];apply hu
 refine call_meets F.slot_list_pop #[_,e,rfl] F.entry_list_pop (F.args_list_pop_1 _) (MeetsSeq.list_pop_last l av.toArray n u hy' (by rw[ab9];omega)) #[e,?_];refine#[y,_,I.F3 (its':=av.dropLast) hH e ?_ r.dropLast ?_,ru,q]
 .show av.toArray.eraseIdxIfInBounds (av.toArray.size-1)=av.dropLast.toArray;rw[ab9,List.eraseIdxIfInBounds_toArray,agz]
 .rw[List.length_dropLast];omega
def ahN:R2:=λx y H Q=>∃l b xs zs,x=.ref l/\y=.ref b/\H l=some (.lst xs)/\H b=some (.lst zs)/\xs.length+zs.length<=sizeLine/\∀p,H p=none->Q (.ref p) (upd H p (.lst (xs++zs)))
def ady:dO X (binaryOp .Add) ahN:=by
 exists 42;let#[l,b,xs,zs,rfl,rfl,hH,hB,hz,q]:=h;ext rx;ext ry;let#[z,av,n,r,hl,e]:=I.x8 hH;let#[z2,UZ,n2,r2,xh,e2]:=I.x8 hB;refine PySem.P.add_list e e2 ?_ (by rw[ab9,ab9];omega);have ea:av.toArray++UZ.toArray=(av++UZ).toArray:=by simp
 rw[ea];apply#[.ref _,_,I.aaY (r.append r2) (by rw[abV];omega),rfl,q _ I.fresh]
section
variable[DecidableEq κ]
def eT(ak:List (κ×V))(k:κ):Option V:=(ak.find? λkv=>decide (kv.1=k)).map (·.2)
def putK(ak:List (κ×V))(k:κ)(v:V):List (κ×V):=
 if(ak.any λkv=>decide (kv.1=k))=true then ak.map (λkv=>if kv.1=k then(kv.1,v) else kv) else ak++[(k,v)]
def ya{k:κ}(e:p.1=k):eT (p::r) k=some p.2:=by simp[eT,adx,e]
def y_{k:κ}(e:¬p.1=k):eT (p::r) k=eT r k:=by simp[eT,adx,e]
theorem EW(k:κ):∀ak:List (κ×V),(ak.any λkv=>decide (kv.1=k))=(eT ak k).isSome
 |[]=>rfl
 |p::r=>by
  rw[aiw]
  by_cases e:p.1=k
  .simp only[ya e,aaP e,Bool.true_or,Option.isSome_some]
  .rw[y_ e,acp e,Bool.false_or];apply EW k r
def HY(ak:List (κ×V))(k:κ)(v:V):(putK ak k v).length<=ak.length+1:=by
 unfold putK
 split
 .rw[List.length_map];omega
 .rw[abV,acv,List.length_nil];omega
def iI.v7(r:iI o u):o.isSome=u.isSome:=by
 cases o with
 |none=>cases u with
  |none=>rfl
  |some _=>apply(show False from r).elim
 |some _=>cases u with
  |none=>apply(show False from r).elim
  |some _=>rfl
def iI.getD(r:iI o u)(rd:RelV d d'):RelV (o.getD d) (u.getD d'):=by
 cases o with
 |none=>cases u with
  |none=>apply rd
  |some _=>apply(show False from r).elim
 |some _=>cases u with
  |none=>apply(show False from r).elim
  |some _=>apply r
def KV.val(r:KV ak vs)(k:κ):iI (eT ak k) (valueAt vs k):=by
 unfold KV at r
 induction r with
 |nil=>apply True.intro
 | @cons p q ps qs h t ih=>
  let#[h1,h2]:=h
  by_cases e:p.1=k
  .have e':=h1.symm.trans e;have b:valueAt (q::qs) k=some q.2:=by simp[valueAt,adx,e']
   rw[ya e,b];apply h2
  .have e':¬q.1=k:=λz=>e (h1.trans z)
   have b:valueAt (q::qs) k=valueAt qs k:=by simp[valueAt,adx,e']
   rw[y_ e,b];apply ih
def KV.any(r:KV ak vs)(k:κ):(ak.any λkv=>decide (kv.1=k))=vs.any λkv=>decide (kv.1=k):=by
 unfold KV at r
 induction r with
 |nil=>rfl
 |cons h t ih=>rw[aiw,aiw,ih,h.1]
def KV.EU(r:KV ak vs)(k:κ)(ry:RelV y u):
  KV (ak.map λkv=>if kv.1=k then(kv.1,y) else kv) (vs.map λkv=>if kv.1=k then(kv.1,u) else kv):=by
 unfold KV at r ⊢
 induction r with
 |nil=>apply .nil
 | @cons p q ps qs h t ih=>
  rw[aaG,aaG];refine .cons ?_ ih;let#[h1,h2]:=h
  by_cases e:p.1=k
  .rw[if_pos e,if_pos (h1.symm.trans e)];apply#[h1,ry]
  .rw[abM e,abM (λz=>e (h1.trans z))];apply#[h1,h2]
def KV.put(r:KV ak vs)(k:κ)(ry:RelV y u):KV (putK ak k y) (stored vs k u):=by
 unfold putK stored;rw[r.any k]
 by_cases e:(vs.any λkv=>decide (kv.1=k))=true
 .rw[if_pos e,if_pos e];apply r.EU k ry
 .rw[abM e,abM e];apply Paired.snoc r #[rfl,ry]
def KV.keys{vs:List (κ×Value)}(r:KV ak vs):ak.map (·.1)=vs.map (·.1):=by
 unfold KV at r
 induction r with
 |nil=>rfl
 |cons h t ih=>rw[aaG,aaG,ih,h.1]
def KV.length(r:KV ak vs):ak.length=vs.length:=Paired.length r
end
def uv(r:RelV (kV k) u):(f7 P w).is k u=true:=by
 cases k with
 |inl i=>let#[t,e]:=(show ∃t,u=Value.int i t from r);subst e;apply aeT P w i t
 |inr x=>let#[t,e]:=(show ∃t,u=Value.str x t from r);subst e;apply aa0 P w x t
theorem Ku:∀{ks} {us},aS (ks.map kV) us->ItemsAre (f7 P w) ks us
 |[],_,r=>by rw[akm] at r;ext r;apply .nil
 |k::ks,_,r=>by
  rw[aaG] at r;cases r with
  |cons h t=>apply .cons (uv h) (Ku t)
abbrev KT(H:Hp):List (List Key×V)->List (List Key×Addr×Value)->Prop:=Paired λp q=>p.1=q.1/\Tk H q.2.1 (p.1.map kV)/\RelV p.2 q.2.2
def KT.val(r:KT H ak xs)(k:List Key):iI (eT ak k) ((atKey xs k).map (·.2)):=by
 induction r with
 |nil=>apply True.intro
 | @cons p q ps qs h t ih=>
  let#[h1,_,h2]:=h
  by_cases e:p.1=k
  .have e':=h1.symm.trans e;have b:atKey (q::qs) k=some q.2:=by simp[atKey,adx,e']
   rw[ya e,b];apply h2
  .have e':¬q.1=k:=λz=>e (h1.trans z)
   have b:atKey (q::qs) k=atKey qs k:=by simp[atKey,adx,e']
   rw[y_ e,b];apply ih
def KT.EU(r:KT H ak xs)(k:List Key)(ry:RelV y u):
  KT H (ak.map λkv=>if kv.1=k then(kv.1,y) else kv) (xs.map (putAt k u)):=by
 induction r with
 |nil=>apply .nil
 | @cons p q ps qs h t ih=>
  rw[aaG,aaG];refine .cons ?_ ih;let#[h1,h2,h3]:=h;unfold putAt
  by_cases e:p.1=k
  .rw[if_pos e,if_pos (h1.symm.trans e)];apply#[h1,h2,ry]
  .rw[abM e,abM (λz=>e (h1.trans z))];apply#[h1,h2,h3]
def KT.put(r:KT H ak xs)(k:List Key)(hb:Tk H b (k.map kV))(ry:RelV y u):
  KT H (putK ak k y) (storedH xs k b u):=by
 have e:(ak.any λkv=>decide (kv.1=k))=(atKey xs k).isSome:=by
  rw[EW,(r.val k).v7,ahA]
 unfold putK storedH;rw[e]
 by_cases q:(atKey xs k).isSome=true
 .rw[if_pos q,if_pos q];apply r.EU k ry
 .rw[abM q,abM q];apply Paired.snoc r #[rfl,hb,ry]
def KT.keeps(r:KT H ak xs)(ht:∀b (t:m8),H b=some t.ho->H' b=some t.ho):KT H' ak xs:=
 Paired.CL r λ_ _ z=>#[z.1,let#[t,e,g]:=z.2.1;#[t,e,ht _ t g],z.2.2]
def Ob(ok:cY P w H h)(e:Rd H a u):dD P w H h a u:=e.ok ok
def sC(ok:cY P w H h)(e:Rd H a (.dK ak)):ak.length<=sizeLine/\(a==sysModules)=false/\∃vs,KV ak vs/\h.DictOf (f7 P w) a vs:=
 show dD P w H h a (.dK ak) from Ob ok e
def OG(ok:cY P w H h)(e:H a=some (.dK ak)):ak.length<=sizeLine/\(a==sysModules)=false/\∃vs,KV ak vs/\h.DictOf (f7 P w) a vs:=sC ok (.inl e)
def wU{ks:List Key}(ok:cY P w H h)(e:Tk H a (ks.map kV)):(tupleKind (f7 P w)).is h ks a:=by
 have q:dD P w H h a (.tup (ks.map kV)):=by
  let#[t,e1,e2]:=e;cases t with
  |tup xs=>ext e1;apply ok a _ e2
  |vQ o xs=>ext e1;apply(ok a _ e2).2
  |iV _ _=>ext e1
  |jv _=>ext e1
 let#[_,av,r,o,h1,h2,_,n,h3]:=q;apply#[o,av.toArray,n,h1,h2,h3,by simpa using Ku r]
def p_(ok:cY P w H h)(e:Rd H a (.dT ak)):ak.length<=sizeLine/\(a==sysModules)=false/\
  ∃xs,KT H ak xs/\h.DictOfH (tupleKind (f7 P w)) a xs:=by
 let#[z,y,xs,r,o,es,ep,h1,h2,h3,h4,h5]:=(show dD P w H h a (.dT ak) from Ob ok e)
 refine#[z,y,xs,r,o,es,ep,h1,h2,h3,h4,λx hx=>?_,h5];have all:∀{l} {m},KT H l m->∀x∈m,(tupleKind (f7 P w)).is h x.1 x.2.1:=by
  intro l m q
  induction q with
  |nil=>intro x hx;apply nomatch hx
  | @cons p q ps qs hq t ih=>
   intro x hx;rcases aaO.mp hx with e|hx
   .subst e;apply wU ok (by rw[<- hq.1];apply hq.2.1)
   .exact ih x hx
 apply all r x hx
def Wy(ok:cY P w H h)(e:H a=some (.dT ak)):ak.length<=sizeLine/\(a==sysModules)=false/\
  ∃xs,KT H ak xs/\h.DictOfH (tupleKind (f7 P w)) a xs:=p_ ok (.inl e)
def iG(H:Hp)(a:Addr)(y:V)(r:Option V):Prop:=
 (∃ak k,Rd H a (.dK ak)/\y=kV k/\r=eT ak k)\/∃ak k b,Rd H a (.dT ak)/\y=.ref b/\Tk H b (k.map kV)/\r=eT ak k
def pL(H:Hp)(a:Addr)(y v:V)(H':Hp):Prop:=
 (∃ak k,H a=some (.dK ak)/\y=kV k/\ak.length<sizeLine/\H'=upd H a (.dK (putK ak k v)))\/
 ∃ak k b,H a=some (.dT ak)/\y=.ref b/\Tk H b (k.map kV)/\ak.length<sizeLine/\H'=upd H a (.dT (putK ak k v))
theorem iG.k{k:Key}(e:H a=some (.dK ak)):iG H a (kV k) (eT ak k):=.inl #[ak,k,.inl e,rfl,rfl]
def iG.t{k:List Key}(e:H a=some (.dT ak))(eb:Tk H b (k.map kV)):iG H a (.ref b) (eT ak k):=.inr #[ak,k,b,.inl e,rfl,eb,rfl]
theorem pL.k{k:Key}(e:H a=some (.dK ak))(hl:ak.length<sizeLine):pL H a (kV k) v (upd H a (.dK (putK ak k v))):=.inl #[ak,k,e,rfl,hl,rfl]
def pL.t{k:List Key}(e:H a=some (.dT ak))(eb:Tk H b (k.map kV))(hl:ak.length<sizeLine):
  pL H a (.ref b) v (upd H a (.dT (putK ak k v))):=.inr #[ak,k,b,e,rfl,eb,hl,rfl]
def Inv.big(I:Inv X af U H s):sysModules<s.heap.objs.size:=by
 have h:=(I.mod.glob.keeps I.bk).lt;apply Nat.lt_trans (by decide) h
def acT(hu:A.units+1<cLine)(I:Inv X af U H s)(g:iG H a y (some v))(ry:RelV y u)(h:∀w' s',Inv X af U H s'->RelV v w'->Q w' s'):
  wpAny (model X.prog X.w) A (getItem (.ref a) u) Q E s:=by
 rcases g with⟨ak,k,e,ey,l⟩|⟨ak,k,b,e,ey,eb,l⟩
 .subst ey;let#[z,hd,vs,rel,dd]:=sC I.aG e;let#[w',hw,fM]:=iI.some_of (by rw[l];apply rel.val k);apply wpAny_getItem_of (uv ry) dd.mapOf hw (h w' _ (I.tok _) fM)
 .subst ey;cases(show u=Value.ref b from ry);let#[z,hd,xs,rel,dd]:=p_ I.aG e;let#[w',hw,fM]:=iI.some_of (by rw[l];apply rel.val k);let#[p,hp,Kv]:=abX.mp hw;refine wpAny_getItem_heap (ahf hu) (wU I.aG eb) dd hp ?_;rw[Kv];apply h w' _ (I.tok _) fM
def ah0(hu:A.units+1<cLine)(I:Inv X af U H s)(g:iG H a y o)(ry:RelV y u)(h:∀s',Inv X af U H s'->Q (.bool o.isSome) s'):
  wpAny (model X.prog X.w) A (compareOp .In u (.ref a)) Q E s:=by
 rcases g with⟨ak,k,e,ey,l⟩|⟨ak,k,b,e,ey,eb,l⟩
 .subst ey;let#[z,hd,vs,rel,dd]:=sC I.aG e;refine wpAny_in_of (uv ry) hd dd.mapOf ?_;rw[<- (rel.val k).v7,<- l];apply h _ (I.tok _)
 .subst ey;cases(show u=Value.ref b from ry);let#[z,hd,xs,rel,dd]:=p_ I.aG e;refine wpAny_in_heap (ahf hu) (wU I.aG eb) hd dd ?_;have q:=(rel.val k).v7;rw[ahA] at q;rw[<- q,<- l];apply h _ (I.tok _)
def aaD(hu:A.units+1<cLine)(I:Inv X af U H s)(g:iG H a y o)(ry:RelV y u)(h:∀s',Inv X af U H s'->Q (.bool (!o.isSome)) s'):
  wpAny (model X.prog X.w) A (compareOp .NotIn u (.ref a)) Q E s:=by
 rcases g with⟨ak,k,e,ey,l⟩|⟨ak,k,b,e,ey,eb,l⟩
 .subst ey;let#[z,hd,vs,rel,dd]:=sC I.aG e;refine wpAny_notIn_of (uv ry) hd dd.mapOf ?_;rw[<- (rel.val k).v7,<- l];apply h _ (I.tok _)
 .subst ey;cases(show u=Value.ref b from ry);let#[z,hd,xs,rel,dd]:=p_ I.aG e;refine wpAny_notIn_heap (ahf hu) (wU I.aG eb) hd dd ?_;have q:=(rel.val k).v7;rw[ahA] at q;rw[<- q,<- l];apply h _ (I.tok _)
def UR(I:Inv X af U H s)(mu:zR (H a))(hs:Heap.SameBut a s.heap h')(he:∃q,h'.get? a=some q)(new:dD X.prog X.w (upd H a ob) h' a ob):
  Inv X af U (upd H a ob) { s with heap:=h',toks:=t' }:=
 I.write mu (.inl rfl) (λb q hb z=>(hs.2 b hb).trans z) he new
def RI(z:ak.length<=sizeLine)(hd:(a==sysModules)=false)(rel:KV ak vs)(dd:h'.DictOf (f7 P w) a vs):
  dD P w H' h' a (.dK ak):=#[z,hd,vs,rel,dd]
def WV(hu:A.units+1<cLine)(I:Inv X af U H s)(g:pL H a y v H')(ry:RelV y u)(rv:RelV v r)(h:∀s',Inv X af U H' s'->Q () s'):
  wpAny (model X.prog X.w) A (setItem (.ref a) u r) Q E s:=by
 rcases g with⟨ak,k,e,ey,l,eH⟩|⟨ak,k,b,e,ey,eb,l,eH⟩
 .subst ey eH;let#[z,hd,vs,rel,dd]:=OG I.aG e;have hz:vs.length<=sizeLine:=by rw[<- rel.length];apply z
  have hl:(putK ak k v).length<=sizeLine:=by have:=HY ak k v;omega
  refine wpAny_setItem_pairs (hsz:=hz) (uv ry) dd λh' uZ hs=>h _ ?_
  have he:∃q,h'.get? a=some q:=let#[q,_,_,hq,_]:=uZ;#[q,hq]
  apply UR I (by rw[e];apply True.intro) hs he (RI hl hd (rel.put k rv) uZ)
 .subst ey eH;cases(show u=Value.ref b from ry);let#[z,hd,xs,rel,dd]:=Wy I.aG e;have hz:xs.length<=sizeLine:=by rw[<- Paired.length rel];apply z
  have hl:(putK ak k v).length<=sizeLine:=by have:=HY ak k v;omega
  refine wpAny_setItem_heap (hsz:=hz) (ahf hu) (wU I.aG eb) dd λh' uZ hs=>h _ ?_
  let#[q,es,ep,hq,h2,h3,h4,_,h5]:=uZ;refine UR I (by rw[e];apply True.intro) hs #[q,hq] #[hl,hd,_,(rel.put k eb rv).keeps λc ys ec=>?_,q,es,ep,hq,h2,h3,h4,h5];rw[aJ (ac7 ec e (by ext ys<;>intro z<;>ext z))];apply ec
def ahy(I:Inv X af U H s)(e:Rd H a (.dK ak))(h:∀t s',Inv X af U H s'->Q (.int ak.length t) s'):wpAny (model X.prog X.w) A (call (.builtin "len") [.ref a]) Q E s:=by
 let#[z,hd,vs,rel,dd]:=sC I.aG e;refine call_len_dict hd dd (by rw[<- rel.length];rw[afK] at z;omega) ?_;rw[<- rel.length];apply h _ _ (I.tok _)
def yk(i:Expr):Prop:=∀ov iv,subscripted i false ov iv=operate [ov,iv] (getItem ov iv)
def NX{T id:String}
  (hl:typeLookup (.type T) "__getitem__"=pure (some (.builtin id))) (hs:yk slice)
  (h:wpAny (model prog w) A (eval value env) (λo bZ=>wpAny (model prog w) A (eval slice env) (λi qI=>qI.TypeIs o T/\wpAny (model prog w) A (getItem o i) Q E qI) E bZ) E s) :
  wpAny (model prog w) A (eval (.Subscript value slice pos) env) Q E s:=by
 refine Subscript_ (adI h (λo bZ Be=>adI Be (λi qI EV=>?_) λ_ _ x=>x) λ_ _ x=>x);let#[hT,EV]:=EV;unfold subscriptTail;refine aaq ?_;rw[getitemInPython_of_ne hT.not_modules];refine aaq (wpAny_specialOf hT hl ?_);have fin:wpAny (model prog w) A (subscripted slice false o i) (λr CI=>wpAny (model prog w) A (letTemporaryGo value o r >>= λ_=>pure r) Q E CI) E qI:=by
  rw[hs o i];apply wpAny_operating (adI EV (λr CI Xc=>aaq (wpAny_letTemporaryGo (abP Xc))) λ_ _ x=>x)
 first
  |exact abP (aaq fin)
  |exact aaq (abP (aaq fin))
  |exact aaq fin
def ajh(I:Inv X af U H s)(g:iG H a y o):s.TypeIs (.ref a) "dict":=by
 rcases g with⟨ak,k,e,_,_⟩|⟨ak,k,b,e,_,_,_⟩
 .let#[_,_,vs,_,dd]:=sC I.aG e;apply dd.typeIs
 .let#[_,_,xs,_,dd]:=p_ I.aG e;apply dd.typeIs
def NF(td ty:TE):TE:=λU H Q=>td U H λx H1=>ty U H1 λy H2=>∃a v,x=.ref a/\iG H2 a y (some v)/\Q v H2
def ad2(ty td:TE):TE:=λU H Q=>ty U H λy H1=>td U H1 λx H2=>∃a o,x=.ref a/\iG H2 a y o/\Q (.bl o.isSome) H2
def abE(ty td:TE):TE:=λU H Q=>ty U H λy H1=>td U H1 λx H2=>∃a o,x=.ref a/\iG H2 a y o/\Q (.bl (!o.isSome)) H2
def Yv(td ty tv:TE):TS:=λD U H=>tv U H λv H1=>td U H1 λx H2=>ty U H2 λy H3=>∃a H4,x=.ref a/\pL H3 a y v H4/\D.nx U H4
def M1(hu:X.A.units+1<cLine)(ho:PE X o td)(hi:PE X i ty)(hs:yk i):PE X (.Subscript o i pos) (NF td ty):=by
 exists 44;refine NX PySem.F.slot_dict_getitem.lookup hs (ho.n I h λu s1 x H1 I1 rx q1=>hi.n I1 q1 λiv s2 y H2 I2 ry q=>?_);let#[a,v,ex,g,q2]:=q;subst ex;obtain rfl:u=Value.ref a:=rx;apply#[ajh I2 g,acT hu I2 g ry λw' s3 I3 fM=>#[v,H2,I3,fM,q2]]
def Ub(hu:X.A.units+1<cLine)(hi:PE X i ty)(ho:PE X o td):PC X .In i o (ad2 ty td):=by
 exists 44;refine hi.n I h λiv s1 y H1 I1 ry q1=>ho.n I1 q1 λu s2 x H2 I2 rx q=>?_
 let#[a,ov,ex,g,q2]:=q;subst ex;obtain rfl:u=Value.ref a:=rx;apply ah0 hu I2 g ry λs3 I3=>#[.bl ov.isSome,H2,I3,rfl,q2]
def afD(hu:X.A.units+1<cLine)(hi:PE X i ty)(ho:PE X o td):PC X .NotIn i o (abE ty td):=by
 exists 44;refine hi.n I h λiv s1 y H1 I1 ry q1=>ho.n I1 q1 λu s2 x H2 I2 rx q=>?_
 let#[a,ov,ex,g,q2]:=q;subst ex;obtain rfl:u=Value.ref a:=rx;apply aaD hu I2 g ry λs3 I3=>#[.bl (!ov.isSome),H2,I3,rfl,q2]
def Ci(hu:X.A.units+1<cLine)(ho:PE X o td)(hi:PE X i ty)(hv:PE X value tv)(hs:swapsWith value (some (.Subscript o i pos')) pos.line X.env=pure false):
  PS X (.Assign [.Subscript o i pos'] value pos) (Yv td ty tv):=by
 intro af s U H D I h;refine wpAny_Assign_Subscript (hv.n I h λr s1 v H1 I1 rv q1=>ho.n I1 q1 λu s2 x H2 I2 rx q2=>hi.n I2 q2 λiv s3 y H3 I3 ry q=>?_) hs;let#[a,H4,ex,g,q3]:=q;subst ex;obtain rfl:u=Value.ref a:=rx;apply WV hu I3 g ry rv λs4 I4=>#[U,H4,I4,q3]
def aiu(h:Heap)(hb:sysModules<h.objs.size):dD P w H (h.push { cls:=.type "dict",data:=.dict ([].toArray) }) h.objs.size (.dK []):=
 #[acP _,adY.mpr (afv (acO hb)),[],.nil,Heap.DictOf.new h]
def ajd(h:Heap)(hb:sysModules<h.objs.size):dD P w H (h.push { cls:=.type "dict",data:=.dict ([].toArray) }) h.objs.size (.dT []):=
 #[acP _,adY.mpr (afv (acO hb)),[],.nil,_,([].toArray),0,acm _ rfl,#[rfl,rfl,rfl],rfl,rfl,acE]
def ahp:TE:=λ_ H Q=>∀p,H p=none->Q (.ref p) (upd H p (.dK []))
def ZC:TE:=λ_ H Q=>∀p,H p=none->Q (.ref p) (upd H p (.dT []))
def abN:PE X (.Dict [] [] pos) ahp:=λaf s U H Q I h=>
 wpAny_Dict_empty #[.ref s.heap.objs.size,_,I.laid (λ_ _ q=>aat _ q) (abD _) (aiu s.heap I.big),rfl,h _ (I.aG.fresh (abD _))]
def adh:PE X (.Dict [] [] pos) ZC:=λaf s U H Q I h=>
 wpAny_Dict_empty #[.ref s.heap.objs.size,_,I.laid (a:=s.heap.objs.size) (o:=.dT []) (t':=s.toks) (λ_ _ q=>aat _ q) (abD _) (ajd s.heap I.big),rfl,h _ (I.aG.fresh (abD _))]
structure M2(X:Cx)(o:Expr)(m:Str)(apos:Pos)(e f:Expr)(fH:Pos):Prop where
 base:attributeBase o m X.env (eval o X.env)=eval o X.env
 few:((backTo fH (starEach [e,f] X.env)).all (λx=>!x.1)&&(backToKw fH (keywordEach [] X.env)).all (λx=>x.1.isSome)
  && decide (([e,f]:List Expr).length+([]:List Keyword).length+(if([]:List Keyword).isEmpty then 0 else 1)<30))=true
 line:(apos.endLine==fH.line)=true
 trees:backTo fH (starEach [e,f] X.env)=[(false,eval e X.env),(false,eval f X.env)]
def UH(H:Hp)(a:Addr):Prop:=(∃ak,Rd H a (.dK ak))\/∃ak,Rd H a (.dT ak)
def Wo(I:Inv X af U H s)(d:UH H a):
  s.TypeIs (.ref a) "dict"/\(∀b,Value.ref a=.ref b->∃ob,s.heap.get? b=some ob/\ob.dict=none)/\(a==sysModules)=false:=by
 rcases d with⟨ak,e⟩|⟨ak,e⟩
 .let#[_,hd,vs,_,dd]:=sC I.aG e;refine#[dd.typeIs,λb q=>?_,hd];ext q;let#[ob,_,_,h1,h2,_]:=dd;apply#[ob,h1,h2.2.1]
 .let#[_,hd,xs,_,dd]:=p_ I.aG e;refine#[dd.typeIs,λb q=>?_,hd];ext q;let#[ob,_,_,h1,h2,_]:=dd;apply#[ob,h1,h2.2.1]
def adL(hu:A.units+1<cLine)(I:Inv X af U H s)(g:iG H a y o)(ry:RelV y u)(rd:RelV d r)(h:∀w' s',Inv X af U H s'->RelV (o.getD d) w'->Q w' s'):
  wpAny (model X.prog X.w) A (call (.builtin "dict.get") [.ref a,u,r]) Q E s:=by
 rcases g with⟨ak,k,e,ey,l⟩|⟨ak,k,b,e,ey,eb,l⟩
 .subst ey;let#[z,hd,vs,rel,dd]:=sC I.aG e;refine call_meetsIn PySem.F.slot_dict_get dd.typeIs PySem.F.entry_dict_get (PySem.F.args_dict_get_3 _ _ _) (meets_dict_get_default (f7 X.prog X.w) a (uv ry) hd r) #[_,dd.mapOf,h _ _ (I.tok _) ?_];rw[l];apply(rel.val k).getD rd
 .subst ey;cases(show u=Value.ref b from ry);let#[z,hd,xs,rel,dd]:=p_ I.aG e;refine call_meetsIn PySem.F.slot_dict_get dd.typeIs PySem.F.entry_dict_get (PySem.F.args_dict_get_3 _ _ _) (meetsH_dict_get_default (tupleKind (f7 X.prog X.w)) a b hd r) #[ahf hu,k,xs,wU I.aG eb,dd,h _ _ (I.tok _) ?_];rw[l];apply(rel.val k).getD rd
def afw(td ty tx:TE):TE:=λU H Q=>td U H λx H1=>∃a,x=.ref a/\UH H1 a/\ty U H1 λy H2=>tx U H2 λz H3=>∃o,iG H3 a y o/\Q (o.getD z) H3
def Ln(hu:X.A.units+1<cLine)(ho:PE X o td)(he:PE X e ty)(hf:PE X f tx)(m:M2 X o "get" apos e f fH):PE X (.Call (.Attribute o "get" apos) [e,f] [] fH) (afw td ty tx):=by
 exists 44;refine wpAny_Call_method m.base m.few m.line PySem.F.plainAttrs_dict PySem.F.slot_dict_get PySem.F.type_dict_get (ho.n I h λu s1 x H1 I1 rx q=>?_);let#[a,ex,d,q1]:=q;subst ex;obtain rfl:u=Value.ref a:=rx;let#[t1,t2,_]:=Wo I1 d;refine#[t1,t2,?_];rw[m.trees];refine Calls.callWith_builtin rfl (Calls.evalArgs_plain (Calls.spliced_cons (cL (he af s1 U H1 _ I1 q1) λiv s2 #[y,H2,I2,ry,q2]=>
  Calls.spliced_cons (cL (hf af s2 U H2 _ I2 q2) λfv s3 #[z,H3,I3,rz,ov,g,q3]=>Calls.spliced_nil ?_))))
 apply adL hu I3 g ry rz λw' s4 I4 fM=>#[_,H3,I4,fM,q3]
end L2
namespace Qw
open PySem PySem.W PySem.Calls PyProof.Rows
def af6:∀(ns) (vs),WellAll P h vs (ns.map WData.int)->IntsAre vs ns:=by
 intro ns
 induction ns with
 |nil=>
  intro vs w;rw[akm] at w;ext w;apply .nil
 |cons n ns ih=>
  intro vs w;rw[aaG] at w;cases w with
  |cons a b=>
   ext a;apply .cons _ _ (ih _ b)
def ab6{l:OpenLaw}(hn:l.most=some n)
  (Bl:l.row.toRowW.claim.pre args=true) (DS:WellAll P h vals args) :
  ∃a vs ns,vals=[Value.ref a]/\args=[WData.list (ns.map WData.int)]/\h.get? a=some { cls:=.type "list",data:=.seq vs.toArray }/\IntsAre vs ns/\ns.length<=n:=by
 have Xa:=(pre_splitW Bl).1;have hc:l.pre.holds [] { args:=args }=true:=(pre_splitW Bl).2;let#[d,r,rfl,h1,h2]:=hasAllW_cons Xa;obtain rfl:=hasAllW_nil h2;let#[xs,rfl,h3]:=hasW_list h1;let#[ns,rfl]:=items_int h3;have hlen:ns.length<=n:=by
  unfold OpenLaw.pre at hc;have h4:(WTm.not (.lt (.lit (.int (n:Int))) (.len (.arg 0)))).holds [] { args:=[.list (ns.map .int)] }=true:=by
   have h4:=(holds_andW hc).1;rw[hn] at h4;apply h4
  have h5:=condW_of h4 (w_not (w_lt w_lit (w_len_list (w_arg rfl))));rw[List.length_map] at h5;refine Nat.le_of_not_lt λq=>?_
  have q':(n:Int)<((ns.length:Nat):Int):=by omega
  first
   |(rw[aaP q'] at h5;apply absurd h5 (by decide))
   |(simp at h5;omega)
 cases DS with
 |cons w1 w2=>
  ext w2;cases w1 with
  |list ho EJ=>apply#[_,_,ns,rfl,rfl,ho,af6 ns _ EJ,hlen]
def aiq(l:OpenLaw)(args:List WData):l.row.toRowW.claim.post args (.bool true) args=true:=
 postW_of (r:=l.row.toRowW) (X:=(true==true))
  (show WShape.has [] (.bool true) .bool=true by first|rfl|decide|simp[WShape.has,WShape.arms,WShape.armsAll])
  (show(WTm.eq .res (.lit (.bool true))).value [] { args:=args,res:=some (.bool true),after:=args }=some (.bool (true==true)) from w_eq_bool (w_res rfl) w_lit) rfl
def aea{l:OpenLaw}
  (hn:l.most=some n) (z_:d.params.defaults=[])
  (call:∀(w) (cQ bZ) (mg mb) (fa) (o) (pm cd doc) (a) (vs) (ns),
   Ground q loose [] XP w cQ mg mb bZ.heap->YP w bZ.heap->
   bZ.heap.get? fa=some o->o.data=.func (docDef d.name d.params d.body d.scope pm cd doc)->bZ.heap.CodeRec cd d.name->mg d.name=some (.ref fa)->
   bZ.heap.get? a=some { cls:=.type "list",data:=.seq vs.toArray }->IntsAre vs ns->ns.length<=n->bZ.gens=([].toArray)->
   codeAny (model l.prog w) callerA (.call (.ref fa) #[[.ref a],[]]) (λr s'=>r=.ok (.ret (.bool true))/\OldK bZ.heap s'.heap/\s'.os=bZ.os/\AllBare s'.gens) bZ) :
  WalkO q loose XP YP l.row.toRowW d [] (λf vs=>PySem.call f vs):=by
 intro w cQ bZ mg mb G YY fa o pm cd doc dV kV ho hd gZ hD Av hg args vals as Bl akp qW DS Ao;obtain rfl:dV=.none:=Dflts.none hD z_;obtain rfl:kV=.none:=Dflts.noKw hD;let#[a,vs,ns,rfl,rfl,LZ,hints,hlen]:=ab6 hn Bl DS;refine enter_call (codeAny_mono (call w cQ bZ mg mb fa o pm cd doc a vs ns G YY ho (fd_plain hd) gZ Av LZ hints hlen hg) λr s' hq=>?_);let#[rfl,h2,h3,h4]:=hq;apply#[.inl #[.bool true,.bool true,[],rfl,λ_=>rfl,.bool true,aiq l _,λ_=>#[List.Pairwise.nil,λ_ hm=>(nomatch hm)]],h2,h3,h4]
end Qw
namespace L2
open PySem PySem.Spec PyProof.Rows
theorem Ll:∀{vs} {ns},IntsAre vs ns->aS (ns.map V.int) vs
 |_,_,.nil=>.nil
 |_,_,.cons n t h=>.cons #[t,rfl] (Ll h)
abbrev dw:sO:=λ_ _ _ _ _ _=>False
abbrev E0:XK:=λ_ _ _=>False
def lD:Passes dw X E0:=λ_ _ _ _ _ _ _ h=>h.elim
structure jw(K:Fr)(x qual:Str)(st:Stmt)(f:Addr)(fd:FuncData):Prop where
 ex:∃(oc:Value) (od:Option Addr) (kV doc pm:Value) (an:Option Addr) (aQ ct:Value) (qP:Array (Option Value)),
  fd=PySem.W.fnOf x qual (mK st) (gS st) (cE st) .none kV doc pm an aQ ct/\K.lookup f=some #[oc,od,.func fd,qP]/\PySem.W.codeIn K aQ qual=true
 kp:PySem.W.keepIn K (.ref f)=true
section
variable{K:Fr}
def jw.ok{st:Stmt}(F:jw K x qual st f fd)(S:qj N ps (cE st))(len:∀vs H Q E,sp vs H Q E->vs.length=ps.length)
  (Gz:∀(aQ:{c:Value // c=fd.code}) (A) (outer) (s) (H) (vs) (Q) (E),aZ k (A.deeper (envOfC qual (cE st) s.heap.objs.size f aQ)) cm->sp vs H Q E->
   ∃t,iP (fU dw P w K mg base N qual (cE st) f aQ A outer s H E cm).eY (gS st) t/\t { nx:=λ_ H'=>Q .aC H',rt:=Q } (start N vs) H):cg P w K mg base dw (k+1) f fd ps sp cm:=by
 let#[oc,od,kV,doc,pm,an,aQ,ct,qP,rfl,lk,gZ]:=F.ex;refine MG lk gZ S len λA outer s H vs Q E hr qw=>?_
 let#[t,h,q]:=Gz #[aQ,rfl] A outer s H vs Q E hr qw;apply#[t,h.eY,q]
def jw.binds{st:Stmt}(F:jw K x qual st f fd)
  (h:∀(kV doc pm) (an) (aQ ct) (us),us.length=ps.length->bindArgs (PySem.W.fnOf x qual (mK st) (gS st) (cE st) .none kV doc pm an aQ ct) #[us,[]]=pure (ps.zip us)):Binds K fd ps []:=by
 let#[oc,od,kV,doc,pm,an,aQ,ct,qP,rfl,lk,gZ]:=F.ex;apply .all (h kV doc pm an aQ ct)
def VJ{st:Stmt}{kV doc pm aQ ct:Value}(l:K.lookup f=some #[oc,od,.func (PySem.W.fnOf x qual (mK st) (gS st) (cE st) .none kV doc pm an aQ ct),qP])
  (c:PySem.W.codeIn K aQ qual=true) (k:PySem.W.keepIn K (.ref f)=true):jw K x qual st f (PySem.W.fnOf x qual (mK st) (gS st) (cE st) .none kV doc pm an aQ ct):=#[#[oc,od,kV,doc,pm,an,aQ,ct,qP,rfl,l,c],k]
end
def fT(hr:aZ k A cm):A.units+1<cLine:=ahm (Nat.add_le_add_left (by decide:1<=64) _) hr.units
def A3(h:n<=1000):n<sizeLine:=ahm h (by decide)
def pv(i:Nat)(hN:X.N[i]? = some x:=by rfl)(hv:De X.env.scope x:=by first|exact Or.inl rfl|exact Or.inr (Or.inl rfl)|exact Or.inr (Or.inr rfl))(hd:(x==("__debug__":Str))=false:=by decide)
  (gZ:(x==("__classdict__":Str))=false:=by decide):PE X (.Name x pos) (pS i):=M7 hN hv hd gZ
def Xx{A B:Prop}(h:B):if false=true then A else B:=by
 rw[abM abm];apply h
def agG{A B:Prop}(h:A):if true=true then A else B:=by
 rw[if_pos rfl];apply h
def aH(H H':Hp):Prop:=∀b o,H b=some o->H' b=some o
def aH.refl(H:Hp):aH H H:=λ_ _ h=>h
def aH.trans(a:aH H H1)(b:aH H1 H2):aH H H2:=λc o h=>b c o (a c o h)
def aH.free(e:aH H H')(h:H' l=Option.none):H l=Option.none:=by
 cases q:H l with
 |none=>rfl
 |some o=>
  rw[e l o q] at h;ext h
def ajG:ie X (.builtin "len") (λxs H Q=>∃a ak,xs=[V.ref a]/\H a=some (.dK ak)/\Q (.int ak.length) H):=by
 exists 43;let#[a,ak,rfl,ha,q]:=h;let#[u,rfl,ru]:=vals1 r;ext ru;apply ahy I (.inl ha) λt s' I'=>#[.int ak.length,H,I',#[t,rfl],q]
def Sd(a:Addr)(cls:Value)(de:Option Addr):HO:=.ext λh=>∃oe,h.get? a=some oe/\oe.cls=cls/\(∀dx,de=some dx->oe.dict=some dx/\PySem.W.notCls oe=true)
def RB(e:h.get? a=some oe)(c:oe.cls=cls)(d:∀dx,de=some dx->oe.dict=some dx/\PySem.W.notCls oe=true):dD P w H h a (Sd a cls de):=
 #[#[oe,e,c,d],#[oe,e],λ_ _ #[o,q,z] k=>#[o,k o q,z]]
def yh(ob:Obj)(a:Addr)(cls:Value)(de:Option Addr):HO:=.cC ob (Sd a cls de)
def Zx(x:cY P w H h)(e:H a=some (yh ob a cls de)):∃oe,h.get? a=some oe/\oe.cls=cls:=let#[oe,a,b,_]:=(x a _ e).2.1;#[oe,a,b]
def Jt(n:Nat)(t:Tok):Str->Option Value:=λy=>if y="slot" then some (.int n t) else none
def LJ(dx:Addr)(n:Nat):HO:=.ext λh=>∃t,h.Ns1 dx (Jt n t)
def agu(e:h.Ns1 dx (Jt n t)):dD P w H h dx (LJ dx n):=
 #[#[t,e],let#[o,_,_,q,_]:=e;#[o,q],λ_ _ #[t,e] k=>#[t,e.at k]]
def nJ(o:Obj):Option Value:=match o.data with
 |.fields vs=>vs[2]?
 |_=>none
def DK{α:Type}:Sem α->Prop
 |.pure _=>True
 |.raise _=>True
 |.unsupported _=>True
 |.finish _=>True
 |.rule _ k=>DK (k ())
 |.at _ k=>DK (k ())
 |.load _ _ k=>∀o,DK (k o)
 |.update _ _ f k=>(∀o,(f o).dict=o.dict/\nJ (f o)=nJ o)/\DK (k ())
 |.alloc _ k=>∀a,DK (k a)
 |.stack k=>∀l,DK (k l)
 |_=>False
def Kd(h h':Heap):Prop:=∀(a:Nat) (o),h.objs[a]? = some o->∃o',h'.objs[a]? = some o'/\o'.dict=o.dict/\nJ o'=nJ o
def Kd.refl(h:Heap):Kd h h:=λa o e=>#[o,e,rfl,rfl]
def Kd.trans(x:Kd h h1)(y:Kd h1 h2):Kd h h2:=λa o e=>by
 let#[o1,e1,d1,f1]:=x a o e;let#[o2,e2,d2,f2]:=y a o1 e1;apply#[o2,e2,d2.trans d1,f2.trans f1]
def Kd.push(h:Heap)(o:Obj):Kd h (h.push o):=λa u e=>by
 let#[objs,l]:=h;refine#[u,?_,rfl,rfl];show(objs.push o)[a]? = some u;have lt:=(Array.getElem?_eq_some_iff.mp e).1;rw[Array.getElem?_push_lt lt];rw[Array.getElem?_eq_getElem lt] at e;apply e
def Kd.update(h:Heap)(b:Addr)(hf:∀o,(f o).dict=o.dict/\nJ (f o)=nJ o):Kd h (h.update b f):=λa u e=>by
 let#[objs,l]:=h;show ∃o',(objs.modify b f)[a]? = some o'/\_;have e:=e;rw[Array.getElem?_modify,e]
 split
 .exact#[f u,rfl,hf u]
 .exact#[u,rfl,rfl,rfl]
theorem Kd.at(k:Kd h h')(e:h.get? a=some o)(e':h'.get? a=some o'):o'.dict=o.dict/\nJ o'=nJ o:=by
 have raw:∀{h:Heap} {o},h.get? a=some o->h.objs[a]? = some o:=λ{h o} e=>by
  unfold Heap.get? at e
  split at e
  .cases e
  .exact e
 let#[u,q,d]:=k a o (raw e);rw[raw e'] at q;ext q;apply d
def ag5:∀(t) {Q:α->Pos->Shared->Prop} {E} {p} {s},DK t->Kd h0 s.heap->Sem.wp M Γ t Q E p s->Sem.wp M Γ t (λa p' s'=>Q a p' s'/\Kd h0 s'.heap) (λe p' s'=>E e p' s'/\Kd h0 s'.heap) p s:=by
 intro t
 induction t with
 |pure a=>intro Q E p s d k h;apply#[h,k]
 |raise e=>intro Q E p s d k h;apply#[h,k]
 |unsupported w=>intro Q E p s d k h;apply h
 |finish e=>intro Q E p s d k h;apply h
 |rule tag f ih=>intro Q E p s d k h;apply ih () d k h
 | «at» pos f ih=>intro Q E p s d k h;apply ih () d k h
 |load a part f ih=>intro Q E p s d k h;let#[o,e,h]:=h;apply#[o,e,ih o (d o) k h]
 |update a part f g ih=>intro Q E p s d k h;apply#[h.1,ih () d.2 (k.trans (Kd.update _ _ d.1)) h.2]
 |alloc o f ih=>intro Q E p s d k h;apply ih _ (d _) (k.trans (Kd.push _ _)) h
 |stack f ih=>intro Q E p s d k h;apply ih _ (d _) k h
 |loadIfAlive=>intro Q E p s d;apply d.elim
 |point=>intro Q E p s d;apply d.elim
 |register=>intro Q E p s d;apply d.elim
 |fresh=>intro Q E p s d;apply d.elim
 |ask=>intro Q E p s d;apply d.elim
 |choose=>intro Q E p s d;apply d.elim
 |os=>intro Q E p s d;apply d.elim
 |call=>intro Q E p s d;apply d.elim
 |handled=>intro Q E p s d;apply d.elim
 |newGen=>intro Q E p s d;apply d.elim
 |genState=>intro Q E p s d;apply d.elim
 |resume=>intro Q E p s d;apply d.elim
 |yield=>intro Q E p s d;apply d.elim
 |fork=>intro Q E p s d;apply d.elim
 |thread=>intro Q E p s d;apply d.elim
 |await=>intro Q E p s d;apply d.elim
def vK(d:DK t)(h:wpAny M A t Q E s):wpAny M A t (λa s'=>Q a s'/\Kd s.heap s'.heap) (λe s'=>E e s'/\Kd s.heap s'.heap) s:=
 λΓ p hΓ=>ag5 t d (Kd.refl _) (h Γ p hΓ)
def DK.bind:∀{m},DK m->(∀a,DK (f a))->DK (m >>= f):=by
 intro m
 induction m with
 |pure a=>intro d h;apply h a
 |raise e=>intro d h;apply d
 |unsupported w=>intro d h;apply d
 |finish e=>intro d h;apply d
 |rule tag g ih=>intro d h;apply ih () d h
 | «at» pos g ih=>intro d h;apply ih () d h
 |load a part g ih=>intro d h o;apply ih o (d o) h
 |update a part f g ih=>intro d h;apply#[d.1,ih () d.2 h]
 |alloc o g ih=>intro d h a;apply ih a (d a) h
 |stack g ih=>intro d h l;apply ih l (d l) h
 |loadIfAlive=>intro d;apply d.elim
 |point=>intro d;apply d.elim
 |register=>intro d;apply d.elim
 |fresh=>intro d;apply d.elim
 |ask=>intro d;apply d.elim
 |choose=>intro d;apply d.elim
 |os=>intro d;apply d.elim
 |call=>intro d;apply d.elim
 |handled=>intro d;apply d.elim
 |newGen=>intro d;apply d.elim
 |genState=>intro d;apply d.elim
 |resume=>intro d;apply d.elim
 |yield=>intro d;apply d.elim
 |fork=>intro d;apply d.elim
 |thread=>intro d;apply d.elim
 |await=>intro d;apply d.elim
def EX(a:Addr):DK (load a):=λ_=>trivial
def Wg(v:Value):DK (fieldsOf v):=by
 unfold fieldsOf
 split
 .refine(EX _).bind λo=>?_
  split<;>trivial
 .trivial
def Bw(v:Value)(i:Nat):DK (field v i):=by
 unfold field;refine(Wg v).bind λo=>?_
 split<;>trivial
def K0(v:Value)(i:Nat)(x:Value)(hi:i≠2):DK (setField v i x):=by
 unfold setField
 split
 .unfold updateField;refine(EX _).bind λo=>?_
  split
  .split
   .refine#[λo=>?_,trivial];let#[c,d,dt,sl]:=o;cases dt with
    |fields vs=>apply#[rfl,by show(vs.setIfInBounds i x)[2]? = vs[2]?;rw[Array.getElem?_setIfInBounds_ne hi]]
    |_=>apply#[rfl,rfl]
   .trivial
  .trivial
 .trivial
def Kz(e:Value)(f:Option Addr):DK (setFlight e f):=by
 unfold setFlight;refine(Bw e 1).bind λtb=>?_
 split
 .exact K0 _ _ _ (by decide)
 .trivial
def ah7(env:Env)(outer:List Env):DK (behindIsImport env outer):=by
 unfold behindIsImport
 split
 .trivial
 .split
  .trivial
  .exact(Bw _ _).bind λ_=>trivial
def ajP:DK underTheClaimsCaller:=λ_=>trivial
def aal(env:Env)(i:Bool)(l:List Env):DK (keptBack env i l):=by
 unfold keptBack
 split
 .split
  .trivial
  .exact ajP.bind λ_=>trivial
 .trivial
theorem PK:∀l:List Env,DK (readyFrames l)
 |[]=>trivial
 |env::outer=>by
  unfold readyFrames
  split
  .refine(EX _).bind λo=>?_
   split
   .trivial
   .refine(ah7 _ _).bind λ_=>(aal _ _ _).bind λ_=>?_
    apply#[λ_=>#[rfl,rfl],PK outer]
  .trivial
def Xh(env:Env):DK (PySem.frameOf env):=by
 unfold PySem.frameOf;refine DK.bind (λ_=>trivial) λl=>?_
 refine DK.bind ?_ λr=>?_
 .unfold frameObject
  split
  .trivial
  .exact(PK _).bind λ_=>trivial
 .split<;>trivial
def XE(f:Addr)(b:Bool):DK (entryPlaceOf f b):=by
 unfold entryPlaceOf;refine DK.bind (λ_=>trivial) λl=>?_
 split<;>trivial
def ZN(a b c d e:Value)(pl:List Value):DK (EntryCells.newEntry a b c d e pl):=by
 unfold EntryCells.newEntry newFields newObj;dsimp only
 split<;>split<;>first|trivial|exact λ_=>trivial
def Us(e:Value)(env:Env):DK (noteFrame e env):=by
 unfold noteFrame
 split
 .refine(Bw e 1).bind λhead=>?_
  have rest:∀f:Addr,DK (do setField e 1 (<- EntryCells.newEntry head (<- PySem.frameOf env) .none (rawInt f) .none (<- entryPlaceOf f (head != .none)))):=λf=>(Xh env).bind λ_=>(XE _ _).bind λ_=>(ZN _ _ _ _ _ _).bind λ_=>K0 _ _ _ (by decide)
  split
  .refine(Bw head 3).bind λx=>?_
   split
   .trivial
   .exact(K0 _ _ _ (by decide)).bind λ_=>rest _
  .exact rest _
 .trivial
def Iu(env:Env)(e:Value):DK (leaving env e):=(Us e env).bind λ_=>Kz e none
def cY.tracked(x:cY P w H h)(k:∀b u o,H b=some o->h.get? b=some u->h'.get? b=some u):cY P w H h':=λa o e=>
 (x a o e).gH (λb u hb q=>hb.elim (λz=>k b u o (by rw[z];apply e) q) λz=>k b u _ z q) (λ_ z=>z) λ_ _ z=>z
def cY.alive(x:cY P w H h)(e:H a=some o):∃u,h.get? a=some u:=by
 have q:=x a o e;cases o with
 |lst xs=>let#[_,_,_,_,e]:=q;apply#[_,e]
 |tup xs=>let#[_,_,_,ob,e,_]:=q;apply#[_,e]
 |dK ak=>let#[_,_,_,_,ob,_,_,e,_]:=q;apply#[_,e]
 |dT ak=>let#[_,_,_,_,ob,_,_,e,_]:=q;apply#[_,e]
 |set S n=>let#[ob,_,_,_,e,_]:=q;apply#[_,e]
 |ins C dx fs=>let#[_,_,_,e,_]:=q;apply#[_,e]
 |own y=>apply q
 |xd fs=>let#[_,#[_,_,_,e,_],_]:=q;apply#[_,e]
 |dH lo hi=>let#[_,_,_,e]:=q;apply#[_,e]
 |cC ob u=>apply#[_,q.1]
 |qH ps=>apply#[_,(show h.get? a=some _ from q)]
 |iV _ _=>let#[_,e,_]:=q;apply#[_,e]
 |jv _=>let#[_,_,_,_,e,g,_]:=q;ext e;apply#[_,g]
 |met f y=>apply#[_,(show h.get? a=some _ from q)]
 |ext φ=>apply q.2.1
def acs(h:Heap)(H:Hp)(nw:Addr->Prop)(e:Addr):Option Addr->Prop
 |none=>True
 |some n=>∃oe dx t,h.get? e=some oe/\oe.dict=some dx/\h.Ns1 dx (Jt n t)/\H dx=none/\nw dx
def lu(h:Heap)(H:Hp)(nw:Addr->Prop)(e:Addr)(aR:Option Addr):Prop:=(∃oe,h.get? e=some oe/\nJ oe=some .none)/\acs h H nw e aR
def lu.keep(x:lu h H nw e aR)(kd:Kd h h')(he:∃o,h'.get? e=some o)(st:∀b o,h.get? b=some o->(∀vs,o.data≠.fields vs)->∃sl,h'.get? b=some { o with slots:=sl })(hn:∀a,nw a->EG a):lu h' H EG e aR:=by
 let#[#[o0,g1,g2],x]:=x;let#[Iq,he]:=he;refine#[#[Iq,he,(kd.at g1 he).2.trans g2],?_];cases aR with
 |none=>trivial
 |some n=>
  let#[oe,dx,t,h1,h2,#[o,es,ep,q1,q2,q3],h4,h5]:=x;let#[sl,q4]:=st dx o q1 λvs z=>by rw[q2] at z;ext z
  apply#[Iq,dx,t,he,(kd.at h1 he).1.trans h2,#[_,es,ep,q4,q2,q3],h4,hn dx h5]
def lu.imp(x:lu h H nw e aR)(hn:∀a,nw a->EG a):lu h H EG e aR:=by
 let#[g,x]:=x;refine#[g,?_];cases aR with
 |none=>trivial
 |some n=>
  let#[oe,dx,t,h1,h2,h3,h4,h5]:=x;apply#[oe,dx,t,h1,h2,h3,h4,hn dx h5]
structure Ms(h:Heap)(H:Hp)(h0:Heap)(e:Addr)(cls:Value)(aR:Option Addr):Prop where
 py:lu h H (λa=>h0.get? a=none) e aR
 nw:h0.get? e=none
 fr:H e=none
 ob:∃oe vs a0 T oT ts,h.get? e=some oe/\oe.cls=cls/\vs[0]? = some a0/\oe.data=.fields vs/\vs[1]? = some (.ref T)/\T≠e/\h0.get? T=none/\H T=none/\h.get? T=some oT/\oT.data=.fields ts/\ts[3]? = some .none
structure Rg(h:Heap)(H:Hp)(h0:Heap)(e:Addr)(cls:Value)(aR:Option Addr):Prop where
 py:lu h H (λa=>h0.get? a=none) e aR
 nw:h0.get? e=none
 fr:H e=none
 ob:∃oe vs a0,h.get? e=some oe/\oe.cls=cls/\vs[0]? = some a0/\oe.data=.fields vs/\vs[1]? = some .none
structure abh(h:Heap)(H:Hp)(h0:Heap)(L e:Addr)(cls:Value)(aR:Option Addr):Prop where
 py:lu h H (λa=>h0.get? a=none) e aR
 nw:h0.get? e=none
 fr:H e=none
 ob:∃oe vs a0 T oT ts,h.get? e=some oe/\oe.cls=cls/\vs[0]? = some a0/\oe.data=.fields vs/\vs[1]? = some (.ref T)/\T≠e/\h0.get? T=none/\H T=none/\h.get? T=some oT/\oT.data=.fields ts/\ts[3]? = some (rawInt L)
def Te(h:Heap)(H:Hp)(h0:Heap)(L e:Addr)(cls:Value)(aR:Option Addr):Prop:=Rg h H h0 e cls aR\/Ms h H h0 e cls aR\/abh h H h0 L e cls aR
def gY(P:Program)(w:World):sO:=λouter H s E e s'=>∃a H' cls aR,e=.ref a/\s'.os=s.os/\AllBare s'.gens/\Un (bg outer) [] H H' s.heap s'.heap/\cY P w H' s'.heap/\Ms s'.heap H' s.heap a cls aR/\E cls aR H'
def Un.dead(u:Un fs [] H H' h h')(n:h'.get? a=none):h.get? a=none:=by
 cases q:h.get? a with
 |none=>rfl
 |some o=>
  let#[o',e]:=u.there a o q (by simp);rw[n] at e;ext e
def Vn{K:Fr}
  (I:Inv (fU (gY P w) P w K mg base N qual scope f cd A outer s0 H0 E) af U H s) (fl:Te s.heap H s0.heap (fU (gY P w) P w K mg base N qual scope f cd A outer s0 H0 E).env.locals e cls aR) (hE:E cls aR H) :
  (fU (gY P w) P w K mg base N qual scope f cd A outer s0 H0 E).xe (.ref e) s:=by
 generalize hX:fU (gY P w) P w K mg base N qual scope f cd A outer s0 H0 E=X at I fl ⊢;have Xq:X.xe=λe s'=>wpAny (model P w) X.A (leaving X.env e) (λ_ ig=>gY P w outer H0 s0 E e ig) (λe' ig=>gY P w outer H0 s0 E e' ig) s':=by rw[<- hX];rfl
 have dG:X.stack=X.env::outer:=by rw[<- hX];rfl
 have pU:X.A.frames=some (X.env::outer):=by rw[<- dG];apply I.ok.frames
 have hf:X.env.frame=some X.env.locals:=by rw[<- hX];rfl
 have hl:=I.stack;rw[dG] at hl;have u:Un (bg outer) [] H0 H s0.heap s.heap:=by
  have:=I.base;rw[<- hX] at this;apply this
 have o7:s.os=s0.os:=by
  have:=I.os;rw[<- hX] at this;apply this
 have aG:cY P w H s.heap:=by
  have:=I.aG;rw[<- hX] at this;apply this
 have free:=I.vq;rw[dG] at free;have lf:∀b,b∈bg (X.env::outer)->(∃o,s.heap.get? b=some o/\∀vs,o.data≠.fields vs):=λb m=>(hl.mem m).2
 have D7:=fl.elim (·.nw) λz=>z.elim (·.nw) (·.nw)
 have DO:=fl.elim (·.fr) λz=>z.elim (·.fr) (·.fr)
 have fpy:=fl.elim (·.py) λz=>z.elim (·.py) (·.py)
 rw[Xq];dsimp only;have fin:∀(xs) (h'),(∀x∈xs,s0.heap.get? x=none/\H x=none)->(∃a0,Heap.LeftW (PySem.W.hideAll s.heap (bg (X.env::outer)++xs)) (X.env::outer) e cls a0 s.heap h')->e∈xs->Kd s.heap h'->gY P w outer H0 s0 E (.ref e) { s with heap:=h' }:=λxs h' jM hL JZ kd=>by
  let#[a0,k1,k2,k3,k4]:=hL;have gH:∀b o,s.heap.get? b=some o->b∉bg (X.env::outer)->b∉xs->h'.get? b=some o:=λb o q n1 n2=>k1 b o (PySem.W.hideAll_get _ q λm=>(abH.mp m).elim n1 n2)
  have nx:∀b o,s0.heap.get? b=some o->b∉xs:=λb o q m=>by rw[(jM b m).1] at q;ext q
  have ag8:∀b o,s0.heap.get? b=some o->b≠X.env.locals:=λb o q z=>by
   have h1:=I.ok.above;have h2:X.cQ=s0:=by rw[<- hX];rfl
   rw[h2,<- z] at h1;apply absurd (abG q) (Nat.not_lt.mpr h1)
  have nfr:∀b o,s0.heap.get? b=some o->b∉bg outer->b∉bg (X.env::outer):=λb o q n m=>by
   have m:b∈(X.env::outer).filterMap (·.frame):=m;rw[adZ,hf] at m;apply(aaO.mp m).elim (ag8 b o q) n
  have sub:∀b,b∈bg outer->b∈bg (X.env::outer):=λb m=>by
   show b∈(X.env::outer).filterMap (·.frame);rw[adZ,hf];apply aar _ m
  refine#[e,H,cls,aR,rfl,o7,I.bare,#[λb o q n nf _=>?_,λb o q n m _=>?_,u.free,λb o q _=>?_,u.jy,u.i9,u.jT],aG.tracked λb v o hb q=>?_,#[fpy.keep kd (by let#[oe,vs,T,oT,ts,r1,_]:=k3;apply#[oe,r1]) k4 λ_ z=>z,D7,DO,?_],hE]
  .exact gH b o (u.keep b o q n nf (by simp)) (nfr b o q nf) (nx b o q)
  .let#[sl,q2]:=u.slot b o q n m (by simp);let#[o2,q3,q4]:=lf b (sub b m);rw[q2] at q3;ext q3;let#[qE,q5]:=k4 b _ q2 q4;apply#[qE,q5]
  .let#[o',q2]:=u.there b o q (by simp)
   by_cases m:b∈bg (X.env::outer)
   .let#[o2,q3,q4]:=lf b m;rw[q2] at q3;ext q3;let#[qE,q5]:=k4 b _ q2 q4;apply#[_,q5]
   .exact#[o',gH b o' q2 m (nx b o q)]
  .refine gH b v q (λm=>?_) λm=>?_
   .rw[free b m] at hb;ext hb
   .rw[(jM b m).2] at hb;ext hb
  .let#[oe,vs,T,oT,ts,r1,#[r2,r0],r3,r4,r5,r6,r7,r8,r9]:=k3;refine#[oe,vs,a0,T,oT,ts,r1,r2,r0,r3,r4,r6,?_,?_,r7,r8,r9]
   .cases q:s0.heap.get? T with
    |none=>rfl
    |some o=>
     exfalso
     let#[o',q2]:=u.there T o q (by simp)
     by_cases m:T∈bg (X.env::outer)
     .let#[o2,q3,q4]:=(k2.mem m).2;rw[r7] at q3;ext q3;apply q4 ts r8
     .have:=PySem.W.hideAll_get (bg (X.env::outer)++xs) q2 λz=>(abH.mp z).elim m (nx T o q)
      rw[r5] at this;ext this
   .cases q:H T with
    |none=>rfl
    |some o=>
     exfalso
     let#[v,q2]:=aG.alive q;have:=PySem.W.hideAll_get (bg (X.env::outer)++xs) q2 λz=>(abH.mp z).elim (λm=>by rw[free T m] at q;ext q) λm=>by rw[(jM T m).2] at q;ext q
     rw[r5] at this;ext this
 have hide:∀xs:List Addr,s.heap.FunFrames (PySem.W.hideAll s.heap (bg (X.env::outer)++xs)) (X.env::outer):=λxs=>PySem.W.funFrames_hide hl λAl he a ha=>abz _ (ag4.mpr #[Al,he,ha])
 rcases fl with fl|fl|fl
 .let#[oe,vs,a0,h1,h2,h0,h3,h5]:=fl.ob;refine adI (vK (Iu _ _) (wpAny_leaving_firstW (Q:=λ_ ig=>∃h',ig={ s with heap:=h' }/\Heap.LeftW (PySem.W.hideAll s.heap (bg (X.env::outer)++[e])) (X.env::outer) e oe.cls a0 s.heap h') (E:=λ_ _=>False) pU (hide _) hf h1 (λb o q=>PySem.W.of_hideAll _ q) (PySem.W.hideAll_none _ (by simp)) h3 h5 h0 λh' hL=>#[h',rfl,hL])) (λ_ ig #[#[h',eh,hL],kd]=>?_) λ_ _ z=>z.1.elim
  subst eh;rw[h2] at hL;apply fin [e] h' (λx m=>by rw[aa6.mp m];apply#[D7,DO]) #[a0,hL] (by simp) kd
 .let#[oe,vs,a0,T,oT,ts,h1,h2,h0,h3,t1,t2,t3,t4,t5,t6,t7]:=fl.ob;refine adI (vK (Iu _ _) (wpAny_leaving_nextW (Q:=λ_ ig=>∃h',ig={ s with heap:=h' }/\Heap.LeftW (PySem.W.hideAll s.heap (bg (X.env::outer)++[e,T])) (X.env::outer) e cls a0 s.heap h') (E:=λ_ _=>False) pU (hide _) hf #[oe,vs,T,oT,ts,h1,#[h2,h0],h3,t1,PySem.W.hideAll_none _ (by simp),t2,t5,t6,t7] (λb o q=>PySem.W.of_hideAll _ q) (PySem.W.hideAll_none _ (by simp)) λh' hL=>#[h',rfl,hL])) (λ_ ig #[#[h',eh,hL],kd]=>?_) λ_ _ z=>z.1.elim
  subst eh;refine fin [e,T] h' (λx m=>?_) #[a0,hL] (by simp) kd;rcases aaO.mp m with z|z
  .rw[z];apply#[D7,DO]
  .rw[aa6.mp z];apply#[t3,t4]
 .let#[oe,vs,a0,T,oT,ts,h1,h2,h0,h3,t1,t2,t3,t4,t5,t6,t7]:=fl.ob;have aq:Heap.HeldW (PySem.W.hideAll s.heap (bg (X.env::outer)++[e,T])) (X.env::outer) e cls a0 X.env.locals s.heap:=#[λb o q=>PySem.W.of_hideAll _ q,PySem.W.hideAll_none _ (by simp),hide _,oe,vs,T,oT,ts,h1,#[h2,h0],h3,t1,PySem.W.hideAll_none _ (by simp),t2,t5,t6,t7]
  have key:wpAny (model P w) X.A (leaving X.env (.ref e)) (λ_ ig=>∃h',ig={ s with heap:=h' }/\Heap.LeftW (PySem.W.hideAll s.heap (bg (X.env::outer)++[e,T])) (X.env::outer) e cls a0 s.heap h') (λ_ _=>False) s:=by
   unfold leaving;refine aaq (wpAny_noteFrame_againW hf aq.2.2.2 ?_);refine wpAny_landsW aq ?_
   rintro h' ⟨k1,k2,k3,k4⟩ up
   apply#[h',rfl,k1,k3,k4,up]
  refine adI (vK (Iu _ _) key) (?_) λ_ _ z=>z.1.elim
  rintro _ ig ⟨⟨h',eh,hL⟩,kd⟩
  subst eh;refine fin [e,T] h' (λx m=>?_) #[a0,hL] (by simp) kd;rcases aaO.mp m with z|z
  .rw[z];apply#[D7,DO]
  .rw[aa6.mp z];apply#[t3,t4]
abbrev XS:=Value->Option Addr->St->Hp->Prop
def KQ(X:Cx)(E:XS):Prop:=∀(af) (U) (H) (s) (e) (cls) (aR),Inv X af U H s->Rg s.heap H X.cQ.heap e cls aR->E cls aR U H->X.xe (.ref e) s
def YA{K:Fr}:
  KQ (fU (gY P w) P w K mg base N qual scope f cd A outer s0 H0 E) (λcls aR _ H=>E cls aR H):=λaf U H s e cls aR I fl hE=>Vn I (.inl fl) hE
inductive vg(K:Fr)(C N:Addr)(bm:List Value)(newId:String):Prop
 |mk:K.lookup C=some (excClassObj nm q C N bs bm hdct sn sub ab col dd k0 k1 k2 k3 k5 newId)->vg K C N bm newId
structure Dm(K:Fr)(C:Addr):Prop where
 ex:∃B newId UG Hj bm N,ExcBaseFacts B newId UG Hj/\vg K C N bm newId/\PySem.W.nsOkIn K N=true/\PySem.W.nsIn K N "__init__"=some none/\PySem.W.tailIn K Hj bm=true
def agp(C:Addr)(E:XS)(t:TA):TS:=λ_ U H=>t U H λvs H1=>vs.length<=sizeLine/\E (.ref C) none U H1
def abo(hc:X.calm=true)(hx:X.ex=[])(th:KQ X E)(cl:Dm X.K C)(hg:Gl X x)(hm:X.mg x=some (.ref C))(ha:PA X (e::es) t)(gI:(x==("__debug__":Str))=false:=by decide)
  (he:starEach (e::es) X.env=(false,eval e X.env)::starEach es X.env:=by rfl) (hpl:(backTo fH (starEach es X.env)).any (·.1)=false:=by rfl) :
  PS X (.Raise (some (.Call (.Name x np) (e::es) [] fH)) none pos) (agp C E t):=by
 intro af s U H D I h;obtain⟨B,newId,UG,Hj,bm,N,FB,@⟨nm,q,bs,hdct,sn,sub,ab,col,dd,k0,k1,k2,k3,k5,hl⟩,n1,n2,n3⟩:=cl.ex;have hh:=I.ok.hd hc;have KI:=I.ok.mod.qG;have hC:=KI _ _ hl;have hN:=Heap.Ns.of_isNs (PySem.W.isNs_of_in KI n1);have Zf:=PySem.W.nsMap_none_of_in KI n1 n2;have T:=PySem.W.tail_of_in KI n3;refine wpAny_Raise_call_subT (nm:=nm) (q:=q) (N:=N) (bs:=bs) (hdct:=hdct) (sn:=sn) (sub:=sub) (ab:=ab) (col:=col) (dd:=dd) (k0:=k0) (k1:=k1) (k2:=k2) (k3:=k3) (k5:=k5) FB (T.hasType FB.hasBase) hh (by rw[he];show(false||(backTo fH (starEach es X.env)).any (·.1))=false;rw[hpl];rfl) Zf (rV I hg hm #[rfl,?_] gI);have key:=ha fH af s U H _ I h;rw[he] at key ⊢;refine Calls.evalArgs_plain (adI key (λus s1 hq=>?_) λ_ _ y=>y);let#[vs,H1,I1,r,hz,q1]:=hq;refine#[rfl,by rw[<- r.length];apply hz,I1.bk _ _ hC,hN.keeps I1.bk,T.keeps I1.bk,λh' e' pN=>?_];have I2:Inv X af U H1 { s1 with heap:=h' }:=I1.kept pN.keeps;refine th af U H1 _ e' (.ref C) none I2 #[#[?_,trivial],?_,?_,?_] q1
 .let#[tp,z,_,_]:=pN.there;apply#[_,z,rfl]
 .have u:=I1.base;rw[hx] at u;apply u.dead pN.new
 .cases qq:H1 e' with
  |none=>rfl
  |some o=>
   let#[v,z]:=I1.aG.alive qq;rw[pN.new] at z;ext z
 .let#[tp,z,_,_]:=pN.there;apply#[_,_,_,z,rfl,rfl,rfl,rfl]
theorem Inv.slots(I:Inv X af U H s)(xs:List Addr)(gH:∀b o,s.heap.get? b=some o->b∉bg X.stack->b∉xs->h'.get? b=some o)(slot:∀b o,s.heap.get? b=some o->b∈bg X.stack->∃sl,h'.get? b=some { o with slots:=sl })
  (jM:∀x∈xs,X.cQ.heap.get? x=none/\H x=none/\x≠X.env.locals/\(∀y c,X.env.cells.lookup y=some c->c≠x)/\∀p∈X.pn++af,p.1≠x):Inv X af U H { s with heap:=h' }:=by
 have any:∀b o,s.heap.get? b=some o->b∉xs->∃sl,h'.get? b=some { o with slots:=sl }:=λb o q n=>by
  by_cases m:b∈bg X.stack
  .exact slot b o q m
  .exact#[o.slots,gH b o q m n]
 have out:∀b,b≠X.env.locals->b∉X.fs->b∉bg X.stack:=λb n1 n2 m=>(aaO.mp (I.Bh b m)).elim n1 n2
 have BS:∀b o,X.cQ.heap.get? b=some o->b≠X.env.locals:=λb o e=>acO (acS (abG e) I.ok.above)
 have J4:∀b o,X.cQ.heap.get? b=some o->b∉xs:=λb o e m=>by rw[(jM b m).1] at e;ext e
 have cellK:∀x c,X.env.cells.lookup x=some c->∀v,s.heap.IsCell c v->h'.IsCell c v:=λx c e v #[o,ho,hd]=>by
  let#[sl,q]:=any c o ho λz=>(jM c z).2.2.2.1 x c e rfl
  apply#[_,q,hd]
 refine#[I.ok,I.os,I.bare,#[λb o e n hb hx=>?_,λb o e n hb hx=>?_,I.base.free,λb o e hx=>?_,I.base.jy,I.base.i9,I.base.jT],?_,λx c e=>?_,I.free,I.g_,λp hp=>?_,I.aG.tracked λb v o hb q=>?_,I.len,I.hq]
 .exact gH b o (I.base.keep b o e n hb hx) (out b (BS b o e) hb) (J4 b o e)
 .let#[sl,e1]:=I.base.slot b o e n hb hx;let#[qE,e2]:=any b _ e1 (J4 b o e);apply#[qE,e2]
 .let#[o',e1]:=I.base.there b o e hx;let#[sl,e2]:=any b o' e1 (J4 b o e);apply#[_,e2]
 .let#[m,#[o,es,ep,ho,r],hl]:=I.loc;let#[sl,hL]:=any _ o ho λz=>(jM _ z).2.2.1 rfl
  refine#[m,#[_,es,ep,hL,r],λi x v e1 e2 e3=>?_];let#[u,rr,l]:=hl i x v e1 e2 e3;refine#[u,rr,?_];rcases l with l|⟨k,c,e,z⟩
  .exact .inl l
  .exact .inr #[k,c,e,cellK x c e _ z]
 .let#[v,z]:=I.cell x c e;apply#[v,cellK x c e v z]
 .let#[e,n,ne,nf,d]:=I.pin p hp;apply#[gH p.1 p.2 e (out p.1 ne nf) λz=>(jM p.1 z).2.2.2.2 p hp rfl,n,ne,nf,d]
 .refine gH b v q (λm=>?_) λm=>?_
  .rw[I.vq b m] at hb;ext hb
  .rw[(jM b m).2.1] at hb;ext hb
def Inv.apart(I:Inv X af U H s)(hx:X.ex=[])(n:s.heap.get? x=none):X.cQ.heap.get? x=none/\x≠X.env.locals/\(∀y c,X.env.cells.lookup y=some c->c≠x)/\∀p∈X.pn++af,p.1≠x:=by
 refine#[?_,λz=>?_,λy c e z=>?_,λp hp z=>?_]
 .have u:=I.base;rw[hx] at u;apply u.dead n
 .let#[m,#[o,_,_,ho,_],_]:=I.loc;rw[<- z,n] at ho;ext ho
 .let#[v,o,ho,_]:=I.cell y c e;rw[z,n] at ho;ext ho
 .have:=(I.pin p hp).1;rw[z,n] at this;ext this
abbrev Apart(X:Cx)(af:List (Addr×Obj))(a:Addr):Prop:=X.cQ.heap.get? a=none/\a≠X.env.locals/\(∀y c,X.env.cells.lookup y=some c->c≠a)/\∀p∈X.pn++af,p.1≠a
structure gJ(X:Cx)(af:List (Addr×Obj))(U:St)(H:Hp)(e:Addr)(cls:Value)(aR:Option Addr)(s:Shared):Prop where
 py:lu s.heap H (Apart X af) e aR
 inv:Inv X af U H s
 fr:H e=none
 ap:X.cQ.heap.get? e=none/\e≠X.env.locals/\(∀y c,X.env.cells.lookup y=some c->c≠e)/\∀p∈X.pn++af,p.1≠e
 ob:∃oe vs a0 T oT ts,s.heap.get? e=some oe/\oe.cls=cls/\vs[0]? = some a0/\oe.data=.fields vs/\vs[1]? = some (.ref T)/\T≠e/\H T=none/\(X.cQ.heap.get? T=none/\T≠X.env.locals/\(∀y c,X.env.cells.lookup y=some c->c≠T)/\∀p∈X.pn++af,p.1≠T)/\s.heap.get? T=some oT/\oT.data=.fields ts/\(ts[3]? = some .none\/ts[3]? = some (rawInt X.env.locals))
def landAt(I:Inv X af U H s)(hx:X.ex=[])(fr:H e=none)(ap:X.cQ.heap.get? e=none/\e≠X.env.locals/\(∀y c,X.env.cells.lookup y=some c->c≠e)/\∀p∈X.pn++af,p.1≠e)(JZ:e∈xs)
  (jM:∀x∈xs,H x=none/\X.cQ.heap.get? x=none/\x≠X.env.locals/\(∀y c,X.env.cells.lookup y=some c->c≠x)/\∀p∈X.pn++af,p.1≠x)
  (k1:(PySem.W.hideAll s.heap (bg X.stack++xs)).StaysIn h') (k3:h'.FunFrames (PySem.W.hideAll s.heap (bg X.stack++xs)) X.stack) (tr:h'.TracedAtW (PySem.W.hideAll s.heap (bg X.stack++xs)) e cls a0 fl) (Y3:fl=.none\/fl=rawInt X.env.locals) (up:s.heap.UpToSlots h') (py:lu s.heap H (Apart X af) e aR) (kd:Kd s.heap h'):gJ X af U H e cls aR { s with heap:=h' }:=by
 let#[oe,vs,T,oT,ts,r1,#[r2,r0],r3,r4,r5,r6,r7,r8,r9]:=tr;have gH:∀b o,s.heap.get? b=some o->b∉bg X.stack->b∉xs->h'.get? b=some o:=λb o q n1 n2=>k1 b o (PySem.W.hideAll_get _ q λm=>(abH.mp m).elim n1 n2)
 have slot:∀b o,s.heap.get? b=some o->b∈bg X.stack->∃sl,h'.get? b=some { o with slots:=sl }:=λb o q m=>by
  let#[_,o2,q3,q4]:=I.stack.mem m;rw[q] at q3;ext q3;apply up b o q q4
 have J:=I.slots xs gH slot λx m=>let#[a,b,c]:=jM x m;#[b,a,c]
 have tH:H T=none:=by
  cases q:H T with
  |none=>rfl
  |some o=>
   exfalso
   let#[v,q2]:=I.aG.alive q;have:=PySem.W.hideAll_get (bg X.stack++xs) q2 λz=>(abH.mp z).elim (λm=>by rw[I.vq T m] at q;ext q) λm=>by rw[(jM T m).1] at q;ext q
   rw[r5] at this;ext this
 have tF:T∉bg X.stack:=λm=>by
  let#[_,o2,q3,q4]:=k3.mem m;rw[r7] at q3;ext q3;apply q4 ts r8
 have tA:X.cQ.heap.get? T=none/\T≠X.env.locals/\(∀y c,X.env.cells.lookup y=some c->c≠T)/\∀p∈X.pn++af,p.1≠T:=by
  by_cases m:T∈xs
  .exact(jM T m).2
  .have dead:s.heap.get? T=none:=by
    cases q:s.heap.get? T with
    |none=>rfl
    |some o=>
     have:=PySem.W.hideAll_get (bg X.stack++xs) q λz=>(abH.mp z).elim tF m
     rw[r5] at this;ext this
   refine#[?_,λz=>?_,λy c e z=>?_,λp hp z=>?_]
   .cases q:X.cQ.heap.get? T with
    |none=>rfl
    |some o=>
     exfalso
     let#[o',q2]:=I.base.there T o q (by rw[hx];simp);rw[dead] at q2;ext q2
   .let#[m,#[o,_,_,ho,_],_]:=I.loc;rw[<- z,dead] at ho;ext ho
   .let#[v,o,ho,_]:=I.cell y c e;rw[z,dead] at ho;ext ho
   .have:=(I.pin p hp).1;rw[z,dead] at this;ext this
 apply#[py.keep kd #[oe,r1] up λ_ z=>z,J,fr,ap,oe,vs,a0,T,oT,ts,r1,r2,r0,r3,r4,r6,tH,tA,r7,r8,Y3.elim (λz=>.inl (z ▸ r9)) λz=>.inr (z ▸ r9)]
def land(I:Inv X af U H s)(hx:X.ex=[])(fr:H e=none)(ap:Apart X af e)(JZ:e∈xs)(jM:∀x∈xs,H x=none/\Apart X af x)
  (fl:Heap.FlyingW (PySem.W.hideAll s.heap (bg X.stack++xs)) X.stack e cls a0 h') (up:s.heap.UpToSlots h') (py:lu s.heap H (Apart X af) e aR) (kd:Kd s.heap h'):gJ X af U H e cls aR { s with heap:=h' }:=
 landAt I hx fr ap JZ jM fl.1 fl.2.2.1 fl.2.2.2 (.inl rfl) up py kd
def gJ.agL{R:Shared->Prop}(L:gJ X af U H e cls aR s)(hx:X.ex=[])(dG:X.stack=X.env::X.outer)(hf:X.env.frame=some X.env.locals)(k:∀s3,gJ X af U H e cls aR s3->R s3):
  wpAny M X.A (noteFrame (.ref e) X.env) (λ_ s2=>wpAny M X.A (setFlight (.ref e) none) (λ_ s3=>R s3) E' s2) E' s:=by
 let#[oe,vs,a0,T,oT,ts,h1,h2,h0,h3,t1,t2,tH,tA,t5,t6,t7]:=L.ob;have I:=L.inv;have pU:X.A.frames=some (X.env::X.outer):=by rw[<- dG];apply I.ok.frames
 have hF:=PySem.W.funFrames_hide (as:=bg X.stack++[e,T]) I.stack λAl he a ha=>abz _ (ag4.mpr #[Al,he,ha])
 have fin:∀h4,Heap.HeldW (PySem.W.hideAll s.heap (bg X.stack++[e,T])) (X.env::X.outer) e cls a0 X.env.locals h4->s.heap.UpToSlots h4->Kd s.heap h4->wpAny M X.A (setFlight (.ref e) none) (λ_ s3=>R s3) E' { s with heap:=h4 }:=λh4 aq zL Hy=>by
  refine adI (vK (Kz _ _) (wpAny_landsW (Q:=λ_ s5=>∃h5,s5={ s with heap:=h5 }/\Heap.FlyingW (PySem.W.hideAll s.heap (bg X.stack++[e,T])) (X.env::X.outer) e cls a0 h5/\h4.UpToSlots h5) (E:=λ_ _=>False) aq λh5 Bb KP=>#[h5,rfl,Bb,KP])) (λ_ s5 #[#[h5,e5,Bb,KP],VR]=>?_) λ_ _ z=>z.1.elim
  subst e5;refine k _ (show gJ X af U H e cls aR { s with heap:=h5 } from land (a0:=a0) (xs:=[e,T]) I hx L.fr L.ap (by simp) (λx m=>?_) ?_ (zL.trans KP) L.py (Hy.trans VR))
  .rcases aaO.mp m with z|z
   .rw[z];apply#[L.fr,L.ap]
   .rw[aa6.mp z];apply#[tH,tA]
  .rw[<- dG] at Bb;apply Bb
 rcases t7 with t7|t7
 .have F:Heap.FlyingW (PySem.W.hideAll s.heap (bg X.stack++[e,T])) (X.env::X.outer) e cls a0 s.heap:=by
   rw[<- dG];apply#[λb o q=>PySem.W.of_hideAll _ q,PySem.W.hideAll_none _ (by simp),hF,oe,vs,T,oT,ts,h1,#[h2,h0],h3,t1,PySem.W.hideAll_none _ (by simp),t2,t5,t6,t7]
  refine adI (vK (Us _ _) (wpAny_looks_onW (Q:=λ_ s4=>∃h4,s4={ s with heap:=h4 }/\Heap.HeldW (PySem.W.hideAll s.heap (bg X.stack++[e,T])) (X.env::X.outer) e cls a0 X.env.locals h4/\s.heap.UpToSlots h4) (E:=λ_ _=>False) pU hf F λh4 aq zL=>#[h4,rfl,aq,zL])) (λ_ s4 #[#[h4,e4,aq,zL],Hy]=>?_) λ_ _ z=>z.1.elim
  subst e4;apply fin h4 aq zL Hy
 .have F:Heap.HeldW (PySem.W.hideAll s.heap (bg X.stack++[e,T])) (X.env::X.outer) e cls a0 X.env.locals s.heap:=by
   rw[<- dG];apply#[λb o q=>PySem.W.of_hideAll _ q,PySem.W.hideAll_none _ (by simp),hF,oe,vs,T,oT,ts,h1,#[h2,h0],h3,t1,PySem.W.hideAll_none _ (by simp),t2,t5,t6,t7]
  apply wpAny_noteFrame_againW hf F.2.2.2 (fin s.heap F (λb o hb _=>#[o.slots,hb]) (Kd.refl _))
def gJ.fly(L:gJ X af U H e cls aR s):Te s.heap H X.cQ.heap X.env.locals e cls aR:=by
 let#[oe,vs,a0,T,oT,ts,h1,h2,h0,h3,t1,t2,tH,tA,t5,t6,t7]:=L.ob;rcases t7 with t7|t7
 .exact .inr (.inl #[L.py.imp λ_ z=>z.1,L.ap.1,L.fr,oe,vs,a0,T,oT,ts,h1,h2,h0,h3,t1,t2,tA.1,tH,t5,t6,t7])
 .exact .inr (.inr #[L.py.imp λ_ z=>z.1,L.ap.1,L.fr,oe,vs,a0,T,oT,ts,h1,h2,h0,h3,t1,t2,tA.1,tH,t5,t6,t7])
def qO(X:Cx)(E:XS):Prop:=∀(af) (U) (H) (s) (e) (cls) (aR),gJ X af U H e cls aR s->E cls aR U H->X.xe (.ref e) s
def WJ{K:Fr}:
  qO (fU (gY P w) P w K mg base N qual scope f cd A outer s0 H0 E) (λcls aR _ H=>E cls aR H):=λaf U H s e cls aR L hE=>Vn L.inv L.fly hE
def aiA{os:OsState}
  (hC:h.get? C=some (excClassObj nm q C N bs bm hdct sn sub ab col dd k0 k1 k2 k3 k5 newId)) (hD:h.get? D=some (excClassObj nm' q' D N' bs' uf akb sn' akg ab' aka uZ j0 j1 j2 j3 j5 ajZ)) (he:h.get? e=some oe) (yr:oe.cls=.ref C)
  (hb:uf.contains (.type "BaseException")=true) (hq:Q ((Value.ref C::bm).contains (.ref D)) #[h,g,d,t,os]):wpAny M A (excMatches (.ref e) (.ref D)) Q E #[h,g,d,t,os]:=by
 have hcB:(Value.ref D::uf).contains (.type "BaseException")=true:=by rw[List.contains_cons,hb,Bool.or_true]
 have f:=tc_notTuple;unfold excMatches
 repeat (first|(with_reducible refine wpAny_loadPart_at he ?_;rw[yr])|with_reducible refine wpAny_loadPart_at hD ?_|(with_reducible refine wpAny_isSubtype_exc hD ?_;rw[hcB])|(with_reducible refine wpAny_isSubtype_exc hC ?_)|wp_step)
 cases hz:(Value.ref C::bm).contains (.ref D)<;>(rw[hz] at hq;wp_walk;apply hq)
def gJ.again(L:gJ X af U H e cls aR s)(hx:X.ex=[])(k:∀s',gJ X af U H e cls aR s'->Q () s'):wpAny M A' (setFlight (.ref e) none) Q E' s:=by
 let#[oe,vs,a0,T,oT,ts,h1,h2,h0,h3,t1,t2,tH,tA,t5,t6,t7]:=L.ob;obtain⟨fl,t7⟩:∃fl,ts[3]? = some fl:=t7.elim (λz=>#[_,z]) λz=>#[_,z]
 have I:=L.inv;refine adI (vK (Kz _ _) (wpAny_setFlight_noneW (Q:=λ_ s'=>∃h',s'={ s with heap:=h' }/\(PySem.W.hideAll s.heap (bg X.stack++[e,T])).StaysIn h'/\h'.FunFrames (PySem.W.hideAll s.heap (bg X.stack++[e,T])) X.stack/\h'.TracedW (PySem.W.hideAll s.heap (bg X.stack++[e,T])) e cls a0/\(∀b o,s.heap.get? b=some o->(∀vs,o.data≠.fields vs)->h'.get? b=some o)) (E:=λ_ _=>False) (λb o q=>PySem.W.of_hideAll _ q)
  (PySem.W.funFrames_hide I.stack λAl he a ha=>abz _ (ag4.mpr #[Al,he,ha])) #[oe,vs,T,oT,ts,h1,#[h2,h0],h3,t1,PySem.W.hideAll_none _ (by simp),t2,t5,t6,t7] λh' k1 k2 k3 k4=>#[h',rfl,k1,k2,k3,k4])) (λ_ s' #[#[h',eh,k1,k2,k3,k4],kd]=>?_) λ_ _ z=>z.1.elim
 subst eh;refine k _ (land I hx L.fr L.ap (by simp) (λx m=>?_) #[k1,PySem.W.hideAll_none _ (by simp),k2,k3] (λb o q n=>#[o.slots,k4 b o q n]) L.py kd);rcases aaO.mp m with z|z
 .rw[z];apply#[L.fr,L.ap]
 .rw[aa6.mp z];apply#[tH,tA]
def Cc(X:Cx)(af:List (Addr×Obj))(U:St)(E:XK)(e:Value)(s':Shared):Prop:=∃a cls aR H',e=.ref a/\gJ X af U H' a cls aR s'/\E cls aR H'
abbrev TX:=St->Hp->VK->XK->Prop
def PX(X:Cx)(e:Expr)(t:TX):Prop:=
 ∀(af) (s) (U) (H) (Q) (E),Inv X af U H s->t U H Q E->w8 X X.A (eval e X.env) (EP X af U Q) (Cc X af U E) s
def Wh(I:Inv X af U H s)(hx:X.ex=[])(h:gY X.prog X.w X.stack H s E e s'):Cc X af U E e s':=by
 let#[a,H',cls,aR,rfl,os,bare,un,aG,fl,hE]:=h;have I':=I.Vb os un aG bare λb z=>absurd z (by simp)
 let#[oe,vs,a0,T,oT,ts,h1,h2,h0,h3,t1,t2,t3,t4,t5,t6,t7]:=fl.ob;apply#[a,cls,aR,H',rfl,#[fl.py.imp λ_ z=>I.apart hx z,I',fl.fr,I.apart hx fl.nw,oe,vs,a0,T,oT,ts,h1,h2,h0,h3,t1,t2,t4,I.apart hx t3,t5,t6,.inl t7],hE]
def R3(F:cg X.prog X.w X.K X.mg X.base (gY X.prog X.w) k f fd ps sp cm)(hr:aZ k X.A cm)(hb:Binds X.K fd ps ds)(hd:aS d7 ds)(hx:X.ex=[])
  (I:Inv X af U H s) (r:aS vs us) (h:sp (vs++d7) H Q E):w8 X X.A (call (.ref f) us) (EP X af U Q) (Cc X af U E) s:=by
 have r2:=r.append hd;have hl:(us++ds).length=ps.length:=by rw[<- r2.length];apply F.len _ _ _ _ h
 refine wpAny_call (codeAny_mono (F.run X.A X.stack s H #[us,[]] (us++ds) (vs++d7) Q E hr I.Ex (hb s us I.dQ hl) r2 h) λr s' hq=>?_);cases r with
 |error e=>apply Wh I hx hq
 |ok fl=>
  cases fl with
  |ret u=>apply I.after hq
  |next=>apply False.elim hq
  |brk=>apply False.elim hq
  |cont=>apply False.elim hq
def ahx(sp:Sp)(d7:List V)(t:TA):TX:=λU H Q E=>t U H λvs H1=>sp (vs++d7) H1 Q E
def V8(C:Addr)(m:Str)(sp:Sp)(d7:List V)(ta:TE)(t:TA):TX:=λU H Q E=>ta U H λx H1=>∃a dx fs,x=.ref a/\H1 a=some (.ins C dx fs)/\fs.lookup m=none/\
 t U H1 λvs H2=>sp (x::(vs++d7)) H2 Q E
def Qn(ha:PA X.eY es t)(I:Inv X af U H s)(h:t U H Q):
  w8 X X.A (spliced (backTo pos (starEach es X.env))) (AP X af U Q) E' s:=
 adI (ha pos af s U H Q (I.kK _) h) (λus s1 #[vs,H1,I1,q]=>#[vs,H1,I1.mH,q]) λ_ _ z=>False.elim z
def aiC(ha:PE X.eY o ta)(I:Inv X af U H s)(h:ta U H Q):
  w8 X X.A (eval o X.env) (EP X af U Q) E' s:=
 adI (ha af s U H Q (I.kK _) h) (λus s1 #[vs,H1,I1,q]=>#[vs,H1,I1.mH,q]) λ_ _ z=>False.elim z
def Xd(F:cg X.prog X.w X.K X.mg X.base (gY X.prog X.w) k f fd ps sp cm)(hr:aZ k X.A cm)(hx:X.ex=[])(hg:Gl X x)(hm:X.mg x=some (.ref f))(hk:PySem.W.keepIn X.K (.ref f)=true)(hb:Binds X.K fd ps ds)(hd:aS d7 ds)
  (ha:PA X.eY (e::es) t) (gI:(x==("__debug__":Str))=false:=by decide) (he:starEach (e::es) X.env=(false,eval e X.env)::starEach es X.env:=by rfl) (hpl:(backTo pos (starEach es X.env)).any (·.1)=false:=by rfl) :
  PX X (.Call (.Name x p) (e::es) [] pos) (ahx sp d7 t):=by
 intro af s U H Q E I h;refine afq (rV I hg hm ?_ gI);apply PySem.W.callWith_K I.ok.mod.qG hk (Ag (Qn ha I h) λus s1 vs H1 I1 r q=>#[I1.dQ,R3 F hr hb hd hx I1 r q]) he hpl
def aid(he:PE X.eY o ta)(c:j9 X.K C)(hm:kD X.K C m f)(F:cg X.prog X.w X.K X.mg X.base (gY X.prog X.w) k f fd ps sp cm)(hr:aZ k X.A cm)(hx:X.ex=[])(hb:Binds X.K fd ps ds)(hd:aS d7 ds)(ha:PA X.eY (e::es) t)
  (dG:starEach (e::es) X.env=(false,eval e X.env)::starEach es X.env:=by rfl) (hpl:(backTo pos (starEach es X.env)).any (·.1)=false:=by rfl)
  (ht:eval (.Call (.Attribute o m apos) (e::es) [] pos) X.env=(do
   let ov <- eval o X.env
   standAt apos.atName
   let(f,first) <- holding [ov] (getMethod ov m pl)
   callWith pos f first (backTo pos (starEach (e::es) X.env)) (backToKw pos (keywordEach [] X.env))):=by rfl) :
  PX X (.Call (.Attribute o m apos) (e::es) [] pos) (V8 C m sp d7 ta t):=by
 intro af s U H Q E I h;refine PySem.W.methodCall_KW (cL (aiC he I h) λu s1 hq=>?_) ht;let#[x,H1,I1,rx,a,dx,fs,ex,ea,l,q]:=hq;subst ex;obtain rfl:u=Value.ref a:=rx;refine KZ I1 ea c hm l ?_;apply PySem.W.callWith_K I.ok.mod.qG hm.kp (Ag (Qn ha I1 q) λus s2 vs H2 I2 r q2=>#[I2.dQ,R3 (vs:=.ref a::vs) F hr hb hd hx I2 (.cons rfl r) q2]) dG hpl
def Jc(th:qO X ES)(h:Cc X af U (λcls aR H=>ES cls aR U H) v s):X.xe v s:=by
 let#[a,cls,aR,H',rfl,L,q]:=h;apply th af U H' s a cls aR L q
def ahM(i:Nat)(ES:XS)(t:TX):TS:=λD U H=>t U H (λv H1=>D.nx (U.set i (some v)) H1) λcls aR H'=>ES cls aR U H'
def Sm(th:qO X ES)(hN:X.N.Nodup)(hi:X.N[i]? = some x)(hx:Loc X.env.scope x)(he:PX X e t)(hs:swapsWith e (some (.Name x pos')) pos.line X.env=pure false:=by rfl)(hf:j7 X x:=by first|exact .inl rfl|exact .inr rfl|assumption):
  PS X (.Assign [.Name x pos'] e pos) (ahM i ES t):=by
 intro af s U H D I h;refine wpAny_Assign_Name (adI (he af s U H _ _ I h) (?_) λ_ _ z=>Jc th z) hs
 rintro v s1 ⟨y,H1,I1,r1,q1⟩
 apply BH I1 hN hi hx r1 (λs2 I2=>#[_,H1,I2,q1]) hf
def ace(ES:XS)(t:TX):TS:=λD U H=>t U H (λ_ H1=>D.nx U H1) λcls aR H'=>ES cls aR U H'
def SJ(th:qO X ES)(he:PX X e t)(hs:swapsWith e none pos.line X.env=pure false:=by rfl):PS X (.Expr e pos) (ace ES t):=by
 intro af s U H D I h;refine wpAny_Expr_any (adI (he af s U H _ _ I h) (?_) λ_ _ z=>Jc th z) I.quiet hs
 rintro v s1 ⟨x,H1,I1,r1,q1⟩
 apply#[U,H1,I1,q1]
def ais(ES:XS)(t:TX):TS:=λD U H=>t U H D.rt λcls aR H'=>ES cls aR U H'
def Ox(th:qO X ES)(he:PX X e t):PS X (.Return (some e) pos) (ais ES t):=by
 intro af s U H D I h;refine wpAny_Return_some (adI (he af s U H _ _ I h) (?_) λ_ _ z=>Jc th z)
 rintro v s1 ⟨x,H1,I1,r1,q1⟩
 apply#[x,U,H1,I1,r1,q1]
abbrev Cx.lS(X:Cx)(af:List (Addr×Obj))(R:XS):Cx:={ X with pn:=X.pn++af,xe:=λe s'=>∃U H a cls aR,e=.ref a/\gJ X af U H a cls aR s'/\R cls aR U H }
section
variable{X:Cx}
def Cx.Ok.lS(ok:X.Ok):(X.lS af R).Ok:=
 #[ok.mod,ok.kind,ok.glob,ok.blt,ok.above,ok.inj,ok.has,ok.o6,ok.hd,ok.frames,ok.rA,ok.um,ok.bs,ok.jB,ok.pA,ok.oK,ok.ju,ok.mE]
def Cx.Ok.AR(ok:(X.lS af R).Ok):X.Ok:=
 #[ok.mod,ok.kind,ok.glob,ok.blt,ok.above,ok.inj,ok.has,ok.o6,ok.hd,ok.frames,ok.rA,ok.um,ok.bs,ok.jB,ok.pA,ok.oK,ok.ju,ok.mE]
def Inv.lS(I:Inv X af U H s):Inv (X.lS af R) [] U H s:=#[I.ok.lS,I.os,I.bare,I.base,I.loc,I.cell,I.free,I.g_,λp hp=>I.pin p (by simpa using hp),I.aG,I.len,I.hq]
def Inv.AR(I:Inv (X.lS af R) yt U H s):Inv X af U H s:=#[I.ok.AR,I.os,I.bare,I.base,I.loc,I.cell,I.free,I.g_,λp hp=>I.pin p (abz _ hp),I.aG,I.len,I.hq]
def gJ.AR(L:gJ (X.lS af R) yt U H e cls aR s):gJ X af U H e cls aR s:=by
 let#[py,I,fr,#[a1,a2,a3,a4],oe,vs,a0,T,oT,ts,h1,h2,h0,h3,t1,t2,tH,#[b1,b2,b3,b4],t5]:=L;apply#[py.imp λ_ z=>#[z.1,z.2.1,z.2.2.1,λp hp=>z.2.2.2 p (abz _ hp)],I.AR,fr,#[a1,a2,a3,λp hp=>a4 p (abz _ hp)],oe,vs,a0,T,oT,ts,h1,h2,h0,h3,t1,t2,tH,#[b1,b2,b3,λp hp=>b4 p (abz _ hp)],t5]
def aeU:qO (X.lS af R) R:=λyt U H s e cls aR L q=>#[U,H,e,cls,aR,rfl,L.AR,q]
end
abbrev Cx.nN(X:Cx)(a:Addr):Cx:={ X with A:=X.A.mark (some (.ref a)),calm:=false,xe:=λ_ _=>False }
def Inv.nN(I:Inv X af U H s)(a:Addr)(hq:uH (X.A.mark (some (.ref a))) H):Inv (X.nN a) af U H s:=
 #[#[I.ok.mod,I.ok.kind,I.ok.glob,I.ok.blt,I.ok.above,I.ok.inj,I.ok.has,I.ok.o6,λz=>Bool.noConfusion z,I.ok.frames,I.ok.rA,I.ok.um,I.ok.bs,I.ok.jB,I.ok.pA,I.ok.oK,I.ok.ju,I.ok.mE],I.os,I.bare,I.base,I.loc,I.cell,I.free,I.g_,I.pin,I.aG,I.len,#[hq,I.hq.ok,I.hq.lm]]
def Inv.ac3(hc:X.calm=true)(I0:Inv X af U H s)(I:Inv (X.nN a) af aF H' s'):Inv X af aF H' s':=
 #[I0.ok,I.os,I.bare,I.base,I.loc,I.cell,I.free,I.g_,I.pin,I.aG,I.len,#[.inl (I0.ok.hd hc),I.hq.ok,I.hq.lm]]
def Inv.BQ(I:Inv X af U H s)(fr:H e=none)(ap:Apart X af e)(ok:dD X.prog X.w (upd H e u) s.heap e u):Inv X af U (upd H e u) s:=by
 let#[a1,a2,a3,a4]:=ap;have ne:∀{b} {o},H b=some o->b≠e:=λ{b o} q z=>by rw[z,fr] at q;ext q
 refine#[I.ok,I.os,I.bare,#[I.base.keep,I.base.slot,λb o q n hx=>?_,I.base.there,λb xs q=>?_,λb o u q=>?_,λb ps q=>?_],I.loc,I.cell,?_,λx c q=>?_,λp hp=>?_,λb o q=>?_,I.len,I.hq.mono (λb o u q=>by rw[aJ (ne q)];apply q) λb t q=>by rw[aJ (ne q)];apply q]
 .rw[aJ λz=>by rw[z,a1] at q;ext q];apply I.base.free b o q n hx
 .have w:=I.base.jy b xs q;rw[aJ (ne w)];apply w
 .have w:=I.base.i9 b o u q;rw[aJ (ne w)];apply w
 .let#[more,w]:=I.base.jT b ps q;apply#[more,by rw[aJ (ne w)];apply w]
 .rw[aJ λz=>a2 z.symm];apply I.free
 .rw[aJ (a3 x c q)];apply I.g_ x c q
 .let#[p1,p2,p3]:=I.pin p hp;apply#[p1,by rw[aJ (a4 p hp)];apply p2,p3]
 .by_cases z:b=e
  .subst z;rw[bP] at q;ext q;apply ok
  .rw[aJ z] at q;apply(I.aG b o q).gH (λ_ _ _ q=>q) (λc q=>by rw[aJ (ne q)];apply q) λc xs q=>by rw[aJ (ne q)];apply q
def uN(H H':Hp)(a:Addr)(cls:Value)(aR:Option Addr):Prop:=∃ob vs,ob.data=.fields vs/\vs[2]? = some .none/\match aR with
 |none=>H'=upd H a (yh ob a cls none)
 |some n=>∃dx,dx≠a/\H dx=none/\H'=upd (upd H dx (LJ dx n)) a (yh ob a cls (some dx))
def gJ.known(L:gJ X af U H e cls aR s):∃H',uN H H' e cls aR/\Inv X af U H' s:=by
 let#[oe,vs,a0,T,oT,ts,h1,h2,h0,hd,_]:=L.ob;let#[#[o0,c1,c2],py]:=L.py;rw[h1] at c1;ext c1;have c3:vs[2]? = some .none:=by unfold nJ at c2;rw[hd] at c2;apply c2
 have nc:PySem.W.notCls oe=true:=by
  let#[c,d,dt,sl]:=oe;dsimp only at hd;subst hd;rfl
 cases aR with
 |none=>apply#[_,#[oe,vs,hd,c3,rfl],L.inv.BQ L.fr L.ap #[h1,RB h1 h2 λ_ z=>by ext z]]
 |some n=>
  let#[Iq,dx,t,g1,g2,g3,g4,g5]:=py;rw[h1] at g1;ext g1;have ne:dx≠e:=λz=>by
   let#[o,es,ep,q1,q2,_]:=g3;rw[z,h1] at q1;ext q1;rw[hd] at q2;ext q2
  have I1:=L.inv.BQ g4 g5 (agu g3);apply#[_,#[oe,vs,hd,c3,dx,ne,g4,rfl],I1.BQ (by rw[aJ ne.symm];apply L.fr) L.ap #[h1,RB h1 h2 λ_ z=>by ext z;apply#[g2,nc]]]
def uN.hq{A:Around}(k:uN H H' a cls aR):uH (A.mark (some (.ref a))) H':=by
 let#[ob,vs,h1,h2,k]:=k;refine .inr #[a,ob,?_];cases aR with
 |none=>subst k;apply#[_,vs,rfl,bP,h1,h2]
 |some n=>let#[dx,_,_,rfl]:=k;apply#[_,vs,rfl,bP,h1,h2]
def uN.same(k:uN H H' a cls aR)(fr:H a=none)(q:H b=some o):H' b=some o:=by
 let#[ob,vs,_,_,k]:=k;cases aR with
 |none=>subst k;rw[aJ (cU q fr)];apply q
 |some n=>let#[dx,ne,d,rfl]:=k;rw[aJ (cU q fr),aJ (cU q d)];apply q
def aaU(Iv:Nat->Shared->Prop)
  (turn:∀n s,Iv n s->wpAny (model prog w) A (pyNext it) (λr s1=>match r with
   |none=>R (.ok .next) s1
   | some v=>wpAny (model prog w) A (letOwnedTupleGo tg it v) (λ_ qN=>wpAny (model prog w) A (assign tg env v) (λ_ s2=>
     wpAny (model prog w) A (forIn ifs true λc r=>if r=true then do let ok <- isTrue c env (eval c env);pure (ForInStep.yield ok) else pure (ForInStep.yield r)) (λok s3=>
      if ok=true then wpAny (model prog w) A (eval elt env) (λx s4=>
       wpAny (model prog w) A (call (.builtin "list.append") [acc,x]) (λ_ s5=>∃m,m<n/\Iv m s5) (λ_ _=>False) s4) (λ_ _=>False) s3
      else ∃m,m<n/\Iv m s3) (λ_ _=>False) s2) (λ_ _=>False) qN) (λ_ _=>False) s1) (λ_ _=>False) s)
  (n:Nat) (hn:Iv n s):codeAny (model prog w) A (.compLoop (.ListComp elt [#[tg,iter,ifs,0]] scope pos) 0 it acc env) R s:=by
 have ff:∀{E:Value->Shared->Prop} (x) (s),False->E x s:=λ_ _ f=>f.elim
 refine codeAny_loop rfl Iv (λk s0 hI=>?_) n hn;refine wpAny_noted ?_;rw[compTurn_list];refine aaq (wpAny_standAt (aaq (adI (turn k s0 hI) (λr s1 h1=>?_) ff)));cases r with
 |none=>apply abP h1
 |some v=>
  refine aaq (adI h1 (λ_ qN iB=>aaq (adI iB (λ_ s2 h2=>aaq (adI h2 (λok s3 h3=>?_) ff)) ff)) ff);cases ok with
  |false=>apply abP #[rfl,h3]
  |true=>apply aaq (aaq (adI h3 (λx s4 h4=>aaq (adI h4 (λ_ s5 h5=>abP (abP #[rfl,h5])) ff)) ff))
def frees(sc:Scope):List Str:=(sc.names.filter λx=>x.2 == .free).map (·.1)
def l6(env:Env):List (Str×NameKind)->List (Str×Addr)->List (Str×Addr)
 |[],cs=>cs
 |(n,k)::r,cs=>l6 env r (if k == .free then(n,(env.cells.lookup n).getD 0)::cs else cs)
def Ss(h:∀x∈frees sc,∃c,env.cells.lookup x=some c):closureFor sc env=pure (l6 env sc.names []):=by
 have key:∀(l) (cs),(∀x∈(l.filter λx=>x.2 == .free).map (·.1),∃c,env.cells.lookup x=some c)->
   (forIn l cs λx r=>(do
    let(name,kind):=x
    if kind == .free then do
     let a <- cellOf env name
     pure (ForInStep.yield ((name,a)::r))
    else pure (ForInStep.yield r):Sem (ForInStep (List (Str×Addr)))))=pure (l6 env l cs):=by
  intro l
  induction l with
  |nil=>intro cs _;rfl
  |cons p r ih=>
   let#[n,k]:=p;intro cs h;rw[List.forIn_cons]
   by_cases hk:(k==NameKind.free)=true
   .let#[c,hc]:=h n (by simp[hk]);have Fz:=ih ((n,c)::cs) λx hx=>h x (by simp only[ajW,hk,if_true,aaG,aaO];apply Or.inr hx)
    have e:cellOf env n=pure c:=by unfold cellOf;rw[hc]
    simp only[hk,if_true,e,pure_bind,l6,hc,ajX];apply Fz
   .have Fz:=ih cs λx hx=>h x (by simp only[ajW,hk];apply hx)
    simp only[hk,l6,ah8,if_false,pure_bind];apply Fz
 unfold closureFor;have k:=key sc.names [] h;simp only[bind_pure] at k ⊢
 first
  |exact k
  |(simp only[pure_bind];apply k)
theorem Mc:∀{l} {cs} {x} {c},(l6 env l cs).lookup x=some c->
  cs.lookup x=some c\/((x,NameKind.free)∈l/\c=(env.cells.lookup x).getD 0)
 |[],_,_,_,h=>.inl h
 |(n,k)::r,cs,x,c,h=>by
  rcases Mc (l:=r) h with q|⟨q,e⟩
  .by_cases hk:(k==NameKind.free)=true
   .rw[if_pos hk,aej] at q
    by_cases hx:(x==n)=true
    .rw[hx] at q;have e:=eq_of_beq hx;subst e;have hk':k=.free:=by ext k<;>first|rfl|exact absurd hk (by decide)
     subst hk';apply .inr #[aav,(acB q).symm]
    .rw[Bool.not_eq_true] at hx;rw[hx] at q;apply .inl q
   .rw[abM hk] at q;apply .inl q
  .exact .inr #[aar _ q,e]
theorem HF:∀{l} {cs} {x},(∃c,cs.lookup x=some c)\/(x,NameKind.free)∈l->∃c,(l6 env l cs).lookup x=some c
 |[],_,_,h=>h.elim id λz=>nomatch z
 |(n,k)::r,cs,x,h=>by
  refine HF (l:=r) ?_;rcases h with⟨c,h⟩|h
  .left
   by_cases hk:(k==NameKind.free)=true
   .rw[if_pos hk,aej]
    by_cases hx:(x==n)=true
    .rw[hx];apply#[_,rfl]
    .rw[Bool.not_eq_true] at hx;rw[hx];apply#[c,h]
   .rw[abM hk];apply#[c,h]
  .rcases aaO.mp h with e|h
   .left
    ext e;rw[if_pos (by decide),aej,agf];apply#[_,rfl]
   .exact .inr h
def eE(X:Cx)(N:List Str)(sc:Scope)(s3:Shared)(H3:Hp)(fp:List Addr):Cx:=
 { X with N:=N,cQ:=s3,pO:=H3,env:=compEnvC sc (l6 X.env sc.names []) s3.heap.objs.size X.env,outer:=X.stack,stack:=X.stack,ex:=fp,fn:=λ_=>false,pn:=[],xe:=λ_ _=>False }
def mP(js:List (Option Nat))(U:St):St:=js.map λj=>match j with
 |none=>none
 |some j=>(U[j]?).join
def qf(N:List Str)(sc:Scope):List Str->List (Option Nat)->Bool
 |[],[]=>true
 |x::r,none::js=>qf N sc r js
 |x::r,some j::js=>decide (N[j]? = some x)&&decide (sc.names.lookup x=some .free)&&qf N sc r js
 |_,_=>false
theorem C_:∀{M} {js},qf N sc M js=true->js.length=M.length
 |[],[],_=>rfl
 |_::r,none::js,h=>by
  have:=C_ (js:=js) h;simp[this]
 |_::r,some j::js,h=>by
  unfold qf at h;have:=C_ ((aaM _ _).mp h).2;simp[this]
 |[],_::_,h=>by ext h
 |_::_,[],h=>by ext h
theorem JD:∀{M} {js}{i j:Nat} {x},qf N sc M js=true->M[i]? = some x->js[i]? = some (some j)->N[j]? = some x/\sc.names.lookup x=some .free
 |[],_,_,_,_,_,h,_=>by simp at h
 |_::_,[],_,_,_,h,_,_=>by ext h
 |y::r,none::js,0,j,x,h,h1,h2=>by simp at h2
 |y::r,some q::js,0,j,x,h,h1,h2=>by
  simp at h1 h2;subst h1 h2;unfold qf at h;let#[a,b]:=(aaM _ _).mp ((aaM _ _).mp h).1;apply#[abl a,abl b]
 |y::r,none::js,i+1,j,x,h,h1,h2=>JD (js:=js) h (by simpa using h1) (by simpa using h2)
 |y::r,some q::js,i+1,j,x,h,h1,h2=>by
  unfold qf at h;apply JD ((aaM _ _).mp h).2 (by simpa using h1) (by simpa using h2)
structure mD(X:Cx)(M:List Str)(js:List (Option Nat))(sc:Scope):Prop where
 kind:sc.kind=.function
 zV:∀y∈sc.names,y.2≠.cell
 loc:∀y∈sc.names,y.2=.local->sc.names.lookup y.1=some .local
 EK:qf X.N sc M js=true
 free:∀x∈frees sc,X.env.kindOf x=some .cell\/X.env.kindOf x=some .free
 nd:M.Nodup
def Ht(wi:TI)(js:List (Option Nat))(g:TG)(tt:TT)(te:TE):TE:=λU H Q=>wi U H λJ H1=>∀D,H1 D=none->
 ∃W:Nat->Nat->St->Hp->Prop,(∃m,W 0 m (mP js U) (upd H1 D (.lst [])))/\∀i m aF H',W i m aF H'->
  (J.stop i H'/\Q (.ref D) H')\/(J.go i H'/\∀x H2,J.x_ i H' x H2->g x aF H2 λdF H3=>tt dF H3 λb H4=>
   if b=true then te dF H4 λy H5=>∃xs,H5 D=some (.lst xs)/\xs.length<sizeLine/\∃m',m'<m/\W (i+1) m' dF (upd H5 D (.lst (xs++[y])))
   else ∃m',m'<m/\W (i+1) m' dF H4)
def tX(X:Cx)(ifs:List Expr)(t:TT):Prop:=
 ∀(af) (s) (U) (H) (Q),Inv X af U H s->t U H Q->
  w8 X X.A (forIn ifs true λc r=>if r=true then do let ok <- isTrue c X.env (eval c X.env);pure (ForInStep.yield ok) else pure (ForInStep.yield r)) (TP X af U Q) X.xe s
def Py(h:PT X c t):tX X [c] t:=λaf s U H Q I q=>wpAny_tests_one (h af s U H Q I q)
def Inv.comp(S:mD X M js sc)(I:Inv X af U H3 s3)
  (hf:∀b∈fp,iY X af H3 b) (cM:∀b∈fp,b<s3.heap.objs.size) (hn:h'.Ns s3.heap.objs.size λ_=>none) (hk:∀b o,s3.heap.get? b=some o->h'.get? b=some o) :
  Inv (eE X M sc s3 H3 fp) [] (mP js U) H3 { s3 with heap:=h',toks:=tk }:=by
 have cl:∀{x} {c},(l6 X.env sc.names []).lookup x=some c->X.env.cells.lookup x=some c:=λ{x c} e=>by
  rcases Mc e with q|⟨q,e'⟩
  .cases q
  .let#[c',hc]:=I.ok.has x (S.free x (ab8.mpr #[(x,.free),adF.mpr #[q,rfl],rfl]));rw[hc] at e' ⊢;rw[e'];rfl
 have jB:=ada I.ok.jB I.sz;have lk:∀{x},sc.names.lookup x=some .free->(relabel sc X.env).names.lookup x=some .cell\/(relabel sc X.env).names.lookup x=some .free:=λ{x} e=>by
  have key:∀(l:List (Str×NameKind)),l.lookup x=some .free->(l.map λ(n,k)=>if(k==NameKind.free&&X.env.scope.kind == .function&&X.env.kindOf n==some .cell) then(n,NameKind.cell) else(n,k)).lookup x=some .cell\/
    (l.map λ(n,k)=>if(k==NameKind.free&&X.env.scope.kind == .function&&X.env.kindOf n==some .cell) then(n,NameKind.cell) else(n,k)).lookup x=some .free:=by
   intro l
   induction l with
   |nil=>intro e;ext e
   |cons p r ih=>
    let#[n,k]:=p;intro e;rw[aej] at e;rw[aaG]
    by_cases hx:(x==n)=true
    .rw[hx] at e;have e':=acB e;subst e';dsimp only
     split
     .left;rw[aej,hx]
     .right;rw[aej,hx]
    .rw[Bool.not_eq_true] at hx;rw[hx] at e;dsimp only
     split<;>(rw[aej,hx];apply ih e)
  apply key sc.names e
 have kf:∀{x},((relabel sc X.env).names.lookup x=some .cell\/(relabel sc X.env).names.lookup x=some .free)->(x,NameKind.free)∈sc.names:=λ{x} e=>by
  have key:∀(l:List (Str×NameKind)),(∀y∈l,y.2≠.cell)->((l.map λ(n,k)=>if(k == NameKind.free&&X.env.scope.kind == .function&&X.env.kindOf n == some .cell) then(n,NameKind.cell) else(n,k)).lookup x=some .cell\/
    (l.map λ(n,k)=>if(k==NameKind.free&&X.env.scope.kind == .function&&X.env.kindOf n==some .cell) then(n,NameKind.cell) else(n,k)).lookup x=some .free)->(x,NameKind.free)∈l:=by
   intro l
   induction l with
   |nil=>intro _ e;rcases e with e|e<;>ext e
   |cons p r ih=>
    let#[n,k]:=p;intro nc e;rw[aaG] at e
    by_cases hx:(x==n)=true
    .have e0:=eq_of_beq hx;subst e0;have hkf:k=.free:=by
      dsimp only at e
      split at e
      .rename_i hc;have:=((aaM _ _).mp ((aaM _ _).mp hc).1).1;ext k<;>first|rfl|exact absurd this (by decide)
      .rw[aej,agf] at e;rcases e with e|e
       .exact absurd (acB e) (nc _ aav)
       .exact acB e
     rw[hkf];apply aav
    .rw[Bool.not_eq_true] at hx;refine aar _ (ih (λy hy=>nc y (aar _ hy)) ?_);dsimp only at e
     split at e<;>(rw[aej,hx] at e;apply e)
  apply key sc.names S.zV e
 refine#[#[I.ok.mod,S.kind,I.ok.glob,I.ok.blt,abD _,λx y c h1 h2=>I.ok.inj x y c (cl h1) (cl h2),λx hx=>HF (.inr (kf hx)),(λx c h _=>by ext h),I.ok.hd,I.ok.frames,.inl rfl,λb hb=>#[acO (cM b hb),λx c e=>(hf b hb).2.2.2.2.1 x c (cl e)],
   I.bs,jB,λb o e hb=>?_,λb hb yN=>?_,I.stack,I.vq],
  rfl,I.bare,Un.kept hk,#[_,hn,λi x v h1 h2 h3=>?_],λx c e=>?_,I.aG.fresh (abD _),λx c e=>I.g_ x c (cl e),λp hp=>absurd (show p∈([]:List (Addr×Obj)) from hp) (by simp),I.aG.kept hk,?_,I.hq]
 .rcases(hf b hb).2.2.2.1 with z|z
  .exact I.ok.pA b o e z
  .exact absurd (acS (abG e) (ada I.ok.jB z)) (aep _)
 .rcases aaO.mp (I.Bh b yN) with z|z
  .exact(hf b hb).2.1 z
  .exact(hf b hb).2.2.1 z
 .have hlen:=C_ S.EK;have hi:i<js.length:=by rw[hlen];apply(abq.mp h1).1
  unfold mP at h2;rw[acy,aa1 hi,Option.map_some] at h2;exists hj,js[i],j,h2;have lT:(U[j]?).join=some v:=acB h2;let#[a,b]:=JD S.EK h1 (by rw[aa1 hi,hj]);have hs:U[j]? = some (some v):=by
   exists q,U[j]?,z,lT;rw[show z=some v from lT]
  have pU:=S.free x (ab8.mpr #[(x,.free),adF.mpr #[PySem.mem_of_lookup b,rfl],rfl]);let#[m,hm,hl]:=I.loc;let#[u,ru,l]:=hl j x v a hs (pU.elim (λz=>.inr (.inl z)) λz=>.inr (.inr z));refine#[u,ru,.inr #[lk b,?_]];rcases l with⟨k,_⟩|⟨_,c,e,hc⟩
  .rcases pU with z|z<;>(rw[z] at k;ext k)
  .let#[c',tU]:=HF (.inr (PySem.mem_of_lookup b));have e':=cl tU;rw[e] at e';have e2:=acB e';subst e2;let#[o,ho,hd]:=hc;apply#[c,tU,o,hk _ _ ho,hd]
 .let#[v,o,ho,hd]:=I.cell x c (cl e);apply#[v,o,hk _ _ ho,hd]
 .unfold mP;rw[List.length_map];apply C_ S.EK
def Inv.Ny(I:Inv X af U H3 s3)(hf:∀b∈fp,iY X af H3 b)
  (J:Inv (eE X M sc s3 H3 fp) yt aF H' s') (hs:Heap.SameBut s3.heap.objs.size s'.heap h'):Inv X af U H' { s' with heap:=h' }:=by
 have B:=J.base;have ne:∀{b} {o},s3.heap.get? b=some o->b≠s3.heap.objs.size:=λe=>acO (abG e)
 have B':Un (bg X.stack) fp H3 H' s3.heap h':=#[λb o e n hb hx=>(hs.2 b (ne e)).trans (B.keep b o e n hb hx),λb o e n hb hx=>let#[sl,q]:=B.slot b o e n hb hx;#[sl,(hs.2 b (ne e)).trans q],B.free,
  λb o e hx=>let#[o',q]:=B.there b o e hx;#[o',(hs.2 b (ne e)).trans q],B.jy,B.i9,B.jT]
 have fr:H' s3.heap.objs.size=none:=J.free;refine I.Vb J.os B' (λb u e=>?_) J.bare λb hb=>#[(hf b hb).2.2.2.1,(hf b hb).2.1,(hf b hb).2.2.2.2.1,(hf b hb).2.2.2.2.2]
 refine(J.aG b u e).gH (λc v hc q=>(hs.2 c ?_).trans q) (λ_ q=>q) λ_ _ q=>q
 rintro rfl
 rcases hc with rfl|hc
 .rw[fr] at e;ext e
 .rw[fr] at hc;ext hc
def Om
  {Q:VK}{RR:Value->Addr->Result->Shared->Prop} (S:mD X M js sc) (hc:X.calm=true\/J.rg=true) (I2:Inv X af U H2 s2) (T:Turn X.prog X.w X.K tg J fp it tn) (st:tn 0 s2.heap) (hf:∀b∈fp,iY X af H2 b)
  (hb:∀s3 H3 fp,PG (eE X M sc s3 H3 fp) tg g/\tX (eE X M sc s3 H3 fp) ifs tt/\PE (eE X M sc s3 H3 fp) elt te)
  (h:∀D,H2 D=none->∃W:Nat->Nat->St->Hp->Prop,(∃m,W 0 m (mP js U) (upd H2 D (.lst [])))/\∀i m aF H',W i m aF H'->
   (J.stop i H'/\Q (.ref D) H')\/(J.go i H'/\∀x H2,J.x_ i H' x H2->g x aF H2 λdF H3=>tt dF H3 λb H4=>
    if b=true then te dF H4 λy H5=>∃xs,H5 D=some (.lst xs)/\xs.length<sizeLine/\∃m',m'<m/\W (i+1) m' dF (upd H5 D (.lst (xs++[y])))
    else ∃m',m'<m/\W (i+1) m' dF H4))
  (hR:∀D s3 H3 s' aF H',Inv X af U H3 s3->(∀b∈fp,iY X af H3 b)->Inv (eE X M sc s3 H3 fp) [] aF H' s'->Q (.ref D) H'->RR (.ref D) s3.heap.objs.size (.ok .next) s') :
  w8 X X.A (newList []) (λacc CI=>w8 X X.A (newFunctionEnv sc X.env.globals (l6 X.env sc.names []) [] X.env.qual none .none (some X.env)) (λUB ae8=>
   codeAny (model X.prog X.w) X.A (.compStart (.ListComp elt [#[tg,iter,ifs,0]] sc pos) 0 (.ref it) acc { UB with scope:=relabel sc X.env }) (RR acc UB.locals) ae8) X.xe CI) X.xe s2:=by
 have ahQ:=I2.aG.fresh (abD _);let#[W,#[m0,w0],turn]:=h _ ahQ;have I3:Inv X af U (upd H2 s2.heap.objs.size (.lst [])) { s2 with heap:=s2.heap.push { cls:=.type "list",data:=.seq ([]:List Value).toArray } }:=
  I2.laid (λ_ _ q=>aat _ q) (abD _) #[acP _,[],0,.nil,acm _ rfl]
 have JI:∀b∈fp,b<s2.heap.objs.size:=λb hb=>let#[_,e,_]:=T.obj _ _ st b hb;abG e
 have GY:∀b∈fp,iY X af (upd H2 s2.heap.objs.size (.lst [])) b:=λb hb=>#[by rw[aJ (acO (JI b hb))];apply(hf b hb).1,(hf b hb).2]
 have hsz:(s2.heap.push { cls:=.type "list",data:=.seq ([]:List Value).toArray }).objs.size=s2.heap.objs.size+1:=aif ..;refine aex (wpAny_newFunctionEnv S.zV (λy hy=>nomatch hy) (λh1 hn1 hs1=>?_) S.kind);generalize Cu:({ s2 with heap:=s2.heap.push { cls:=.type "list",dict:=none,data:=.seq ([]:List Value).toArray } }:Shared)=s3 at *;have Qd:∀b o,s3.heap.get? b=some o->h1.get? b=some o:=λb o e=>(hs1.2 b (acO (abG e))).trans (aat _ e)
 have Mg:∀b∈fp,b<s3.heap.objs.size:=λb hb=>by rw[<- Cu];show b<(s2.heap.push _).objs.size;rw[hsz];apply aki (JI b hb)
 have I4:Inv (eE X M sc s3 (upd H2 s2.heap.objs.size (.lst [])) fp) [] (mP js U) (upd H2 s2.heap.objs.size (.lst [])) { s3 with heap:=h1,toks:=s3.toks+([]:List (Str×Value)).length }:=I3.comp S GY Mg hn1 Qd;let#[hg,ht,he]:=hb s3 (upd H2 s2.heap.objs.size (.lst [])) fp;have tL:∀{H'},(∀b∈fp,H' b=none)->∀b∈fp,iY (eE X M sc s3 (upd H2 s2.heap.objs.size (.lst [])) fp) [] H' b:=λ{H'} hn b hb=>
  #[hn b hb,acO (Mg b hb),I4.ok.oK b hb,.inl hb,(I4.ok.um b hb).2,λp hp=>absurd (show p∈([]:List (Addr×Obj)) from hp) (by simp)]
 have ND:=T.keep _ _ _ st λb hb o e=>Qd b o (by rw[<- Cu];apply aat _ e)
 have fr4:∀b∈fp,upd H2 s2.heap.objs.size (.lst []) b=none:=λb hb=>(GY b hb).1
 have loop:codeAny (model X.prog X.w) X.A (.compLoop (.ListComp elt [#[tg,iter,ifs,0]] sc pos) 0 (.ref it) (.ref s2.heap.objs.size) (compEnvC sc (l6 X.env sc.names []) s3.heap.objs.size X.env)) (RR (.ref s2.heap.objs.size) s3.heap.objs.size)
   { s3 with heap:=h1,toks:=s3.toks+([]:List (Str×Value)).length }:=by
  refine aaU (λn s'=>∃i aF H',Inv (eE X M sc s3 (upd H2 s2.heap.objs.size (.lst [])) fp) [] aF H' s'/\tn i s'.heap/\(∀b∈fp,H' b=none)/\W i n aF H') ?_ m0 #[0,_,_,I4,ND,fr4,w0]
  rintro n s5 ⟨i,DZ,H5,I5,vS,mY,w5⟩
  rcases turn i n DZ H5 w5 with⟨stop,q⟩|⟨go,step⟩
  .refine cL (T.done (eE X M sc s3 (upd H2 s2.heap.objs.size (.lst [])) fp) rfl rfl rfl hc i [] s5 DZ H5 _ I5 (tL mY) vS stop) ?_
   rintro r s6 ⟨hr,I6⟩
   subst hr;apply hR _ _ _ _ _ _ I3 GY I6 q
  .refine cL (T.item (eE X M sc s3 (upd H2 s2.heap.objs.size (.lst [])) fp) rfl rfl rfl hc i [] s5 DZ H5 _ I5 (tL mY) vS go) ?_
   rintro r s6 ⟨u,hr,h6⟩
   subst hr;refine cL h6 ?_
   rintro _ s7 ⟨x,H7,I7,r7,y7,Jy,fr7⟩
   have Zs:=I7.pinned (tL fr7) (T.obj _ _ Jy);have back:∀{q_} {H8} {s8},Inv (eE X M sc s3 (upd H2 s2.heap.objs.size (.lst [])) fp) ([]++Aa fp s7.heap) q_ H8 s8->tn (i+1) s8.heap/\(∀b∈fp,H8 b=none):=λ{q_ H8 s8} I8=>
    #[T.keep _ _ _ Jy λb hb o e=>(I8.pin (b,o) (aaH _ (aaH _ (BD hb e)))).1,λb hb=>by
     let#[o,e,_]:=T.obj _ _ Jy b hb;apply(I8.pin (b,o) (aaH _ (aaH _ (BD hb e)))).2.1]
   refine cL (hg _ s7 DZ H7 x u _ Zs r7 (step x H7 y7)) ?_
   rintro _ s8 ⟨q_,H8,I8,q8⟩
   refine Kh (ht _ s8 q_ H8 _ I8 q8) λok s9 H9 I9 q9=>?_
   cases ok with
   |false=>
    rw[abM abm] at q9 ⊢;let#[m',hm,w9]:=q9;let#[a9,b9]:=back I9;apply#[m',hm,i+1,q_,H9,I9.zT,a9,b9,w9]
   |true=>
    rw[if_pos rfl] at q9 ⊢;refine cL (he _ s9 q_ H9 _ I9 q9) λy fL hq=>?_
    let#[yv,OC,X4,r10,xs,hD,hz,m',hm,w10]:=hq;refine Fc (Eb _ fL q_ OC (.ref s2.heap.objs.size) [yv] (.ref s2.heap.objs.size) [y] (λv US=>v=.aC/\US=upd OC s2.heap.objs.size (.lst (xs++[yv]))) X4 rfl (.cons r10 .nil) #[_,xs,yv,rfl,rfl,hD,hz,rfl,rfl]) λ_ fC v11 US Pd _ q=>?_
    let#[_,TR]:=q;subst TR;let#[a9,b9]:=back Pd;apply#[m',hm,i+1,q_,_,Pd.zT,a9,b9,w10]
 apply codeAny_compStart_list loop (T.self _ 0 _ _ _ ND loop)
def VM{g:TG}(S:mD X M js sc)(hc:X.calm=true)(hi:PI X tg iter wi)
  (hb:∀s3 H3 fp,PG (eE X M sc s3 H3 fp) tg g/\tX (eE X M sc s3 H3 fp) ifs tt/\PE (eE X M sc s3 H3 fp) elt te) (hs:∀x,foldedSetIterable iter X.env x=pure x:=by intro _;rfl) :
  PE X (.ListComp elt [#[tg,iter,ifs,0]] sc pos) (Ht wi js g tt te):=by
 exists 44;rw[eval_ListComp];refine wpAny_comprehension_free rfl hs (Ss λx hx=>I.ok.has x (S.free x hx)) S.kind S.loc ?_;refine cL (hi af s U H _ I h) λv s1 h1=>cL h1 λCB s2 hq=>?_
 let#[it,fp,tn,J,H2,e,I2,T,uX,f2,h2]:=hq;subst e;refine Om S (.inl hc) I2 T uX f2 hb h2 λD s3 H3 s' aF H' I3 f3 J' q=>?_
 let#[m,hm,_]:=J'.loc;apply#[m,hm,λh' c8=>#[.ref D,H',I3.Ny f3 J' c8,rfl,q]]
def ajz(hN:X.N.Nodup)(hy:X.N[i]? = some y)(hl:X.env.scope.names.lookup y=some .local)
  (S:mD X M js sc) (hc:X.calm=true) (hi:PI X tg iter wi) (hb:∀s3 H3 fp,PG (eE X M sc s3 H3 fp) tg g/\tX (eE X M sc s3 H3 fp) ifs tt/\PE (eE X M sc s3 H3 fp) elt te)
  (iK:swapsWith (.ListComp elt [#[tg,iter,ifs,0]] sc pos) (some (.Name y py)) JL.line X.env=pure true:=by rfl) (hs:∀x,foldedSetIterable iter X.env x=pure x:=by intro _;rfl) :
  PS X (.Assign [.Name y py] (.ListComp elt [#[tg,iter,ifs,0]] sc pos) JL) (RD (Ht wi js g tt te) (uS i)):=by
 intro af s U H D I h;rw[exec_Assign_Name_used _ _ _ _ iK];refine aaq (wpAny_standAt (aaq ?_));refine aaq (adI (wpAny_comprehension_free rfl hs (Ss λx hx=>I.ok.has x (S.free x hx)) S.kind S.loc ?_) (λ_ s' q=>abP (abP q)) λ_ _ e=>e);refine cL (hi af s U H _ I h) λv s1 h1=>cL h1 λCB s2 hq=>?_
 let#[it,fp,tn,J,H2,e,I2,T,uX,f2,h2]:=hq;subst e;refine Om (Q:=λx H1=>uS i x U H1 D.nx) S (.inl hc) I2 T uX f2 hb h2 λDa s3 H3 s' aF H' I3 f3 J' q=>?_
 have sb:Heap.SameBut s3.heap.objs.size s'.heap s'.heap:=#[rfl,λ_ _=>rfl]
 have I5:=I3.Ny f3 J' sb;let#[m,hm,_]:=J'.loc;have ne:=acO I3.lt;refine wpAny_assign_Name (Pg I5 hN hy (.inl hl) (show RelV (.ref Da) (.ref Da) from rfl) (λs6 I6 #[a,HW,ha]=>?_) (.inr hl));have jS:∀x c,X.env.cells.lookup x=some c->c≠s3.heap.objs.size:=λx c e=>by
  let#[v',jN]:=I3.cell x c e;apply acO jN.lt
 have na:=ha.elim (λe=>by rw[e];apply ne) λz=>jS y a z
 refine#[m,hm.sameBut HW (afv na),λh' c8=>#[_,H',I6.turned (λb o hb e=>(c8.2 b hb).trans e) J'.free (afv ne) (.inr I3.sz) jS (λp hp=>?_),q]];apply acO (abG (I3.pin p hp).1)
def afZ:typeLookup (.type "dict") "__len__"=pure (some (.builtin "dict.__len__")):=by rw[typeLookup_type,builtinLookup_eq_fast];kernel_rfl
section
variable{prog:Program}{w:World}{A:Around}{E:Value->Shared->Prop}{s:Shared}
def ajA{κ:Type}[DecidableEq κ]{knd:KeyKind prog w κ}{ak:List (κ×Value)}{Q:List Value->Shared->Prop}(hh:A.handled=none)(hd:(d==sysModules)=false)(hm:s.heap.DictOf knd d ak)(hz:ak.length<=sizeLine)
  (hQ:∀s' acc,s.heap.objs.size<=s'.heap.objs.size->(∀b o,s.heap.get? b=some o->s'.heap.get? b=some o)->s'.gens=s.gens->s'.drawn=s.drawn->s'.os=s.os->ItemsOf (λi v=>∃k x,ak[i]? = some (k,x)/\knd.is k v=true) acc ak.length->Q acc.toList s') :
  wpAny (model prog w) A (collect (.ref d)) Q E s:=by
 let#[ep,hm]:=hm.dictAt;have cM:=hm.lt_size;unfold collect;refine aaq (wpAny_runValue (agR F.entry_proto_collect ?_));rw[agd F.plain_proto_collect _];refine aaq (aex ?_);refine abP #[aix F.plain_list_iadd _,agR F.entry_list_iadd ?_];rw[agd F.plain_list_iadd _];have pB:=hm.push { cls:=.type "list",data:=.seq ([]:List Value).toArray };have hT1:({ s with heap:=s.heap.push { cls:=.type "list",data:=.seq ([]:List Value).toArray } }:Shared).TypeIs (.ref d) "dict":=pB.dictOf.typeIs;show wpAny (model prog w) A.in1 (Builtin.List.listExtendWith (.ref s.heap.objs.size) (.ref d) (.ref s.heap.objs.size)) _ _ _;unfold Builtin.List.listExtendWith;refine aaq (aj5 hT1 ?_);have h1:Builtin.List.listSameRef (.ref s.heap.objs.size) (.ref d)=false:=by simp[Builtin.List.listSameRef,agY cM]
 have h2:(Value.type "dict" == Value.type "list")=false:=by decide
 have h3:(Value.type "dict" == Value.type "tuple")=false:=by decide
 simp only[h1,h2,h3,Bool.or_false,ah8,if_false];refine aaq (wpAny_pyIter_dict hd pB ?_);refine aaq (ae1 ?_);have vI:=pB.push { cls:=.type "dict_keyiterator",data:=.fields ([.ref d,.int 0 0,.int ak.length 0,.int ep 0].toArray) };have KE:({ s with heap:=(s.heap.push { cls:=.type "list",data:=.seq ([]:List Value).toArray }).push { cls:=.type "dict_keyiterator",data:=.fields ([.ref d,.int 0 0,.int ak.length 0,.int ep 0].toArray) } }:Shared).TypeIs (.ref d) "dict":=vI.dictOf.typeIs;unfold Builtin.List.listLengthHint;refine aaq (wpAny_specialOf KE afZ ?_);generalize Kr:("dict.__len__":String)=Og
 (fail_if_success (clear Kr Og))
 wp_delta
 rw[show splitId Og=some ("dict","__len__") from by subst Kr;decide +kernel];subst Kr;refine aaq (wpAny_isInstance (b:=true) KE (by rw[isSubtype_type];kernel_rfl) ?_);refine aaq (aj5 KE ?_);refine abP ?_;refine aaq (akd ?_);have hsz:(s.heap.push { cls:=.type "list",data:=.seq ([]:List Value).toArray }).objs.size=s.heap.objs.size+1:=aif ..;generalize ur:s.heap.push { cls:=.type "list",data:=.seq ([]:List Value).toArray }=h1 at *;have Z3:h1.get? s.heap.objs.size=some { cls:=.type "list",data:=.seq ([]:List Value).toArray }:=by rw[<- ur];apply acm _ rfl
 have abT:∀b o,s.heap.get? b=some o->h1.get? b=some o:=λb o e=>by rw[<- ur];apply aat _ e
 dsimp only;have hI2:(h1.push { cls:=.type "dict_keyiterator",data:=.fields ([.ref d,.int 0 0,.int ak.length 0,.int ep 0].toArray) }).get? h1.objs.size=some { cls:=.type "dict_keyiterator",data:=.fields ([.ref d,.int 0 0,.int ak.length 0,.int ep 0].toArray) }:=acm _ rfl;have SR:(h1.push { cls:=.type "dict_keyiterator",data:=.fields ([.ref d,.int 0 0,.int ak.length 0,.int ep 0].toArray) }).get? s.heap.objs.size=some { cls:=.type "list",data:=.seq ([]:List Value).toArray }:=aat _ Z3;have aeZ:∀b o,s.heap.get? b=some o->(h1.push { cls:=.type "dict_keyiterator",data:=.fields ([.ref d,.int 0 0,.int ak.length 0,.int ep 0].toArray) }).get? b=some o:=λb o e=>aat _ (abT b o e)
 generalize hh2:h1.push { cls:=.type "dict_keyiterator",data:=.fields ([.ref d,.int 0 0,.int ak.length 0,.int ep 0].toArray) }=h2 at *;have MU:s.heap.objs.size≠h1.objs.size:=by rw[hsz];apply acO (ahO _)
 have Nr:=agY cM;have ndI:d≠h1.objs.size:=by rw[hsz];apply acO (aki cM)
 refine aaq ?_;refine aaq (aj9 SR rfl ?_);have Rl:=agX (Obj.mapSeq (·.push Value.none)) SR rfl;refine aj9 Rl rfl ?_;have XY:=agX (Obj.mapSeq (·.pop)) Rl rfl;have JP:∀b o,b≠s.heap.objs.size->h2.get? b=some o->((h2.update s.heap.objs.size (Obj.mapSeq (·.push Value.none))).update s.heap.objs.size (Obj.mapSeq (·.pop))).get? b=some o:=
  λb o hb e=>(ad6 _ _ (afv hb)).trans ((ad6 _ _ (afv hb)).trans e)
 have W:=(Walks.dictKeys (A:=A.in1) (knd:=knd) hh h1.objs.size d ndI ak ep).toS;refine abP #[aix F.plain_extend_loop _,codeAny_extend_loopS W hz s.heap.objs.size (by simp;apply#[MU,Nr]) _ ak.length 0 _ _ _ rfl (acP _) ?_ XY (ItemsOf.nil _) λs' ajl c' Cq OD Xf=>?_]
 .exact#[#[_,JP _ _ (afv MU) hI2,rfl,rfl],vI.at' λo e=>JP _ _ (afv Nr) e]
 .show wpAny (model prog w) A (load s.heap.objs.size >>= _) _ _ s';refine aaq (wpAny_load OD ?_);refine abP (hQ s' ajl (afR (abG OD)) (λb o e=>?_) Cq.gens Cq.drawn Cq.os Xf);have hb:=abG e;refine Cq.heap b o ?_ (JP b o (acO hb) (aeZ b o e));intro m;rcases aaO.mp m with z|z
  .exact absurd hb (by rw[z];apply aep _)
  .have z:=aa6.mp z;rw[hsz] at z;apply absurd hb (by rw[z];apply Nat.not_lt.mpr (aj3 _))
def afV{x:Value}{Q:Value->Shared->Prop}(hc:∀(Q':List Value->Shared->Prop),(∀vs s',(∃ns,IntsAre vs ns/\∀(out:Array Value) (jk:List Int),IntsAre out.toList jk->jk.Perm ns->jk.Pairwise (·<=·)->
    Q (.ref s'.heap.objs.size) { s' with heap:=sortedHeap (s'.heap.push (seqObj "list" vs.toArray 0)) s'.heap.objs.size vs out })/\vs.length<64->Q' vs s')->wpAny (model prog w) A.in1 (collect x) Q' E s):wpAny (model prog w) A (call (.builtin "sorted") [x]) Q E s:=by
 refine call_function_tree kind_sorted plain_sorted entry_sorted (args_sorted1 _) ?_;unfold Builtin.«sorted»;refine aaq (abP ?_);refine aaq (hc _ ?_)
 rintro vs s' ⟨⟨ns,hI,h⟩,lW⟩
 refine aaq (wpAny_newList ?_);have C4:(s'.heap.push (seqObj "list" vs.toArray 0)).get? s'.heap.objs.size=some (seqObj "list" vs.toArray 0):=acm _ rfl;refine aaq (ae1 (ahL slot_list_sort #[_,C4,rfl] entry_list_sort (list_sort_tree C4 hI lW λout jk a1 a2 a3=>#[_,rfl,?_]) (args_list_sort _)));apply abP (h out jk a1 a2 a3)
end
section
variable{X:Cx}
theorem OQ:∀{ks:List Int}{ak:List (Key×Value)}{vs:List Value},ak.map (·.1)=ks.map Sum.inl->vs.length=ak.length->(∀(i:Nat) v,vs[i]? = some v->∃k x,ak[i]? = some (k,x)/\(f7 P w).is k v=true)->IntsAre vs ks
 |[],[],vs,_,hl,_=>by cases vs with
  |nil=>apply .nil
  |cons _ _=>simp at hl
 |[],_::_,_,e,_,_=>by simp at e
 |_::_,[],_,e,_,_=>by simp at e
 |k::ks,(q,x)::ak,vs,e,hl,h=>by
  simp only[aaG,aga] at e;let#[rfl,e]:=e;cases vs with
  |nil=>simp at hl
  |cons v vs=>
   let#[k',x',e0,hk]:=h 0 v rfl;have XI:=acB e0;ext XI;rcases m9 (show ug (Sum.inl k) v=true from hk) with⟨i,t,e1,e2⟩|⟨y,t,e1,e2⟩
   .cases e1;subst e2;apply .cons k t (OQ e (by simpa using hl) λi v hv=>h (i+1) v (by simpa using hv))
   .cases e1
def MD(K:Fr):List V->Hp->VK->Prop:=λxs H Q=>∃(p:Addr) (ks:List Int),xs=[.ref p]/\ks.length<64/\((∃ak:List (Key×V),H p=some (.dK ak)/\ak.map (·.1)=ks.map Sum.inl)\/cJ K H p (ks.map V.int))/\
 ∀(l:Addr) (pH:List Int),H l=none->pH.Perm ks->pH.Pairwise (·<=·)->Q (.ref l) (upd H l (.lst (pH.map V.int)))
def WT(hc:X.calm=true):ie X (.builtin "sorted") (MD X.K):=by
 exists 43;let#[p,ks,rfl,lW,ae7,q]:=h;let#[u,rfl,ru]:=vals1 r;ext ru;have fin:∀(vs:List Value) (s':Shared),s.heap.objs.size<=s'.heap.objs.size->(∀b o,s.heap.get? b=some o->s'.heap.get? b=some o)->s'.gens=s.gens->s'.drawn=s.drawn->s'.os=s.os->∀(out:Array Value) (jk:List Int),IntsAre out.toList jk->jk.Perm ks->jk.Pairwise (·<=·)->
   EP X af U Q (.ref s'.heap.objs.size) { s' with heap:=sortedHeap (s'.heap.push (seqObj "list" vs.toArray 0)) s'.heap.objs.size vs out }:=by
  intro vs s' hle hk e1 e2 e3 out jk a1 a2 a3;let#[h',g',d',t',o']:=s';dsimp only at e1 e2 e3 hk hle;subst e1 e2 e3;let#[e,he]:=sortedHeap_at (show(h'.push (seqObj "list" vs.toArray 0)).get? h'.objs.size=some (seqObj "list" vs.toArray 0) from acm _ rfl);have hlen:jk.length<64:=by rw[a2.length_eq];apply lW
  refine#[.ref h'.objs.size,upd H h'.objs.size (.lst (jk.map V.int)),I.laid (λb o eb=>?_) hle ?_,rfl,q _ jk (I.aG.fresh hle) a2 a3]
  .have hb:b<h'.objs.size:=abG (hk b o eb);rw[sortedHeap_old (acO hb) (by rw[aif];apply aki hb)];apply aat _ (hk b o eb)
  .exact#[by rw[List.length_map];apply afR (A3 (by omega)),out.toList,e,Ll a1,by rw[he]]
 have hh:X.A.handled=none:=I.ok.hd hc;refine afV λQ' VC=>?_
 rcases ae7 with⟨ak,hp,hk⟩|hp
 .let#[hz,hd,vs,rel,dd]:=OG I.aG hp;refine ajA hh hd dd (by rw[<- rel.length];apply hz) λs' acc hle kp e1 e2 e3 it=>VC _ s' #[#[ks,?_,λout jk a1 a2 a3=>fin _ s' hle kp e1 e2 e3 out jk a1 a2 a3],?_]
  .refine OQ (by rw[<- rel.keys];apply hk) (by rw[aeI];apply it.1) λi v hv=>it.2 i v (by rw[<- Array.getElem?_toList];apply hv)
  .rw[aeI,it.1,<- rel.length];have:=congrArg List.length hk;rw[List.length_map,List.length_map] at this;omega
 .let#[av,rv,pl,hz]:=I.list hp;have hi:=intsAre_of rv;have k1:s.heap.objs.size<=((s.heap.push (seqObj "list" ([].toArray) 0)).update s.heap.objs.size (Obj.mapSeq (·++av.toArray))).objs.size:=by
   rw[Heap.size_update,aif];apply aj3 _
  have k2:∀b o,s.heap.get? b=some o->((s.heap.push (seqObj "list" ([].toArray) 0)).update s.heap.objs.size (Obj.mapSeq (·++av.toArray))).get? b=some o:=λb o e=>
   (ad6 _ _ (agY (abG e))).trans (aat _ e)
  refine collect_list pl.isList (VC _ _ #[#[ks,hi,λout jk a1 a2 a3=>fin av { s with heap:=(s.heap.push (seqObj "list" ([].toArray) 0)).update s.heap.objs.size (Obj.mapSeq (·++av.toArray)) } k1 k2 rfl rfl rfl out jk a1 a2 a3],?_]) (by rw[<- rv.length];apply hz);rw[<- rv.length,List.length_map];apply lW
end
def Zc(a d:Value):argsOk "min" #[[a],[("default",d)]]:=by unfold argsOk;kernel_rfl
def D0:(toString "min"++toString ".loop":String)="min.loop":=by decide
def adj(W:Walks prog w A.in1 it dX jD n P T)(bt:Nat->Nat->Bool)(Jd:CmpOf prog w A.in1 .Lt P bt)(kw:List (Str×Value))(B:Addr)(hB:B∉dX):
  ∀(k j) (s) (vb) (c),n-(j+1)=k->j+1<=n->T (j+1) s.heap->P (argBest bt j) vb->s.heap.get? B=some { cls:=.type "list",dict:=none,data:=.seq ([vb,vb].toArray) c,slots:=([].toArray) }->
   (∀v h' tk,P (argBest bt (n-1)) v->(∀b o,b∉jD->b≠B->s.heap.get? b=some o->h'.get? b=some o)->R (.ok (.ret v)) { s with heap:=h',toks:=tk })->
   codeAny (model prog w) A (.builtin "min.loop" #[[.ref it,.none,.ref B],kw]) R s:=by
 have nB:B∉jD:=λm=>hB (W.sub _ m)
 intro k
 induction k with
 |zero=>
  intro j s vb c e1 e2 st pb gB fin;have en:j+1=n:=by omega
  refine agR F.entry_min_loop ?_;rw[agd ah3 _];refine aaq (agQ gB rfl ?_);refine aaq (ajN (W.done s _ _ (en ▸ st) λh1 t1 kp=>?_));have qA:=kp B _ nB gB;refine aaq (aj9 qA rfl (aaq (akk (abP ?_))));apply fin vb _ t1 (by rw[<- en];apply pb) λb o m1 m2 e=>(ad6 _ _ (afv m2)).trans (kp b o m1 e)
 |succ k ih=>
  intro j s vb c e1 e2 st pb gB fin;have lt:j+1<n:=by omega
  refine agR F.entry_min_loop ?_;rw[agd ah3 _];refine aaq (agQ gB rfl ?_);refine aaq (ajN (W.item (j+1) s _ _ lt st λv h1 t1 pv xg kp=>?_));have qA:=kp B _ nB gB;show wpAny (model prog w) A.in1 (tryCatch (holding [v,v] (richCompare .Lt v vb >>= _)) _ >>= _) _ _ _;refine aaq (ajN (ae1 (aaq (Jd (j+1) (argBest bt j) v vb _ _ _ pv pb ?_))));refine aaq (ae1 (afi (aaq (akk (abP ?_)))));cases hb:bt (j+1) (argBest bt j) with
  |true=>
   simp only[if_true];refine aaq (aj9 qA rfl (aaq (akk ?_)));rw[D0];refine abP #[aix ah3 _,ih (j + 1) _ v _ (by omega) lt (W.frame _ _ _ xg λb m o e=>(ad6 _ _ (λz:B=b=>hB (by rw[z];apply m))).trans e)
    (by simp only[argBest,hb,if_true];apply pv) (agX _ qA rfl) λv2 h2 t2 p2 k2=>?_]
   apply fin v2 h2 t2 p2 λb o m1 m2 e=>k2 b o m1 m2 ((ad6 _ _ (afv m2)).trans (kp b o m1 e))
  |false=>
   simp only[ah8,if_false];refine aaq (akk ?_);rw[D0];refine abP #[aix ah3 _,ih (j+1) _ vb c (by omega) lt xg (by simp only[argBest,hb,ah8,if_false];apply pb) qA λv2 h2 t2 p2 k2=>?_];apply fin v2 h2 t2 p2 λb o m1 m2 e=>k2 b o m1 m2 (kp b o m1 e)
def YL(W:Walks prog w A.in1 it dX jD n P T)(bt:Nat->Nat->Bool)(Jd:CmpOf prog w A.in1 .Lt P bt)(key:Str)(dv:Value)(B:Addr)(hB:B∉dX){s:Shared}{c:Nat}(st:T 0 s.heap)
  (gB:s.heap.get? B=some { cls:=.type "list",dict:=none,data:=.seq ([].toArray) c,slots:=([].toArray) })
  (fin:∀v h' tk,(n=0/\v=dv\/0<n/\P (argBest bt (n-1)) v)->(∀b o,b∉jD->b≠B->s.heap.get? b=some o->h'.get? b=some o)->R (.ok (.ret v)) { s with heap:=h',toks:=tk }) :
  codeAny (model prog w) A (.builtin "min.loop" #[[.ref it,.none,.ref B],[(key,dv)]]) R s:=by
 have nB:B∉jD:=λm=>hB (W.sub _ m)
 refine agR F.entry_min_loop ?_;rw[agd ah3 _];refine aaq (agQ gB rfl ?_)
 by_cases hn:0<n
 .refine aaq (ajN (W.item 0 s _ _ hn st λv h1 t1 pv xg kp=>?_));have qA:=kp B _ nB gB;show wpAny (model prog w) A.in1 (updateSeq B (λ_=>([v,v].toArray)) >>= _) _ _ _;refine aaq (aj9 qA rfl ?_);rw[D0];refine abP #[aix ah3 _,adj W bt Jd _ B hB _ 0 _ v _ rfl hn (W.frame _ _ _ xg λb m o e=>(ad6 _ _ (λz:B=b=>hB (by rw[z];apply m))).trans e) pv (agX _ qA rfl) λv2 h2 t2 p2 k2=>?_];apply fin v2 h2 t2 (.inr #[hn,p2]) λb o m1 m2 e=>k2 b o m1 m2 ((ad6 _ _ (afv m2)).trans (kp b o m1 e))
 .have en:n=0:=by lia
  refine aaq (ajN (W.done s _ _ (en ▸ st) λh1 t1 kp=>?_));apply aaq (akd (abP (fin dv h1 t1 (.inl #[en,rfl]) λb o m1 _ e=>kp b o m1 e)))
def Yq{id:String}{b:Builtin}{kw:List (Str×Value)}(hk:builtinKind id=none)(hp:plainId id=true)(hb:entryFor table id=some b)(ha:argsOk id #[args,kw])
  (hc:wpAny (model prog w) A.in1 (b #[args,kw]) (λfin s'=>match fin with
   |.done f=>(match(Except.ok f:Result) with|.ok (.ret v)=>Q v s'|.ok _=>False|.error e=>E e s')
   |.again c=>c.quiet=true/\codeAny (model prog w) A c (λr s'=>match r with|.ok (.ret v)=>Q v s'|.ok _=>False|.error e=>E e s') s') E s):wpAny (model prog w) A (call (.builtin id) args kw) Q E s:=by
 refine wpAny_call (codeAny_call_builtin hp hb ?_);simp only[checkBuiltinCall,hk];cases Wb:Manifest.signature? id with
 |none=>apply abP hc
 |some sig=>
  have h2:Bind.checkArgs id sig #[args,kw]=pure ():=by simpa only[argsOk,Wb] using ha
  simp only[h2];apply abP hc
theorem Vo:∀{vs} {ns} {i} {v},IntsAre vs ns->vs[i]? = some v->∃t,v=Value.int (ns.getD i 0) t
 |_,_,_,_,.nil,e=>by simp at e
 |_,_,0,_,.cons n t h,e=>by
  have e':=acB e;subst e';apply#[t,rfl]
 |_,_,i+1,v,.cons n t h,e=>by
  let#[u,eu]:=Vo h (by simpa using e);apply#[u,by simpa using eu]
def aeA{ns:List Int}(h:i<ns.length):ns.getD i 0∈ns:=by
 rw[adQ,aa1 h];apply List.getElem_mem h
def afu{l:Addr}{vs:List Value}{ns:List Int}{dv:Value}{Q:Value->Shared->Prop}(hh:A.handled=none)(hl:s.heap.IsList l vs.toArray)(hi:IntsAre vs ns)
  (fin:∀v h' tk,(ns=[]/\v=dv\/∃m t,v=.int m t/\m∈ns/\∀x∈ns,m<=x)->(∀b o,s.heap.get? b=some o->h'.get? b=some o)->Q v { s with heap:=h',toks:=tk }) :
  wpAny (model prog w) A (call (.builtin "min") [.ref l] [("default",dv)]) Q E s:=by
 refine Yq F.kind_min F.plain_min F.entry_min (Zc _ _) ?_;refine aaq (wpAny_of_eq (show Builtin.Builtins.bindParams "min" ["key","default"] 0 #[[],[("default",dv)]]=pure [none,some dv] from rfl) ?_);refine aaq (abP (aaq (wpAny_pyIter_list hl ?_)));refine aaq (aex ?_);rw[D0];have Qa:l<s.heap.objs.size:=let#[_,ho,_]:=hl;abG ho
 have hsz:(s.heap.push { cls:=.type "list_iterator",data:=.fields ([.ref l,.int 0 0].toArray) }).objs.size=s.heap.objs.size+1:=aif ..;have hv:∀(i) (v),vs.toArray[i]? = some v->∃t,v=Value.int (ns.getD i 0) t:=λi v e=>Vo hi (by simpa using e)
 have hlen:=hi.length;generalize ur:s.heap.push { cls:=.type "list_iterator",data:=.fields ([.ref l,.int 0 0].toArray) }=h1 at *;have g1:h1.get? s.heap.objs.size=some { cls:=.type "list_iterator",data:=.fields ([.ref l,.int 0 0].toArray) }:=by rw[<- ur];apply acm _ rfl
 have old:∀b o,s.heap.get? b=some o->h1.get? b=some o:=λb o e=>by rw[<- ur];apply aat _ e
 have nl:=acO Qa;have W:=Walks.list (prog:=prog) (w:=w) (A:=A.in1.in1) hh s.heap.objs.size l nl vs.toArray;have hB:h1.objs.size∉[s.heap.objs.size,l]:=by
  intro m;rcases aaO.mp m with z|z
  .rw[hsz] at z;apply absurd z (agY (ahO _))
  .have z:=aa6.mp z;rw[hsz] at z;apply absurd z (agY (aki Qa))
 refine abP #[aix ah3 _,YL W.of_in1 (λi j=>decide (ns.getD i 0<ns.getD j 0)) (CmpOf.ints_lt (λi=>ns.getD i 0) hv) _ dv h1.objs.size hB ?_ (acm _ rfl) λv h' tk Dj kp=>?_]
 .exact#[#[_,aat _ g1,rfl,rfl],hl.at λo e=>aat _ (old l o e)]
 .refine fin v h' tk ?_ λb o e=>kp b o ?_ ?_ (aat _ (old b o e))
  .have eU:vs.toArray.size=ns.length:=by rw[ab9,hlen]
   rw[eU] at Dj;rcases Dj with⟨h0,e⟩|⟨h0,pv⟩
   .exact .inl #[List.eq_nil_of_length_eq_zero h0,e]
   .let#[t,e]:=hv _ v pv;let#[a1,a2]:=argBest_lt (λi=>ns.getD i 0) (ns.length-1);refine .inr #[_,t,e,aeA (by omega),λx hx=>?_];let#[j,hj,rfl]:=List.getElem_of_mem hx;have:=a2 j (by omega);rw[show ns[j]=ns.getD j 0 by rw[adQ,aa1 hj];rfl];apply this
  .intro m;apply absurd (abG e) (by rw[aa6.mp m];apply aep _)
  .intro z;apply absurd (abG e) (by rw[z,hsz];apply Nat.not_lt.mpr (aj3 _))
def Yh(K:Fr)(ta td:TE):TE:=λU H Q=>ta U H λx H1=>td U H1 λy H2=>∃(l:Addr) (ns:List Int),x=.ref l/\cJ K H2 l (ns.map V.int)/\((ns=[]/\Q y H2)\/ns≠[]/\∀m,m∈ns->(∀n∈ns,m<=n)->Q (.int m) H2)
def aim{b:Expr}{kp:Pos}(hc:X.calm=true)(hm:X.mg "min"=none)(ha:PE X a ta)(hb:PE X b td)(hg:Gl X "min":=by rfl)(hs:Y1 X a:=by rfl)
  (h1:backTo pos (starEach [a] X.env)=(false,eval a X.env)::backTo pos (starEach [] X.env):=by rfl) (h2:(backTo pos (starEach [a] X.env)).any (·.1)=false:=by rfl)
  (h3:(backToKw pos (keywordEach [#[some "default",b,kp]] X.env)).all (·.1.isSome)=true:=by rfl) (h4:(backToKw pos (keywordEach [#[some "default",b,kp]] X.env)).any (·.1.isNone)=false:=by rfl)
  (h5:(backToKw pos (keywordEach [#[some "default",b,kp]] X.env)).filterMap (·.1)=[("default":Str)]:=by rfl) :
  PE X (.Call (.Name "min" p) [a] [#[some "default",b,kp]] pos) (Yh X.K ta td):=by
 exists 44;refine afq (rN I hg hm (show bootBuiltins "min"=some (.builtin "min") by decide +kernel) ?_ (by decide) (by decide));refine callWith_kw ?_ h1 h2 h3 h4;rw[h5];refine Ag (dg ha e_ hs pos af s U H (λvs H1=>match vs with|[x]=>td U H1 λy H2=>∃(l:Addr) (ns:List Int),x=.ref l/\cJ X.K H2 l (ns.map V.int)/\((ns=[]/\Q y H2)\/ns≠[]/\∀m,m∈ns->(∀n∈ns,m<=n)->Q (.int m) H2)|_=>False) I h) λus s1 vs H1 I1 rv q1=>?_
 rcases vs with _|⟨x,_|⟨x2,r2⟩⟩
 .exact q1.elim
 .let#[u,rfl,ru]:=vals1 rv;refine kws_cons (cL (hb af s1 U H1 _ I1 q1) ?_)
  rintro dv s2 ⟨y,H2,I2,ry,l,ns,ex,hq,q2⟩
  refine kws_nil ?_;subst ex;ext ru;let#[av,ri,pl,hz]:=I2.list hq;refine afu (I2.ok.hd hc) pl.isList (intsAre_of ri) λv h' tk Dj kp=>?_
  rcases Dj with⟨en,ev⟩|⟨m,t,ev,pB,vI⟩
  .subst ev;rcases q2 with⟨_,q2⟩|⟨ne,_⟩
   .exact#[y,H2,I2.kept kp,ry,q2]
   .exact absurd en ne
  .subst ev;rcases q2 with⟨en,_⟩|⟨_,q2⟩
   .rw[en] at pB;ext pB
   .exact#[.int m,H2,I2.kept kp,#[t,rfl],q2 m pB vI]
 .exact q1.elim
end L2
namespace PySem
def ail:typeLookup (.type "list") "keys"=pure none:=by rw[typeLookup_type,builtinLookup_eq_fast];kernel_rfl
def ad1(hx:s.heap.get? a=some { cls:=.type "list",dict:=none,data:=.seq xs k,slots:=sl })(hA:A.handled=none)
  (h:∀h' tk,(∀b o,s.heap.get? b=some o->h'.get? b=some o)->Q none { s with heap:=h',toks:=tk }):wpAny (model prog w) A (getAttr? (.ref a) "keys") Q E s:=by
 let#[hp,g,d,tk,os]:=s;have hT:∀Ul,(#[hp,g,d,Ul,os]:Shared).TypeIs (.ref a) "list":=λ_=>#[_,hx,rfl]
 have f1:=sub_AttributeError;have f3:=F.slot_list_getattribute.lookup;have f4:=F.slot_list_getattribute.bind (.ref a);have f5:=am_list_getattr_none;unfold getAttr? getAttrBy? getAttrBy
 repeat (any_goals (first|assumption|exact hT _|((with_reducible show wpAny _ _ (call (Value.builtin "list.__getattribute__") _ _) _ _ _);refine call_meets F.slot_list_getattribute (hT _) am_entry_list_getattribute (F.args_list_getattribute_2 _ _) (meets_getattribute_miss_list a xs k sl "keys" _ ail (by decide +kernel)) #[hx,hA,λh' Ul e Mh=>?_])|wp_step))
 let#[t',u',he]:=Mh.there;unfold getattributeRaised
 repeat (any_goals (first|assumption|wp_step))
 all_goals apply h _ _ Mh.keeps
end PySem
namespace L2
open PySem PySem.Spec PyProof.Rows
def Bf:plainId "dict.update.loop"=true:=by decide +kernel
def Tu:entryFor table "dict.update.loop"=some Builtin.«dict.update.loop»:=entryFor_of_fast (by kernel_rfl)
def pairAt{prog:Program}{w:World}{κ:Type}[DecidableEq κ](knd:KeyKind prog w κ)(h:Heap)(no:List Addr)(v:Value)(p:κ×Value):Prop:=∃a key,v=.ref a/\a∉no/\IsTup h a ([key,p.2].toArray)/\knd.is p.1 key=true
section
variable[DecidableEq κ]{knd:KeyKind prog w κ}
def aaA(W:Walks prog w A.in1 it dX jD n P T)(hd:d∉dX)(h0:Heap)(ps:List (κ×Value))(hn:ps.length=n)(hP:∀i v,P i v->∃p,ps[i]? = some p/\pairAt knd h0 (d::jD) v p)(res:Value):
  ∀(k i) (s) (m) (Ge),n-i=k->i<=n->T i s.heap->s.heap.DictOf knd d m->m.length+(n-i)<=sizeLine->(∀b o,b∉d::jD->h0.get? b=some o->s.heap.get? b=some o)->
   (∀h' tk,h'.DictOf knd d ((ps.drop i).foldl (λm p=>stored m p.1 p.2) m)->(∀b o,b∉d::jD->h0.get? b=some o->h'.get? b=some o)->R (.ok (.ret res)) { s with heap:=h',toks:=tk })->
   codeAny (model prog w) A (.builtin "dict.update.loop" #[[.ref d,.ref it,.int i Ge,res],[]]) R s:=by
 have nd:d∉jD:=λm=>hd (W.sub _ m)
 intro k
 induction k with
 |zero=>
  intro i s m Ge e1 e2 st dm hz kp fin;have en:i=n:=by lia
  subst en;refine agR Tu ?_;rw[agd Bf _];refine aaq (W.done s _ _ st λh1 t1 k1=>?_);refine aaq (abP (abP (fin h1 t1 ?_ λb o mb e=>k1 b o (λz=>mb (aar _ z)) (kp b o mb e))));rw[List.drop_eq_nil_of_le (by lia)];let#[o,es,ep,ho,r]:=dm;apply#[o,es,ep,k1 d o nd ho,r]
 |succ k ih=>
  intro i s m Ge e1 e2 st dm hz kp fin;have lt:i<n:=by lia
  refine agR Tu ?_;rw[agd Bf _];refine aaq (W.item i s _ _ lt st λv h1 t1 pv xg k1=>?_);let#[p,ep,a,key,rfl,na,hpt,zX]:=hP i v pv;have dm1:h1.DictOf knd d m:=by
   let#[o,es,ep,ho,r]:=dm;apply#[o,es,ep,k1 d o nd ho,r]
  let#[oa,Zy,hca,na',hda]:=hpt;have ga:=k1 a oa (λz=>na (aar _ z)) (kp a oa na Zy);refine aaq (ae1 ?_);refine aaq (ajN ?_);unfold Builtin.Dict.pairItems;refine aaq (aj5 #[oa,ga,hca] ?_);rw[if_pos (by decide)];refine aaq (agQ ga hda (abP ?_));refine ae1 (wpAny_dictSet_pairs zX dm1 (λh2 dm2 sb=>?_) (by lia));have OI:∀b o,b≠d->h1.get? b=some o->h2.get? b=some o:=λb o hb e=>(sb.2 b hb).trans e
  have uX:=W.frame _ _ _ xg λb mb o e=>OI b o (λz=>hd (by rw[<- z];apply mb)) e
  have xh:(stored m p.1 p.2).length<=m.length+1:=by
   unfold stored
   split
   .rw[List.length_map];apply aj3 _
   .rw[abV];apply abD _
  refine abP #[aix Bf _,?_];refine ih (i+1) _ (stored m p.1 p.2) 0 (by lia) lt uX dm2 (by lia) (λb o mb e=>OI b o (λz=>mb (by rw[z];apply aav)) (k1 b o (λz=>mb (aar _ z)) (kp b o mb e))) λh3 t3 Lg k3=>?_
  refine fin h3 t3 ?_ k3;have hi:i<ps.length:=by lia
  have zD:ps[i]=p:=by rw[aa1 hi] at ep;apply acB ep
  rw[ajR hi,aeu,zD];apply Lg
def aey(ps:List (κ×Value))(hz:ps.length<=sizeLine)(T0:String)(WR:(Value.type T0 != Value.type "dict")=true)
  (zS:∀o,({ s with heap:=s.heap.push o }:Shared).TypeIs x T0)
  (hk:∀(o) (Q') (E'),(∀h' tk,(∀b ob,(s.heap.push o).get? b=some ob->h'.get? b=some ob)->Q' none { s with heap:=h',toks:=tk })->wpAny (model prog w) A.in1.in1 (getAttr? x "keys") Q' E' { s with heap:=s.heap.push o })
  (hi:∀(s2) (Q') (E'),(∀b ob,s.heap.get? b=some ob->s2.heap.get? b=some ob)->(∃o,s2.heap.get? s.heap.objs.size=some o)->
   (∀I dX jD n P T h3,Walks prog w A.in1.in1 I dX jD n P T->T 0 h3->ps.length=n->s.heap.objs.size∉dX->(∀b ob,s2.heap.get? b=some ob->h3.get? b=some ob)->(∀b∈jD,s.heap.get? b=none)->(∀i v,P i v->∃p,ps[i]? = some p/\pairAt knd s.heap (s.heap.objs.size::jD) v p)->Q' (.ref I) { s2 with heap:=h3 })->
   wpAny (model prog w) A.in1.in1 (pyIter x) Q' E' s2)
  (h:∀h' tk,h'.DictOf knd s.heap.objs.size (ps.foldl (λm p=>stored m p.1 p.2) [])->(∀b o,s.heap.get? b=some o->h'.get? b=some o)->Q (.ref s.heap.objs.size) { s with heap:=h',toks:=tk }) :
  wpAny (model prog w) A (call (.type "dict") [x]) Q E s:=by
 refine callType_codes (Q₁:=λobj bZ=>obj=.ref s.heap.objs.size/\bZ={ s with heap:=s.heap.push { cls:=.type "dict",data:=.dict ([].toArray) } }) F.kt_called_dict (F.kt_typeCall_dict_1 _) F.entry_dict_init (kt_code_dict_new _ #[rfl,rfl]) ?_
 rintro obj bZ ⟨rfl,rfl⟩
 have H_:(s.heap.push { cls:=.type "dict",data:=.dict ([].toArray) }).DictOf knd s.heap.objs.size []:=Heap.DictOf.new s.heap;refine#[H_.typeIs,F.args_dict_init_2 _ _,?_];unfold Builtin.«dict.__init__»;refine aaq ?_;unfold Builtin.Dict.selfAndRest;refine aaq (wpAny_notOrdered_dict H_.typeIs ?_);refine abP ?_;show wpAny (model prog w) _ (Builtin.Dict.updateFrom "dict.__init__" s.heap.objs.size x [] .none) _ _ _;unfold Builtin.Dict.updateFrom;refine aaq (aj5 (zS _) ?_);rw[if_pos WR];refine aaq (hk _ _ _ λh1 t1 k1=>?_);refine aaq (akd (aaq ?_));have o1:∀b ob,s.heap.get? b=some ob->h1.get? b=some ob:=λb ob e=>k1 b ob (aat _ e)
 refine hi { s with heap:=h1,toks:=t1 } _ _ o1 #[_,k1 _ _ (acm _ rfl)] (λI dX jD n P T h3 W st hn hd k3 hw hP=>?_);have Lg:h3.DictOf knd s.heap.objs.size []:=by
  let#[o,es,ep,ho,r]:=H_;apply#[o,es,ep,k3 _ o (k1 _ o ho),r]
 refine abP #[aix Bf _,aaA W hd s.heap ps hn hP .none n 0 _ [] 0 rfl (acP _) st Lg (by rw[List.length_nil];lia) (λb o _ e=>k3 b o (o1 b o e)) λh4 t4 dm4 k4=>?_];refine#[rfl,h h4 t4 (by simpa using dm4) λb o e=>k4 b o (λm=>?_) e];rcases aaO.mp m with z|z
 .exact absurd (abG e) (by rw[z];apply aep _)
 .rw[hw b z] at e;ext e
end
theorem PN[DecidableEq κ]:∀{ps} {qs} {m}{r:List (κ×Value)},KV ps qs->KV m r->KV (ps.foldl (λm p=>putK m p.1 p.2) m) (qs.foldl (λm p=>stored m p.1 p.2) r)
 |_,_,_,_,.nil,h=>h
 |_,_,_,_,.cons (a:=p) e t,h=>by
  rw[aeu,aeu];refine PN t ?_;rw[<- e.1];apply h.put p.1 e.2
def Mr(K:Fr):List V->Hp->VK->Prop:=λxs H Q=>∃(p:Addr) (ys:List V) (ps:List (Key×V)),xs=[.ref p]/\cJ K H p ys/\Paired (λy (q:Key×V)=>∃a,y=.ref a/\bQ K H a [kV q.1,q.2]) ys ps/\
 ∀l,H l=none->Q (.ref l) (upd H l (.dK (ps.foldl (λm q=>putK m q.1 q.2) [])))
theorem NC(I:Inv X af U H s):∀{ys} {ps} {av},Paired (λy (q:Key×V)=>∃a,y=.ref a/\bQ X.K H a [kV q.1,q.2]) ys ps->aS ys av->
  ∃qs:List (Key×Value),KV ps qs/\∀(i:Nat) (v),av[i]? = some v->∃q,qs[i]? = some q/\∃a key,v=.ref a/\IsTup s.heap a ([key,q.2].toArray)/\(f7 X.prog X.w).is q.1 key=true
 |_,_,_,.nil,.nil=>#[[],.nil,λi v e=>by simp at e]
 |_,_,_,.cons (b:=q) #[a,ey,hr] t,.cons (b:=u) r rs=>by
  let#[qs,h1,h2]:=NC I t rs;subst ey;ext r;let#[us,ru,pt,_]:=I.tuple hr;let#[key,x,rfl,rk,rx]:=vals2 ru;refine#[(q.1,x)::qs,.cons #[rfl,rx] h1,λi v e=>?_];cases i with
  |zero=>
   have e':=acB e;subst e';apply#[_,rfl,a,key,rfl,pt,uv rk]
  |succ i=>
   let#[q',e1,e2]:=h2 i v (by simpa using e);apply#[q',by simpa using e1,e2]
def aaS(hc:X.calm=true):ie X (.type "dict") (Mr X.K):=by
 exists 43;let#[p,ys,ps,rfl,hq,uF,q]:=h;let#[u,rfl,ru]:=vals1 r;ext ru;have hh:=I.ok.hd hc;have big:=I.big;have fin:∀(av:List Value) (qs:List (Key×Value)),KV ps qs->ys.length<=sizeLine->∀h' tk,h'.DictOf (f7 X.prog X.w) s.heap.objs.size (qs.foldl (λm p=>stored m p.1 p.2) [])->(∀b o,s.heap.get? b=some o->h'.get? b=some o)->
   EP X af U Q (.ref s.heap.objs.size) { s with heap:=h',toks:=tk }:=by
  intro av qs yq hz h' tk dm kp;have rel:=PN yq .nil;have oE:∀(l:List (Key×V)) (m),(l.foldl (λm q=>putK m q.1 q.2) m).length<=m.length+l.length:=by
   intro l
   induction l with
   |nil=>intro m;apply abD _
   |cons a l ih=>
    intro m;rw[aeu];have h1:=ih (putK m a.1 a.2);have h2:=HY m a.1 a.2;rw[acv]
    lia
  have hl:=(Paired.length uF).symm;refine#[.ref s.heap.objs.size,_,I.laid kp (abD _) (RI ?_ (adY.mpr (afv (acO big))) rel dm),rfl,q _ (I.aG.fresh (abD _))];have:=oE ps [];rw[List.length_nil] at this
  lia
 have S1:∀{qs},KV ps qs->qs.length=ys.length:=λh=>by rw[<- h.length];apply(Paired.length uF).symm
 have BK:∀{s2:Shared},(∃o,s2.heap.get? s.heap.objs.size=some o)->s.heap.objs.size<s2.heap.objs.size:=λ⟨_,e⟩=>abG e
 let#[av,rv,pl,hz]:=I.list hq;let#[qs,yq,uy]:=NC I uF rv;let#[o,n,ho,uE,SM,KW]:=pl;have hp:=abG ho;refine aey qs (by rw[S1 yq];apply hz) "list" (by decide) (λob=>#[o,aat _ ho,uE]) (λob Q' E' k=>?_) (λs2 Q' E' o2 hS k=>?_) (λh' tk dm kp=>fin av qs yq hz h' tk dm kp)
 .let#[c0,d0,dt0,sl0]:=o;dsimp only at uE SM KW;subst uE SM KW;apply ad1 (aat _ ho) hh λh1 t1 kp=>k h1 t1 kp
 .have xh:s2.heap.IsList p av.toArray:=#[o,o2 p o ho,uE,n,KW]
  refine wpAny_pyIter_list xh (k s2.heap.objs.size [s2.heap.objs.size,p] [s2.heap.objs.size] _ _ _ _ (Walks.list (A:=X.A.in1.in1) hh s2.heap.objs.size p (acO (Nat.lt_trans hp (BK hS))) av.toArray) #[#[_,acm _ rfl,rfl,rfl],xh.push _] (by rw[S1 yq,ab9,<- rv.length]) ?_ (λb ob e=>aat _ e) ?_ λi v e=>?_)
  .intro m;rcases aaO.mp m with z|z
   .exact absurd z (acO (BK hS))
   .exact absurd (aa6.mp z) (agY hp)
  .intro b m;rw[aa6.mp m];apply Heap.get?_none_of_le (afR (BK hS))
  .let#[q',e1,a,key,e2,e3,e4]:=uy i v (by simpa using e);refine#[q',e1,a,key,e2,λm=>?_,e3,e4];let#[oa,ha,_]:=e3;rcases aaO.mp m with z|z
   .exact absurd (abG ha) (by rw[z];apply aep _)
   .exact absurd (abG ha) (by rw[aa6.mp z];apply Nat.not_lt.mpr (afR (BK hS)))
end L2
namespace L2.Ev
open PySem PySem.Spec PyProof.Rows
structure VA(X:Cx)(i:Nat)(x:Str):Prop where
 N:X.N[i]? = some x:=by rfl
 v:De X.env.scope x:=by first|exact Or.inl rfl|exact Or.inr (Or.inl rfl)|exact Or.inr (Or.inr rfl)
 d:(x==("__debug__":Str))=false:=by decide
 c:(x==("__classdict__":Str))=false:=by decide
def VA.pe(h:VA X i x):PE X (.Name x p) (pS i):=M7 h.N h.v h.d h.c
def wK(X:Cx)(o:Expr)(m:Str)(apos:Pos)(as:List Expr)(pos:Pos)(pl:Sem Bool):Prop:=eval (.Call (.Attribute o m apos) as [] pos) X.env=(do
   let ov <- eval o X.env
   standAt apos.atName
   let(f,first) <- holding [ov] (getMethod ov m pl)
   callWith pos f first (backTo pos (starEach as X.env)) (backToKw pos (keywordEach [] X.env)))
def SE(X:Cx)(e:Expr)(es:List Expr)(pos:Pos):Prop:=starEach (e::es) X.env=(false,eval e X.env)::starEach es X.env/\(backTo pos (starEach es X.env)).any (·.1)=false
def GD(X:Cx)(x:Str):Prop:=Gl X x/\(x==("__debug__":Str))=false
abbrev XN:=Str×Option Nat
inductive D where
 |aC|bl (b:Bool)|int (i:Int)|str (x:Str)|tup (ds:List D)|lst (ds:List D)|kZ (ds:List D)|cG (ak:List (Key×D))|dN (ak:List (List Key×D))|ins (cn:Str) (fs:List (Str×D))|exc (cn:XN)
def rZ(K:Fr)(H:Hp)(a:Addr)(xs:List V):Prop:=(∃o,H a=some (.cC o (.lst xs)))\/
 ∃(o:Obj) (av:Array Value) (n:Nat),K.lookup a=some o/\o.cls=.type "list"/\o.dict=none/\o.data=.seq av n/\av.size<=sizeLine/\aS xs av.toList
def rZ.sq{K:Fr}(h:rZ K H a xs):cJ K H a xs:=h.elim (λz=>.inl (.inr z)) .inr
mutual
inductive Rep(K:Fr)(H:Hp):D->V->List Addr->Prop
 |aC:Rep K H .aC .aC []
 |bl (b:Bool):Rep K H (.bl b) (.bl b) []
 |int (i:Int):Rep K H (.int i) (.int i) []
 |str (x:Str):Rep K H (.str x) (.str x) []
 |tup {a:Addr}{xs:List V}{ds:List D}{fp:List Addr}:bQ K H a xs->aD K H ds xs fp->Rep K H (.tup ds) (.ref a) fp
 |lst {a:Addr}{xs:List V}{ds:List D}{fp:List Addr}:H a=some (.lst xs)->aD K H ds xs fp->Rep K H (.lst ds) (.ref a) (a::fp)
 |Ec {a:Addr}{xs:List V}{ds:List D}{fp:List Addr}:rZ K H a xs->aD K H ds xs fp->Rep K H (.kZ ds) (.ref a) fp
 |cG {a:Addr}{ak:List (Key×V)}{es:List (Key×D)}{fp:List Addr}:H a=some (.dK ak)->es.map (·.1)=ak.map (·.1)->aD K H (es.map (·.2)) (ak.map (·.2)) fp->Rep K H (.cG es) (.ref a) (a::fp)
 |dN {a:Addr}{ak:List (List Key×V)}{es:List (List Key×D)}{fp:List Addr}:H a=some (.dT ak)->es.map (·.1)=ak.map (·.1)->aD K H (es.map (·.2)) (ak.map (·.2)) fp->Rep K H (.dN es) (.ref a) (a::fp)
 |ins {cn:Str}{a C dx:Addr}{fs:List (Str×V)}{es:List (Str×D)}{fp:List Addr}:PySem.W.nsIn K mainGlobals cn=some (some (.ref C))->H a=some (.ins C dx fs)->H dx=some (.own a)->es.map (·.1)=fs.map (·.1)->aD K H (es.map (·.2)) (fs.map (·.2)) fp->Rep K H (.ins cn es) (.ref a) (a::dx::fp)
 |exc {cn:XN}{a C:Addr}{de:Option Addr}{ob:Obj}:PySem.W.nsIn K mainGlobals cn.1=some (some (.ref C))->H a=some (yh ob a (.ref C) de)->(∀n,cn.2=some n->∃dx,de=some dx/\H dx=some (LJ dx n))->Rep K H (.exc cn) (.ref a) []
inductive aD(K:Fr)(H:Hp):List D->List V->List Addr->Prop
 |nil:aD K H [] [] []
 |cons {d:D}{v:V}{ds:List D}{vs:List V}{f1 f2:List Addr}:Rep K H d v f1->aD K H ds vs f2->aD K H (d::ds) (v::vs) (f1++f2)
end
def aW(H H':Hp):Prop:=(∀a xs,H a=some (.tup xs)->H' a=some (.tup xs))/\(∀a o u,H a=some (.cC o u)->H' a=some (.cC o u))/\∀a φ,H a=some (.ext φ)->H' a=some (.ext φ)
def aW.WN{K:Fr}(i:aW H H')(h:bQ K H a xs):bQ K H' a xs:=by
 rcases h with(h|⟨o,h⟩)|h
 .exact .inl (.inl (i.1 _ _ h))
 .exact .inl (.inr #[o,i.2.1 _ _ _ h])
 .exact .inr h
def aW.cC{K:Fr}(i:aW H H')(h:rZ K H a xs):rZ K H' a xs:=by
 rcases h with⟨o,h⟩|h
 .exact .inl #[o,i.2.1 _ _ _ h]
 .exact .inr h
def aW.of(h:aH H H'):aW H H':=#[λ_ _ e=>h _ _ e,λ_ _ _ e=>h _ _ e,λ_ _ e=>h _ _ e]
def aW.trans(a:aW H H1)(b:aW H1 H2):aW H H2:=#[λ_ _ e=>b.1 _ _ (a.1 _ _ e),λ_ _ _ e=>b.2.1 _ _ _ (a.2.1 _ _ _ e),λ_ _ e=>b.2.2 _ _ (a.2.2 _ _ e)]
def jn:HO->Bool
 |.lst _|.dK _|.dT _|.ins _ _ _|.own _=>true
 |_=>false
theorem aW.upd(h:H p=some o)(m:jn o=true):aW H (upd H p o'):=by
 refine#[λa xs e=>?_,λa q u e=>?_,λa q e=>?_]
 .rw[aJ]
  .exact e
  .rintro rfl;rw[h] at e;ext e;ext m
 .rw[aJ]
  .exact e
  .rintro rfl;rw[h] at e;ext e;ext m
 .rw[aJ]
  .exact e
  .rintro rfl;rw[h] at e;ext e;ext m
section
variable{K:Fr}
def Rep.frame(r:Rep K H d v fp)(k:∀a∈fp,H' a=H a)(i:aW H H'):Rep K H' d v fp:=
 Rep.rec (motive_2:=λd v fp _=>(∀a∈fp,H' a=H a)->aD K H' d v fp) (λ_=>.aC) (λb _=>.bl b) (λn _=>.int n) (λx _=>.str x) (λh _ r k=>.tup (i.WN h) (r k))
  (λh _ r k=>.lst ((k _ (.head _)).trans h) (r λa m=>k a (.tail _ m))) (λh _ r k=>.Ec (i.cC h) (r k)) (λh e _ r k=>.cG ((k _ (.head _)).trans h) e (r λa m=>k a (.tail _ m))) (λh e _ r k=>.dN ((k _ (.head _)).trans h) e (r λa m=>k a (.tail _ m)))
  (λg h h2 e _ r k=>.ins g ((k _ (.head _)).trans h) ((k _ (.tail _ (.head _))).trans h2) e (r λa m=>k a (.tail _ (.tail _ m)))) (λg h p _=>.exc g (i.2.1 _ _ _ h) λn e=>(p n e).imp λ_ q=>#[q.1,i.2.2 _ _ q.2])
  (λ_=>.nil) (λ_ _ h t k=>.cons (h λa m=>k a (abz _ m)) (t λa m=>k a (aaH _ m))) r k
def aD.frame:∀{ds} {vs} {fp},aD K H ds vs fp->(∀a∈fp,H' a=H a)->aW H H'->aD K H' ds vs fp
 |_,_,_,.nil,_,_=>.nil
 |_,_,_,.cons h t,k,i=>.cons (h.frame (λa m=>k a (abz _ m)) i) (aD.frame t (λa m=>k a (aaH _ m)) i)
def Rep.cO(r:Rep K H d v fp):∀a∈fp,∃o,H a=some o/\jn o=true:=by
 have c:∀{b} {o} {f},H b=some o->jn o=true->(∀a∈f,∃o,H a=some o/\jn o=true)->∀a∈b::f,∃o,H a=some o/\jn o=true:=λh m r a=>λ| .head _=>#[_,h,m]|.tail _ z=>r a z
 have n:∀a∈([]:List Addr),∃o,H a=some o/\jn o=true:=λ_ m=>nomatch m
 apply Rep.rec n (λ_=>n) (λ_=>n) (λ_=>n) (λ_ _ r=>r) (λh _ r=>c h rfl r) (λ_ _ r=>r) (λh _ _ r=>c h rfl r) (λh _ _ r=>c h rfl r)
  (λ_ h h2 _ _ r=>c h rfl (c h2 rfl r)) (λ_ _ _=>n) n (λ_ _ h t a m=>(abH.mp m).elim (h a) (t a)) r
def aD.cO:∀{ds} {vs} {fp},aD K H ds vs fp->∀a∈fp,∃o,H a=some o/\jn o=true
 |_,_,_,.nil,_,m=>nomatch m
 |_,_,_,.cons h t,a,m=>(abH.mp m).elim (h.cO a) (aD.cO t a)
def Rep.same(h:Rep K H d v fp)(s:aH H H'):Rep K H' d v fp:=
 h.frame (λa m=>let#[o,e,_]:=h.cO a m;(s a o e).trans e.symm) (.of s)
def aD.same(h:aD K H ds vs fp)(s:aH H H'):aD K H' ds vs fp:=
 h.frame (λa m=>let#[o,e,_]:=h.cO a m;(s a o e).trans e.symm) (.of s)
def aD.length:∀{ds} {vs} {fp},aD K H ds vs fp->ds.length=vs.length
 |_,_,_,.nil=>rfl
 |_,_,_,.cons _ t=>by rw[acv,acv,aD.length t]
def aD.get:∀{ds} {vs} {fp}{i:Nat} {d},aD K H ds vs fp->ds[i]? = some d->∃v f,vs[i]? = some v/\Rep K H d v f/\∀a∈f,a∈fp
 |_,_,_,_,_,.nil,e=>by simp at e
 |_,_,_,0,_,.cons h t,e=>by
  have e':=acB e;subst e';apply#[_,_,rfl,h,λa m=>abz _ m]
 |_,_,_,i+1,d,.cons h t,e=>by
  let#[v,f,e1,r,s]:=aD.get t (by simpa using e);apply#[v,f,by simpa using e1,r,λa m=>aaH _ (s a m)]
def aD.append:∀{ds es} {vs ws} {f g},aD K H ds vs f->aD K H es ws g->aD K H (ds++es) (vs++ws) (f++g)
 |_,_,_,_,_,_,.nil,s=>s
 |_,_,_,_,_,g,.cons h t,s=>by
  rw[afn];apply .cons h (aD.append t s)
end
def Rep.jq{K:Fr}(r:Rep K H (.int i) v fp):v=.int i/\fp=[]:=by ext r;apply#[rfl,rfl]
def Rep.DB{K:Fr}(r:Rep K H (.bl i) v fp):v=.bl i/\fp=[]:=by ext r;apply#[rfl,rfl]
def Rep.xj{K:Fr}(r:Rep K H (.str i) v fp):v=.str i/\fp=[]:=by ext r;apply#[rfl,rfl]
def Rep.D8{K:Fr}(r:Rep K H .aC v fp):v=.aC/\fp=[]:=by ext r;apply#[rfl,rfl]
mutual
def aA:D->Bool
 |.lst _|.cG _|.dN _|.ins _ _=>false
 |.tup ds=>aK ds
 |.kZ ds=>aK ds
 |_=>true
def aK:List D->Bool
 |[]=>true
 |d::ds=>aA d&&aK ds
end
section
variable{K:Fr}
theorem Rep.aA(r:Rep K H d v fp)(e:aA d=true):fp=[]:=
 Rep.rec (motive_2:=λds _ fp _=>aK ds=true->fp=[]) (λ_=>rfl) (λ_ _=>rfl) (λ_ _=>rfl) (λ_ _=>rfl) (λ_ _ r e=>r (by rw[L2.Ev.aA] at e;apply e)) (λ_ _ _ e=>by delta L2.Ev.aA at e;ext e) (λ_ _ r e=>r (by rw[L2.Ev.aA] at e;apply e))
  (λ_ _ _ _ e=>by delta L2.Ev.aA at e;ext e) (λ_ _ _ _ e=>by delta L2.Ev.aA at e;ext e) (λ_ _ _ _ _ _ e=>by delta L2.Ev.aA at e;ext e) (λ_ _ _ _=>rfl) (λ_=>rfl) (λ_ _ h t e=>by
   rw[aK,aaM] at e;rw[h e.1,t e.2];rfl) r e
def aD.aA:∀{ds} {vs} {fp},aD K H ds vs fp->aK ds=true->fp=[]
 |_,_,_,.nil,_=>rfl
 |_,_,_,.cons h t,e=>by
  rw[aK,aaM] at e;rw[h.aA e.1,aD.aA t e.2];rfl
end
inductive Tag where
 |own|lk|sh (o:List Nat)
abbrev Slot:=Option (D×Tag)
abbrev aL:=List Slot
def vv(z:Addr->Option Nat)(i:Nat):Tag->List Addr->Prop
 |.sh o,fp=>∀a∈fp,∀j,z a=some j->j∈o
 |_,fp=>fp.Nodup/\∀a∈fp,z a=some i
def vo(Y:aL)(j:Nat):Prop:=∀d,Y[j]?≠some (some (d,.own))
structure qv where
 d:D
 v:V
 fp:List Addr
 z0:Addr->Option Nat
structure Ok(K:Fr)(H0:Hp)(S:List Addr)(z:Addr->Option Nat)(aq:List qv)(Y:aL)(U:St)(H:Hp):Prop where
 sl:∀i d t,Y[i]? = some (some (d,t))->∃v fp,U[i]? = some (some v)/\Rep K H d v fp/\vv z i t fp
 hl:∀p∈aq,Rep K H p.d p.v p.fp/\∀a∈p.fp,∀j,z a=some j->p.z0 a=some j/\vo Y j
 zd:∀a j,z a=some j->(∃o,H a=some o)/\(H0 a=none\/a∈S)
 en:∀a o,H0 a=some o->a∉S->H a=some o
 ln:Y.length=U.length
def Ok.same{K:Fr}(h:Ok K H0 S z aq Y U H)(s:aH H H'):Ok K H0 S z aq Y U H':=
 #[λi d t e=>let#[v,fp,a,b,c]:=h.sl i d t e;#[v,fp,a,b.same s,c],λp m=>let#[a,b]:=h.hl p m;#[a.same s,b],
  λa j e=>let#[#[o,x],y]:=h.zd a j e;#[#[o,s _ _ x],y],λa o e n=>s _ _ (h.en a o e n),h.ln]
def cR(z:Addr->Option Nat)(H:Hp):Tag->List Addr->Prop
 |.sh o,fp=>∀a∈fp,∀j,z a=some j->j∈o
 |_,fp=>fp.Nodup/\∀a∈fp,H a=none
def cR.nil:cR z H t []:=by
 cases t with
 |sh o=>intro a m;ext m
 |own=>apply#[acE,λa m=>nomatch m]
 |lk=>apply#[acE,λa m=>nomatch m]
abbrev EF:=aL->Option (D×Tag)
def FP(X:Cx)(e:Expr)(f:EF):Prop:=∃t,PE X e t/\∀{H0} {S} {z} {aq} {Y} {U} {H} {Q} {d} {tg},
 Ok X.K H0 S z aq Y U H->f Y=some (d,tg)->(∀H' v fp,aH H H'->Rep X.K H' d v fp->cR z H tg fp->Q v H')->t U H Q
abbrev AF:=aL->Option (List (D×Tag))
abbrev TF:=aL->Option Bool
def FT(X:Cx)(e:Expr)(f:TF):Prop:=∃t,PT X e t/\∀{H0} {S} {z} {aq} {Y} {U} {H} {Q} {b},
 Ok X.K H0 S z aq Y U H->f Y=some b->(∀H',aH H H'->Q b H')->t U H Q
def CO(i:Nat):Tag->Tag
 |.sh o=>.sh o
 |_=>.sh [i]
def aj(i:Nat):EF:=λY=>match Y[i]? with
 |some (some (d,t))=>some (d,CO i t)
 |_=>none
def ah(i:Nat)(va:VA X i x:=by walk_at "va"):FP X (.Name x pos) (aj i):=by
 exists 20,va.pe;unfold aj at e;exists h,Y[i]?,s,e,0;cases s with
 |none=>rw[h] at e;ext e
 |some p=>
  let#[d',t]:=p;rw[h] at e;have e':=acB e;have e1:=congrArg Prod.fst e';have e2:=congrArg Prod.snd e';subst e1 e2;let#[v,fp,hs,r,zz]:=ok.sl i d' t h;refine#[v,hs,q H v fp (aH.refl H) r ?_];cases t with
  |sh o=>apply zz
  |own=>intro a m j ej;rw[zz.2 a m] at ej;ext ej;apply aav
  |lk=>intro a m j ej;rw[zz.2 a m] at ej;ext ej;apply aav
def eC(d:D):EF:=λ_=>some (d,.own)
def ay{i j pos}:FP X (.Constant (.int i) j pos) (eC (.int i)):=#[_,Jl,@λ_ _ _ _ _ _ H _ _ _ _ e q=>by ext e;apply q H _ _ (aH.refl H) (.int i) .nil]
def gW{b j pos}:FP X (.Constant (.bool b) j pos) (eC (.bl b)):=#[_,ac9,@λ_ _ _ _ _ _ H _ _ _ _ e q=>by ext e;apply q H _ _ (aH.refl H) (.bl b) .nil]
def nX{j pos}:FP X (.Constant .none j pos) (eC .aC):=#[_,aeN,@λ_ _ _ _ _ _ H _ _ _ _ e q=>by ext e;apply q H _ _ (aH.refl H) .aC .nil]
def bT{x j pos}:FP X (.Constant (.str x) j pos) (eC (.str x)):=#[_,P_,@λ_ _ _ _ _ _ H _ _ _ _ e q=>by ext e;apply q H _ _ (aH.refl H) (.str x) .nil]
def e2(op:D->D->Option D)(fa fb:EF):EF:=λY=>match fa Y,fb Y with
 |some (d1,_),some (d2,_)=>(op d1 d2).map λd=>(d,.own)
 |_,_=>none
def sy(e:e2 op fa fb Y=some (d,tg)):∃d1 t1 d2 t2,fa Y=some (d1,t1)/\fb Y=some (d2,t2)/\op d1 d2=some d/\tg=.own:=by
 unfold e2 at e;exists h1,fa Y,p,e,0;let#[d1,t1]:=p;cases h2:fb Y with
 |none=>rw[h1,h2] at e;ext e
 |some p=>
  let#[d2,t2]:=p;rw[h1,h2] at e;dsimp only at e;exists h3,op d1 d2,d3,e;ext e;apply#[d1,t1,d2,t2,rfl,rfl,h3,rfl]
def gR(K:Fr)(r:R2)(op:D->D->Option D):Prop:=∀(H) (x y) (d1 d2) (f1 f2) (d) (Q),Rep K H d1 x f1->Rep K H d2 y f2->op d1 d2=some d->
 (∀H' v,aH H H'->Rep K H' d v []->Q v H')->r x y H Q
def fp_2{a b e:Expr}(dd:gR X.K r op)(ha:FP X a fa)(hb:FP X b fb)(he:∀ta tb,PE X a ta->PE X b tb->PE X e (qQ r ta tb)):FP X e (e2 op fa fb):=by
 let#[ta,pa,sa]:=ha;let#[tb,pb,sb]:=hb;exists 20,he ta tb pa pb;let#[d1,t1,d2,t2,e1,i_,e3,rfl]:=sy e;refine sa ok e1 λH1 x f1 s1 r1 _=>?_
 refine sb (ok.same s1) i_ λH2 y f2 s2 r2 _=>?_
 apply dd H2 x y d1 d2 f1 f2 d Q (r1.same s2) r2 e3 λH3 v s3 r3=>q H3 v [] ((s1.trans s2).trans s3) r3 .nil
end L2.Ev
namespace L2.Ev
open PySem PySem.Spec PyProof.Rows
def Ue:Tag->Tag->Tag
 |.sh o,.sh p=>.sh (o++p)
 |.sh o,_=>.sh o
 |_,t=>t
def jG:List (D×Tag)->Tag
 |[]=>.own
 |p::r=>Ue p.2 (jG r)
def FA(X:Cx)(es:List Expr)(f:AF):Prop:=∃t,PA X es t/\(∀Y ps,f Y=some ps->ps.length=es.length)/\∀{H0} {S} {z} {aq} {Y} {U} {H} {Q} {ps},
 Ok X.K H0 S z aq Y U H->f Y=some ps->(∀H' vs fp,aH H H'->aD X.K H' (ps.map (·.1)) vs fp->cR z H (jG ps) fp->Q vs H')->t U H Q
def aB:AF:=λ_=>some []
def au(f:EF)(g:AF):AF:=λY=>match f Y,g Y with
 |some p,some ps=>some (p::ps)
 |_,_=>none
def Vu(e:au f g Y=some ps):∃d t r,f Y=some (d,t)/\g Y=some r/\ps=(d,t)::r:=by
 unfold au at e;exists h1,f Y,p,e,0;cases h2:g Y with
 |none=>rw[h1,h2] at e;ext e
 |some r=>
  rw[h1,h2] at e;ext e;apply#[p.1,p.2,r,rfl,rfl,rfl]
def cR.join{K:Fr}(ok:Ok K H0 S z aq Y U H)(s:aH H H1)
  (h1:cR z H t1 f1) (d1:∀a∈f1,∃o,H1 a=some o/\jn o=true) (h2:cR z H1 t2 f2):cR z H (Ue t1 t2) (f1++f2):=by
 have nz:∀{a} {j},H a=none->z a=some j->False:=λ{a j} e q=>by
  let#[#[o,w],_]:=ok.zd a j q;rw[e] at w;ext w
 have both:∀{t1 t2:Tag},(f1.Nodup/\∀a∈f1,H a=none)->(f2.Nodup/\∀a∈f2,H1 a=none)->(f1++f2).Nodup/\∀a∈f1++f2,H a=none:=λp q=>by
  refine#[acU.mpr #[p.1,q.1,λa m b m' e=>?_],λa m=>?_]
  .subst e;let#[o,w,_]:=d1 a m;rw[q.2 a m'] at w;ext w
  .rcases abH.mp m with m|m
   .exact p.2 a m
   .exact s.free (q.2 a m)
 cases t1 with
 |sh o=>
  have iB:=h1;cases t2 with
  |sh p=>
   intro a m j q;rcases abH.mp m with m|m
   .exact abz _ (iB a m j q)
   .exact aaH _ (h2 a m j q)
  |own=>
   intro a m j q;rcases abH.mp m with m|m
   .exact iB a m j q
   .exact(nz (s.free (h2.2 a m)) q).elim
  |lk=>
   intro a m j q;rcases abH.mp m with m|m
   .exact iB a m j q
   .exact(nz (s.free (h2.2 a m)) q).elim
 |own=>
  cases t2 with
  |sh p=>
   intro a m j q;rcases abH.mp m with m|m
   .exact(nz (h1.2 a m) q).elim
   .exact h2 a m j q
  |own=>apply both (t1:=.own) (t2:=.own) h1 h2
  |lk=>apply both (t1:=.own) (t2:=.own) h1 h2
 |lk=>
  cases t2 with
  |sh p=>
   intro a m j q;rcases abH.mp m with m|m
   .exact(nz (h1.2 a m) q).elim
   .exact h2 a m j q
  |own=>apply both (t1:=.own) (t2:=.own) h1 h2
  |lk=>apply both (t1:=.own) (t2:=.own) h1 h2
def az:FA X [] aB:=#[_,e_,λ_ _ e=>by ext e;rfl,@λ_ _ _ _ _ _ H _ _ _ e q=>by ext e;apply q H _ _ (aH.refl H) .nil .nil]
def ao{e:Expr}{es:List Expr}(ha:FP X e f)(hr:FA X es g)(hs:starEach (e::es) X.env=(false,eval e X.env)::starEach es X.env:=by rfl):FA X (e::es) (au f g):=by
 let#[t,p,q]:=ha;let#[t',p',l',q']:=hr;refine#[_,dg p p' hs,λY ps e=>by let#[d,tg,r,e1,e2,rfl]:=Vu e;rw[acv,acv,l' Y r e2],@λH0 S z aq Y U H Q ps ok e k=>?_];let#[d,tg,r,e1,e2,rfl]:=Vu e;refine q ok e1 λH1 v f1 s1 r1 g1=>?_
 refine q' (ok.same s1) e2 λH2 vs f2 s2 r2 g2=>?_
 apply k H2 (v::vs) (f1++f2) (s1.trans s2) (.cons (r1.same s2) r2) (cR.join ok s1 g1 r1.cO g2)
def gX(g:AF):EF:=λY=>(g Y).map λps=>(.tup (ps.map (·.1)),jG ps)
def eX{x1}(h:FA X es g)(hl:es.length<=1000:=by decide):FP X (.Tuple es x1 pos) (gX g):=by
 let#[t,p,hg,q]:=h;exists 21,OH p;unfold gX at e;exists h1,g Y,ps,e;ext e;refine q ok h1 λH1 vs fp s1 r1 g1=>#[?_,λa ha=>?_]
 .rw[<- r1.length,List.length_map,hg Y ps h1];apply afR (A3 hl)
 .have s2:aH H1 (upd H1 a (.tup vs)):=λb o e=>by rw[aJ (cU e ha)];apply e
  apply k _ _ fp (s1.trans s2) (.tup (bQ.of bP) (r1.same s2)) g1
def iC(g:AF):EF:=λY=>(g Y).map λps=>(.lst (ps.map (·.1)),jG ps)
def cR.cons{K:Fr}(ok:Ok K H0 S z aq Y U H)(s:aH H H1)(h:cR z H t fp)
  (d:∀b∈fp,∃o,H1 b=some o/\jn o=true) (ha:H1 a=none):cR z H t (a::fp):=by
 have na:=s.free ha;have both:(fp.Nodup/\∀b∈fp,H b=none)->(a::fp).Nodup/\∀b∈a::fp,H b=none:=λp=>by
  refine#[acw.mpr #[λm=>?_,p.1],λb m=>?_]
  .let#[o,w,_]:=d a m;rw[ha] at w;ext w
  .rcases aaO.mp m with e|m
   .rw[e];apply na
   .exact p.2 b m
 cases t with
 |sh o=>
  intro b m j q;rcases aaO.mp m with e|m
  .let#[#[o,w],_]:=ok.zd b j q;rw[e,na] at w;ext w
  .exact h b m j q
 |own=>apply both h
 |lk=>apply both h
def gO(h:FA X es g)(hl:es.length<=1000:=by decide):FP X (.List es pos) (iC g):=by
 let#[t,p,hg,q]:=h;exists 21,adb p;unfold iC at e;exists h1,g Y,ps,e;ext e;refine q ok h1 λH1 vs fp s1 r1 g1=>#[?_,λa ha=>?_]
 .rw[<- r1.length,List.length_map,hg Y ps h1];apply afR (A3 hl)
 .have s2:aH H1 (upd H1 a (.lst vs)):=λb o e=>by rw[aJ (cU e ha)];apply e
  apply k _ _ (a::fp) (s1.trans s2) (.lst bP (r1.same s2)) (g1.cons ok s1 r1.cO ha)
def bh(K:Fr)(F:List D->Option D):Sp:=λvs H Q _=>∃ds fp d,aD K H ds vs fp/\F ds=some d/\∀H' v gC,aH H H'->Rep K H' d v gC->gC.Nodup->(∀a∈gC,H a=none)->Q v H'
def cZ(F:List D->Option D)(g:AF):EF:=λY=>(g Y).bind λps=>(F (ps.map (·.1))).map λd=>(d,.own)
def YG(e:cZ F g Y=some (d,tg)):∃ps,g Y=some ps/\F (ps.map (·.1))=some d/\tg=.own:=by
 unfold cZ at e;exists h1,g Y,ps,e,0;rw[h1,acG] at e;exists h2,F (ps.map (·.1)),d',e;ext e;apply#[ps,rfl,h2,rfl]
def bz(G:cg X.prog X.w X.K X.mg X.base dw k f fd ps (bh X.K F) cm)(hr:aZ k X.A cm)(hm:X.mg x=some (.ref f))(hk:PySem.W.keepIn X.K (.ref f)=true)(hb:Binds X.K fd ps [])(ha:FA X (e::es) g)
  (hg:GD X x:=by apply#[rfl,by decide])
  (he:SE X e es pos:=by apply#[rfl,rfl]):FP X (.Call (.Name x p) (e::es) [] pos) (cZ F g):=by
 let#[t,pa,_,sa]:=ha;refine#[_,BN G hr hg.1 hm hk hb .nil lD pa hg.2 he.1 he.2,@λH0 S z aq Y U H Q d tg ok e0 q=>?_];let#[qs,e1,e2,rfl]:=YG e0;refine sa ok e1 λH1 vs fp s1 r1 _=>?_
 rw[acL];apply#[_,fp,d,r1,e2,λH2 v gC s2 r2 nd fr=>q H2 v gC (s1.trans s2) r2 #[nd,λa m=>s1.free (fr a m)]]
def tV(f:EF):TF:=λY=>match f Y with
 |some (.bl b,_)=>some b
 |_=>none
def FD(e:tV f Y=some b):∃t,f Y=some (.bl b,t):=by
 unfold tV at e;exists h,f Y,p,e,0;let#[d,t]:=p;rw[h] at e;ext d<;>first|(ext e;apply#[t,rfl])|ext e
def h_(h:FP X e f)(he:∀whole,isTrue e X.env whole=(do let v <- whole;standAt e.pos;holding [v] (truthy v)):=by intro _;rfl):FT X e (tV f):=by
 let#[t,p,q]:=h;refine#[_,F2 p he,@λH0 S z aq Y U H Q b ok e k=>?_];let#[tg,e1]:=FD e;refine q ok e1 λH1 v fp s1 r1 _=>?_
 ext r1;apply#[b,rfl,k H1 s1]
def jX(ho:dO X (compareOp op) r)(dd:gR X.K r o)(ha:FP X a fa)(hb:FP X b fb)(hm:behindInMarks op b=false):FT X (.Compare a [op] [b] pos) (tV (e2 o fa fb)):=by
 let#[ta,pa,sa]:=ha;let#[tb,pb,sb]:=hb;exists 22,B7 ho pa pb hm;let#[tg,e0]:=FD e;let#[d1,t1,d2,t2,e1,i_,e3,rfl]:=sy e0;refine sa ok e1 λH1 x f1 s1 r1 _=>?_
 refine sb (ok.same s1) i_ λH2 y f2 s2 r2 _=>?_
 refine dd H2 x y d1 d2 f1 f2 _ _ (r1.same s2) r2 e3 λH3 v s3 r3=>?_
 ext r3;apply#[c,rfl,k H3 ((s1.trans s2).trans s3)]
def uT(ho:dO X (compareOp op) r)(dd:gR X.K r o)(ha:FP X a fa)(hb:FP X b fb)(hm:behindInMarks op b=false):FP X (.Compare a [op] [b] pos) (e2 o fa fb):=
 fp_2 dd ha hb λ_ _ pa pb=>T5 ho pa pb hm
def wQ(ho:dO X (binaryOp op) r)(dd:gR X.K r o)(ha:FP X a fa)(hb:FP X b fb):FP X (.BinOp a op b pos) (e2 o fa fb):=
 fp_2 dd ha hb λ_ _ pa pb=>SS ho pa pb
def lR(f g:TF):TF:=λY=>match f Y with
 |some true=>g Y
 |some false=>some false
 |none=>none
def sE(f g:TF):TF:=λY=>match f Y with
 |some true=>some true
 |some false=>g Y
 |none=>none
def lV(f:TF):TF:=λY=>(f Y).map λb=>!b
def FW(X:Cx)(e:Expr)(f:TF):Prop:=∃t,PW X e t/\∀{H0} {S} {z} {aq} {Y} {U} {H} {Q} {b},
 Ok X.K H0 S z aq Y U H->f Y=some b->(∀H',aH H H'->Q b H')->t U H Q
def FW.ft(h:FW X e f):FT X e f:=let#[t,p,q]:=h;#[t,p.pt,q]
def tO(h:FT X a f):FW X (.BoolOp .And [a] pos) f:=let#[t,p,q]:=h;#[t,Oo p,q]
def tG(h:FT X a f):FW X (.BoolOp .Or [a] pos) f:=let#[t,p,q]:=h;#[t,aba p,q]
def qF{rest:List Expr}(ha:FT X a f)(hb:FW X (.BoolOp .And (b::rest) pos) g):FW X (.BoolOp .And (a::b::rest) pos) (lR f g):=by
 let#[t,p,q]:=ha;let#[t',p',q']:=hb;exists 22,Ma p p';unfold lR at e;exists h,f Y,y,e;cases y with
 |false=>
  ext e;refine q ok h λH1 s1=>?_
  rw[abM abm];apply k H1 s1
 |true=>
  refine q ok h λH1 s1=>?_
  rw[if_pos rfl];apply q' (ok.same s1) e λH2 s2=>k H2 (s1.trans s2)
def rB{rest:List Expr}(ha:FT X a f)(hb:FW X (.BoolOp .Or (b::rest) pos) g):FW X (.BoolOp .Or (a::b::rest) pos) (sE f g):=by
 let#[t,p,q]:=ha;let#[t',p',q']:=hb;exists 22,acW p p';unfold sE at e;exists h,f Y,y,e;cases y with
 |true=>
  ext e;refine q ok h λH1 s1=>?_
  rw[if_pos rfl];apply k H1 s1
 |false=>
  refine q ok h λH1 s1=>?_
  rw[abM abm];apply q' (ok.same s1) e λH2 s2=>k H2 (s1.trans s2)
def kP(ha:FT X a f):FT X (.UnaryOp .Not a pos) (lV f):=by
 let#[t,p,q]:=ha;exists 22,OS p;unfold lV at e;exists h,f Y,y,e;ext e;apply q ok h λH1 s1=>k H1 s1
inductive Out where
 |nx (Y:aL)|rt (d:D)|bk (Y:aL)|ct (Y:aL)
 |er (raw:Bool) (cn:XN) (Y:aL)
abbrev SF:=aL->Option Out
def kr(X:Cx)(x:Str):Bool:=x==("self":Str)||(X.fn ("self":Str)&&!X.fn x)
def Kp(X:Cx)(U aF:St):Prop:=∀(i:Nat) (x),X.N[i]? = some x->kr X x=true->aF[i]? = U[i]?
def Kp.refl(X:Cx)(U:St):Kp X U U:=λ_ _ _ _=>rfl
def Kp.trans(a:Kp X U qe)(b:Kp X qe iW):Kp X U iW:=λi x h k=>(b i x h k).trans (a i x h k)
def Kp.set(hi:X.N[i]? = some x)(hs:kr X x=false):Kp X U (U.set i v):=λj y h k=>by
 refine acN λe=>?_
 subst e;rw[hi] at h;have h:=acB h;subst h;rw[hs] at k;ext k
def xS(X:Cx)(H0:Hp)(S:List Addr)(aq:List qv)(pW:St)(raw:Bool)(cn:XN)(Y:aL):Prop:=∃ES:XS,(if raw=true then KQ X ES else qO X ES)/\
 ∀z U H C,Ok X.K H0 S z aq Y U H->Kp X pW U->PySem.W.nsIn X.K mainGlobals cn.1=some (some (.ref C))->ES (.ref C) cn.2 U H
def xS.of(k:xS X H0 S aq U raw cn Y)(a:Kp X U aF):xS X H0 S aq aF raw cn Y:=
 let#[ES,th,q]:=k;#[ES,th,λz s H C ok b hC=>q z s H C ok (a.trans b) hC]
def oZ(X:Cx)(H0:Hp)(S:List Addr)(aq:List qv)(pW:St)(E:Ends):Out->Prop
 |.nx Y=>∀z U H,Ok X.K H0 S z aq Y U H->Kp X pW U->E.nx U H
 |.bk Y=>∀z U H,Ok X.K H0 S z aq Y U H->Kp X pW U->E.bk U H
 |.ct Y=>∀z U H,Ok X.K H0 S z aq Y U H->Kp X pW U->E.ct U H
 |.er raw cn Y=>xS X H0 S aq pW raw cn Y
 |.rt d=>∀H v fp,(∀a o,H0 a=some o->a∉S->H a=some o)->Rep X.K H d v fp->fp.Nodup->(∀a∈fp,H0 a=none\/a∈S)->E.rt v H
def FS(X:Cx)(st:List Stmt)(f:SF):Prop:=∃t,iP X st t/\∀{H0} {S} {z} {aq} {Y} {U} {H} {E} {o},
 Ok X.K H0 S z aq Y U H->f Y=some o->oZ X H0 S aq U E o->t E U H
def eB(X:Cx)(st:Stmt)(f:SF):Prop:=∃t,PS X st t/\∀{H0} {S} {z} {aq} {Y} {U} {H} {E} {o},
 Ok X.K H0 S z aq Y U H->f Y=some o->oZ X H0 S aq U E o->t E U H
def oZ.of(k:oZ X H0 S aq U E o)(a:Kp X U aF):oZ X H0 S aq aF E o:=by
 cases o with
 |nx Y=>apply λz s H ok b=>k z s H ok (a.trans b)
 |bk Y=>apply λz s H ok b=>k z s H ok (a.trans b)
 |ct Y=>apply λz s H ok b=>k z s H ok (a.trans b)
 |rt d=>apply k
 |er raw cn Y=>apply xS.of k a
def gm:SF:=λY=>some (.nx Y)
def ck(f g:SF):SF:=λY=>match f Y with
 |some (.nx Y')=>g Y'
 |o=>o
def cT:FS X [] gm:=#[_,Mm,@λ_ _ z _ _ U H _ _ ok e k=>by ext e;apply k z U H ok (.refl _ _)]
def aI{st:Stmt}(h:eB X st f):FS X [st] f:=let#[t,p,q]:=h;#[t,OU p,q]
def aN{st:Stmt}{rest:List Stmt}(h1:eB X st f)(h2:FS X rest g):FS X (st::rest) (ck f g):=by
 let#[t,p,q]:=h1;let#[t',p',q']:=h2;exists 23,x6 p p';unfold ck at e;exists h,f Y,w,e,0;refine q ok h ?_;rw[h] at e;cases w with
 |nx Y'=>apply λz' aF H' aT a=>q' aT e (k.of a)
 |rt d=>ext e;apply k
 |bk Y'=>ext e;apply k
 |ct Y'=>ext e;apply k
 |er _ _ _=>ext e;apply k
def Gu:SF:=λ_=>none
def LA{st:Stmt}:eB X st Gu:=#[_,Q7,@λ_ _ _ _ _ _ _ _ _ _ e _=>by ext e]
def uW{st:List Stmt}:FS X st Gu:=#[_,YV,@λ_ _ _ _ _ _ _ _ _ _ e _=>by ext e]
def eW(c:TF)(f g:SF):SF:=λY=>match c Y with
 |some true=>f Y
 |some false=>g Y
 |none=>none
def cV(hc:FT X c tc)(ha:FS X a f)(hb:FS X b g):eB X (.If c a b pos) (eW tc f g):=by
 let#[t,p,q]:=hc;let#[t1,p1,q1]:=ha;let#[t2,p2,q2]:=hb;exists 23,CN p p1 p2;unfold eW at e;exists h,tc Y,y,e;refine q ok h λH1 s1=>?_
 cases y with
 |true=>rw[if_pos rfl];apply q1 (ok.same s1) e k
 |false=>rw[abM abm];apply q2 (ok.same s1) e k
def k9:Tag->Bool
 |.sh _=>false
 |_=>true
def l7(f:EF):SF:=λY=>match f Y with
 |some (d,t)=>if k9 t=true then some (.rt d) else if aA d=true then some (.rt d) else none
 |none=>none
def aY(he:FP X e f):eB X (.Return (some e) pos) (l7 f):=by
 let#[t,p,q]:=he;exists 23,xY p;unfold l7 at e;exists h,f Y,w,e,0;let#[d,tg]:=w;rw[h] at e;dsimp only at e;refine q ok h λH1 v fp s1 r1 g1=>?_
 have en:∀a o,H0 a=some o->a∉S->H1 a=some o:=λa o e n=>s1 _ _ (ok.en a o e n)
 by_cases ho:k9 tg=true
 .rw[if_pos ho] at e;ext e;have g:fp.Nodup/\∀a∈fp,H a=none:=by ext tg<;>first|exact g1|ext ho
  refine k H1 v fp en r1 g.1 λa m=>?_
  cases h0:H0 a with
  |none=>apply .inl rfl
  |some o=>
   by_cases hs:a∈S
   .exact .inr hs
   .have w:=ok.en a o h0 hs;rw[g.2 a m] at w;ext w
 .rw[abM ho] at e;let#[hi,e]:=ci e;ext e;have hn:=r1.aA hi;subst hn;apply k H1 v [] en r1 acE λa m=>nomatch m
def tQ(i:Nat):SF:=λY=>match Y[i]? with
 |some (some (d,t))=>if k9 t=true then some (.rt d) else if aA d=true then some (.rt d) else none
 |_=>none
def wX(i:Nat)(va:VA X i x:=by walk_at "va"):eB X (.Return (some (.Name x pos')) pos) (tQ i):=by
 exists 23,xY va.pe;unfold tQ at e;exists h,Y[i]?,w,e,0;cases w with
 |none=>rw[h] at e;ext e
 |some w=>
  let#[d,tg]:=w;rw[h] at e;dsimp only at e;let#[v,fp,hs,r,zz]:=ok.sl i d tg h;refine#[v,hs,?_]
  by_cases ho:k9 tg=true
  .rw[if_pos ho] at e;ext e;have g:fp.Nodup/\∀a∈fp,z a=some i:=by ext tg<;>first|exact zz|ext ho
   apply k H v fp ok.en r g.1 λa m=>(ok.zd a i (g.2 a m)).2
  .rw[abM ho] at e;let#[hi,e]:=ci e;ext e;have hn:=r.aA hi;subst hn;apply k H v [] ok.en r acE λa m=>nomatch m
def iE(Y:aL)(i:Nat)(d:D):Tag->aL
 |.sh o=>Y.set i (some (d,.sh o))
 |_=>Y.set i (some (d,.own))
def eO(i:Nat)(f:EF):SF:=λY=>match f Y with
 |some (d,t)=>some (.nx (iE Y i d t))
 |none=>none
def Ok.chg{K:Fr}{fp aX fo:List Addr}(ok:Ok K H0 S z aq Y U H)(hi:Y'[i]? = some (some (d,tg)))(hs:aF[i]? = some (some v))(h0:∀a∈aX,z a=some i)(im:aW H H')
  (keep:∀b o,b∉aX->H b=some o->H' b=some o) (r:Rep K H' d v fp) (hz:vv z' i tg fp) (zn:∀a,a∉fo->z a=some i/\z' a=none\/z' a=z a/\a∉aX/\(z a=some i->¬vo Y i)) (HD:∀a∈fo,(a∈aX\/H a=none)/\∃o,H' a=some o)
  (ot:∀{j d t},j≠i->Y'[j]? = some (some (d,t))->Y[j]? = some (some (d,t))/\(aX=[]\/∀o,t=.sh o->i∉o)) (os:∀j,j≠i->aF[j]? = U[j]?) (hh:aX=[]\/¬vo Y i) (ln:Y'.length=aF.length):Ok K H0 S z' aq Y' aF H':=by
 have old:∀{a} {o},a∉aX->H a=some o->a∉fo:=λn e m=>(HD _ m).1.elim n λq=>by rw[e] at q;ext q
 have at_:∀{a} {k},a∉fo->z' a=some k->z a=some k/\a∉aX/\(k=i->¬vo Y i):=λ{a k} n e=>by
  rcases zn a n with⟨_,w⟩|⟨w,q,u⟩
  .rw[e] at w;ext w
  .rw[e] at w;apply#[w.symm,q,λx=>u (x ▸ w.symm)]
 have S0:∀a∈aX,H0 a=none\/a∈S:=λa m=>(ok.zd a i (h0 a m)).2
 refine#[λj d' t e=>?_,λp hp=>?_,λa j e=>?_,λa o e n=>keep a o (λm=>?_) (ok.en a o e n),ln]
 .by_cases hj:j=i
  .subst hj;rw[hi] at e;ext e;apply#[v,fp,hs,r,hz]
  .let#[e0,nd]:=ot hj e;let#[v',gC,c8,r',zz]:=ok.sl j d' t e0;have n0:∀a∈gC,a∉aX:=λa m q=>by
    have zi:=h0 a q;rcases nd with rfl|nd
    .cases q
    cases t with
    |sh o=>apply nd o rfl (zz a m i zi)
    |own=>rw[zz.2 a m] at zi;apply hj (acB zi)
    |lk=>rw[zz.2 a m] at zi;apply hj (acB zi)
   have n1:∀a∈gC,a∉fo:=λa m=>let#[o,w,_]:=r'.cO a m;old (n0 a m) w
   have o1:∀a∈gC,z a=some j->z' a=some j:=λa m e=>by
    rcases zn a (n1 a m) with⟨w,_⟩|⟨w,_⟩
    .rw[e] at w;apply(hj (acB w)).elim
    .rw[w,e]
   refine#[v',gC,(os j hj).trans c8,r'.frame (λa m=>?_) im,?_]
   .let#[o,w,_]:=r'.cO a m;rw[keep a o (n0 a m) w,w]
   .cases t with
    |sh o=>apply λa m k q=>zz a m k (at_ (n1 a m) q).1
    |own=>apply#[zz.1,λa m=>o1 a m (zz.2 a m)]
    |lk=>apply#[zz.1,λa m=>o1 a m (zz.2 a m)]
 .let#[r',zc]:=ok.hl p hp;have n0:∀a∈p.fp,a∉aX:=λa m q=>by
   rcases hh with rfl|hh
   .cases q
   .exact hh (zc a m i (h0 a q)).2
  refine#[r'.frame (λa m=>?_) im,λa m j q=>?_]
  .let#[o,w,_]:=r'.cO a m;rw[keep a o (n0 a m) w,w]
  .let#[o,w,_]:=r'.cO a m;let#[q,_,hj]:=at_ (old (n0 a m) w) q;let#[x,y]:=zc a m j q;apply#[x,λd e=>y d (ot (λx=>hj x (x ▸ y)) e).1]
 .by_cases w:a∈fo
  .refine#[(HD a w).2,(HD a w).1.elim (S0 a) λq=>?_];cases h0:H0 a with
   |none=>apply .inl rfl
   |some o=>
    by_cases hs:a∈S
    .exact .inr hs
    .rw[ok.en a o h0 hs] at q;ext q
  .let#[e,n,_]:=at_ w e;let#[#[o,x],y]:=ok.zd a j e;apply#[#[o,keep a o n x],y]
 .rcases S0 a m with q|q
  .rw[e] at q;ext q
  .exact n q
open Classical in
def zN(fo:List Addr)(i:Nat)(z:Addr->Option Nat):Addr->Option Nat:=λa=>if a∈fo then some i else if z a=some i then none else z a
def Hl{fo aX:List Addr}(h:∀a∈aX,z a=some i)(a:Addr)(n:a∉fo):z a=some i/\zN fo i z a=none\/zN fo i z a=z a/\a∉aX/\(z a=some i->P):=by
 unfold zN
 by_cases w:z a=some i
 .exact .inl #[w,by rw[abM n,if_pos w]]
 .exact .inr #[by rw[abM n,abM w],λm=>w (h a m),λq=>(w q).elim]
def Ok.set{K:Fr}{fp:List Addr}(ok:Ok K H0 S z aq Y U H)(hi:i<U.length)(s:aH H H1)
  (r:Rep K H1 d v fp) (g:cR z H t fp):∃z',Ok K H0 S z' aq (iE Y i d t) (U.set i (some v)) H1:=by
 have n0:∀a∈([]:List Addr),z a=some i:=λa m=>nomatch m
 have main:∀(fo) (tg),(∀a∈fo,H a=none/\a∈fp)->vv (zN fo i z) i tg fp->∃z',Ok K H0 S z' aq (Y.set i (some (d,tg))) (U.set i (some v)) H1:=λfo tg h hz=>
  #[_,ok.chg (aed (by rw[ok.ln];apply hi)) (aed hi) n0 (.of s) (λb o _ e=>s b o e) r hz (Hl n0) (λa m=>#[.inr (h a m).1,let#[o,w,_]:=r.cO a (h a m).2;#[o,w]])
   (λhj e=>#[(acN (afv hj)).symm.trans e,.inl rfl]) (λj hj=>acN (afv hj)) (.inl rfl) (by rw[ag3,ag3];apply ok.ln)]
 cases t with
 |own=>apply main fp .own (λa m=>#[g.2 a m,m]) #[g.1,λa m=>if_pos m]
 |lk=>apply main fp .own (λa m=>#[g.2 a m,m]) #[g.1,λa m=>if_pos m]
 |sh o=>
  refine main [] (.sh o) (λa m=>nomatch m) λa m j q=>?_
  rcases Hl (fo:=[]) (P:=True) n0 a (λw=>nomatch w) with⟨_,w⟩|⟨w,_⟩
  .rw[q] at w;ext w
  .exact g a m j (w ▸ q)
def Ok.stored{K:Fr}{G:Prop}(ok:Ok K H0 S z aq Y U H)(s:aH H H1)
  (r:Rep K H1 d v fp) (g:cR z H t fp) (k:∀z',Ok K H0 S z' aq (iE Y i d t) (U.set i (some v)) H1->G):G:=by
 by_cases hi:i<U.length
 .let#[z',aT]:=ok.set hi s r g;apply k z' aT
 .have e1:U.set i (some v)=U:=List.set_eq_of_length_le (Nat.le_of_not_lt hi);have e2:∀w,Y.set i w=Y:=λw=>List.set_eq_of_length_le (by rw[ok.ln];apply Nat.le_of_not_lt hi)
  have e3:iE Y i d t=Y:=by ext t<;>apply e2 _
  refine k z ?_;rw[e1,e3];apply ok.same s
def bC(i:Nat){x:Str}{e:Expr}(he:FP X e f)(hN:X.N.Nodup)(hi:X.N[i]? = some x:=by rfl)(hx:Loc X.env.scope x:=by first|exact Or.inl rfl|exact Or.inr rfl)
  (hs:swapsWith e (some (.Name x pos')) pos.line X.env=pure false:=by rfl) (hf:j7 X x:=by first|exact .inl rfl|exact .inr rfl) (lK:kr X x=false:=by rfl):eB X (.Assign [.Name x pos'] e pos) (eO i f):=by
 let#[t,p,q]:=he;exists 23,CM hN hi hx p hs hf;unfold eO at e;exists h,f Y,w,e,0;let#[d,tg]:=w;rw[h] at e;ext e;refine q ok h λH1 v fp s1 r1 g1=>?_
 apply ok.stored s1 r1 g1 λz' aT=>k z' _ H1 aT (.set hi lK)
abbrev GF:=D->Tag->aL->Option aL
def FG(X:Cx)(tg:Expr)(g:GF)(is:List Nat):Prop:=(∀i∈is,∀x,X.N[i]? = some x->kr X x=false)/\∃t,PG X tg t/\∀{H0} {S} {z} {aq} {Y} {U} {H H1} {v} {d} {tag} {fp} {Q} {Y'},
 Ok X.K H0 S z aq Y U H->aH H H1->Rep X.K H1 d v fp->cR z H tag fp->g d tag Y=some Y'->(∀z' aF,Ok X.K H0 S z' aq Y' aF H1->(aF.length=U.length/\∀j,j∉is->aF[j]? = U[j]?)->Q aF H1)->t v U H1 Q
def gN(i:Nat):GF:=λd t Y=>some (iE Y i d t)
abbrev zJ:=List D->aL->Option aL
def Kp.off{is:List Nat}(hk:∀i∈is,∀x,X.N[i]? = some x->kr X x=false)(h:∀j,j∉is->aF[j]? = U[j]?):Kp X U aF:=λi x e k=>h i λm=>by rw[hk i m x e] at k;ext k
def A6(X:Cx)(ts:List Expr)(g:zJ)(is:List Nat):Prop:=(∀i∈is,∀x,X.N[i]? = some x->kr X x=false)/\∃t,yD X ts t/\(∀ds Y Y',g ds Y=some Y'->ds.length=ts.length)/\∀{H0} {S} {z} {aq} {Y} {U} {H} {vs} {ds} {fp} {Q} {Y'},
 Ok X.K H0 S z aq Y U H->aD X.K H ds vs fp->g ds Y=some Y'->(∀z' aF,Ok X.K H0 S z' aq Y' aF H->(aF.length=U.length/\∀j,j∉is->aF[j]? = U[j]?)->Q aF H)->t vs U H Q
def nZ:zJ:=λds Y=>match ds with
 |[]=>some Y
 |_=>none
def fB(g:GF)(gs:zJ):zJ:=λds Y=>match ds with
 |d::r=>if aA d=true then(g d .own Y).bind λY'=>gs r Y' else none
 |_=>none
def N5(e:fB g gs ds Y=some Y'):∃d r aO,ds=d::r/\aA d=true/\g d .own Y=some aO/\gs r aO=some Y':=by
 cases ds with
 |nil=>ext e
 |cons d r=>
  unfold fB at e;dsimp only at e;let#[hi,e]:=ci e;exists h,g d .own Y,aO,e,0;rw[h,acG] at e;apply#[d,r,aO,rfl,hi,h,e]
def gT(gs:zJ):GF:=λd _ Y=>match d with
 |.tup ds=>gs ds Y
 |_=>none
def cB(i:Nat)(hN:X.N.Nodup)(hi:X.N[i]? = some x:=by rfl)(hx:Loc X.env.scope x:=by first|exact Or.inl rfl|exact Or.inr rfl)(hf:j7 X x:=by first|exact .inl rfl|exact .inr rfl)(lK:kr X x=false:=by rfl):FG X (.Name x pos) (gN i) [i]:=by
 refine#[λj m y e=>by rw[aa6.mp m,hi] at e;have e:=acB e;subst e;apply lK,_,Uc hN hi hx hf,@λH0 S z aq Y U H H1 v d tag fp Q Y' ok s r g e k=>?_];ext e;apply ok.stored s r g λz' aT=>k z' _ aT #[ag3 ..,λj hj=>acN λe=>hj (by rw[e];apply aav)]
def uV:A6 X [] nZ []:=by
 refine#[λj m=>(nomatch m),_,Xn,λds Y Y' e=>?_,@λH0 S z aq Y U H vs ds fp Q Y' ok r e k=>?_]
 .cases ds with
  |nil=>rfl
  |cons _ _=>ext e
 .cases ds with
  |nil=>ext r;ext e;apply#[rfl,k z U ok #[rfl,λ_ _=>rfl]]
  |cons _ _=>ext e
def iD(h1:FG X e g is)(h2:A6 X es gs ks)(hs:(assignEach (e::es) X.env).map (·.2)=assign e X.env::(assignEach es X.env).map (·.2):=by rfl):A6 X (e::es) (fB g gs) (is++ks):=by
 let#[n1,t,p,q]:=h1;let#[n2,t',p',l',q']:=h2;refine#[λj m=>(abH.mp m).elim (n1 j) (n2 j),_,Xl p p' hs,λds Y Y' e=>?_,@λH0 S z aq Y U H vs ds fp Q Y' ok r e k=>?_]
 .let#[d,r,aO,rfl,_,_,h]:=N5 e;rw[acv,acv,l' r aO Y' h]
 .let#[d,dr,aO,rfl,hi,h1,h2]:=N5 e;cases r with
  | @cons _ v _ vr f1 f2 r1 r2=>
   have hn:=r1.aA hi;subst hn;apply#[v,vr,rfl,q ok (aH.refl H) r1 .nil h1 λz1 qe aV a1=>q' aV r2 h2 λz2 iW oS a2=>k z2 iW oS #[a2.1.trans a1.1,λj hj=>(a2.2 j λm=>hj (aaH _ m)).trans (a1.2 j λm=>hj (abz _ m))]]
def uL(hc:X.calm=true)(h:A6 X es gs is)(hn:(assignEach es X.env).length=es.length:=by rfl)(dG:(assignEach es X.env).findIdx? (·.1)=none:=by rfl):FG X (.Tuple es k pos) (gT gs) is:=by
 let#[n1,t,p,l,q]:=h;refine#[n1,_,air hc p hn dG,@λH0 S z aq Y U H H1 v d tag fp Q Y' ok s r g e k=>?_];cases r with
 | @tup a xs ds fp hq rs=>
  have e:=e;apply#[a,xs,rfl,hq,by rw[<- rs.length];apply l ds Y Y' e,q (ok.same s) rs e k]
 |_=>ext e
structure Hv where
 d:D
 v:V
 fp:List Addr
def uA(K:Fr)(J:It)(ds:List D)(hv:List Hv):Prop:=∀(H) (i),(∀h∈hv,Rep K H h.d h.v h.fp)->
 (∀d,ds[i]? = some d->J.go i H/\∀x H1,J.x_ i H x H1->aH H H1/\∃fp,Rep K H1 d x fp/\∀a∈fp,∃h∈hv,a∈h.fp)/\(ds.length<=i->J.stop i H)
abbrev IF:=aL->Option (List D×Tag)
def FI(X:Cx)(tg iter:Expr)(f:IF):Prop:=∃wi,PI X tg iter wi/\∀{H0} {S} {z} {aq} {Y} {U} {H} {R} {ds} {t},
 Ok X.K H0 S z aq Y U H->f Y=some (ds,t)->(∀H1 J hv,aH H H1->(∀h∈hv,Rep X.K H1 h.d h.v h.fp/\∀a∈h.fp,∀j,z a=some j->∃o,t=.sh o/\j∈o)->uA X.K J ds hv->R J H1)->wi U H R
def gu(f:EF):IF:=λY=>match f Y with
 |some (.lst ds,t)=>some (ds,t)
 |some (.tup ds,t)=>some (ds,t)
 |_=>none
def Yi(K:Fr)(tl:TE):TI:=λU H R=>tl U H λx H1=>∃a,x=.ref a/\(((∃xs,cJ K H1 a xs)/\R (Gk K a) H1)\/((∃xs,bQ K H1 a xs)/\R (LP K a) H1))
def Yb(hl:PE X l tl):PI X tg l (Yi X.K tl):=by
 intro af s U H R I h;refine hl.n I h λv s1 x H1 I1 r1 q1=>?_
 let#[a,e,q]:=q1;subst e;ext r1;rcases q with⟨⟨xs,hq⟩,q⟩|⟨⟨xs,hq⟩,q⟩
 .let#[av,rv,p,hz]:=I1.list hq;refine wpAny_pyIter_list p.isList ?_;refine#[s1.heap.objs.size,[s1.heap.objs.size],_,_,H1,rfl,I1.kept (λb o e=>aat _ e),YN a _,#[_,acm _ rfl,rfl,rfl],λb hb=>?_,q];obtain rfl:b=s1.heap.objs.size:=by simpa using hb
  apply I1.rq (abD _) (I1.aG.fresh (abD _))
 .let#[av,rv,p,hz]:=I1.tuple hq;refine wpAny_pyIter_tuple (show s1.heap.IsTuple a av.toArray from p) ?_;refine#[s1.heap.objs.size,[s1.heap.objs.size],_,_,H1,rfl,I1.kept (λb o e=>aat _ e),ahq a _,#[_,acm _ rfl,rfl,rfl],λb hb=>?_,q];obtain rfl:b=s1.heap.objs.size:=by simpa using hb
  apply I1.rq (abD _) (I1.aG.fresh (abD _))
def Rep.d9{K:Fr}(r:Rep K H (.lst ds) v fp):∃a xs f,v=.ref a/\cJ K H a xs/\aD K H ds xs f/\∀b∈f,b∈fp:=by
 cases r with
 |lst h rs=>apply#[_,_,_,rfl,cJ.of h,rs,λb m=>aar _ m]
def Rep.K6{K:Fr}(r:Rep K H (.kZ ds) v fp):∃a xs,v=.ref a/\cJ K H a xs/\aD K H ds xs fp:=by
 cases r with
 |Ec h rs=>apply#[_,_,rfl,h.sq,rs]
def Rep.ir{K:Fr}(r:Rep K H (.tup ds) v fp):∃a xs,v=.ref a/\bQ K H a xs/\aD K H ds xs fp:=by
 cases r with
 |tup h rs=>apply#[_,_,rfl,h,rs]
def aiL{K:Fr}:uA K (Gk K a) ds [#[.lst ds,.ref a,fp]]:=by
 intro H i hh;have r:=hh #[.lst ds,.ref a,fp] aav;let#[a',xs,f,e,hq,rs,sub]:=r.d9;ext e;refine#[λd hd=>?_,λhl=>#[xs,hq,by rw[<- rs.length];apply hl]];let#[v,f',hv,rv,s']:=rs.get hd;refine#[#[xs,v,hq,hv],λx H1 y=>?_];let#[e1,y]:=y;subst e1;have e2:=y xs hq;rw[hv] at e2;ext e2;apply#[aH.refl _,f',rv,λb m=>#[_,aav,sub b (s' b m)]]
def ad7{K:Fr}:uA K (LP K a) ds [#[.tup ds,.ref a,fp]]:=by
 intro H i hh;have r:=hh #[.tup ds,.ref a,fp] aav;let#[a',xs,e,hq,rs]:=r.ir;ext e;refine#[λd hd=>?_,λhl=>#[xs,hq,by rw[<- rs.length];apply hl]];let#[v,f',hv,rv,s']:=rs.get hd;refine#[#[xs,v,hq,hv],λx H1 y=>?_];let#[e1,y]:=y;subst e1;have e2:=y xs hq;rw[hv] at e2;ext e2;apply#[aH.refl _,f',rv,λb m=>#[_,aav,s' b m]]
def Uj{K:Fr}{lo:Int}:uA K (Ar lo n) ((List.range n).map λi:Nat=>D.int (lo+(i:Int))) []:=by
 intro H i _;refine#[λd hd=>?_,λhl=>?_]
 .rw[acy] at hd
  by_cases hi:i<n
  .rw[List.getElem?_range hi] at hd;ext hd;refine#[hi,λx H1 y=>?_];let#[e1,e2]:=y;subst e1 e2;apply#[aH.refl _,[],.int _,λb m=>nomatch m]
  .rw[ajb (by simpa using hi)] at hd;ext hd
 .rw[List.length_map,List.length_range] at hl;apply hl
def cR.over{K:Fr}(ok:Ok K H0 S z aq Y U H)(g:cR z H t fp):∀a∈fp,∀j,z a=some j->∃o,t=.sh o/\j∈o:=by
 intro a m j q;cases t with
 |sh o=>apply#[o,rfl,g a m j q]
 |own=>let#[#[o,w],_]:=ok.zd a j q;rw[g.2 a m] at w;ext w
 |lk=>let#[#[o,w],_]:=ok.zd a j q;rw[g.2 a m] at w;ext w
def fQ{l:Expr}{f:EF}(hl:FP X l f):FI X tg l (gu f):=by
 let#[t,p,q]:=hl;exists 24,Yb p;unfold gu at e;cases h:f Y with
 |none=>rw[h] at e;ext e
 |some w=>
  let#[d,PL]:=w;rw[h] at e;cases d with
  |lst es=>
   ext e;refine q ok h λH1 v fp s1 r1 g1=>?_
   let#[a,xs,f,rfl,hq,rs,sub]:=r1.d9;apply#[a,rfl,.inl #[#[xs,hq],k H1 _ [#[.lst ds,.ref a,fp]] s1 (λh m=>by cases aa6.mp m;apply#[r1,g1.over ok]) aiL]]
  |tup es=>
   ext e;refine q ok h λH1 v fp s1 r1 g1=>?_
   let#[a,xs,rfl,hq,rs]:=r1.ir;apply#[a,rfl,.inr #[#[xs,hq],k H1 _ [#[.tup ds,.ref a,fp]] s1 (λh m=>by cases aa6.mp m;apply#[r1,g1.over ok]) ad7]]
  |_=>ext e
def small(i:Int):Bool:=decide (-(2 ^ 62)<=i)&&decide (i<2 ^ 62)
def Am(g:EF):IF:=λY=>match g Y with
 |some (.int j,_)=>if small j=true then some ((List.range j.toNat).map λi:Nat=>D.int (0+(i:Int)),.own) else none
 |_=>none
def rO(f g:EF):IF:=λY=>match f Y,g Y with
 |some (.int i,_),some (.int j,_)=>if(small i&&small j)=true then some ((List.range (j-i).toNat).map λk:Nat=>D.int (i+(k:Int)),.own) else none
 |_,_=>none
def xm(h:small i=true):-(2 ^ 62)<=i/\i<2 ^ 62:=by
 let#[a,b]:=(aaM _ _).mp h;apply#[abl a,abl b]
def Kc(hm:X.mg "range"=none)(ha:FP X a g)(hg:Gl X "range":=by rfl)(hs:Y1 X a:=by rfl):FI X tg (.Call (.Name "range" p) [a] [] pos) (Am g):=by
 let#[t,pa,q]:=ha;exists 24,ae0 hg hm (dg pa e_ hs) hs;unfold Am at e;exists h,g Y,w,e,0;let#[d,PL]:=w;rw[h] at e;cases d with
 |int j=>
  dsimp only at e;let#[hj,e]:=ci e;ext e;refine q ok h λH1 v fp s1 r1 g1=>?_
  ext r1;apply#[j,rfl,(xm hj).1,(xm hj).2,k H1 _ [] s1 (λh m=>nomatch m) Uj]
 |_=>ext e
def Dl(hm:X.mg "range"=none)(ha:FP X a f)(hb:FP X b g)(hg:Gl X "range":=by rfl)(hs:starEach [a,b] X.env=[(false,eval a X.env),(false,eval b X.env)]:=by rfl)(eU:Y1 X b:=by rfl):
  FI X tg (.Call (.Name "range" p) [a,b] [] pos) (rO f g):=by
 let#[t,pa,q]:=ha;let#[t',pb,q']:=hb;exists 24,aeO hg hm (dg pa (dg pb e_ eU) (by rw[hs,eU])) hs eU;unfold rO at e;exists h,f Y,w,e,0;let#[d,PL]:=w;cases h2:g Y with
 |none=>rw[h,h2] at e;ext d<;>ext e
 |some w=>
  let#[d2,tg2]:=w;rw[h,h2] at e;cases d with
  |int i=>
   cases d2 with
   |int j=>
    dsimp only at e;let#[hj,e]:=ci e;ext e;let#[si,sj]:=(aaM _ _).mp hj;refine q ok h λH1 v fp s1 r1 g1=>?_
    ext r1;refine q' (ok.same s1) h2 λH2 v fp s2 r2 g2=>?_
    ext r2;apply#[i,j,rfl,#[(xm si).1,(xm si).2,(xm sj).1,(xm sj).2],k H2 _ [] (s1.trans s2) (λh m=>nomatch m) Uj]
   |_=>ext e
  |_=>ext e
def mC:Tag->List Nat
 |.sh o=>o
 |_=>[]
def kC(t:Tag):Tag:=.sh (mC t)
def ownAt(Y:aL)(j:Nat):Bool:=match Y[j]? with
 |some (some (_,.own))=>true
 |_=>false
def nU(o:List Nat)(Y:aL):List Nat:=o.filter (ownAt Y)
def NP:Tag->Tag
 |.own=>.lk
 |t=>t
def Uz:Tag->Tag
 |.lk=>.own
 |t=>t
def B5(f:Tag->Tag):Slot->Slot
 |some (d,t)=>some (d,f t)
 |none=>none
def pF:List Nat->aL->aL
 |[],Y=>Y
 |j::r,Y=>pF r (Y.modify j (B5 NP))
def u_:List Nat->aL->aL
 |[],Y=>Y
 |j::r,Y=>u_ r (Y.modify j (B5 Uz))
def dU(g:GF)(t:Tag)(f:SF):List D->SF
 |[],Y=>some (.nx Y)
 |d::ds,Y=>match g d t Y with
  |none=>none
  |some aO=>match f aO with
   |some (.nx bA)=>dU g t f ds bA
   |some (.ct bA)=>dU g t f ds bA
   |some (.bk bA)=>some (.nx bA)
   |some (.rt r)=>some (.rt r)
   |some (.er raw cn bA)=>some (.er raw cn bA)
   |none=>none
def jH(it:IF)(g:GF)(f:SF):SF:=λY=>match it Y with
 |none=>none
 |some (ds,t)=>match dU g (kC t) f ds (pF (nU (mC t) Y) Y) with
  |some (.nx Y')=>some (.nx (u_ (nU (mC t) Y) Y'))
  |some (.rt d)=>some (.rt d)
  |some (.er raw cn Y')=>some (.er raw cn (u_ (nU (mC t) Y) Y'))
  |_=>none
theorem BP:∀{ks} {Y} {i} {d} {t},(pF ks Y)[i]? = some (some (d,t))->∃t',Y[i]? = some (some (d,t'))/\(t=t'\/(t'=.own/\t=.lk))/\(i∈ks->t≠.own)
 |[],Y,i,d,t,h=>#[t,h,.inl rfl,λm=>nomatch m]
 |j::r,Y,i,d,t,h=>by
  let#[t1,h1,h2,h3]:=BP (ks:=r) h;rw[List.getElem?_modify] at h1;exists e,Y[i]?,s,h1;have iB:(if j=i then B5 NP s else s)=some (d,t1):=acB h1
  by_cases hj:j=i
  .rw[if_pos hj] at iB;cases s with
   |none=>ext iB
   |some p=>
    let#[d0,t0]:=p;ext iB;refine#[t0,rfl,?_,λ_=>?_]
    .rcases h2 with h2|⟨h2,lT⟩
     .cases t0<;>first|exact .inl h2|exact .inr #[rfl,h2]
     .cases t0<;>ext h2
    .rcases h2 with h2|⟨h2,lT⟩
     .rw[h2];ext t0<;>(intro z;ext z)
     .rw[lT];intro z;ext z
  .rw[abM hj] at iB;subst iB;refine#[t1,rfl,h2,λm=>?_];rcases aaO.mp m with z|z
   .exact absurd z.symm hj
   .exact h3 z
theorem OW:∀{ks} {Y},(pF ks Y).length=Y.length
 |[],_=>rfl
 |_::r,Y=>(OW (ks:=r)).trans (List.length_modify ..)
theorem U_:∀{ks} {Y},(u_ ks Y).length=Y.length
 |[],_=>rfl
 |_::r,Y=>(U_ (ks:=r)).trans (List.length_modify ..)
theorem Ko:∀{ks} {Y} {i} {d} {t},(u_ ks Y)[i]? = some (some (d,t))->∃t',Y[i]? = some (some (d,t'))/\(t=t'\/(t'=.lk/\t=.own/\i∈ks))
 |[],Y,i,d,t,h=>#[t,h,.inl rfl]
 |j::r,Y,i,d,t,h=>by
  let#[t1,h1,h2]:=Ko (ks:=r) h;rw[List.getElem?_modify] at h1;exists e,Y[i]?,s,h1;have iB:(if j=i then B5 Uz s else s)=some (d,t1):=acB h1
  by_cases hj:j=i
  .rw[if_pos hj] at iB;cases s with
   |none=>ext iB
   |some p=>
    let#[d0,t0]:=p;ext iB;refine#[t0,rfl,?_];rcases h2 with h2|⟨h2,lT,h3⟩
    .cases t0<;>first|exact .inl h2|exact .inr #[rfl,h2,by rw[hj];apply aav]
    .cases t0<;>ext h2
  .rw[abM hj] at iB;subst iB;refine#[t1,rfl,?_];rcases h2 with h2|⟨h2,lT,h3⟩
   .exact .inl h2
   .exact .inr #[h2,lT,aar _ h3]
def wH(z:Addr->Option Nat)(hv:List Hv):List qv:=hv.map λh=>#[h.d,h.v,h.fp,z]
def x9(z:Addr->Option Nat)(aq:List qv):List qv:=aq.map λh=>{ h with z0:=z }
section
variable{K:Fr}
def Ok.begin(ok:Ok K H0 S z aq Y U H)(hh:∀h∈hv,Rep K H h.d h.v h.fp/\∀a∈h.fp,∀j,z a=some j->∃o,t=.sh o/\j∈o):
  Ok K H0 S z (wH z hv++x9 z aq) (pF (nU (mC t) Y) Y) U H:=by
 refine#[λi d tg e=>?_,λp m=>?_,ok.zd,ok.en,by rw[OW];apply ok.ln]
 .let#[t',e',h,_]:=BP e;let#[v,fp,a,b,c]:=ok.sl i d t' e';refine#[v,fp,a,b,?_];rcases h with h|⟨h,h'⟩
  .subst h;apply c
  .subst h h';apply c
 .have adA:∀j,vo Y j->vo (pF (nU (mC t) Y) Y) j:=λj n d e=>by
   let#[t',e',h,_]:=BP e;rcases h with h|⟨h,h'⟩
   .subst h;apply n d e'
   .cases h'
  rcases abH.mp m with m|m
  .let#[h,hm,rfl]:=ab8.mp m;refine#[(hh h hm).1,λa ha j q=>#[q,λd e=>?_]];let#[o,rfl,hj]:=(hh h hm).2 a ha j q;let#[t',e',h',n]:=BP e;rcases h' with h'|⟨h',nH⟩
   .subst h';apply n (adF.mpr #[hj,by unfold ownAt;rw[e']]) rfl
   .cases nH
  .let#[h,hm,rfl]:=ab8.mp m;let#[r,hz]:=ok.hl h hm;apply#[r,λa ha j q=>#[q,adA j (hz a ha j q).2]]
def Ok.fin(ok:Ok K H0 S z aq Y U H)(aT:Ok K H0 S z' (wH z hv++x9 z aq) Y' aF H'):Ok K H0 S z' aq (u_ (nU (mC t) Y) Y') aF H':=by
 refine#[λi d tg e=>?_,λp m=>?_,aT.zd,aT.en,by rw[U_];apply aT.ln]
 .let#[t',e',h]:=Ko e;let#[v,fp,a,b,c]:=aT.sl i d t' e';refine#[v,fp,a,b,?_];rcases h with h|⟨h,h',_⟩
  .subst h;apply c
  .subst h h';apply c
 .let#[r,hz]:=aT.hl { p with z0:=z } (aaH _ (ab8.mpr #[p,m,rfl]));refine#[r,λa ha j q=>?_];let#[h1,h2]:=hz a ha j q;have h1:=h1;let#[h3,h4]:=(ok.hl p m).2 a ha j h1;refine#[h3,λd e=>?_];let#[t',e',h]:=Ko e;rcases h with h|⟨h,_,hk⟩
  .subst h;apply h2 d e'
  .have ho:=(adF.mp hk).2;unfold ownAt at ho;exists e0,Y[j]?,s,ho;cases s with
   |none=>ext ho
   |some p=>
    let#[d0,t0]:=p;ext t0<;>first|exact h4 d0 e0|ext ho
end
def jF(hc:X.calm=true)(hi:FI X tg iter it)(hg:FG X tg g is)(hb:FS X body f)(hp:PassesOwn (model X.prog X.w) X.A X.env X.xe:=by apply PassesOwn.never)
  (hs:∀x,foldedSetIterable iter X.env x=pure x:=by intro _;rfl):eB X (.For tg iter body [] pos) (jH it g f):=by
 let#[wi,pi,si]:=hi;let#[n1,tgt,pg,sg]:=hg;let#[tb,pb,sb]:=hb;exists 23,ahG hp hc pi pg pb hs;unfold jH at e;exists h,it Y,w,e,0;let#[ds,t]:=w;rw[h] at e;dsimp only at e;refine si ok h λH1 J hv s1 hh Kl=>?_
 exists ho,dU g (kC t) f ds (pF (nU (mC t) Y) Y),out,e;have aV:=ok.same s1;have oS:=aV.begin hh;have fin:∀{z'} {Y'} {aF} {H'},Ok X.K H0 S z' (wH z hv++x9 z aq) Y' aF H'->out=.nx Y'->Kp X U aF->E.nx aF H':=λ{z' Y' aF H'} aT eo kp=>by
  subst eo;ext e;apply k z' aF H' (aV.fin aT) kp
 refine#[λi m aF H'=>m=ds.length-i/\∃z' Y',Ok X.K H0 S z' (wH z hv++x9 z aq) Y' aF H'/\dU g (kC t) f (ds.drop i) Y'=some out/\Kp X U aF,#[ds.length,rfl,z,_,oS,ho,.refl _ _],?_]
 rintro i m aF H' ⟨rfl,z',Y',aT,e',kp⟩
 have hH:∀h∈hv,Rep X.K H' h.d h.v h.fp:=λh m=>(aT.hl _ (abz _ (ab8.mpr #[h,m,rfl]))).1
 let#[go,stop]:=Kl H' i hH
 by_cases hl:ds.length<=i
 .refine .inl #[stop hl,?_];rw[List.drop_eq_nil_of_le hl] at e';ext e';apply fin aT rfl kp
 .have cM:=Nat.lt_of_not_le hl;rw[ajR cM] at e';let#[g1,g2]:=go ds[i] (aa1 cM);refine .inr #[g1,λiW H2=>∃z' Y',Ok X.K H0 S z' (wH z hv++x9 z aq) Y' iW H2/\dU g (kC t) f (ds.drop (i+1)) Y'=some out/\Kp X U iW,λiW H2 hn=>#[ds.length-(i+1),by omega,rfl,hn],λx H2 y=>?_];let#[s2,fp,r2,sub]:=g2 x H2 y;unfold dU at e';cases Ak:g ds[i] (kC t) Y' with
  |none=>rw[Ak] at e';ext e'
  |some aO=>
   rw[Ak] at e';dsimp only at e';refine sg (tag:=kC t) aT s2 r2 (λa ha j q=>?_) Ak λz2 iW iu a3=>?_
   .let#[h,hm,S6]:=sub a ha;let#[_,hz]:=aT.hl _ (abz _ (ab8.mpr #[h,hm,rfl]));let#[q0,_]:=hz a S6 j q;let#[o',rfl,hj]:=(hh h hm).2 a S6 j q0;apply hj
   .cases hf:f aO with
    |none=>rw[hf] at e';ext e'
    |some o1=>
     rw[hf] at e';refine sb iu hf ?_;cases o1 with
     |nx bA=>apply λz3 dF H3 jd b=>#[z3,bA,jd,e',(kp.trans (.off n1 a3.2)).trans b]
     |ct bA=>apply λz3 dF H3 jd b=>#[z3,bA,jd,e',(kp.trans (.off n1 a3.2)).trans b]
     |bk bA=>
      ext e';apply λz3 dF H3 jd b=>fin jd rfl ((kp.trans (.off n1 a3.2)).trans b)
     |rt d=>
      ext e';ext e;apply k
     |er raw cn bA=>
      ext e';ext e;let#[ES,th,q]:=k;apply#[ES,th,λz3 dF H3 C jd b hC=>q z3 dF H3 C (aV.fin jd) ((kp.trans (.off n1 a3.2)).trans b) hC]
def iT(c:TF)(f:SF):Nat->SF
 |0,_=>none
 |n+1,Y=>match c Y with
  |some false=>some (.nx Y)
  |some true=>match f Y with
   |some (.nx Y')=>iT c f n Y'
   |some (.ct Y')=>iT c f n Y'
   |some (.bk Y')=>some (.nx Y')
   |some (.rt d)=>some (.rt d)
   |some (.er raw cn Y')=>some (.er raw cn Y')
   |none=>none
  |none=>none
def S_(n:Nat)(hc:FT X c tc)(hb:FS X body f)(hp:PassesOwn (model X.prog X.w) X.A X.env X.xe:=by apply PassesOwn.never):eB X (.While c body [] pos) (iT tc f n):=by
 let#[t,p,q]:=hc;let#[tb,pb,qb]:=hb;exists 23,RN hp p pb;refine#[λm aF H'=>∃z' Y',Ok X.K H0 S z' aq Y' aF H'/\iT tc f m Y'=some o/\Kp X U aF,#[n,z,Y,ok,e,.refl _ _],?_]
 rintro m aF H' ⟨z',Y',aT,e',kp⟩
 cases m with
 |zero=>ext e'
 |succ m=>
  unfold iT at e';exists hc,tc Y',b,e';refine q aT hc λH1 s1=>?_
  cases b with
  |false=>
   ext e';rw[abM abm];apply k z' aF H1 (aT.same s1) kp
  |true=>
   rw[if_pos rfl];dsimp only at e';exists hf,f Y',o1,e';refine#[λiW H2=>∃z2 bA,Ok X.K H0 S z2 aq bA iW H2/\iT tc f m bA=some o/\Kp X U iW,λiW H2 hn=>#[m,ahO m,hn],?_];refine qb (aT.same s1) hf ?_;cases o1 with
   |nx bA=>apply λz3 dF H3 jd b=>#[z3,bA,jd,e',kp.trans b]
   |ct bA=>apply λz3 dF H3 jd b=>#[z3,bA,jd,e',kp.trans b]
   |bk bA=>
    ext e';apply λz3 dF H3 jd b=>k z3 dF H3 jd (kp.trans b)
   |rt d=>
    ext e';apply k
   |er raw cn bA=>
    ext e';let#[ES,th,q]:=k;apply#[ES,th,λz3 dF H3 C jd b hC=>q z3 dF H3 C jd (kp.trans b) hC]
def Ei(K:Fr)(f:EF):TE:=λU H Q=>∃H0 S z aq Y d tg,Ok K H0 S z aq Y U H/\f Y=some (d,tg)/\∀H' v fp,aH H H'->Rep K H' d v fp->cR z H tg fp->Q v H'
def zP(K:Fr)(f:TF):TT:=λU H Q=>∃H0 S z aq Y b,Ok K H0 S z aq Y U H/\f Y=some b/\∀H',aH H H'->Q b H'
def Km(K:Fr)(g:GF)(is:List Nat):TG:=λv U H1 Q=>∃H0 S z aq Y H d tag fp Y',Ok K H0 S z aq Y U H/\aH H H1/\Rep K H1 d v fp/\cR z H tag fp/\g d tag Y=some Y'/\
 ∀z' aF,Ok K H0 S z' aq Y' aF H1->(aF.length=U.length/\∀j,j∉is->aF[j]? = U[j]?)->Q aF H1
def FP.pe(h:FP X e f):PE X e (Ei X.K f):=by
 let#[t,p,q]:=h
 rintro af s U H Q I ⟨H0,S,z,aq,Y,d,tg,ok,e,k⟩
 apply p af s U H Q I (q ok e k)
def FT.pt(h:FT X e f):PT X e (zP X.K f):=by
 let#[t,p,q]:=h
 rintro af s U H Q I ⟨H0,S,z,aq,Y,b,ok,e,k⟩
 apply p af s U H Q I (q ok e k)
def FG.pg(h:FG X e g is):PG X e (Km X.K g is):=by
 let#[_,t,p,q]:=h
 rintro af s U H1 v u Q I r ⟨H0,S,z,aq,Y,H,d,tag,fp,Y',ok,sm,rp,tk,e,k⟩
 apply p af s U H1 v u Q I r (q ok sm rp tk e k)
def CY(X:Cx)(ifs:List Expr)(f:TF):Prop:=tX X ifs (zP X.K f)
def qp:TF:=λ_=>some true
def mU:CY X [] qp:=by
 rintro af s U H Q I ⟨H0,S,z,aq,Y,b,ok,e,k⟩
 ext e;apply wpAny_tests_nil #[H,I,k H (aH.refl H)]
def sN(h:FT X c f):CY X [c] f:=Py h.pt
def lI(js:List (Option Nat))(Y:aL):aL:=js.map λj=>match j with
 |none=>none
 |some j=>match Y[j]? with
  |some (some (d,_))=>some (d,.sh [])
  |_=>none
def kQ(g:GF)(tt:TF)(te:EF)(Y:aL)(d:D):Option (Option D):=match g d (.sh []) Y with
 |none=>none
 |some aO=>match tt aO with
  |none=>none
  |some false=>some none
  |some true=>match te aO with
   |none=>none
   |some (e,t)=>if k9 t=true then some (some e) else if aA e=true then some (some e) else none
def oU(h:D->Option (Option D)):List D->Option (List D)
 |[]=>some []
 |d::ds=>match h d with
  |none=>none
  |some none=>oU h ds
  |some (some e)=>match oU h ds with
   |none=>none
   |some es=>some (e::es)
def i0(js:List (Option Nat))(it:IF)(g:GF)(tt:TF)(te:EF):EF:=λY=>match it Y with
 |none=>none
 |some (ds,_)=>if ds.length<sizeLine then(oU (kQ g tt te (lI js Y)) ds).map λes=>(.lst es,.own) else none
theorem RA:∀{ds},(∀d∈ds,h d=some (k d))->oU h ds=some (ds.filterMap k)
 |[],_=>rfl
 |d::ds,e=>by
  unfold oU;rw[e d aav,RA λx m=>e x (aar _ m),adZ];cases k d<;>rfl
section
variable{X:Cx}
def Yy{i:Nat}{d:D}{t:Tag}(e:(lI js Y)[i]? = some (some (d,t))):∃j t0,js[i]? = some (some j)/\Y[j]? = some (some (d,t0))/\t=.sh []:=by
 unfold lI at e;rw[acy] at e;let#[o,hj,e]:=abX.mp e
 split at e
 .cases e
 .rename_i j
  split at e
  .rename_i hr;ext e;apply#[j,_,hj,hr,rfl]
  .cases e
def adN(e:kQ g tt te Y d=some oe):∃aO b,g d (.sh []) Y=some aO/\tt aO=some b/\(b=false/\oe=none\/b=true/\∃y ty,te aO=some (y,ty)/\oe=some y/\(k9 ty=true\/aA y=true)):=by
 unfold kQ at e
 split at e
 .cases e
 .rename_i aO h1
  split at e
  .cases e
  .rename_i h2;ext e;apply#[aO,_,h1,h2,.inl #[rfl,rfl]]
  .rename_i h2
   split at e
   .cases e
   .rename_i y ty h3;refine#[aO,_,h1,h2,.inr #[rfl,y,ty,h3,?_]]
    split at e
    .rename_i h;ext e;apply#[rfl,.inl h]
    .let#[h,e]:=adB.mp e;ext e;apply#[rfl,.inr h]
def aa2(e:oU h (d::ds)=some r):∃oe rest,h d=some oe/\oU h ds=some rest/\r=oe.toList++rest:=by
 unfold oU at e
 split at e
 .cases e
 .rename_i h1;apply#[none,r,h1,e,rfl]
 .rename_i h1
  split at e
  .cases e
  .rename_i h2;ext e;apply#[_,_,h1,h2,rfl]
def Nl(zq:∀i∈is,js[i]? = some none)
  (si:∀{H0} {S} {z} {aq} {Y} {U} {H} {R} {ds} {t},
   Ok X.K H0 S z aq Y U H->it Y=some (ds,t)->(∀H1 J hv,aH H H1->(∀h∈hv,Rep X.K H1 h.d h.v h.fp/\∀a∈h.fp,∀j,z a=some j->∃o,t=.sh o/\j∈o)->uA X.K J ds hv->R J H1)->wi U H R)
  (ok:Ok X.K H0 S z aq Y U H) (e:i0 js it g tt te Y=some (d,tg))
  (k:∀H' v fp,aH H H'->Rep X.K H' d v fp->cR z H tg fp->Q v H'):Ht wi js (Km X.K g is) (zP X.K tt) (Ei X.K te) U H Q:=by
 unfold i0 at e
 split at e
 .cases e
 .rename_i ds t h;let#[hz,e]:=adB.mp e;let#[es,hcf,e]:=abX.mp e;ext e;refine si ok h λH1 J hv s1 hh Kl Dd xQ=>?_
  have aV:=ok.same s1;have inner:∀(aF) (H2),aH H1 H2->(∃o,H2 Dd=some o)->aF.length=js.length->(∀j,j∉is->aF[j]? = (mP js U)[j]?)->Ok X.K H1 [] (λa=>if a=Dd then some js.length else none) (wH (λ_=>none) hv) (lI js Y) aF H2:=by
   intro aF H2 s2 Lu hlen Co;have nD:∀{a} {o},H1 a=some o->a≠Dd:=λe=>cU e xQ
   refine#[λi d t e=>?_,λp m=>?_,λa j e=>?_,λa o e _=>s2 _ _ e,by unfold lI;rw[List.length_map,hlen]]
   .let#[j,t0,hj,hr,rfl]:=Yy e;let#[v,fp,hs,r,_]:=aV.sl j _ t0 hr;have hi:i∉is:=λm=>by rw[zq i m] at hj;ext hj
    refine#[v,fp,?_,r.same s2,λa m q e=>?_]
    .rw[Co i hi];unfold mP;rw[acy,hj];show some ((U[j]?).join)=some (some v);rw[hs];rfl
    .let#[o,w,_]:=r.cO a m;dsimp only at e;rw[abM (nD w)] at e;ext e
   .let#[h,hm,rfl]:=ab8.mp m;refine#[(hh h hm).1.same s2,λa ha q e=>?_];let#[o,w,_]:=(hh h hm).1.cO a ha;rw[abM (nD w)] at e;ext e
   .by_cases w:a=Dd
    .rw[w];apply#[Lu,.inl xQ]
    .rw[abM w] at e;ext e
  refine#[λi m aF H'=>m=ds.length - i/\aH H1 H'/\aF.length=js.length/\(∀j,j∉is->aF[j]? = (mP js U)[j]?)/\∃done rest vs fp,H' Dd=some (.lst vs)/\aD X.K H' done vs fp/\fp.Nodup/\(∀a∈fp,H1 a=none/\a≠Dd)/\
   oU (kQ g tt te (lI js Y)) (ds.drop i)=some rest/\done++rest=es/\done.length<=i,?_,?_]
  .refine#[ds.length,rfl,λb o e=>by rw[aJ (cU e xQ)];apply e,by unfold mP;rw[List.length_map],λ_ _=>rfl,[],es,[],[],bP,.nil,acE,(λa m=>nomatch m),hcf,rfl,abD _]
  .rintro i m aF H' ⟨rfl,sH,hlen,Co,done,rest,vs,fp,hD,rs,nd,fr,hr,rfl,hle⟩
   let#[go,stop]:=Kl H' i λh m=>(hh h m).1.same sH
   by_cases hl:ds.length<=i
   .refine .inl #[stop hl,?_];rw[List.drop_eq_nil_of_le hl] at hr;ext hr;rw[acL] at k;refine k H' (.ref Dd) (Dd::fp) (s1.trans sH) (.lst hD rs) #[acw.mpr #[λm=>(fr Dd m).2 rfl,nd],λa m=>?_];rcases aaO.mp m with e|m
    .rw[e];apply s1.free xQ
    .exact s1.free (fr a m).1
   .have cM:i<ds.length:=Nat.lt_of_not_le hl;rw[ajR cM] at hr;let#[g1,g2]:=go ds[i] (aa1 cM);refine .inr #[g1,λx H2 y=>?_];let#[s2,jJ,r2,sub]:=g2 x H2 y;have oS:=inner aF H' sH #[_,hD] hlen Co;let#[oe,r',hE,B9,rfl]:=aa2 hr;let#[aO,b,Ak,ht,hb]:=adN hE;have VQ:cR (λa=>if a=Dd then some js.length else none) H' (.sh []) jJ:=λa m j e=>by
     let#[h,hm,ha]:=sub a m;let#[o,w,_]:=(hh h hm).1.cO a ha;dsimp only at e;rw[abM (cU w xQ)] at e;ext e
    refine#[H1,[],_,_,lI js Y,H',ds[i],.sh [],jJ,aO,oS,s2,r2,VQ,Ak,λz3 dF iu MA=>?_];have RS:dF.length=js.length:=MA.1.trans hlen;have Mv:∀j,j∉is->dF[j]? = (mP js U)[j]? :=λj hj=>(MA.2 j hj).trans (Co j hj)
    refine#[H1,[],z3,_,aO,b,iu,ht,λH4 s4=>?_];have Ir:aH H1 H4:=(sH.trans s2).trans s4;have zw:aH H' H4:=s2.trans s4;rcases hb with⟨rfl,rfl⟩|⟨rfl,y,ty,hte,rfl,XM⟩
    .exact Xx #[ds.length-(i+1),by lia,rfl,Ir,RS,Mv,done,r',vs,fp,zw _ _ hD,rs.same zw,nd,fr,B9,rfl,agr hle]
    .refine agG #[H1,[],z3,_,aO,y,ty,iu.same s4,hte,λH5 yv fy s5 ry gy=>?_];obtain⟨ndy,JB⟩:fy.Nodup/\∀a∈fy,H4 a=none:=by
      rcases XM with ho|hi
      .cases ty<;>first|exact gy|ext ho
      .obtain rfl:=ry.aA hi;apply#[acE,λa m=>nomatch m]
     have T9:aH H' H5:=zw.trans s5;have Mp:H5 Dd=some (.lst vs):=T9 _ _ hD;have lv:vs.length<sizeLine:=by rw[<- rs.length];lia
     have im:aW H5 (upd H5 Dd (.lst (vs++[yv]))):=aW.upd Mp rfl;have n1:∀a∈fp++fy,a≠Dd:=λa m=>by
      rcases abH.mp m with m|m
      .exact(fr a m).2
      .intro e;have:=JB a m;rw[e,zw _ _ hD] at this;ext this
     have rs5:aD X.K H5 (done++[y]) (vs++[yv]) (fp++fy):=by
      have q:=aD.append (rs.same T9) (aD.cons ry .nil)
      rwa [acL] at q
     refine#[vs,Mp,lv,ds.length-(i+1),by lia,rfl,λb o e=>?_,RS,Mv,done++[y],r',vs++[yv],fp++fy,bP,rs5.frame (λa m=>aJ (n1 a m)) im,?_,λa m=>?_,B9,?_,?_]
     .rw[aJ (cU e xQ)];apply s5 _ _ (Ir _ _ e)
     .refine acU.mpr #[nd,ndy,λa m b m' e=>?_];subst e;let#[o,w,_]:=(rs.same zw).cO a m;rw[JB a m'] at w;ext w
     .refine#[?_,n1 a m];rcases abH.mp m with m|m
      .exact(fr a m).1
      .exact Ir.free (JB a m)
     .rw[afn];rfl
     .rw[abV,aes];lia
def jK{ifs:List Expr}{tt:TF}{te:EF}{is:List Nat}(S:mD X M js sc)(hc:X.calm=true)(hi:FI X tg iter it)(zq:∀i∈is,js[i]? = some none)
  (hb:∀s3 H3 fp,FG (eE X M sc s3 H3 fp) tg g is/\CY (eE X M sc s3 H3 fp) ifs tt/\FP (eE X M sc s3 H3 fp) elt te) (hs:∀x,foldedSetIterable iter X.env x=pure x:=by intro _;rfl) :
  FP X (.ListComp elt [#[tg,iter,ifs,0]] sc pos) (i0 js it g tt te):=by
 let#[wi,pi,si]:=hi;apply#[_,VM (tt:=zP X.K tt) S hc pi (λs3 H3 fp=>#[(hb s3 H3 fp).1.pg,(hb s3 H3 fp).2.1,(hb s3 H3 fp).2.2.pe]) hs,@λH0 S z aq Y U H Q d tg ok e k=>Nl zq si ok e k]
def BY(i:Nat){ifs:List Expr}{js:List (Option Nat)}{it:IF}{is:List Nat}(hN:X.N.Nodup)(S:mD X M js sc)(hc:X.calm=true)(hi:FI X tg iter it)
  (zq:∀i∈is,js[i]? = some none) (hb:∀s3 H3 fp,FG (eE X M sc s3 H3 fp) tg g is/\CY (eE X M sc s3 H3 fp) ifs tt/\FP (eE X M sc s3 H3 fp) elt te) (hy:X.N[i]? = some y:=by rfl) (hl:X.env.scope.names.lookup y=some .local:=by rfl)
  (iK:swapsWith (.ListComp elt [#[tg,iter,ifs,0]] sc pos) (some (.Name y py)) JL.line X.env=pure true:=by rfl) (hs:∀x,foldedSetIterable iter X.env x=pure x:=by intro _;rfl) (lK:kr X y=false:=by rfl) :
  eB X (.Assign [.Name y py] (.ListComp elt [#[tg,iter,ifs,0]] sc pos) JL) (eO i (i0 js it g tt te)):=by
 let#[wi,pi,si]:=hi;exists 23,ajz (g:=Km X.K g is) (tt:=zP X.K tt) (te:=Ei X.K te) hN hy hl S hc pi (λs3 H3 fp=>#[(hb s3 H3 fp).1.pg,(hb s3 H3 fp).2.1,(hb s3 H3 fp).2.2.pe]) iK hs;unfold eO at e;exists h,i0 js it g tt te Y,w,e,0;let#[d,tg]:=w;rw[h] at e;ext e;refine Nl zq si ok h λH1 v fp s1 r1 g1=>?_
 apply ok.stored s1 r1 g1 λz' aT=>k z' _ H1 aT (.set hy lK)
end
def tu(n:Nat)(ds:List D):aL:=ds.map (λd=>some (d,.sh []))++List.replicate (n-ds.length) none
def bJ(n N:Nat)(b:SF):List D->Option D:=λds=>if ds.length=n then(match b (tu N ds) with
 |some (.rt d)=>some d
 |some (.nx _)=>some .aC
 |_=>none) else none
abbrev CF:=List D->List D->Option D
def A7(N:Nat)(es ds:List D):aL:=es.map (λd=>some (d,.own))++(ds.map (λd=>some (d,.sh []))++List.replicate (N-(ds.length+es.length)) none)
def runC(n N:Nat)(b:SF):CF:=λes ds=>if ds.length + es.length=n then(match b (A7 N es ds) with
 |some (.rt d)=>some d
 |some (.nx _)=>some .aC
 |_=>none) else none
def Zl(K:Fr)(G:CF):Sp:=λvs H Q _=>∃us ws es ds aX dX d,vs=us++ws/\aD K H es us aX/\aX.Nodup/\aD K H ds ws dX/\(∀b∈dX,b∉aX)/\G es ds=some d/\
 ∀H' v fp,(∀a o,H a=some o->a∉aX->H' a=some o)->Rep K H' d v fp->fp.Nodup->(∀a∈fp,H a=none\/a∈aX)->Q v H'
def aD.own{K:Fr}:∀{es} {us} {fp} (k),aD K H es us fp->fp.Nodup->∃z:Addr->Option Nat,(∀i d,es[i]? = some d->∃v f,us[i]? = some v/\Rep K H d v f/\f.Nodup/\∀a∈f,z a=some (k+i))/\∀a j,z a=some j->a∈fp
 |_,_,_,_,.nil,_=>#[λ_=>none,λi d e=>by simp at e,λ_ _ e=>nomatch e]
 |_,_,_,k,.cons (f1:=f1) (f2:=f2) r t,n=>by
  classical
  let#[n1,n2,n3]:=acU.mp n;let#[z,h1,h2]:=t.own (k+1) n2;refine#[λa=>if a∈f1 then some k else z a,λi d e=>?_,λa j e=>?_]
  .cases i with
   |zero=>ext e;apply#[_,f1,rfl,r,n1,λa m=>if_pos m]
   |succ i=>
    let#[v,f,a1,a2,a3,a4]:=h1 i d e;apply#[v,f,a1,a2,a3,λa m=>(abM λq=>n3 a q a (h2 a _ (a4 a m)) rfl).trans ((a4 a m).trans (by rw[Nat.add_assoc,Nat.add_comm 1]))]
  .dsimp only at e
   split at e
   .exact abz _ (by assumption)
   .exact aaH _ (h2 a j e)
section
variable{K:Fr}
def Ok.n5{H:Hp}(r0:aD K H es us aX)(nd:aX.Nodup)(rs:aD K H ds ws dX)(dj:∀b∈dX,b∉aX):∃z,Ok K H aX z [] (A7 N.length es ds) (start N (us++ws)) H:=by
 let#[z,h1,h2]:=r0.own 0 nd;have l0:=r0.length;have l1:=rs.length;unfold A7 start;rw[adk,afn];refine#[z,λi d' t' e'=>?_,(λp m=>by ext m),(λa j e=>#[let#[o,w,_]:=r0.cO a (h2 a j e);#[o,w],.inr (h2 a j e)]),(λa o e _=>e),?_]
 .by_cases hi:i<es.length
  .rw[adO (by rw[List.length_map];apply hi),acy,aa1 hi] at e';ext e';let#[v,g,hv,rv,n',hz]:=h1 i _ (aa1 hi);rw[ain] at hz;apply#[v,g,(adO (by rw[List.length_map];lia)).trans (by rw[acy,hv];rfl),rv,n',hz]
  .rw[aeh (by rw[List.length_map];lia),List.length_map] at e';rw[aeh (by rw[List.length_map];lia),List.length_map,<- l0];generalize i-es.length=i at e' ⊢
   by_cases hi:i<ds.length
   .rw[adO (by rw[List.length_map];apply hi),acy,aa1 hi] at e';ext e';let#[v,g,hv,rv,sub]:=rs.get (aa1 hi);apply#[v,g,(adO (by rw[List.length_map];lia)).trans (by rw[acy,hv];rfl),rv,λa m j e=>(dj a (sub a m) (h2 a j e)).elim]
   .rw[aeh (by rw[List.length_map];lia),aiv] at e'
    split at e'<;>ext e'
 .simp only[abV,List.length_map,List.length_replicate]
  lia
def afF{st:Stmt}(F:jw K x qual st f fd)(S:qj N ps (cE st))
  (hb:∀(aQ:{c:Value // c=fd.code}) (A) (outer) (s) (H) (E),aZ k (A.deeper (envOfC qual (cE st) s.heap.objs.size f aQ)) cm->FS (fU dw P w K mg base N qual (cE st) f aQ A outer s H E cm).eY (gS st) b) :
  cg P w K mg base dw (k+1) f fd ps (Zl K (runC ps.length N.length b)) cm:=by
 refine F.ok S (λvs H Q E h=>?_) (λaQ A outer s H vs Q E hr h=>?_)<;>let#[us,ws,es,ds,aX,dX,d,e0,r0,nd,rs,dj,e,q]:=h
 .unfold runC at e
  split at e
  .rename_i h;rw[e0,abV,<- r0.length,<- rs.length,Nat.add_comm,h]
  .cases e
 .let#[t,p,sd]:=hb aQ A outer s H E hr;refine#[t,p,?_];let#[z,ok]:=Ok.n5 r0 nd rs dj;rw[e0];unfold runC at e
  split at e
  .cases ho:b (A7 N.length es ds) with
   |none=>rw[ho] at e;ext e
   |some o=>
    rw[ho] at e;refine sd ok ho ?_;cases o with
    |rt d'=>ext e;apply q
    |nx Y'=>ext e;apply λz' aF H' aT _=>q H' .aC [] aT.en .aC acE λa m=>nomatch m
    |bk _=>ext e
    |ct _=>ext e
    |er _ _ _=>ext e
  .cases e
def Se{st:Stmt}(F:jw K x qual st f fd)(S:qj N ps (cE st))
  (hb:∀(aQ:{c:Value // c=fd.code}) (A) (outer) (s) (H) (E),aZ k (A.deeper (envOfC qual (cE st) s.heap.objs.size f aQ)) cm->FS (fU dw P w K mg base N qual (cE st) f aQ A outer s H E cm).eY (gS st) b) :
  cg P w K mg base dw (k+1) f fd ps (bh K (bJ ps.length N.length b)) cm:=
 (afF F S hb).imp λvs H Q E #[ds,fp,d,rs,e,q]=>#[[],vs,[],ds,[],fp,d,rfl,.nil,.nil,rs,(λ_ _ m=>nomatch m),e,λH' v fp en r n fr=>q H' v fp (λa o e=>en a o e λm=>nomatch m) r n λa m=>(fr a m).resolve_right λm=>nomatch m]
end
def xy(f:Int->Int->Int):D->D->Option D
 |.int i,.int j=>some (.int (f i j))
 |_,_=>none
def AM(C:Int->Int->Bool)(f:Int->Int->Int):D->D->Option D
 |.int i,.int j=>if C i j=true then some (.int (f i j)) else none
 |_,_=>none
def vW(f:Int->Int->Bool):D->D->Option D
 |.int i,.int j=>some (.bl (f i j))
 |_,_=>none
def uY(i j:Int):Bool:=(decide (-(2 ^ 64)<i)&&decide (i<2 ^ 64))||(decide (-(2 ^ 64)<j)&&decide (j<2 ^ 64))
def J8(_ j:Int):Bool:=decide (0<j)
def jz:=xy λi j=>i+j
def jY:=xy λi j=>i-j
def yw:=AM uY λi j=>i*j
def oMod:=AM J8 λi j=>i % j
def oLt:=vW λi j=>decide (i<j)
def oLe:=vW λi j=>decide (i<=j)
def Aj:=vW λi j=>decide (j<i)
def CD:=vW λi j=>decide (j<=i)
def oEq:D->D->Option D
 |.int i,.int j=>some (.bl (i==j))
 |.bl i,.bl j=>some (.bl (i==j))
 |.str i,.str j=>some (.bl (i==j))
 |.aC,.aC=>some (.bl true)
 |_,_=>none
def kY:D->D->Option D
 |.int i,.int j=>some (.bl (!(i==j)))
 |.bl i,.bl j=>some (.bl (!(i==j)))
 |.str i,.str j=>some (.bl (!(i==j)))
 |.aC,.aC=>some (.bl false)
 |_,_=>none
def qg:D->Bool
 |.aC=>true
 |_=>false
def jr:D->D->Option D
 |d,.aC=>some (.bl (qg d))
 |_,_=>none
def AG:D->D->Option D
 |d,.aC=>some (.bl (!qg d))
 |_,_=>none
section
variable{K:Fr}
def QU:gR K (oB λi j=>.int (g i j)) (xy g):=by
 exists 41;unfold xy at e
 split at e
 .cases e;apply#[_,_,r1.jq.1,r2.jq.1,k H _ (aH.refl H) (.int _)]
 .cases e
def uh:gR K (oB λi j=>.bl (g i j)) (vW g):=by
 exists 41;unfold vW at e
 split at e
 .cases e;apply#[_,_,r1.jq.1,r2.jq.1,k H _ (aH.refl H) (.bl _)]
 .cases e
def F5(h:∀i j,c i j=true->C i j):gR K (rI C λi j=>.int (g i j)) (AM c g):=by
 exists 41;unfold AM at e
 split at e
 .rename_i i j;let#[hc,e]:=ci e;ext e;apply#[i,j,r1.jq.1,r2.jq.1,h i j hc,k H _ (aH.refl H) (.int _)]
 .cases e
def aab(i j:Int)(h:uY i j=true):yS i j:=by
 unfold uY at h;unfold yS;rcases(aji _ _).mp h with h|h
 .let#[a,b]:=(aaM _ _).mp h;apply .inl #[abl a,abl b]
 .let#[a,b]:=(aaM _ _).mp h;apply .inr #[abl a,abl b]
def Gf:gR K Fk oEq:=by
 exists 41;unfold oEq at e
 split at e
 .cases e;rw[r1.jq.1,r2.jq.1];refine#[rfl,?_];rw[BG];exact k H _ (aH.refl H) (.bl _)
 .cases e;rw[r1.DB.1,r2.DB.1];refine#[rfl,?_];rw[BJ];exact k H _ (aH.refl H) (.bl _)
 .cases e;rw[r1.xj.1,r2.xj.1];refine#[rfl,?_];rw[C7];exact k H _ (aH.refl H) (.bl _)
 .cases e;rw[r1.D8.1,r2.D8.1];apply#[rfl,by have:=k H (.bl true) (aH.refl H) (.bl _);simpa using this]
 .cases e
def Oz:gR K SA kY:=by
 exists 41;unfold kY at e
 split at e
 .cases e;rw[r1.jq.1,r2.jq.1];refine#[rfl,?_];rw[BG];exact k H _ (aH.refl H) (.bl _)
 .cases e;rw[r1.DB.1,r2.DB.1];refine#[rfl,?_];rw[BJ];exact k H _ (aH.refl H) (.bl _)
 .cases e;rw[r1.xj.1,r2.xj.1];refine#[rfl,?_];rw[C7];exact k H _ (aH.refl H) (.bl _)
 .cases e;rw[r1.D8.1,r2.D8.1];apply#[rfl,by have:=k H (.bl false) (aH.refl H) (.bl _);simpa using this]
 .cases e
theorem Rep.qg(r:Rep K H d v fp):decide (v=.aC)=qg d:=by
 ext r<;>first|rfl|exact acp (λe=>nomatch e)
def MQ:gR K (λx y H Q=>y=.aC/\Q (.bl (decide (x=.aC))) H) jr:=by
 exists 41;unfold jr at e
 split at e
 .cases e;ext r2;refine#[rfl,?_];rw[r1.qg];exact k H _ (aH.refl H) (.bl _)
 .cases e
def Vw:gR K (λx y H Q=>y=.aC/\Q (.bl (!decide (x=.aC))) H) AG:=by
 exists 41;unfold AG at e
 split at e
 .cases e;ext r2;refine#[rfl,?_];rw[r1.qg];exact k H _ (aH.refl H) (.bl _)
 .cases e
end
section
variable{X:Cx}
def f9(ha:FP X a fa)(hb:FP X b fb):FP X (.BinOp a .Add b pos) (e2 jz fa fb):=wQ V_ QU ha hb
def ue(ha:FP X a fa)(hb:FP X b fb):FP X (.BinOp a .Sub b pos) (e2 jY fa fb):=wQ af8 QU ha hb
def vM(ha:FP X a fa)(hb:FP X b fb):FP X (.BinOp a .Mult b pos) (e2 yw fa fb):=wQ Yo (F5 aab) ha hb
def xF(ha:FP X a fa)(hb:FP X b fb):FP X (.BinOp a .Mod b pos) (e2 oMod fa fb):=wQ aje (F5 λ_ _ h=>abl h) ha hb
def rJ(ha:FP X a fa)(hb:FP X b fb):FT X (.Compare a [.Lt] [b] pos) (tV (e2 oLt fa fb)):=jX M3 uh ha hb (jm _)
def Io(ha:FP X a fa)(hb:FP X b fb):FT X (.Compare a [.Gt] [b] pos) (tV (e2 Aj fa fb)):=jX ZO uh ha hb (jm _)
def Dz(ha:FP X a fa)(hb:FP X b fb):FT X (.Compare a [.GtE] [b] pos) (tV (e2 CD fa fb)):=jX afl uh ha hb (jm _)
def dz(ha:FP X a fa)(hb:FP X b fb):FT X (.Compare a [.Eq] [b] pos) (tV (e2 oEq fa fb)):=jX DJ Gf ha hb (jm _)
def rR(ha:FP X a fa)(hb:FP X b fb):FT X (.Compare a [.NotEq] [b] pos) (tV (e2 kY fa fb)):=jX MX Oz ha hb (jm _)
def Cz(ha:FP X a fa)(hb:FP X b fb):FT X (.Compare a [.Is] [b] pos) (tV (e2 jr fa fb)):=jX Qx MQ ha hb (jm _)
def Y6(ha:FP X a fa)(hb:FP X b fb):FT X (.Compare a [.IsNot] [b] pos) (tV (e2 AG fa fb)):=jX Pb Vw ha hb (jm _)
def S9(ha:FP X a fa)(hb:FP X b fb):FP X (.Compare a [.Eq] [b] pos) (e2 oEq fa fb):=uT DJ Gf ha hb (jm _)
def e1(op:D->Option D)(fa:EF):EF:=λY=>match fa Y with
 |some (d1,_)=>(op d1).map λd=>(d,.own)
 |none=>none
def xN(e:e1 op fa Y=some (d,tg)):∃d1 t1,fa Y=some (d1,t1)/\op d1=some d/\tg=.own:=by
 unfold e1 at e;exists h1,fa Y,p,e,0;let#[d1,t1]:=p;rw[h1] at e;dsimp only at e;exists h3,op d1,d3,e;ext e;apply#[d1,t1,rfl,h3,rfl]
def oz(K:Fr)(r:List V->Hp->VK->Prop)(op:D->Option D):Prop:=∀(H) (x) (d1) (f1) (d) (Q),Rep K H d1 x f1->op d1=some d->
 (∀H' v fp,aH H H'->Rep K H' d v fp->fp.Nodup->(∀a∈fp,H a=none)->Q v H')->r [x] H Q
def fp_1(dd:oz X.K r op)(ha:FP X a fa)(he:∀ta,PE X a ta->PE X e (Fx r (Ve ta Cf))):FP X e (e1 op fa):=by
 let#[t,p,q]:=ha;exists 21,he t p;let#[d1,t1,h1,h2,rfl]:=xN e;refine q ok h1 λH1 x f1 s1 r1 _=>?_
 apply dd H1 x d1 f1 d Q r1 h2 λH2 v fp s2 r2 nd fr=>k H2 v fp (s1.trans s2) r2 #[nd,λa m=>s1.free (fr a m)]
def fX:D->Option D
 |.lst ds=>some (.int ds.length)
 |.kZ ds=>some (.int ds.length)
 |.tup ds=>some (.int ds.length)
 |.cG es=>some (.int es.length)
 |_=>none
def ie.or'(h:ie X f r)(h':ie X f r'):ie X f (λxs H Q=>r xs H Q\/r' xs H Q):=by
 intro af s U H xs us Q I rv q;rcases q with q|q
 .exact h af s U H xs us Q I rv q
 .exact h' af s U H xs us Q I rv q
def abj:oz X.K (λxs H Q=>(∃p ys,xs=[V.ref p]/\(cJ X.K H p ys\/bQ X.K H p ys)/\Q (.int ys.length) H)\/(∃a ak,xs=[V.ref a]/\H a=some (.dK ak)/\Q (.int ak.length) H)) fX:=by
 intro H x d1 f1 d Q r e k;have fin:∀n:Nat,d=.int n->Q (.int n) H:=λn e=>by subst e;apply k H _ [] (aH.refl H) (.int _) acE λa m=>nomatch m
 cases d1 with
 |lst ds=>
  let#[a,xs,f,rfl,hq,rs,_]:=r.d9;ext e;apply .inl #[a,xs,rfl,.inl hq,by rw[<- rs.length];apply fin _ rfl]
 |kZ ds=>
  let#[a,xs,rfl,hq,rs]:=r.K6;ext e;apply .inl #[a,xs,rfl,.inl hq,by rw[<- rs.length];apply fin _ rfl]
 |tup ds=>
  let#[a,xs,rfl,hq,rs]:=r.ir;ext e;apply .inl #[a,xs,rfl,.inr hq,by rw[<- rs.length];apply fin _ rfl]
 |cG es=>
  cases r with
  |cG h hk rs=>
   ext e;refine .inr #[_,_,rfl,h,?_];have hl:=congrArg List.length hk;rw[List.length_map,List.length_map] at hl;rw[<- hl];apply fin _ rfl
 |_=>ext e
def f6(hm:X.mg "len"=none)(ha:FP X a fa)(hg:Gl X "len":=by rfl)(hs:Y1 X a:=by rfl):FP X (.Call (.Name "len" p) [a] [] pos) (e1 fX fa):=
 fp_1 abj ha λta pa=>qk (ie.or' Zk ajG) hg hm PySem.boot_len (dg pa e_ hs) (he:=hs)
def pX:D->Option D
 |.lst ds=>if aK ds=true then some (.lst ds) else none
 |.tup ds=>if aK ds=true then some (.lst ds) else none
 |_=>none
def Yg:oz X.K (λxs H Q=>∃p ys,xs=[V.ref p]/\(cJ X.K H p ys\/bQ X.K H p ys)/\∀l,H l=none->Q (.ref l) (upd H l (.lst ys))) pX:=by
 intro H x d1 f1 d Q r e k;have fin:∀{ds} {xs} {f},aD X.K H ds xs f->(if aK ds=true then some (D.lst ds) else none)=some d->∀l,H l=none->Q (.ref l) (upd H l (.lst xs)):=λ{ds xs f} rs e l hl=>by
  let#[hi,e]:=ci e;ext e;have hn:=rs.aA hi;subst hn;have s2:aH H (upd H l (.lst xs)):=λb o e=>by rw[aJ (cU e hl)];apply e
  apply k _ _ [l] s2 (.lst bP (rs.same s2)) (acw.mpr #[(λm=>by ext m),acE]) λa m=>by cases aa6.mp m;apply hl
 cases d1 with
 |lst ds=>
  let#[a,xs,f,rfl,hq,rs,_]:=r.d9;apply#[a,xs,rfl,.inl hq,fin rs e]
 |tup ds=>
  let#[a,xs,rfl,hq,rs]:=r.ir;apply#[a,xs,rfl,.inr hq,fin rs e]
 |_=>ext e
def jf(hm:X.mg "list"=none)(ha:FP X a fa)(hg:Gl X "list":=by rfl)(hs:Y1 X a:=by rfl):FP X (.Call (.Name "list" p) [a] [] pos) (e1 pX fa):=
 fp_1 Yg ha λta pa=>B_ Zh hg hm (by rfl) (dg pa e_ hs) (he:=hs)
end
def c9:D->D->Option D
 |.kZ ds,.int i=>(dM ds i).bind λd=>if aA d=true then some d else none
 |.lst ds,.int i=>(dM ds i).bind λd=>if aA d=true then some d else none
 |.tup ds,.int i=>(dM ds i).bind λd=>if aA d=true then some d else none
 |_,_=>none
def afk{K:Fr}:gR K (λx y H Q=>E8 K x y H Q\/B4 K x y H Q\/LR x y H Q) c9:=by
 exists 41;have key:∀{ds} {xs} {f} {i},aD K H ds xs f->((dM ds i).bind λd=>if aA d=true then some d else none)=some d->∃v,dM xs i=some v/\Rep K H d v []:=λ{ds xs f i} rs e=>by
  unfold dM at e ⊢;rw[<- rs.length];exists h,kh ds.length i,j,e,0;rw[h,acG] at e;rw[acG];exists h2,ds[j]?,d',e,0;rw[h2,acG] at e
  by_cases hi:aA d'=true
  .rw[if_pos hi] at e;ext e;let#[v,f',hv,rv,_]:=rs.get h2;have hn:=rv.aA hi;subst hn;apply#[v,hv,rv]
  .rw[abM hi] at e;ext e
 unfold c9 at e
 split at e
 .let#[a,xs,rfl,hq,rs]:=r1.K6;let#[v,hv,rv]:=key rs e;apply .inl #[a,xs,_,v,rfl,r2.jq.1,hq,hv,k H v (aH.refl H) rv]
 .let#[a,xs,f,rfl,hq,rs,_]:=r1.d9;let#[v,hv,rv]:=key rs e;apply .inl #[a,xs,_,v,rfl,r2.jq.1,hq,hv,k H v (aH.refl H) rv]
 .let#[a,xs,rfl,hq,rs]:=r1.ir;let#[v,hv,rv]:=key rs e;apply .inr (.inl #[a,xs,_,v,rfl,r2.jq.1,hq,hv,k H v (aH.refl H) rv])
 .cases e
def bO(ha:FP X a fa)(hb:FP X b fb)(hs:F7 b:=by apply λ_ _=>rfl):FP X (.Subscript a b pos) (e2 c9 fa fb):=fp_2 afk ha hb λ_ _ pa pb=>JS Qs pa pb hs
def HE:eC d Y=some (d,.own):=rfl
def k1(op:D->Option D):Option (D×Tag)->Option (D×Tag)
 |some (d,_)=>(op d).map λd=>(d,.own)
 |none=>none
def yQ:e1 LM fa Y=k1 LM (fa Y):=by unfold e1 k1;cases fa Y<;>rfl
def Qp:k1 LM (some (d,t))=(LM d).map λd=>(d,.own):=rfl
def k2(op:D->D->Option D):Option (D×Tag)->Option (D×Tag)->Option (D×Tag)
 |some (d1,_),some (d2,_)=>(op d1 d2).map λd=>(d,.own)
 |_,_=>none
def kG:e2 IC fa fb Y=k2 IC (fa Y) (fb Y):=by unfold e2 k2;cases fa Y<;>cases fb Y<;>rfl
def zg:k2 IC (some (d1,t1)) (some (d2,t2))=(IC d1 d2).map λd=>(d,.own):=rfl
def RQ:(some a).map f=some (f a):=rfl
def kV:Option (D×Tag)->Option Bool
 |some (.bl b,_)=>some b
 |_=>none
def zG:tV fa Y=Ev.kV (fa Y):=by
 unfold tV Ev.kV;cases fa Y with
 |none=>rfl
 |some p=>let#[d,t]:=p;ext d<;>rfl
def U5(h:tf Y=some true):lR tf tg Y=tg Y:=by unfold lR;rw[h]
def Nc(h:tf Y=some false):sE tf tg Y=tg Y:=by unfold sE;rw[h]
def xq(h:tf Y=some a)(h2:tg Y=some b):lR tf tg Y=some (a&&b):=by unfold lR;rw[h];ext a<;>first|exact h2|rfl
def vG(h:tf Y=some a)(h2:tg Y=some b):sE tf tg Y=some (a||b):=by unfold sE;rw[h];ext a<;>first|exact h2|rfl
def Lx:lV tf Y=(tf Y).map λb=>!b:=rfl
def Zo:gm Y=some (.nx Y):=rfl
def wg(g:SF):Option Out->Option Out
 |some (.nx Y)=>g Y
 |o=>o
def je:ck sf sg Y=wg sg (sf Y):=by
 unfold ck wg;cases sf Y with
 |none=>rfl
 |some o=>ext o<;>rfl
def pC:wg sg (some (.nx Y))=sg Y:=rfl
def B6(sf sg:SF)(Y:aL):Option Bool->Option Out
 |some true=>sf Y
 |some false=>sg Y
 |none=>none
def iH:eW tf sf sg Y=B6 sf sg Y (tf Y):=by unfold eW B6;cases tf Y<;>rfl
def PD:B6 sf sg Y (some true)=sf Y:=rfl
def R1:B6 sf sg Y (some false)=sg Y:=rfl
def Mi:Option (D×Tag)->Option Out
 |some (d,t)=>if k9 t=true then some (.rt d) else if aA d=true then some (.rt d) else none
 |none=>none
def wD:l7 fa Y=Mi (fa Y):=by unfold l7 Mi;cases fa Y<;>rfl
def Bv(i:Nat)(Y:aL):Option (D×Tag)->Option Out
 |some (d,t)=>some (.nx (iE Y i d t))
 |none=>none
def oj:eO i fa Y=Bv i Y (fa Y):=by unfold eO Bv;cases fa Y<;>rfl
def wZ:aB Y=some []:=rfl
def mW:Option (D×Tag)->Option (List (D×Tag))->Option (List (D×Tag))
 |some p,some ps=>some (p::ps)
 |_,_=>none
def bq:au fa a Y=mW (fa Y) (a Y):=by unfold au mW;cases fa Y<;>cases a Y<;>rfl
def A1:mW (some p) (some ps)=some (p::ps):=rfl
def s_call:cZ F a Y=(a Y).bind λps=>(F (ps.map (·.1))).map λd=>(d,.own):=rfl
def Vd:(some a).bind f=f a:=rfl
def nS:gX a Y=(a Y).map λps=>(.tup (ps.map (·.1)),jG ps):=rfl
def kX:jz (.int m) (.int n)=some (.int (m+n)):=rfl
def vH(h:uY m n=true):yw (.int m) (.int n)=some (.int (m*n)):=by show(if uY m n=true then some (D.int (m*n)) else none)=_;rw[if_pos h]
def vp(h:0<n):oMod (.int m) (.int n)=some (.int (m % n)):=by show(if J8 m n=true then some (D.int (m % n)) else none)=_;rw[if_pos (show J8 m n=true from aaP h)]
def vV:oLt (.int m) (.int n)=some (.bl (decide (m<n))):=rfl
def afp:oLe (.int m) (.int n)=some (.bl (decide (m<=n))):=rfl
def abO:Aj (.int m) (.int n)=some (.bl (decide (n<m))):=rfl
def ajH:CD (.int m) (.int n)=some (.bl (decide (n<=m))):=rfl
def qD:fX (.lst ds)=some (.int ds.length):=rfl
def qT(h:dM ds m=some d)(hi:aA d=true):c9 (.lst ds) (.int m)=some d:=by show((dM ds m).bind λd=>if aA d=true then some d else none)=_;rw[h,acG,if_pos hi]
def YU(h:dM ds m=some d)(hi:aA d=true):c9 (.kZ ds) (.int m)=some d:=by show((dM ds m).bind λd=>if aA d=true then some d else none)=_;rw[h,acG,if_pos hi]
def tP(h:dM ds m=some d)(hi:aA d=true):c9 (.tup ds) (.int m)=some d:=by show((dM ds m).bind λd=>if aA d=true then some d else none)=_;rw[h,acG,if_pos hi]
def bY(hl:ds.length=n)(h:b (tu N ds)=some (.rt d)):bJ n N b ds=some d:=by unfold bJ;rw[if_pos hl,h]
def dI(ns:List Int):D:=.kZ (ns.map D.int)
def Me{ns:List Int}{i:Int}(h0:0<=i)(h1:i<ns.length):dM (ns.map D.int) i=some (.int (ns.getD i.toNat 0)):=by
 unfold dM kh;have h2:i.toNat<ns.length:=by omega
 rw[List.length_map,if_pos h0,if_pos h1,acG,acy,aa1 h2,adQ,aa1 h2];rfl
section
variable[DecidableEq κ]
def bu(es:List (κ×D))(k:κ):Option D:=(es.find? λkv=>decide (kv.1=k)).map (·.2)
def putD(es:List (κ×D))(k:κ)(d:D):List (κ×D):=
 if(es.any λkv=>decide (kv.1=k))=true then es.map (λkv=>if kv.1=k then(kv.1,d) else kv) else es++[(k,d)]
theorem qZ{K:Fr}:∀{es}{ak:List (κ×V)} {fp},es.map (·.1)=ak.map (·.1)->aD K H (es.map (·.2)) (ak.map (·.2)) fp->
  (∀d,bu es k=some d->∃v f,eT ak k=some v/\Rep K H d v f/\∀a∈f,a∈fp)/\(bu es k=none->eT ak k=none)
 |[],[],_,_,_=>#[λd e=>(nomatch e),λ_=>rfl]
 |[],_::_,_,e,_=>by simp at e
 |_::_,[],_,e,_=>by simp at e
 |(q,d0)::es,(q',v0)::ak,fp,e,r=>by
  simp only[aaG,aga] at e;let#[rfl,e]:=e;simp only[aaG] at r;cases r with
  | @cons _ _ _ _ f1 f2 r1 r2=>
   let#[i1,i2]:=qZ e r2
   by_cases h:q=k
   .have e1:bu ((q,d0)::es) k=some d0:=by unfold bu;rw[adx,aaP h];rfl
    refine#[λd ed=>?_,λen=>?_]
    .rw[e1] at ed;ext ed;apply#[v0,f1,ya h,r1,λa m=>abz _ m]
    .rw[e1] at en;ext en
   .have e1:bu ((q,d0)::es) k=bu es k:=by unfold bu;rw[adx,acp h]
    rw[e1,y_ h];apply#[λd ed=>let#[v,f,a,b,c]:=i1 d ed;#[v,f,a,b,λx m=>aaH _ (c x m)],i2]
def yj{k:κ}(e:es.map (·.1)=ak.map (·.1)):(putD es k d).map (·.1)=(putK ak k v).map (·.1):=by
 have any:(es.any λkv=>decide (kv.1=k))=ak.any λkv=>decide (kv.1=k):=by
  have h1:(es.any λkv=>decide (kv.1=k))=(es.map (·.1)).any λx=>decide (x=k):=by rw[aip];rfl
  have h2:(ak.any λkv=>decide (kv.1=k))=(ak.map (·.1)).any λx=>decide (x=k):=by rw[aip];rfl
  rw[h1,h2,e]
 have m1:∀l:List (κ×D),(l.map λkv=>if kv.1=k then(kv.1,d) else kv).map (·.1)=l.map (·.1):=λl=>by
  rw[adw];congr 1;funext kv;show(if kv.1=k then(kv.1,d) else kv).1=kv.1;split<;>rfl
 have m2:∀l:List (κ×V),(l.map λkv=>if kv.1=k then(kv.1,v) else kv).map (·.1)=l.map (·.1):=λl=>by
  rw[adw];congr 1;funext kv;show(if kv.1=k then(kv.1,v) else kv).1=kv.1;split<;>rfl
 unfold putD putK;rw[any]
 by_cases h:(ak.any λkv=>decide (kv.1=k))=true
 .rw[if_pos h,if_pos h,m1,m2,e]
 .rw[abM h,abM h,adk,adk,e];rfl
def CH{K:Fr}{ak:List (κ×V)}(e:es.map (·.1)=ak.map (·.1))(r:aD K H (es.map (·.2)) (ak.map (·.2)) [])(rv:Rep K H d v []):
  aD K H ((putD es k d).map (·.2)) ((putK ak k v).map (·.2)) []:=by
 have any:(es.any λkv=>decide (kv.1=k))=ak.any λkv=>decide (kv.1=k):=by
  have h1:(es.any λkv=>decide (kv.1=k))=(es.map (·.1)).any λx=>decide (x=k):=by rw[aip];rfl
  have h2:(ak.any λkv=>decide (kv.1=k))=(ak.map (·.1)).any λx=>decide (x=k):=by rw[aip];rfl
  rw[h1,h2,e]
 have go:∀(es:List (κ×D)) (ak:List (κ×V)),es.map (·.1)=ak.map (·.1)->aD K H (es.map (·.2)) (ak.map (·.2)) []->aD K H ((es.map λkv=>if kv.1=k then(kv.1,d) else kv).map (·.2)) ((ak.map λkv=>if kv.1=k then(kv.1,v) else kv).map (·.2)) []:=by
  intro es
  induction es with
  |nil=>
   intro ak e r;cases ak with
   |nil=>apply .nil
   |cons _ _=>simp at e
  |cons p es ih=>
   intro ak e r;cases ak with
   |nil=>simp at e
   |cons p' ak=>
    let#[q,d0]:=p;let#[q',v0]:=p';simp only[aaG,aga] at e;let#[rfl,e]:=e;simp only[aaG] at r ⊢;generalize hf:([]:List Addr)=fp at r;cases r with
    | @cons _ _ _ _ f1 f2 r1 r2=>
     let#[h1,h2]:=agh.mp hf.symm;subst h1 h2;have t:=ih ak e r2
     by_cases h:q=k
     .rw[if_pos h,if_pos h];apply aD.cons rv t
     .rw[abM h,abM h];apply aD.cons r1 t
 unfold putD putK;rw[any]
 by_cases h:(ak.any λkv=>decide (kv.1=k))=true
 .rw[if_pos h,if_pos h];apply go es ak e r
 .rw[abM h,abM h,adk,adk];apply aD.append r (aD.cons rv .nil)
end
def iZ:D->Option Key
 |.int i=>some (.inl i)
 |.str x=>some (.inr x)
 |_=>none
def Rep.key{K:Fr}(r:Rep K H d y fp)(e:iZ d=some k):y=L2.kV k:=by
 ext r<;>ext e<;>rfl
def m5:D->D->Option D
 |.cG es,kd=>match iZ kd with
  |some k=>(bu es k).bind λd=>if aA d=true then some d else none
  |none=>none
 |_,_=>none
def tDg:R2:=λx y H Q=>∃a v,x=.ref a/\iG H a y (some v)/\Q v H
def acQ{K:Fr}:gR K tDg m5:=by
 exists 41;cases r1 with
 | @cG a ak es fp h hk rs=>
  have e:(match iZ d2 with|some k=>(bu es k).bind λd=>if aA d=true then some d else none|none=>none)=some d:=e;exists yC,iZ d2,key,e;dsimp only at e;exists hv,bu es key,d',e,0;rw[hv,acG] at e
  by_cases hi:aA d'=true
  .rw[if_pos hi] at e;ext e;let#[v,f,h1,r,_]:=(qZ hk rs).1 d hv;have hn:=r.aA hi;subst hn;have ek:=r2.key yC;subst ek;have g:=iG.k (k:=key) h;rw[h1] at g;apply#[a,v,rfl,g,k H v (aH.refl H) r]
  .rw[abM hi] at e;ext e
 |_=>ext e
def Bm(hu:X.A.units+1<cLine)(ha:FP X a fa)(hb:FP X b fb)(hs:yk b:=by apply λ_ _=>rfl):FP X (.Subscript a b pos) (e2 m5 fa fb):=
 fp_2 acQ ha hb λ_ _ pa pb=>M1 hu pa pb hs
def uP(d1 d2 d3:D):Option D:=match d1,iZ d2 with
 |.cG es,some k=>match bu es k with
  |some d=>if aA d=true then some d else none
  |none=>if aA d3=true then some d3 else none
 |_,_=>none
def e3(op:D->D->D->Option D)(fa fb fc:EF):EF:=λY=>match fa Y,fb Y,fc Y with
 |some (d1,_),some (d2,_),some (d3,_)=>(op d1 d2 d3).map λd=>(d,.own)
 |_,_,_=>none
def RP(e:e3 op fa fb fc Y=some (d,tg)):∃d1 t1 d2 t2 d3 t3,fa Y=some (d1,t1)/\fb Y=some (d2,t2)/\fc Y=some (d3,t3)/\op d1 d2 d3=some d/\tg=.own:=by
 unfold e3 at e;exists h1,fa Y,p,e,0;cases h2:fb Y with
 |none=>rw[h1,h2] at e;ext e
 |some q=>
  cases h3:fc Y with
  |none=>rw[h1,h2,h3] at e;ext e
  |some r=>
   let#[d1,t1]:=p;let#[d2,t2]:=q;let#[d3,t3]:=r;rw[h1,h2,h3] at e;dsimp only at e;exists h4,op d1 d2 d3,d4,e;ext e;apply#[d1,t1,d2,t2,d3,t3,rfl,rfl,rfl,h4,rfl]
def Hu{apos fH:Pos}(hu:X.A.units+1<cLine)(ha:FP X a fa)(hb:FP X b fb)(hc:FP X c fc)(m:M2 X a "get" apos b c fH:=by apply#[rfl,rfl,rfl,rfl]):FP X (.Call (.Attribute a "get" apos) [b,c] [] fH) (e3 uP fa fb fc):=by
 let#[ta,pa,sa]:=ha;let#[tb,pb,sb]:=hb;let#[tc,pc,sc]:=hc;exists 21,Ln hu pa pb pc m;let#[d1,t1,d2,t2,d3,t3,h1,h2,h3,h4,rfl]:=RP e;refine sa ok h1 λH1 x f1 s1 r1 _=>?_
 cases d1 with
 |cG es=>
  cases r1 with
  | @cG p ak _ fp h hk rs=>
   refine#[p,rfl,.inl #[ak,.inl h],?_];refine sb (ok.same s1) h2 λH2 y f2 s2 r2 _=>?_
   refine sc ((ok.same s1).same s2) h3 λH3 w f3 s3 r3 _=>?_
   unfold uP at h4;exists yC,iZ d2,key,h4;dsimp only at h4;have ek:=r2.key yC;subst ek;have BE:=s3 _ _ (s2 _ _ h);have g:=iG.k (k:=key) BE;refine#[_,g,?_];have AZ:=(s1.trans s2).trans s3;let#[i1,i2]:=qZ hk ((rs.same s2).same s3);cases hv:bu es key with
   |some d'=>
    rw[hv] at h4;dsimp only at h4;let#[hi,h4]:=ci h4;ext h4;let#[v,f,e1,r,_]:=i1 d hv;have hn:=r.aA hi;subst hn;rw[e1];apply k H3 v [] AZ r .nil
   |none=>
    rw[hv] at h4;dsimp only at h4;let#[hi,h4]:=ci h4;ext h4;rw[i2 hv];have hn:=r3.aA hi;subst hn;apply k H3 w [] AZ r3 .nil
 |_=>ext h4
def HG:FP X (.Dict [] [] pos) (eC (.cG [])):=by
 refine#[_,abN,@λH0 S z aq Y U H Q d tg ok e k p hp=>?_];ext e;have s2:aH H (upd H p (.dK [])):=λb o e=>by rw[aJ (cU e hp)];apply e
 apply k _ _ [p] s2 (.cG bP rfl .nil) #[acw.mpr #[(λm=>by ext m),acE],λa m=>by cases aa6.mp m;apply hp]
def Ah(i:Nat):Slot->Slot
 |some (d,.sh o)=>if o.contains i=true then none else some (d,.sh o)
 |s=>s
def bU(Y:aL)(i:Nat)(d:D):aL:=(Y.map (Ah i)).set i (some (d,.own))
def Jm(e:Ah i s=some (d,t)):s=some (d,t)/\∀o,t=.sh o->i∉o:=by
 cases s with
 |none=>ext e
 |some w=>
  let#[d',t']:=w;cases t' with
  |sh o=>
   have e:(if o.contains i=true then none else some (d',Tag.sh o))=some (d,t):=e
   split at e
   .cases e
   .rename_i hc;ext e;apply#[rfl,λo' eo m=>by ext eo;apply hc (adz.mpr m)]
  |own=>ext e;apply#[rfl,λo eo=>by ext eo]
  |lk=>ext e;apply#[rfl,λo eo=>by ext eo]
def LD(hj:j≠i)(e:(bU Y i d1)[j]? = some (some (d,t))):Y[j]? = some (some (d,t))/\(P\/∀o,t=.sh o->i∉o):=by
 unfold bU at e;rw[acN (afv hj),acy] at e;let#[s,e0,e]:=abX.mp e;let#[rfl,n]:=Jm e;apply#[e0,.inr n]
def E4(h:Y[i]? = some d0):(bU Y i d1)[i]? = some (some (d1,.own)):=aed (by rw[List.length_map];apply(abq.mp h).1)
def A_:(bU Y i d1).length=Y.length:=by unfold bU;rw[ag3,List.length_map]
def Ok.put{K:Fr}(ok:Ok K H0 S z aq Y U H)(h:Y[i]? = some (some (d0,.own)))
  (hs:U[i]? = some (some v)) (zz:vv z i .own aX) (im:aW H H') (keep:∀b o,b∉aX->H b=some o->H' b=some o) (r1:Rep K H' d1 v bI) (nd:bI.Nodup) (fr:∀b∈bI,b∈aX\/H b=none):∃z',Ok K H0 S z' aq (bU Y i d1) U H':=
 #[_,ok.chg (E4 h) hs zz.2 im keep r1 #[nd,λa m=>if_pos m] (Hl zz.2) (λa m=>#[fr a m,let#[o,w,_]:=r1.cO a m;#[o,w]]) LD (λ_ _=>rfl) (.inr λn=>n _ h) (A_.trans ok.ln)]
def Ok.CW{K:Fr}(ok:Ok K H0 S z aq Y U H)(h:Y[i]? = some (some (d0,.own)))
  (hs:U[i]? = some (some v)) (zz:vv z i .own fp) (hp:p∈fp) (ho:H p=some o) (mo:jn o=true) (r1:Rep K (upd H p o') d1 v fp):Ok K H0 S z aq (bU Y i d1) U (upd H p o'):=
 ok.chg (E4 h) hs zz.2 (aW.upd ho mo) (λb o n e=>by rw[aJ λq:b=p=>n (q ▸ hp)];apply e) r1 zz (λa n=>.inr #[rfl,n,λ_ n=>n _ h]) (λa m=>#[.inl m,let#[o,w,_]:=r1.cO a m;#[o,w]]) LD (λ_ _=>rfl) (.inr λn=>n _ h) (A_.trans ok.ln)
def sM(i:Nat)(fk fv:EF):SF:=λY=>match fv Y,Y[i]?,fk Y with
 |some (d,_),some (some (.cG es,.own)),some (kd,_)=>match iZ kd with
  |some k=>if(aA d&&aK (es.map (·.2))&&decide (es.length<sizeLine))=true then some (.nx (bU Y i (.cG (putD es k d)))) else none
  |none=>none
 |_,_,_=>none
def Cp(i:Nat){x:Str}{k v:Expr}(hu:X.A.units+1<cLine)(hk:FP X k fk)(hv:FP X v fv)(va:VA X i x:=by walk_at "va")(hs:swapsWith v (some (.Subscript (.Name x p1) k pos')) pos.line X.env=pure false:=by rfl):
  eB X (.Assign [.Subscript (.Name x p1) k pos'] v pos) (sM i fk fv):=by
 let#[tk,pk,sk]:=hk;let#[tv,kR,sv]:=hv;exists 25,Ci hu va.pe pk kR hs;unfold sM at e
 split at e
 .rename_i d td es kd RC h1 h2 h3;exists h4,iZ kd,key,e;dsimp only at e;let#[hc,e]:=ci e;ext e;let#[uU,GB]:=(aaM _ _).mp hc;let#[uU,ym]:=(aaM _ _).mp uU;have hz:=abl GB;refine sv ok h1 λH1 v Po s1 rv _=>?_
  let#[xv,fp,c8,r,zz]:=(ok.same s1).sl i _ _ h2;refine#[xv,c8,?_];refine sk (ok.same s1) h3 λH2 y VF s2 rk _=>?_
  have ek:=rk.key h4;subst ek;have r':=r.same s2;cases r' with
  | @cG a ak _ f h fZ rs=>
   have hn:=rs.aA ym;subst hn;have A2:=rv.aA uU;subst A2;have hl:ak.length=es.length:=by have:=congrArg List.length fZ;simpa using this.symm
   refine#[a,_,rfl,pL.k h (by rw[hl];apply hz),?_];have im:aW H2 (upd H2 a (.dK (putK ak key v))):=aW.upd h rfl;refine q z U _ (Ok.CW ((ok.same s1).same s2) h2 c8 zz aav h rfl (.cG bP (yj fZ) ?_)) (.refl _ _);apply CH fZ (rs.frame (λa m=>nomatch m) im) ((rv.same s2).frame (λa m=>nomatch m) im)
 .cases e
def vn(x:Int):List Int->List Int
 |[]=>[x]
 |y::r=>if x<=y then x::y::r else y::vn x r
def dh:List Int->List Int
 |[]=>[]
 |x::r=>vn x (dh r)
theorem K8(x:Int):∀l:List Int,(vn x l).Perm (x::l)
 |[]=>.refl _
 |y::r=>by
  unfold vn
  split
  .exact .refl _
  .exact((K8 x r).cons y).trans (.swap x y r)
theorem tS:∀l:List Int,(dh l).Perm l
 |[]=>.refl _
 |x::r=>(K8 x (dh r)).trans ((tS r).cons x)
theorem R6(x:Int):∀{l},l.Pairwise (·<=·)->(vn x l).Pairwise (·<=·)
 |[],_=>List.pairwise_singleton _ _
 |y::r,h=>by
  let#[h1,h2]:=agc.mp h;unfold vn
  split
  .rename_i hx;apply agc.mpr #[λz m=>(aaO.mp m).elim (λe=>e ▸ hx) λm=>Int.le_trans hx (h1 z m),h]
  .rename_i hx;refine agc.mpr #[λz m=>?_,R6 x h2];rcases aaO.mp ((K8 x r).mem_iff.mp m) with e|m
   .rw[e];lia
   .exact h1 z m
theorem GS:∀l:List Int,(dh l).Pairwise (·<=·)
 |[]=>.nil
 |x::r=>R6 x (GS r)
def Zr(p:a.Perm b)(s:a.Pairwise (·<=·)):a=dh b:=by
 have q:=p.trans (tS b).symm;apply q.eq_of_pairwise (λx y _ _ h1 h2=>Int.le_antisymm h1 h2) s (GS b)
def uK(l:List Int):(dh l).length=l.length:=(tS l).length_eq
def eV:List D->Option (List Int)
 |[]=>some []
 |.int i::r=>(eV r).map (i::·)
 |_=>none
def jt{α:Type}:List (Key×α)->Option (List Int)
 |[]=>some []
 |(.inl i,_)::r=>(jt r).map (i::·)
 |_=>none
theorem u9{K:Fr}:∀{ds} {xs} {fp} {ns},aD K H ds xs fp->eV ds=some ns->xs=ns.map V.int
 |_,_,_,ns,.nil,e=>by ext e;rfl
 |_,_,_,ns,.cons (d:=d) h t,e=>by
  cases d with
  |int i=>
   unfold eV at e;exists q,eV _,r,e;ext e;ext h;rw[u9 t q];rfl
  |_=>ext e
def xA(ns:List Int):eV (ns.map D.int)=some ns:=by
 induction ns with
 |nil=>rfl
 |cons n r ih=>rw[aaG];unfold eV;rw[ih];rfl
theorem Nj:∀{es:List (Key×α)} {ks},jt es=some ks->es.map (·.1)=ks.map Sum.inl
 |[],ks,e=>by ext e;rfl
 |(.inl i,_)::r,ks,e=>by
  unfold jt at e;exists q,jt r,l,e;ext e;rw[aaG,Nj q];rfl
 |(.inr _,_)::_,_,e=>by ext e
def l_:D->Option D
 |.lst ds=>match eV ds with
  |some ns=>if ns.length<64 then some (.lst ((dh ns).map D.int)) else none
  |none=>none
 |.cG es=>match jt es with
  |some ns=>if ns.length<64 then some (.lst ((dh ns).map D.int)) else none
  |none=>none
 |_=>none
theorem zZ{K:Fr}:∀ns:List Int,aD K H (ns.map D.int) (ns.map V.int) []
 |[]=>.nil
 |n::r=>aD.cons (.int n) (zZ r)
def ag0{K:Fr}:oz K (MD K) l_:=by
 intro H x d1 f1 d Q r e k;have fin:∀(ns:List Int),(if ns.length<64 then some (D.lst ((dh ns).map D.int)) else none)=some d->ns.length<64/\∀l (pH:List Int),H l=none->pH.Perm ns->pH.Pairwise (·<=·)->Q (.ref l) (upd H l (.lst (pH.map V.int))):=λns e=>by
  by_cases h:ns.length<64
  .rw[if_pos h] at e;ext e;refine#[h,λl pH hl p s=>?_];have eq:=Zr p s;subst eq;have s2:aH H (upd H l (.lst ((dh ns).map V.int))):=λb o e=>by rw[aJ (cU e hl)];apply e
   apply k _ _ [l] s2 (.lst bP (zZ _)) (acw.mpr #[(λm=>by ext m),acE]) λa m=>by cases aa6.mp m;apply hl
  .rw[abM h] at e;ext e
 cases d1 with
 |lst ds=>
  let#[a,xs,f,rfl,hq,rs,_]:=r.d9;have e:(match eV ds with|some ns=>if ns.length<64 then some (D.lst ((dh ns).map D.int)) else none|none=>none)=some d:=e;cases h:eV ds with
  |none=>rw[h] at e;ext e
  |some ns=>
   rw[h] at e;let#[h1,h2]:=fin ns e;have ex:=u9 rs h;subst ex;apply#[a,ns,rfl,h1,.inr hq,h2]
 |cG es=>
  cases r with
  | @cG a ak _ fp h hk rs=>
   have e:(match jt es with|some ns=>if ns.length<64 then some (D.lst ((dh ns).map D.int)) else none|none=>none)=some d:=e;cases h':jt es with
   |none=>rw[h'] at e;ext e
   |some ns=>
    rw[h'] at e;let#[h1,h2]:=fin ns e;apply#[a,ns,rfl,h1,.inl #[ak,h,by rw[<- hk];apply Nj h'],h2]
 |_=>ext e
def lP:List D->Option (List (Key×D))
 |[]=>some []
 |.tup [kd,d]::r=>match iZ kd,lP r with
  |some k,some ps=>if aA d=true then some ((k,d)::ps) else none
  |_,_=>none
 |_=>none
def DH:D->Option D
 |.lst ds=>(lP ds).map λps=>.cG (ps.foldl (λm p=>putD m p.1 p.2) [])
 |_=>none
def afx:bootBuiltins "min"=some (.builtin "min"):=by decide +kernel
def ae9:bootBuiltins "sorted"=some (.builtin "sorted"):=by decide +kernel
def DN(hc:X.calm=true)(hm:X.mg "sorted"=none)(ha:FP X a fa)(hg:Gl X "sorted":=by rfl)(hs:Y1 X a:=by rfl):FP X (.Call (.Name "sorted" p) [a] [] pos) (e1 l_ fa):=
 fp_1 ag0 ha λta pa=>qk (WT hc) hg hm ae9 (dg pa e_ hs) (he:=hs)
def yG:D->D->Option D:=xy λi j=>if j<i then j else i
def kT:List Int->Int
 |[]=>0
 |[x]=>x
 |x::r=>if x<=kT r then x else kT r
theorem Eh:∀{l},l≠[]->kT l∈l/\∀x∈l,kT l<=x
 |[x],_=>#[aav,λy m=>by rw[aa6.mp m];apply ajn _]
 |x::y::r,_=>by
  let#[h1,h2]:=Eh (l:=y::r) (by simp);show(if x<=kT (y::r) then x else kT (y::r))∈_/\∀z∈_,(if x<=kT (y::r) then x else kT (y::r))<=z
  by_cases h:x<=kT (y::r)
  .rw[if_pos h];apply#[aav,λz m=>(aaO.mp m).elim (λe=>by rw[e];apply ajn _) λm=>Int.le_trans h (h2 z m)]
  .rw[abM h];apply#[aar _ h1,λz m=>(aaO.mp m).elim (λe=>by rw[e];lia) λm=>h2 z m]
def ajL:D->D->Option D
 |.lst ds,z=>match eV ds with
  |some []=>if aA z=true then some z else none
  |some (n::r)=>some (.int (kT (n::r)))
  |none=>none
 |_,_=>none
def Qm(hc:X.calm=true)(hm:X.mg "min"=none)(ha:FP X a fa)(hb:FP X b fb)(hg:Gl X "min":=by rfl)(hs:starEach [a,b] X.env=[(false,eval a X.env),(false,eval b X.env)]:=by rfl)(eU:Y1 X b:=by rfl)(hpl:(backTo pos (starEach [b] X.env)).any (·.1)=false:=by rfl):
  FP X (.Call (.Name "min" p) [a,b] [] pos) (e2 yG fa fb):=by
 let#[ta,pa,sa]:=ha;let#[tb,pb,sb]:=hb;exists 21,qk (adt hc) hg hm afx (dg pa (dg pb e_ eU) (by rw[hs,eU])) (he:=by rw[hs,eU]) (hpl:=hpl);let#[d1,t1,d2,t2,h1,h2,h3,rfl]:=sy e;refine sa ok h1 λH1 x f1 s1 r1 _=>?_
 refine sb (ok.same s1) h2 λH2 y f2 s2 r2 _=>?_
 unfold yG xy at h3
 split at h3
 .cases h3;apply#[_,_,by rw[r1.jq.1,r2.jq.1],k H2 _ [] (s1.trans s2) (.int _) .nil]
 .cases h3
def abk(hc:X.calm=true)(hm:X.mg "min"=none)(ha:FP X a fa)(hb:FP X b fb)(hg:Gl X "min":=by rfl)(hs:Y1 X a:=by rfl)
  (h1:backTo pos (starEach [a] X.env)=(false,eval a X.env)::backTo pos (starEach [] X.env):=by rfl) (h2:(backTo pos (starEach [a] X.env)).any (·.1)=false:=by rfl)
  (h3:(backToKw pos (keywordEach [#[some "default",b,kp]] X.env)).all (·.1.isSome)=true:=by rfl) (h4:(backToKw pos (keywordEach [#[some "default",b,kp]] X.env)).any (·.1.isNone)=false:=by rfl)
  (h5:(backToKw pos (keywordEach [#[some "default",b,kp]] X.env)).filterMap (·.1)=[("default":Str)]:=by rfl) :
  FP X (.Call (.Name "min" p) [a] [#[some "default",b,kp]] pos) (e2 ajL fa fb):=by
 let#[ta,pa,sa]:=ha;let#[tb,pb,sb]:=hb;exists 21,aim hc hm pa pb hg hs h1 h2 h3 h4 h5;let#[d1,t1,d2,t2,g1,g2,g3,rfl]:=sy e;refine sa ok g1 λH1 x f1 s1 r1 _=>?_
 refine sb (ok.same s1) g2 λH2 y f2 s2 r2 _=>?_
 cases d1 with
 |lst ds=>
  let#[l,xs,f,rfl,hq,rs,_]:=(r1.same s2).d9;have g3:(match eV ds with|some []=>if aA d2=true then some d2 else none|some (n::r)=>some (.int (kT (n::r)))|none=>none)=some d:=g3;cases h:eV ds with
  |none=>rw[h] at g3;ext g3
  |some ns=>
   rw[h] at g3;have ex:=u9 rs h;subst ex;refine#[l,ns,rfl,hq,?_];cases ns with
   |nil=>
    have g3:=g3
    by_cases hi:aA d2=true
    .rw[if_pos hi] at g3;ext g3;have hn:=r2.aA hi;subst hn;apply .inl #[rfl,k H2 y [] (s1.trans s2) r2 .nil]
    .rw[abM hi] at g3;ext g3
   |cons n r=>
    ext g3;refine .inr #[by simp,λm pB vI=>?_];let#[q1,q2]:=Eh (l:=n::r) (by simp);have em:=Int.le_antisymm (vI _ q1) (q2 m pB);rw[em];apply k H2 _ [] (s1.trans s2) (.int _) .nil
 |_=>ext g3
theorem Ni{K:Fr}:∀{ds} {xs} {fp} {ps},aD K H ds xs fp->lP ds=some ps->
  ∃qs:List (Key×V),Paired (λy (q:Key×V)=>∃a,y=.ref a/\bQ K H a [L2.kV q.1,q.2]) xs qs/\ps.map (·.1)=qs.map (·.1)/\aD K H (ps.map (·.2)) (qs.map (·.2)) []
 |_,_,_,ps,.nil,e=>by ext e;apply#[[],.nil,rfl,.nil]
 |_,_,_,ps,.cons (d:=d) (ds:=dr) h t,e=>by
  unfold lP at e
  split at e
  .rename_i heq;ext heq
  .rename_i kd d' r heq;ext heq;exists h1,iZ kd,k,e,0;cases h2:lP dr with
   |none=>rw[h1,h2] at e;ext e
   |some pr=>
    rw[h1,h2] at e;dsimp only at e;let#[hi,e]:=ci e;ext e;let#[qs,a1,a2,a3]:=Ni t h2;let#[a,ys,rfl,hq,rs]:=h.ir;cases rs with
    |cons rk rs=>
     cases rs with
     |cons rv rs=>
      cases rs with
      |nil=>
       have ek:=rk.key h1;subst ek;have hn:=rv.aA hi;subst hn;apply#[(k,_)::qs,.cons #[a,rfl,hq] a1,by rw[aaG,aaG,a2],aD.cons rv a3]
  .cases e
theorem Oc{K:Fr}:∀{ps:List (Key×D)}{qs:List (Key×V)} {es} {ak},ps.map (·.1)=qs.map (·.1)->aD K H (ps.map (·.2)) (qs.map (·.2)) []->es.map (·.1)=ak.map (·.1)->aD K H (es.map (·.2)) (ak.map (·.2)) []->
  (ps.foldl (λm p=>putD m p.1 p.2) es).map (·.1)=(qs.foldl (λm q=>putK m q.1 q.2) ak).map (·.1)/\aD K H ((ps.foldl (λm p=>putD m p.1 p.2) es).map (·.2)) ((qs.foldl (λm q=>putK m q.1 q.2) ak).map (·.2)) []
 |[],[],_,_,_,_,h1,h2=>#[h1,h2]
 |[],_::_,_,_,e,_,_,_=>by simp at e
 |_::_,[],_,_,e,_,_,_=>by simp at e
 |(k,d)::ps,(k',v)::qs,es,ak,e,r,h1,h2=>by
  simp only[aaG,aga] at e;let#[rfl,e]:=e;simp only[aaG] at r;generalize hf:([]:List Addr)=fp at r;cases r with
  | @cons _ _ _ _ f1 f2 r1 r2=>
   let#[z1,z2]:=agh.mp hf.symm;subst z1 z2;rw[aeu,aeu];apply Oc e r2 (yj h1) (CH h1 h2 r1)
def ahH{K:Fr}:oz K (Mr K) DH:=by
 intro H x d1 f1 d Q r e k;have fresh:∀{o:HO} {l},H l=none->aH H (upd H l o):=λhl b o e=>by rw[aJ (cU e hl)];apply e
 have nd1:∀l:Addr,([l]:List Addr).Nodup:=λl=>acw.mpr #[(λm=>by ext m),acE]
 cases d1 with
 |lst ds=>
  let#[p,xs,f,rfl,hq,rs,_]:=r.d9;let#[ps,h,e]:=abX.mp (show(lP ds).map _=some d from e);subst e;let#[qs,a1,a2,a3]:=Ni rs h;refine#[p,xs,qs,rfl,hq,a1,λl hl=>?_];let#[b1,b2]:=Oc (es:=[]) (ak:=[]) a2 a3 rfl .nil;apply k _ _ [l] (fresh hl) (.cG bP b1 (b2.same (fresh hl))) (nd1 l) λa m=>by cases aa6.mp m;apply hl
 |_=>ext e
section
variable{X:Cx}
def CK{p:Pos}(hc:X.calm=true)(hm:X.mg "dict"=none)(ha:FP X a fa)(hg:Gl X "dict":=by rfl)(hs:Y1 X a:=by rfl):FP X (.Call (.Name "dict" p) [a] [] pos) (e1 DH fa):=
 fp_1 ahH ha λta pa=>B_ (aaS hc) hg hm (show bootBuiltins "dict"=some (.type "dict") by decide +kernel) (dg pa e_ hs) (he:=hs)
def nY:D->Option D
 |.lst ds=>if aK ds=true then some (.tup ds) else none
 |.tup ds=>if aK ds=true then some (.tup ds) else none
 |_=>none
def abe:oz X.K (λxs H Q=>∃p ys,xs=[V.ref p]/\((cJ X.K H p ys/\∀l,H l=none->Q (.ref l) (upd H l (.tup ys)))\/(bQ X.K H p ys/\Q (.ref p) H))) nY:=by
 intro H x d1 f1 d Q r e k;cases d1 with
 |lst ds=>
  let#[a,xs,f,rfl,hq,rs,_]:=r.d9;have e:(if aK ds=true then some (D.tup ds) else none)=some d:=e;let#[hi,e]:=ci e;ext e;have hn:=rs.aA hi;subst hn;refine#[a,xs,rfl,.inl #[hq,λl hl=>?_]];have s2:aH H (upd H l (.tup xs)):=λb o e=>by rw[aJ (cU e hl)];apply e
  apply k _ _ [] s2 (.tup (bQ.of bP) (rs.same s2)) acE λa m=>nomatch m
 |tup ds=>
  let#[a,xs,rfl,hq,rs]:=r.ir;have e:(if aK ds=true then some (D.tup ds) else none)=some d:=e;let#[hi,e]:=ci e;ext e;have hn:=rs.aA hi;subst hn;apply#[a,xs,rfl,.inr #[hq,k H _ [] (aH.refl H) (.tup hq rs) acE λa m=>nomatch m]]
 |_=>ext e
def mR{p:Pos}(hm:X.mg "tuple"=none)(ha:FP X a fa)(hg:Gl X "tuple":=by rfl)(hs:Y1 X a:=by rfl):FP X (.Call (.Name "tuple" p) [a] [] pos) (e1 nY fa):=
 fp_1 abe ha λta pa=>B_ WD hg hm (show bootBuiltins "tuple"=some (.type "tuple") by decide +kernel) (dg pa e_ hs) (he:=hs)
end
mutual
def dep:D->Nat
 |.tup a=>LF a+1
 |.lst a=>LF a+1
 |_=>0
def LF:List D->Nat
 |[]=>0
 |x::xs=>max (dep x) (LF xs)
end
def yy(N:List Str)(wA sc:Scope)(M:List Str)(js:List (Option Nat)):Bool:=
 (sc.kind == .function)&&sc.names.all (λy=>y.2 != .cell)&&sc.names.all (λy=>if y.2 == .local then sc.names.lookup y.1==some .local else true)&&qf N sc M js&&(frees sc).all (λx=>wA.names.lookup x==some .cell||wA.names.lookup x==some .free)&&decide M.Nodup
def Wp(h1:X.N=N)(h2:X.env.scope=wA)(h3:X.env.kindOf=λx=>wA.names.lookup x)(h:yy N wA sc M js=true):mD X M js sc:=by
 unfold yy at h;let#[h,a6]:=(aaM _ _).mp h;let#[h,a5]:=(aaM _ _).mp h;let#[h,a4]:=(aaM _ _).mp h;let#[h,a3]:=(aaM _ _).mp h;let#[a1,a2]:=(aaM _ _).mp h;refine#[?_,λy hy=>?_,λy hy hl=>?_,?_,λx hx=>?_,abl a6]
 .cases hk:sc.kind<;>rw[hk] at a1<;>first|rfl|exact absurd a1 (by decide)
 .have:=ado.mp a2 y hy;intro z;rw[z] at this;apply absurd this (by decide)
 .have:=ado.mp a3 y hy;rw[hl] at this;have this:=this;cases q:sc.names.lookup y.1 with
  |none=>rw[q] at this;apply absurd this (by decide)
  |some k=>rw[q] at this;ext k<;>first|rfl|exact absurd this (by decide)
 .rw[h1];apply a4
 .have:=ado.mp a5 x hx;rw[h3];dsimp only;cases q:wA.names.lookup x with
  |none=>rw[q] at this;apply absurd this (by decide)
  |some k=>rw[q] at this;ext k<;>first|exact .inl rfl|exact .inr rfl|exact absurd this (by decide)
end L2.Ev
namespace L2.Ev
open PySem PySem.Spec PyProof.Rows
def cR.back(g:cR z H1 t fp)(s:aH H H1):cR z H t fp:=by
 cases t with
 |sh o=>apply g
 |own=>apply#[g.1,λa m=>s.free (g.2 a m)]
 |lk=>apply#[g.1,λa m=>s.free (g.2 a m)]
def zE(fa fb:EF):EF:=λY=>match fa Y with
 |some (.bl true,_)=>fb Y
 |some (.bl false,_)=>some (.bl false,.own)
 |_=>none
def XQ:D->Option D
 |.bl b=>some (.bl (!b))
 |_=>none
def zf{op}(h:FP X a fa):FP X (.BoolOp op [a] pos) fa:=let#[t,p,q]:=h;#[t,U8 p,q]
def uq{rest:List Expr}(ha:FP X a fa)(hb:FP X (.BoolOp .And (b::rest) pos) fb):FP X (.BoolOp .And (a::b::rest) pos) (zE fa fb):=by
 let#[t,p,q]:=ha;let#[t',p',q']:=hb;exists 21,aax p p';unfold zE at e
 split at e
 .rename_i tt h;refine q ok h λH1 v fp s1 r1 _=>?_
  ext r1;refine#[true,rfl,?_];rw[if_pos rfl];apply q' (ok.same s1) e λH2 v fp s2 r2 g2=>k H2 v fp (s1.trans s2) r2 (g2.back s1)
 .rename_i tt h;ext e;refine q ok h λH1 v fp s1 r1 _=>?_
  ext r1;refine#[false,rfl,?_];rw[abM abm];apply k H1 _ [] s1 (.bl _) .nil
 .cases e
def aeH(ha:FP X a fa):FP X (.UnaryOp .Not a pos) (e1 XQ fa):=by
 let#[t,p,q]:=ha;exists 21,abS p;let#[d1,t1,h1,h2,rfl]:=xN e;refine q ok h1 λH1 v fp s1 r1 _=>?_
 ext r1<;>ext h2
 apply#[_,rfl,k H1 _ [] s1 (.bl _) .nil]
def iw:D->D->Option D
 |.lst ds,.lst es=>if(aK ds&&aK es&&decide (ds.length+es.length<=sizeLine))=true then some (.lst (ds++es)) else none
 |_,_=>none
def uR(ha:FP X a fa)(hb:FP X b fb):FP X (.BinOp a .Add b pos) (e2 iw fa fb):=by
 let#[ta,pa,sa]:=ha;let#[tb,pb,sb]:=hb;exists 20,SS ady pa pb;let#[d1,t1,d2,t2,e1,i_,e3,rfl]:=sy e;refine sa ok e1 λH1 x f1 s1 r1 _=>?_
 refine sb (ok.same s1) i_ λH2 y f2 s2 r2 _=>?_
 unfold iw at e3
 split at e3
 .rename_i ds es;let#[hc,e3]:=ci e3;ext e3;let#[c1,c3]:=(aaM _ _).mp hc;let#[c1,c2]:=(aaM _ _).mp c1;have r1:=r1.same s2;cases r1 with
  | @lst p xs _ f h rs=>
   cases r2 with
   | @lst p' ys _ f' h' JC=>
    have n1:=rs.aA c1;have n2:=JC.aA c2;subst n1 n2;refine#[p,p',xs,ys,rfl,rfl,h,h',by rw[<- rs.length,<- JC.length];apply abl c3,λl hl=>?_];have s3:aH H2 (upd H2 l (.lst (xs++ys))):=λb o e=>by rw[aJ (cU e hl)];apply e
    have rr:=aD.append rs JC;refine q _ _ [l] ((s1.trans s2).trans s3) (.lst bP (rr.same s3)) #[acw.mpr #[(λm=>by ext m),acE],λa m=>?_];cases aa6.mp m;apply(s1.trans s2).free hl
 .cases e3
def La:D->Option String
 |.int _=>some "int"
 |.bl _=>some "bool"
 |.str _=>some "str"
 |.aC=>some "NoneType"
 |.lst _=>some "list"
 |.cG _=>some "dict"
 |_=>none
def Vh(T:String)(d:D):Option D:=match La d with
 |some t=>some (.bl (t==T||(t == "bool"&&T == "int")))
 |none=>none
def LH(T:String):Prop:=∀(K) (t),t∈["int","bool","str","NoneType","list","dict"]->PySem.W.kitOne K (.type t) (.type T)=some (t==T||(t == "bool"&&T == "int"))
def aew:LH "int":=by
 intro K t m;simp only[aaO,acK,aeE] at m;rcases m with rfl|rfl|rfl|rfl|rfl|rfl<;>rfl
def adU:LH "bool":=by
 intro K t m;simp only[aaO,acK,aeE] at m;rcases m with rfl|rfl|rfl|rfl|rfl|rfl<;>rfl
def agm(T:String):ie X (.builtin "isinstance") (λxs H Q=>∃x t b,xs=[x,V.ty T]/\j6 X.K H x t/\PySem.W.kitOne X.K t (.type T)=some b/\Q (.bl b) H):=by
 exists 43;let#[x,t,bb,rfl,ty,e,q]:=h;let#[u,w',rfl,ru,fM]:=vals2 r;ext fM;apply Zj I ru ty e λtk=>#[.bl bb,H,I.tok tk,rfl,q]
def Rep.ty{K:Fr}(r:Rep K H d v fp)(e:La d=some t):j6 K H v (.type t)/\t∈["int","bool","str","NoneType","list","dict"]:=by
 cases r with
 |aC=>ext e;apply#[.aC,by decide]
 |bl b=>ext e;apply#[.bl b,by decide]
 |int i=>ext e;apply#[.int i,by decide]
 |str x=>ext e;apply#[.str x,by decide]
 |lst h _=>ext e;apply#[.lst h,by decide]
 |cG h _ _=>ext e;apply#[.dK h,by decide]
 |tup _ _=>ext e
 |Ec _ _=>ext e
 |dN _ _ _=>ext e
 |ins _ _ _ _=>ext e
 |exc _ _ _=>ext e
def Q4{T:String}(hT:LH T)(hm:X.mg "isinstance"=none)(hmT:X.mg x=none)(ha:FP X a fa)(ZL:bootBuiltins x=some (.type T):=by decide +kernel)(hg:Gl X "isinstance":=by rfl)(YQ:Gl X x:=by rfl)(hn:x≠"__name__":=by decide)(gI:(x==("__debug__":Str))=false:=by decide)
  (hs:starEach [a,.Name x p2] X.env=[(false,eval a X.env),(false,eval (.Name x p2) X.env)]:=by rfl) (hpl:(backTo pos (starEach [.Name x p2] X.env)).any (·.1)=false:=by rfl):FP X (.Call (.Name "isinstance" p) [a,.Name x p2] [] pos) (e1 (Vh T) fa):=by
 let#[ta,pa,sa]:=ha;have eU:starEach [.Name x p2] X.env=[(false,eval (.Name x p2) X.env)]:=rfl;exists 21,qk (agm T) hg hm (show bootBuiltins "isinstance"=some (.builtin "isinstance") by decide +kernel) (dg pa (dg (ab2 (v:=.ty T) YQ hmT ZL rfl hn gI) e_) (by rw[hs,eU])) (he:=by rw[hs,eU]);let#[d1,t1,h1,h2,rfl]:=xN e;refine sa ok h1 λH1 v fp s1 r1 _=>?_
 unfold Vh at h2;exists ht,La d1,t,h2;ext h2;let#[ty,mem]:=r1.ty ht;apply#[v,_,_,rfl,ty,hT X.K t mem,k H1 _ [] s1 (.bl _) .nil]
end L2.Ev
namespace L2.Ev
open PySem
def k3(op:D->D->D->Option D):Option (D×Tag)->Option (D×Tag)->Option (D×Tag)->Option (D×Tag)
 |some (d1,_),some (d2,_),some (d3,_)=>(op d1 d2 d3).map λd=>(d,.own)
 |_,_,_=>none
def KC:e3 op3 fa fb fc Y=k3 op3 (fa Y) (fb Y) (fc Y):=by unfold e3 k3;cases fa Y<;>cases fb Y<;>cases fc Y<;>rfl
def R5(fb:EF)(Y:aL):Option (D×Tag)->Option (D×Tag)
 |some (.bl true,_)=>fb Y
 |some (.bl false,_)=>some (.bl false,.own)
 |_=>none
def ahZ:zE fa fb Y=R5 fb Y (fa Y):=by
 unfold zE R5;cases fa Y with
 |none=>rfl
 |some w=>let#[d,t]:=w;ext d<;>first|rfl|(rename_i b;ext b<;>rfl)
def acg:jr d .aC=some (.bl (qg d)):=rfl
theorem VL(P:Nat->aL->Prop):∀{ds} {Y} {n},P n Y->(∀j Y d,ds[j]? = some d->P (n+j) Y->∃aO bA,g d t Y=some aO/\(f aO=some (.nx bA)\/f aO=some (.ct bA))/\P (n+j+1) bA)->
  ∃Y',dU g t f ds Y=some (.nx Y')/\P (n+ds.length) Y'
 |[],Y,n,h,_=>#[Y,rfl,h]
 |d::ds,Y,n,h,hs=>by
  let#[aO,bA,h1,h2,h3]:=hs 0 Y d rfl h;let#[Y',h4,h5]:=VL P h3 λj Y d hd hp=>by
   have:=hs (j+1) Y d hd (by rw[show n+(j+1)=n+1+j by lia];apply hp);rw[show n+(j+1)+1=n+1+j+1 by lia] at this;apply this
  refine#[Y',?_,by rw[acv,show n+(ds.length+1)=n+1+ds.length by lia];apply h5];unfold dU;rw[h1];rcases h2 with h2|h2<;>(dsimp only;rw[h2];apply h4)
def yZ(hi:it Y=some (ds,t))(h:dU g (kC t) f ds (pF (nU (mC t) Y) Y)=some (.nx Y')):jH it g f Y=some (.nx (u_ (nU (mC t) Y) Y')):=by unfold jH;rw[hi];dsimp only;rw[h]
def VE(hi:it Y=some (ds,t))(h:dU g (kC t) f ds (pF (nU (mC t) Y) Y)=some (.rt r)):jH it g f Y=some (.rt r):=by unfold jH;rw[hi];dsimp only;rw[h]
def vO(hi:it Y=some (ds,.own))(h:dU g (.sh []) f ds Y=some (.nx Y')):jH it g f Y=some (.nx Y'):=yZ hi h
def TN(hi:it Y=some (ds,.own))(h:dU g (.sh []) f ds Y=some (.rt r)):jH it g f Y=some (.rt r):=VE hi h
def YZ(h:e Y=some (.int n,t))(hs:small n=true):Am e Y=some ((List.range n.toNat).map λi:Nat=>D.int (0+(i:Int)),.own):=by unfold Am;rw[h];dsimp only;rw[if_pos hs]
def j8(h:e Y=some (.lst ds,t)):gu e Y=some (ds,t):=by unfold gu;rw[h]
def age(h:e Y=some (.tup ds,t)):gu e Y=some (ds,t):=by unfold gu;rw[h]
def j_(hi:it Y=some (ds,t))(hl:ds.length<sizeLine)(h:∀d∈ds,kQ g tt te (lI js Y) d=some (k d)):
  i0 js it g tt te Y=some (.lst (ds.filterMap k),.own):=by unfold i0;rw[hi];dsimp only;rw[if_pos hl,RA h];rfl
def C9(h1:g d (.sh []) Y=some aO)(h2:tt aO=some false):kQ g tt te Y d=some none:=by unfold kQ;rw[h1];dsimp only;rw[h2]
def sI(h1:g d (.sh []) Y=some aO)(h2:tt aO=some true)(h3:te aO=some (e,.own)):kQ g tt te Y d=some (some e):=by unfold kQ;rw[h1];dsimp only;rw[h2];dsimp only;rw[h3];rfl
def uw(h1:g d (.sh []) Y=some aO)(h2:tt aO=some true)(h3:te aO=some (e,tg))(hi:aA e=true):kQ g tt te Y d=some (some e):=by
 unfold kQ;rw[h1];dsimp only;rw[h2];dsimp only;rw[h3];dsimp only
 by_cases ho:k9 tg=true
 .rw[if_pos ho]
 .rw[abM ho,if_pos hi]
def kI(p:Int×Int):Key×D:=(Sum.inl p.1,.int p.2)
def bS(es:List (Int×Int)):D:=.cG (es.map kI)
def bX(es:List (Int×Int))(k:Int):Option Int:=(es.find? λp=>decide (p.1=k)).map (·.2)
def g9(es:List (Int×Int))(k v:Int):List (Int×Int):=if(es.any λp=>decide (p.1=k))=true then es.map (λp=>if p.1=k then(p.1,v) else p) else es++[(k,v)]
def xT:((Sum.inl a:Key)=Sum.inl k)↔a=k:=#[λh=>ake h,λh=>by rw[h]]
def Sq(es:List (Int×Int))(k:Int):bu (es.map kI) (Sum.inl k:Key)=(bX es k).map D.int:=by
 unfold bu bX
 induction es with
 |nil=>rfl
 |cons p r ih=>
  rw[aaG,adx,adx]
  by_cases h:p.1=k
  .rw[aaP (show(kI p).1=Sum.inl k from xT.mpr h),aaP h];rfl
  .rw[acp (show ¬(kI p).1=Sum.inl k from λe=>h (xT.mp e)),acp h];apply ih
def N_(es:List (Int×Int))(k v:Int):putD (es.map kI) (Sum.inl k:Key) (.int v)=(g9 es k v).map kI:=by
 unfold putD g9;have e:((es.map kI).any λkv=>decide (kv.1=(Sum.inl k:Key)))=es.any λp=>decide (p.1=k):=by
  rw[aip]
  congr 1
  funext p
  apply ajY.mpr xT
 rw[e]
 by_cases h:(es.any λp=>decide (p.1=k))=true
 .rw[if_pos h,if_pos h,adw,adw]
  congr 1
  funext p
  show(if(kI p).1=Sum.inl k then((kI p).1,D.int v) else kI p)=kI (if p.1=k then(p.1,v) else p)
  by_cases hp:p.1=k
  .rw[if_pos hp,if_pos (show(kI p).1=Sum.inl k from xT.mpr hp)];rfl
  .rw[abM hp,abM (show ¬(kI p).1=Sum.inl k from λe=>hp (xT.mp e))]
 .rw[abM h,abM h,adk];rfl
def Sz:uP (bS es) (.int k) (.int z)=some (.int ((bX es k).getD z)):=by
 show(match bu (es.map kI) (Sum.inl k:Key) with|some d=>if aA d=true then some d else none|none=>if aA (.int z)=true then some (.int z) else none)=_;rw[Sq];cases bX es k<;>rfl
def ajJ(h:bX es k=some v):m5 (bS es) (.int k)=some (.int v):=by
 show((bu (es.map kI) (Sum.inl k:Key)).bind λd=>if aA d=true then some d else none)=_;rw[Sq,h];rfl
theorem Tz:∀es:List (Int×Int),jt (es.map kI)=some (es.map (·.1))
 |[]=>rfl
 |p::r=>by rw[aaG];show(jt (r.map kI)).map (p.1::·)=_;rw[Tz r];rfl
def afG(h:es.length<64):l_ (bS es)=some (.lst ((dh (es.map (·.1))).map D.int)):=by
 show(match jt (es.map kI) with|some ns=>if ns.length<64 then some (D.lst ((dh ns).map D.int)) else none|none=>none)=_;rw[Tz];dsimp only;rw[if_pos (by rw[List.length_map];apply h)]
theorem QD:∀es:List (Int×Int),aK ((es.map kI).map (·.2))=true
 |[]=>rfl
 |p::r=>by rw[aaG,aaG];unfold aK;rw[QD r];rfl
def GI(h1:fv Y=some (.int v,t1))(h2:Y[i]? = some (some (bS es,.own)))(h3:fk Y=some (.int k,t2))(hl:es.length<sizeLine):
  sM i fk fv Y=some (.nx (bU Y i (bS (g9 es k v)))):=by
 unfold sM;rw[h1,h2,h3];unfold bS;dsimp only[iZ];rw[if_pos (by rw[QD,List.length_map,aaP hl];rfl),N_]
def D5(es:List (Int×Int))(k v j:Int):bX (g9 es k v) j=if j=k then some v else bX es j:=by
 unfold g9
 by_cases h:(es.any λp=>decide (p.1=k))=true
 .rw[if_pos h];unfold bX
  induction es with
  |nil=>ext h
  |cons p r ih=>
   rw[aaG,adx,adx]
   by_cases hp:p.1=k
   .rw[if_pos hp];dsimp only
    by_cases hj:j=k
    .rw[aaP (hp.trans hj.symm),if_pos hj];rfl
    .have kU:¬p.1=j:=λe=>hj (e.symm.trans hp)
     rw[acp kU,abM hj];dsimp only
     by_cases hr:(r.any λp=>decide (p.1=k))=true
     .rw[ih hr,abM hj]
     .congr 1
      have:r.map (λp=>if p.1=k then(p.1,v) else p)=r:=by
       conv=>rhs;rw[<- List.map_id r]
       refine agB λq m=>?_
       rw[abM λe=>hr (adX.mpr #[q,m,aaP e])];rfl
      rw[this]
   .rw[abM hp];have hr:(r.any λp=>decide (p.1=k))=true:=by
     rw[aiw,acp hp] at h;apply h
    by_cases hj:p.1=j
    .rw[aaP hj,abM λe=>hp (hj.trans e)]
    .rw[acp hj];apply ih hr
 .rw[abM h];unfold bX;rw[List.find?_append]
  by_cases hj:j=k
  .have:(es.find? λp=>decide (p.1=j))=none:=aho.mpr λq m hq=>h (adX.mpr #[q,m,by rw[<- hj];apply hq])
   rw[this,if_pos hj,hj];simp
  .rw[abM hj];have:([(k,v)].find? λp=>decide (p.1=j))=none:=aho.mpr λq m hq=>hj (by cases aa6.mp m;apply(abl hq).symm)
   rw[this,Option.or_none]
def P5(es:List (Int×Int))(k v:Int):(g9 es k v).map (·.1)=if k∈es.map (·.1) then es.map (·.1) else es.map (·.1)++[k]:=by
 unfold g9
 by_cases h:(es.any λp=>decide (p.1=k))=true
 .have hm:k∈es.map (·.1):=by
   let#[p,m,hp]:=adX.mp h;apply ab8.mpr #[p,m,abl hp]
  rw[if_pos h,if_pos hm,adw];refine agB λp m=>?_
  show(if p.1=k then(p.1,v) else p).1=p.1
  split<;>rfl
 .have hm:k∉es.map (·.1):=λm=>by
   let#[p,m,hp]:=ab8.mp m;apply h (adX.mpr #[p,m,aaP hp])
  rw[abM h,abM hm,adk];rfl
def OX(h:(es.map (·.1)).Nodup):((g9 es k v).map (·.1)).Nodup:=by
 rw[P5]
 by_cases hm:k∈es.map (·.1)
 .rw[if_pos hm];apply h
 .rw[abM hm];apply acU.mpr #[h,acw.mpr #[(λm=>by ext m),acE],λa ha b hb e=>hm (by cases aa6.mp hb;apply e ▸ ha)]
def Y0:(g9 es k v).length<=es.length+1:=by
 have:=congrArg List.length (P5 es k v);rw[List.length_map] at this;rw[this]
 split
 .rw[List.length_map];lia
 .rw[abV,List.length_map];apply abD _
def uu:(∃v,bX es k=some v)↔k∈es.map (·.1):=by
 unfold bX;constructor
 .rintro⟨v,h⟩
  cases e:es.find? λp=>decide (p.1=k) with
  |none=>rw[e] at h;ext h
  |some p=>apply ab8.mpr #[p,afz e,abl (akc e :)]
 .intro h;let#[p,m,hp]:=ab8.mp h;cases e:es.find? λp=>decide (p.1=k) with
  |none=>apply absurd (aaP hp) (aho.mp e p m)
  |some q=>apply#[q.2,rfl]
def kc(ps:List (Int×Int)):List (Int×Int):=ps.foldl (λm p=>g9 m p.1 p.2) []
theorem foldI:∀(ps m:List (Int×Int)),(ps.map kI).foldl (λm p=>putD m p.1 p.2) (m.map kI)=(ps.foldl (λm p=>g9 m p.1 p.2) m).map kI
 |[],_=>rfl
 |p::r,m=>by rw[aaG,aeu,aeu];show(r.map kI).foldl _ (putD (m.map kI) (Sum.inl p.1) (.int p.2))=_;rw[N_];apply foldI r _
def dP(p:Int×Int):D:=.tup [.int p.1,.int p.2]
theorem RU:∀ps:List (Int×Int),lP (ps.map dP)=some (ps.map kI)
 |[]=>rfl
 |p::r=>by
  rw[aaG];show(match iZ (.int p.1),lP (r.map dP) with|some k,some ps=>if aA (.int p.2)=true then some ((k,D.int p.2)::ps) else none|_,_=>none)=_;rw[RU r];rfl
def Pc:DH (.lst (ps.map dP))=some (bS (kc ps)):=by
 show(lP (ps.map dP)).map _=_;rw[RU];show some (D.cG ((ps.map kI).foldl (λm p=>putD m p.1 p.2) []))=_;rw[show([]:List (Key×D))=([]:List (Int×Int)).map kI from rfl,foldI];rfl
def UO(hn:(ps.map (·.1)).Nodup)(k:Int):bX (kc ps) k=bX ps k:=by
 have go:∀(ps m),(ps.map (·.1)).Nodup->bX (ps.foldl (λm p=>g9 m p.1 p.2) m) k=(bX ps k).or (bX m k):=by
  intro ps
  induction ps with
  |nil=>intro m _;rfl
  |cons p r ih=>
   intro m h;rw[aaG] at h;let#[h1,h2]:=acw.mp h;rw[aeu,ih _ h2,D5]
   by_cases hk:k=p.1
   .have hr:bX r k=none:=by
     cases e:bX r k with
     |none=>rfl
     |some v=>apply absurd (uu.mp #[v,e]) (hk ▸ h1)
    rw[hr,if_pos hk];unfold bX;rw[adx,aaP hk.symm];rfl
   .rw[abM hk];have:bX (p::r) k=bX r k:=by unfold bX;rw[adx,acp λe=>hk e.symm]
    rw[this]
 unfold kc;rw[go ps [] hn];cases bX ps k<;>rfl
open PySem PySem.Spec PyProof.Rows
mutual
def py:D->PyData
 |.bl b=>.bool b
 |.int i=>.int i
 |.str x=>.str x
 |.tup ds=>.tuple (d_ ds)
 |.lst ds=>.list (d_ ds)
 |.kZ ds=>.list (d_ ds)
 |_=>.none
def d_:List D->List PyData
 |[]=>[]
 |d::ds=>py d::d_ ds
end
mutual
def fS:D->Bool
 |.aC|.bl _|.int _|.str _=>true
 |.tup ds|.lst ds|.kZ ds=>l8 ds
 |_=>false
def l8:List D->Bool
 |[]=>true
 |d::ds=>fS d&&l8 ds
end
mutual
theorem qC(I:Inv X af U H s):∀{d} {v} {f} {u},Rep X.K H d v f->RelV v u->fS d=true->∃as,Reads s.heap u (py d) as
 |.aC,_,_,_,r,q,_=>by ext r;ext q;apply#[_,by unfold py;apply .none]
 |.bl b,_,_,_,r,q,_=>by ext r;ext q;apply#[_,by unfold py;apply .bool b]
 |.int i,_,_,_,r,q,_=>by ext r;let#[t,rfl]:=q;apply#[_,by unfold py;apply .int i t]
 |.str x,_,_,_,r,q,_=>by ext r;let#[t,rfl]:=q;apply#[_,by unfold py;apply .str x t]
 |.tup ds,_,_,_,r,q,e=>by
  let#[a,xs,rfl,hq,rs]:=r.ir;ext q;let#[us,v1,#[o,h1,h2,n,h3],_]:=I.tuple hq;let#[as,ra]:=CP I rs v1 (by unfold fS at e;apply e);apply#[_,by unfold py;apply .tuple h1 h2 h3 (by simpa using ra)]
 |.lst ds,_,_,_,r,q,e=>by
  let#[a,xs,f,rfl,hq,rs,_]:=r.d9;ext q;let#[us,v1,#[o,n,h1,h2,_,h3],_]:=I.list hq;let#[as,ra]:=CP I rs v1 (by unfold fS at e;apply e);apply#[_,by unfold py;apply .list h1 h2 h3 (by simpa using ra)]
 |.kZ ds,_,_,_,r,q,e=>by
  let#[a,xs,rfl,hq,rs]:=r.K6;ext q;let#[us,v1,#[o,n,h1,h2,_,h3],_]:=I.list hq;let#[as,ra]:=CP I rs v1 (by unfold fS at e;apply e);apply#[_,by unfold py;apply .list h1 h2 h3 (by simpa using ra)]
 |.cG _,_,_,_,_,_,e=>by unfold fS at e;ext e
 |.dN _,_,_,_,_,_,e=>by unfold fS at e;ext e
 |.ins _ _,_,_,_,_,_,e=>by unfold fS at e;ext e
 |.exc _,_,_,_,_,_,e=>by unfold fS at e;ext e
theorem CP(I:Inv X af U H s):∀{ds} {xs} {f} {us},aD X.K H ds xs f->aS xs us->l8 ds=true->∃as,ReadsAll s.heap us (d_ ds) as
 |[],_,_,_,r,q,_=>by ext r;ext q;apply#[_,by unfold d_;apply .nil]
 |d::ds,_,_,_,r,q,e=>by
  cases r with
  |cons r1 r2=>
   cases q with
   |cons q1 q2=>
    unfold l8 at e;let#[e1,e2]:=(aaM _ _).mp e;let#[as,h1]:=qC I r1 q1 e1;let#[bs,h2]:=CP I r2 q2 e2;apply#[_,by unfold d_;apply .cons h1 h2]
end
mutual
theorem noDict:∀d:D,(py d).hasDict=false
 |.aC=>by unfold py;simp only[PyData.hasDict]
 |.bl _=>by unfold py;simp only[PyData.hasDict]
 |.int _=>by unfold py;simp only[PyData.hasDict]
 |.str _=>by unfold py;simp only[PyData.hasDict]
 |.tup ds=>by unfold py;simp only[PyData.hasDict];apply noDicts ds
 |.lst ds=>by unfold py;simp only[PyData.hasDict];apply noDicts ds
 |.kZ ds=>by unfold py;simp only[PyData.hasDict];apply noDicts ds
 |.cG _=>by unfold py;simp only[PyData.hasDict]
 |.dN _=>by unfold py;simp only[PyData.hasDict]
 |.ins _ _=>by unfold py;simp only[PyData.hasDict]
 |.exc _=>by unfold py;simp only[PyData.hasDict]
theorem noDicts:∀ds:List D,PyData.hasDictAll (d_ ds)=false
 |[]=>by unfold d_;simp only[PyData.hasDictAll]
 |d::ds=>by unfold d_;simp only[PyData.hasDictAll,noDict d,noDicts ds,Bool.or_self]
end
def vC(d:D):Bool:=fS d&&(py d).showable&&decide ((py d).depth<=40)&&decide ((py d).shown.length<=sizeLine)
def xr(d:D):Option D:=if vC d=true then(if decide (dep d≠0)=true then some (.str (py d).shown) else none) else none
def P1(K:Fr):List V->Hp->VK->Prop:=λxs H Q=>∃a d f,xs=[V.ref a]/\Rep K H d (.ref a) f/\vC d=true/\Q (.str (py d).shown) H
def ahk{k:Nat}(hr:aZ k X.A):ie X (.builtin "repr") (P1 X.K):=by
 exists 43;let#[a,d,f,rfl,rd,hs,q]:=h;let#[u,rfl,ru]:=vals1 r;unfold vC at hs;let#[hs,h4]:=(aaM _ _).mp hs;let#[hs,h3]:=(aaM _ _).mp hs;let#[h1,h2]:=(aaM _ _).mp hs;let#[as,rr]:=qC I rd ru h1;ext ru;have hu:=hr.un;have h3:=abl h3;apply repr_of_reads' rr h2 (PyData.noDict_hsm (noDict d)) hr.gd (by omega) (λb o e=>e) (λh' t tk hk=>#[.str (py d).shown,H,I.kept hk,#[t,rfl],q]) (abl h4)
def ah4{K:Fr}:oz K (P1 K) xr:=by
 intro H x d1 f1 d Q r e k;unfold xr at e
 by_cases h1:vC d1=true
 .rw[if_pos h1] at e
  by_cases h2:decide (dep d1≠0)=true
  .rw[if_pos h2] at e;ext e;have hr:∃p,x=.ref p:=by
    ext r<;>first|exact#[_,rfl]|(apply absurd rfl (abl h2))
   let#[p,rfl]:=hr;apply#[p,d1,f1,rfl,r,h1,k H _ [] (aH.refl H) (.str _) acE λa m=>nomatch m]
  .rw[abM h2] at e;ext e
 .rw[abM h1] at e;ext e
def Dp{k:Nat}{a:Expr}{fa:EF}{p pos:Pos}(hr:aZ k X.A)(hm:X.mg "repr"=none)(ha:FP X a fa)(hg:Gl X "repr":=by rfl)(hs:Y1 X a:=by rfl):FP X (.Call (.Name "repr" p) [a] [] pos) (e1 xr fa):=
 fp_1 ah4 ha λta pa=>qk (ahk hr) hg hm boot_repr (dg pa e_ hs) (he:=hs)
def aef{d:D}(h:vC d=true)(hd:dep d≠0):xr d=some (.str (py d).shown):=by unfold xr;rw[if_pos h,if_pos (aaP hd)]
def wM(r:List Int):D:=.tup (r.map D.int)
def cK(rs:List (List Int)):List D:=rs.map wM
theorem yU:∀r:List Int,d_ (r.map D.int)=r.map PyData.int
 |[]=>rfl
 |i::r=>by rw[aaG,aaG];unfold d_;rw[yU r];unfold py;rfl
theorem Du:∀r:List Int,l8 (r.map D.int)=true
 |[]=>rfl
 |i::r=>by rw[aaG];unfold l8;rw[Du r];rfl
def log2_small{n:Nat}(h:n<10 ^ 12):n.log2<1920:=by
 by_cases hz:n=0
 .subst hz;decide
 .rw[Nat.log2_lt hz];apply acS h (ada (show 10 ^ 12<=2 ^ 40 by decide) (Nat.pow_le_pow_right (by decide) (by decide)))
theorem depthAll_ints:∀r:List Int,PyData.depthAll (r.map PyData.int)=0
 |[]=>rfl
 |i::r=>by rw[aaG];simp only[PyData.depthAll,PyData.depth,depthAll_ints r];rfl
def jV(r:List Int):PyData:=.tuple (r.map PyData.int)
def acj(r:List Int):py (wM r)=jV r:=by unfold wM jV;unfold py;rw[yU]
theorem Ic:∀rs:List (List Int),d_ (cK rs)=rs.map jV
 |[]=>rfl
 |r::rs=>by
  show d_ (wM r::cK rs)=jV r::rs.map jV;unfold d_;rw[acj,Ic rs]
theorem Sj:∀rs:List (List Int),l8 (cK rs)=true
 |[]=>rfl
 |r::rs=>by
  show l8 (wM r::cK rs)=true;unfold l8;rw[Sj rs,Bool.and_true];unfold wM fS;apply Du r
def eS(d:D):Bool:=fS d&&(py d).canLay0&&decide ((py d).depth<=40)
def pq(d1 d2:D):Option D:=if(eS d1&&eS d2)=true then some (.bl (!PyData.eqv (py d1) (py d2))) else none
def O3(K:Fr)(neg:Bool):R2:=λx y H Q=>∃d1 d2 f1 f2,Rep K H d1 x f1/\Rep K H d2 y f2/\eS d1=true/\eS d2=true/\Q (.bl (if neg=true then !PyData.eqv (py d1) (py d2) else PyData.eqv (py d1) (py d2))) H
def lay_of(h:eS d=true):fS d=true/\(py d).canLay0=true/\(py d).depth<=40:=by
 unfold eS at h;let#[h,h3]:=(aaM _ _).mp h;let#[h1,h2]:=(aaM _ _).mp h;apply#[h1,h2,abl h3]
def QO(hu:X.A.units+64<cLine):dO X (compareOp .NotEq) (O3 X.K true):=by
 exists 42;let#[d1,d2,f1,f2,r1,r2,l1,l2,q]:=h;let#[a1,a2,a3]:=lay_of l1;let#[b1,b2,b3]:=lay_of l2;let#[as,ra]:=qC I r1 rx a1;let#[bs,rb]:=qC I r2 ry b1;apply SeqAt.compareNe_reads ra rb a2 b2 (by omega) #[.bl _,H,I,rfl,q]
def NJ{K:Fr}:gR K (O3 K true) pq:=by
 exists 41;unfold pq at e
 by_cases hc:(eS d1&&eS d2)=true
 .rw[if_pos hc] at e;ext e;let#[c1,c2]:=(aaM _ _).mp hc;apply#[d1,d2,f1,f2,r1,r2,c1,c2,k H _ (aH.refl H) (.bl _)]
 .rw[abM hc] at e;ext e
def Yr(hu:X.A.units+64<cLine)(ha:FP X a fa)(hb:FP X b fb):FT X (.Compare a [.NotEq] [b] pos) (tV (e2 pq fa fb)):=jX (QO hu) NJ ha hb (jm _)
def af2(hu:X.A.units+64<cLine)(ha:FP X a fa)(hb:FP X b fb):FP X (.Compare a [.NotEq] [b] pos) (e2 pq fa fb):=uT (QO hu) NJ ha hb (jm _)
theorem Ea:∀r:List Int,PyData.canLayAll0 (r.map PyData.int)=true
 |[]=>rfl
 |i::r=>by rw[aaG];simp only[PyData.canLayAll0,PyData.canLay0,Ea r,ahw]
theorem P8:∀rs:List (List Int),PyData.canLayAll0 (rs.map jV)=true/\PyData.depthAll (rs.map jV)<=1
 |[]=>#[rfl,by simp[PyData.depthAll]]
 |r::rs=>by
  let#[h1,h2]:=P8 rs;rw[aaG];refine#[by simp only[PyData.canLayAll0,jV,PyData.canLay0,h1,Bool.and_true];apply Ea r,?_];simp only[PyData.depthAll,jV,PyData.depth,depthAll_ints r];omega
def acF(rs:List (List Int)):eS (.lst (cK rs))=true:=by
 let#[h1,h2]:=P8 rs;have e:py (.lst (cK rs))=.list (rs.map jV):=by unfold py;rw[Ic]
 unfold eS;rw[e];have a1:fS (.lst (cK rs))=true:=by unfold fS;apply Sj rs
 have a2:(PyData.list (rs.map jV)).canLay0=true:=by simp only[PyData.canLay0];apply h1
 have a3:(PyData.list (rs.map jV)).depth<=40:=by simp only[PyData.depth];omega
 rw[a1,a2,aaP a3];rfl
end L2.Ev
namespace L2.Ev
open PySem PySem.Spec PyProof.Rows
def oY(t:TF)(fa fb:EF):EF:=λY=>match t Y with
 |some true=>fa Y
 |some false=>fb Y
 |none=>none
def OJ(hc:FT X c tc)(ha:FP X a fa)(hb:FP X b fb):FP X (.IfExp c a b pos) (oY tc fa fb):=by
 let#[t,p,q]:=hc;let#[t1,p1,q1]:=ha;let#[t2,p2,q2]:=hb;exists 21,aag p p1 p2;unfold oY at e;cases h:tc Y with
 |none=>rw[h] at e;ext e
 |some y=>
  rw[h] at e;refine q ok h λH1 s1=>?_
  cases y with
  |true=>rw[if_pos rfl];apply q1 (ok.same s1) e λH2 v fp s2 r2 g2=>k H2 v fp (s1.trans s2) r2 (g2.back s1)
  |false=>rw[abM abm];apply q2 (ok.same s1) e λH2 v fp s2 r2 g2=>k H2 v fp (s1.trans s2) r2 (g2.back s1)
def Qh(h:tc Y=some true):oY tc fa fb Y=fa Y:=by unfold oY;rw[h]
def UW(h:tc Y=some false):oY tc fa fb Y=fb Y:=by unfold oY;rw[h]
def Jh(_ j:Int):Bool:=decide (0<j)&&decide (j<1073741824)
def oDiv:=AM Jh λi j=>i / j
def aer(ha:FP X a fa)(hb:FP X b fb):FP X (.BinOp a .FloorDiv b pos) (e2 oDiv fa fb):=wQ WL (F5 λi j h=>by
 let#[h1,h2]:=(aaM _ _).mp h;apply#[abl h1,abl h2]) ha hb
def aci(h:0<n)(h2:n<1073741824):oDiv (.int m) (.int n)=some (.int (m / n)):=by
 show(if Jh m n=true then some (D.int (m / n)) else none)=_;rw[if_pos (by unfold Jh;rw[aaP h,aaP h2];rfl)]
def jP(neg:Bool):D->D->Option D
 |.int i,.lst ds=>(eV ds).map λns=>.bl (if neg=true then !(ns.any (· == i)) else ns.any (· == i))
 |_,_=>none
def afA(i:Int)(ns:List Int):wu (.int i) (ns.map V.int)=ns.any (· == i):=by
 unfold wu;rw[aip];rfl
def ai6(ns:List Int):(ns.map V.int).all nG=true:=by
 rw[aj6];apply ado.mpr λ_ _=>rfl
def KH{K:Fr}:gR K (DG K neg) (jP neg):=by
 exists 41;cases d1 with
 |int i=>
  cases d2 with
  |lst ds=>
   have e:((eV ds).map λns=>D.bl (if neg=true then !(ns.any (· == i)) else ns.any (· == i)))=some d:=e;exists h,eV ds,ns,e;ext e;let#[p,xs,f,rfl,hq,rs,_]:=r2.d9;ext r1;have ex:=u9 rs h;subst ex;refine#[p,_,rfl,.inl hq,rfl,ai6 ns,?_];rw[afA];exact k H _ (aH.refl H) (.bl _)
  |_=>ext e
 |_=>ext e
def NZ(ha:FP X a fa)(hb:FP X b fb)(hm:behindInMarks .In b=false:=by rfl):FT X (.Compare a [.In] [b] pos) (tV (e2 (jP false) fa fb)):=jX NU KH ha hb hm
def aih(ha:FP X a fa)(hb:FP X b fb)(hm:behindInMarks .NotIn b=false:=by rfl):FT X (.Compare a [.NotIn] [b] pos) (tV (e2 (jP true) fa fb)):=jX E3 KH ha hb hm
def Ow(ha:FP X a fa)(hb:FP X b fb)(hm:behindInMarks .NotIn b=false:=by rfl):FP X (.Compare a [.NotIn] [b] pos) (e2 (jP true) fa fb):=uT E3 KH ha hb hm
def Dy{ns:List Int}:jP neg (.int i) (.lst (ns.map D.int))=some (.bl (if neg=true then !(ns.any (· == i)) else ns.any (· == i))):=by
 show((eV (ns.map D.int)).map _)=_;rw[xA];rfl
def kM(i:Nat)(fv:EF):SF:=λY=>match fv Y,Y[i]? with
 |some (d,_),some (some (.lst ds,.own))=>if(aA d&&aK ds&&decide (ds.length<sizeLine))=true then some (.nx (bU Y i (.lst (ds++[d])))) else none
 |_,_=>none
def An(i:Nat)(hv:FP X a fv)(va:VA X i x:=by walk_at "va")(hs:Y1 X a:=by rfl)
  (jb:attributeBase (.Name x p1) "append" X.env (eval (.Name x p1) X.env)=eval (.Name x p1) X.env:=by rfl)
  (kq:((backTo p3 (starEach [a] X.env)).all (λx=>!x.1)&&(backToKw p3 (keywordEach [] X.env)).all (λx=>x.1.isSome)&&decide ([a].length+([]:List Keyword).length+(if([]:List Keyword).isEmpty then 0 else 1)<30))=true:=by rfl)
  (jl:(p2.endLine==p3.line)=true:=by rfl) (iK:swapsWith (.Call (.Attribute (.Name x p1) "append" p2) [a] [] p3) none pos.line X.env=pure false:=by rfl) :
  eB X (.Expr (.Call (.Attribute (.Name x p1) "append" p2) [a] [] p3) pos) (kM i fv):=by
 let#[tv,kR,sv]:=hv;exists 25,vd (vD PySem.F.plainAttrs_list PySem.F.slot_list_append PySem.F.type_list_append Eb va.pe (dg kR e_ hs) jb kq jl hs rfl) iK;unfold kM at e
 split at e
 .rename_i d td ds g1 g2;let#[hc,e]:=ci e;ext e;let#[c1,c3]:=(aaM _ _).mp hc;let#[c1,c2]:=(aaM _ _).mp c1;let#[xv,fp,c8,r,zz]:=ok.sl i _ _ g2;refine#[xv,c8,?_];let#[l,xs,f,rfl,hq,_,_]:=r.d9;refine#[.inl #[rfl,_,hq],?_];refine sv ok g1 λH1 v Po s1 rv _=>?_
  have r':=r.same s1;have aV:=ok.same s1;generalize hw:(V.ref l)=w at r' c8;cases r' with
  | @lst a' ys _ f' h rs=>
   ext hw;have hn:=rs.aA c2;subst hn;have A2:=rv.aA c1;subst A2;refine#[_,ys,v,rfl,rfl,h,by rw[<- rs.length];apply abl c3,?_];have im:aW H1 (upd H1 l (.lst (ys++[v]))):=aW.upd h rfl;refine q z U _ (Ok.CW aV g2 c8 zz aav h rfl (.lst bP ?_)) (.refl _ _);apply aD.append (rs.frame (λa m=>nomatch m) im) (aD.cons (rv.frame (λa m=>nomatch m) im) .nil)
 .cases e
def JR(h1:fv Y=some (.int n,t1))(h2:Y[i]? = some (some (.lst (ns.map D.int),.own)))(hl:ns.length<sizeLine):
  kM i fv Y=some (.nx (bU Y i (.lst ((ns++[n]).map D.int)))):=by
 unfold kM;rw[h1,h2];dsimp only;have Wj:∀ns:List Int,aK (ns.map D.int)=true:=λns=>by
  induction ns with
  |nil=>rfl
  |cons n r ih=>rw[aaG];unfold aK;rw[ih];rfl
 rw[if_pos (by rw[Wj,List.length_map,aaP hl];rfl),adk];rfl
def cutD(ds:List D)(lo hi:Option Int):List D:=(ds.drop (HT.bG ds.length 0 lo)).take (HT.bG ds.length ds.length hi-HT.bG ds.length 0 lo)
def aD.AA{K:Fr}:∀{ds} {xs} (n),aD K H ds xs []->aD K H (ds.drop n) (xs.drop n) []
 |ds,xs,0,r=>r
 |[],_,n+1,r=>by ext r;apply .nil
 |d::ds,xs,n+1,r=>by
  generalize hf:([]:List Addr)=fp at r;cases r with
  | @cons _ _ _ _ f1 f2 r1 r2=>
   let#[z1,z2]:=agh.mp hf.symm;subst z1 z2;apply aD.AA n r2
def aD.vE{K:Fr}:∀{ds} {xs} (n),aD K H ds xs []->aD K H (ds.take n) (xs.take n) []
 |ds,xs,0,r=>.nil
 |[],_,n+1,r=>by ext r;apply .nil
 |d::ds,xs,n+1,r=>by
  generalize hf:([]:List Addr)=fp at r;cases r with
  | @cons _ _ _ _ f1 f2 r1 r2=>
   let#[z1,z2]:=agh.mp hf.symm;subst z1 z2;apply aD.cons r1 (aD.vE n r2)
def DF(X:Cx)(e:Option Expr)(v:Option Int):Prop:=∃t,PO X e t/\∀U H Q,Q v H->t U H Q
def TJ:DF X none none:=#[_,HA,λ_ _ _ q=>q]
def Uk{j p}:DF X (some (.Constant (.int i) j p)) (some i):=#[_,EL Jl,λ_ _ _ q=>#[i,rfl,q]]
end L2.Ev
namespace L2
open PySem PySem.Spec PyProof.Rows
def Inv.Mq{ch:List Addr}{o:HO}(I:Inv X af U H s)(hf:∀b∈ch,iY X af H b)(k:∀b o,b∉ch->s.heap.get? b=some o->h'.get? b=some o)
  (hT:s.heap.objs.size<=T) (new:dD X.prog X.w (upd H T o) h' T o):Inv X af U (upd H T o) { s with heap:=h',toks:=t' }:=by
 have nT:=I.aG.fresh hT;have mF:∀b u,H b=some u->b∉ch:=λb u e m=>by rw[(hf b m).1] at e;ext e
 refine I.step (λb m=>#[(hf b m).2.2.2.1,(hf b m).2.1,(hf b m).2.2.2.2.1,(hf b m).2.2.2.2.2]) (λb o _ _ m e _=>k b o m e) (λb o _ _ m e _=>#[o.slots,k b o m e])
  (λb o _ e n=>by rw[aJ (acO (acS (abG e) hT))];apply n) (λb o m e=>#[o,k b o m e]) (λb xs e=>by rw[aJ (cU e nT)];apply e) (λb o u e=>by rw[aJ (cU e nT)];apply e)
  (λb ps e=>#[([].toArray),by rw[aJ (cU e nT),e];simp]) (λm hm=>?_) (λb u e=>?_) I.bare
 .let#[o,es,ep,ho,r]:=hm;apply#[o,es,ep,k _ o (λm=>(hf _ m).2.1 rfl) ho,r]
 .by_cases hb:b=T
  .subst hb;rw[bP] at e;ext e;apply new
  .rw[aJ hb] at e;refine(I.aG b u e).gH (λc v hc q=>k c v ?_ q) (λc q=>by rw[aJ (cU q nT)];apply q) λc xs q=>by rw[aJ (cU q nT)];apply q
   rcases hc with z|z
   .rw[z];apply mF b u e
   .exact mF c _ z
def Inv.EO{ch:List Addr}(I:Inv X af U H s)(hf:∀b∈ch,iY X af H b)(k:∀b o,b∉ch->s.heap.get? b=some o->h'.get? b=some o):Inv X af U H { s with heap:=h',toks:=t' }:=by
 have mF:∀b u,H b=some u->b∉ch:=λb u e m=>by rw[(hf b m).1] at e;ext e
 refine I.step (λb m=>#[(hf b m).2.2.2.1,(hf b m).2.1,(hf b m).2.2.2.2.1,(hf b m).2.2.2.2.2]) (λb o _ _ m e _=>k b o m e) (λb o _ _ m e _=>#[o.slots,k b o m e])
  (λb o _ e n=>n) (λb o m e=>#[o,k b o m e]) (λb xs e=>e) (λb o u e=>e) (λb ps e=>#[([].toArray),by rw[e];simp]) (λm hm=>?_) (λb u e=>?_) I.bare
 .let#[o,es,ep,ho,r]:=hm;apply#[o,es,ep,k _ o (λm=>(hf _ m).2.1 rfl) ho,r]
 .refine(I.aG b u e).gH (λc v hc q=>k c v ?_ q) (λc q=>q) λc xs q=>q
  rcases hc with z|z
  .rw[z];apply mF b u e
  .exact mF c _ z
def LW(K:Fr)(l1 l2:Addr):It:=
  #[λi H=>∃xs ys x y,cJ K H l1 xs/\cJ K H l2 ys/\xs[i]? = some x/\ys[i]? = some y,
   λi H v H'=>∃T a b,H T=none/\v=.ref T/\H'=upd H T (.tup [a,b])/\(∀xs,cJ K H l1 xs->xs[i]? = some a)/\∀ys,cJ K H l2 ys->ys[i]? = some b,
   λi H=>∃xs ys,cJ K H l1 xs/\cJ K H l2 ys/\(xs.length<=i\/ys.length<=i),false]
def aeR(z TI TO i1 i2 l1 l2:Addr)(i:Nat)(h:Heap):Prop:=IsZip h z TI TO .none/\IsPair h TI (.ref i1) (.ref i2)/\(∃a b,IsPair h TO a b)/\h.IsListIter i1 l1 i/\h.IsListIter i2 l2 i
def agO{K:Fr}{x1}{z TI TO i1 i2 l1 l2:Addr}(D:ZipApart z TI TO i1 i2 l1 l2):
  Turn P w K (.Tuple elts x1 pos) (LW K l1 l2) [z,TI,TO,i1,i2] z (aeR z TI TO i1 i2 l1 l2) where
 mem:=by simp
 obj:=λi h st b hb=>by
  let#[s1,s2,#[a,b',s3],#[o4,e4,c4,d4],#[o5,e5,c5,d5]]:=st;simp only[aaO,acK,aeE] at hb;rcases hb with rfl|rfl|rfl|rfl|rfl
  .exact#[_,s1,λv q=>by ext q]
  .exact#[_,s2,λv q=>by ext q]
  .exact#[_,s3,λv q=>by ext q]
  .exact#[o4,e4,λv q=>by rw[d4] at q;ext q]
  .exact#[o5,e5,λv q=>by rw[d5] at q;ext q]
 keep:=λi h h' st k=>by
  let#[s1,s2,#[a,b',s3],s4,s5]:=st;apply#[k _ (by simp) _ s1,k _ (by simp) _ s2,#[a,b',k _ (by simp) _ s3],s4.at λo e=>k _ (by simp) o e,s5.at λo e=>k _ (by simp) o e]
 item:=by
  exists 40;subst hP hw hK;let#[s1,s2,#[a,b',s3],s4,s5]:=st;let#[xs,ys,x,y,q1,q2,e1,e2]:=hg;let#[us,v1,p1,z1]:=I.list q1;let#[ws,v2,p2,z2]:=I.list q2;let#[u,hu,ru]:=v1.get e1;let#[t,ht,rt]:=v2.get e2;refine wpAny_pyNext_zip_item D s1 s2 s3 s4 s5 p1.isList p2.isList (by simpa using hu) (by simpa using ht) λh' a1 a2 a3 a4 a5 a6 a7=>#[_,rfl,?_]
  refine wpAny_letOwnedTupleGo_zip a1 λnH b1 b2=>?_
  have lz:=abG s1;have nz:=agY lz;have T2:=b2.extBut _ _ nz a5;have nT:=I.aG.fresh (abD _);have I1:Inv X af U (upd H s.heap.objs.size (.tup [x,y])) { s with heap:=nH }:=I.Mq (ch:=[z,TO,i1,i2]) (λb m=>hf b (by
    simp only[aaO,acK,aeE] at m ⊢;rcases m with rfl|rfl|rfl|rfl<;>simp)) (λb o m e=>by
    simp only[aaO,acK,aeE,not_or] at m;apply b2.extBut _ _ m.1 (a7 b o m.1 m.2.1 m.2.2.1 m.2.2.2 e)) (abD _) (show dD X.prog X.w _ nH _ (.tup [x,y]) from#[show 2<=sizeLine by unfold sizeLine;lia,[u,t],.cons ru (.cons rt .nil),#[_,T2,rfl,rfl,_,rfl]])
  refine#[.ref s.heap.objs.size,_,I1,rfl,#[_,x,y,nT,rfl,rfl,λS3 h=>by rw[I.IY h q1];apply e1,λYu h=>by rw[I.IY h q2];apply e2],?_,λb m=>?_]
  .have up:∀c o,c≠z->h'.get? c=some o->nH.get? c=some o:=λc o n e=>b2.extBut _ _ n e
   apply#[b1,up _ _ D.TIz (a7 TI _ D.TIz D.TITO D.TIi1 D.TIi2 s2),#[u,t,up _ _ D.TOz a2],a3.at λo e=>up _ o D.i1z e,a4.at λo e=>up _ o D.i2z e]
  .rw[aJ]
   .exact(hf b m).1
   .rintro rfl
    let#[o4,e4,_]:=id s4;let#[o5,e5,_]:=id s5;simp only[aaO,acK,aeE] at m;rcases m with m|m|m|m|m
    .exact nz m
    .exact absurd (abG s2) (by rw[<- m];apply aep _)
    .exact absurd (abG s3) (by rw[<- m];apply aep _)
    .exact absurd (abG e4) (by rw[<- m];apply aep _)
    .exact absurd (abG e5) (by rw[<- m];apply aep _)
 done:=by
  exists 40;subst hP hw hK;let#[s1,s2,#[a,b',s3],s4,s5]:=st;let#[xs,ys,q1,q2,e]:=hg;let#[us,v1,p1,z1]:=I.list q1;let#[ws,v2,p2,z2]:=I.list q2;have l1:=v1.length;have l2:=v2.length;refine wpAny_pyNext_zip_end (I.ok.hd (hc.resolve_right λz=>abm z)) D s1 s2 s3 s4 s5 p1.isList p2.isList (e.imp (λe=>by simp;lia) λe=>by simp;lia) λh' k=>#[rfl,I.EO (ch:=[z,TO,i1,i2]) (λb m=>hf b (by
    simp only[aaO,acK,aeE] at m ⊢;rcases m with rfl|rfl|rfl|rfl<;>simp)) λb o m e=>?_]
  simp only[aaO,acK,aeE,not_or] at m;apply k b o m.1 m.2.1 m.2.2.1 m.2.2.2 e
 self:=λ_ _ _ _ _ st h=>wpAny_pyIter_zip st.1 h
end L2
namespace L2.Ev
open PySem PySem.Spec PyProof.Rows
def aD.Cd{K:Fr}{i:Nat}(r:aD K H ds vs [])(e:ds[i]? = some d):∃v,vs[i]? = some v/\Rep K H d v []:=by
 let#[v,f,e1,r1,s]:=r.get e;have:f=[]:=List.eq_nil_iff_forall_not_mem.mpr λa m=>by have:=s a m;ext this
 subst this;apply#[v,e1,r1]
def ad5{K:Fr}{f1 f2:List Addr}(c1:aK ds=true)(c2:aK es=true):
  uA K (LW K l1 l2) ((ds.zip es).map λp=>.tup [p.1,p.2]) [#[.lst ds,.ref l1,f1],#[.lst es,.ref l2,f2]]:=by
 intro H i hh;let#[p1,xs,g1,e1,q1,r1,_]:=(hh _ aav).d9;let#[p2,ys,g2,e2,q2,r2,_]:=(hh _ (aar _ aav)).d9;ext e1;ext e2;have n1:=r1.aA c1;have n2:=r2.aA c2;subst n1 n2;refine#[λd hd=>?_,λhl=>?_]
 .rw[acy] at hd;cases hz:(ds.zip es)[i]? with
  |none=>rw[hz] at hd;ext hd
  |some pr=>
   rw[hz] at hd;ext hd;let#[k1,k2]:=ajV.mp hz;let#[x,hx,rx]:=r1.Cd k1;let#[y,hy,ry]:=r2.Cd k2;refine#[#[xs,ys,x,y,q1,q2,hx,hy],λv H1 hv=>?_];let#[T,a,b,hT,rfl,rfl,ha,hb]:=hv;have ea:=ha xs q1;have eb:=hb ys q2;rw[hx] at ea;rw[hy] at eb;ext ea;ext eb;have s2:aH H (upd H T (.tup [x,y])):=λb o e=>by rw[aJ (cU e hT)];apply e
   apply#[s2,[],.tup (bQ.of bP) (aD.cons (rx.same s2) (aD.cons (ry.same s2) .nil)),λa m=>nomatch m]
 .rw[List.length_map,List.length_zip,r1.length,r2.length] at hl;apply#[xs,ys,q1,q2,by lia]
end L2.Ev
namespace L2
open PySem PySem.Spec PyProof.Rows
theorem UJ:∀{bs:List Bool} {us},aS (bs.map V.bl) us->us=bs.map Value.bool
 |[],_,r=>by rw[akm] at r;ext r;rfl
 |b::bs,_,r=>by
  rw[aaG] at r;cases r with
  |cons r1 r2=>ext r1;rw[UJ r2];rfl
def range_all(bs:List Bool):(List.range bs.length).all (λj=>bs.getD j true)=bs.all id:=by
 induction bs with
 |nil=>rfl
 |cons b r ih=>
  rw[acv,List.range_succ_eq_map,aj8,aj6,aj8,<- ih];rfl
def Ws(hc:X.calm=true):ie X (.builtin "all") (λxs H Q=>∃(p:Addr) (bs:List Bool),xs=[V.ref p]/\cJ X.K H p (bs.map V.bl)/\Q (.bl (bs.all id)) H):=by
 exists 43;let#[p,bs,rfl,hq,q]:=h;let#[u,rfl,ru]:=vals1 r;ext ru;let#[av,v1,pl,hz]:=I.list hq;have ei:=UJ v1;subst ei;have lp:=let#[o,n,e,_]:=pl;abG e
 have hh:X.A.in1.handled=none:=I.ok.hd hc;refine call_all_walk (wpAny_pyIter_list pl.isList ?_);refine#[s.heap.objs.size,_,_,_,_,_,λj=>bs.getD j true,rfl,Walks.list hh s.heap.objs.size p (acO lp) (bs.map Value.bool).toArray,#[#[_,acm _ rfl,rfl,rfl],pl.isList.at λo e=>aat _ e],?_,λh' tk hk=>?_]
 .intro i v s' Q' E' hv hQ;rw[List.getElem?_toArray,acy] at hv;exists e,bs[i]?,b,hv;ext hv;dsimp only at hQ;rw[adQ,e] at hQ;apply afi hQ
 .have f:=I.rq (abD s.heap.objs.size) (I.aG.fresh (abD _));have I1:Inv X af U H { s with heap:=s.heap.push { cls:=.type "list_iterator",data:=.fields ([.ref p,.int 0 0].toArray) } }:=I.kept λb o e=>aat _ e
  rw[ab9,List.length_map,range_all];apply#[.bl _,H,I1.EO (λb m=>by rw[aa6.mp m];apply f) λb o m e=>hk b o m e,rfl,q]
end L2
namespace L2.Ev
open PySem PySem.Spec PyProof.Rows
def ou:List D->Option (List Bool)
 |[]=>some []
 |.bl b::r=>(ou r).map (b::·)
 |_=>none
theorem Tp{K:Fr}:∀{ds} {xs} {fp} {bs},aD K H ds xs fp->ou ds=some bs->xs=bs.map V.bl
 |[],_,_,bs,r,e=>by ext r;ext e;rfl
 |d::ds,_,_,bs,r,e=>by
  cases r with
  |cons h t=>
   ext d<;>try (ext e;done)
   ext h;unfold ou at e;exists q,ou ds,r,e;ext e;rw[Tp t q];rfl
def AY:D->Option D
 |.lst ds=>(ou ds).map λbs=>.bl (bs.all id)
 |_=>none
def aai{K:Fr}:oz K (λxs H Q=>∃(p:Addr) (bs:List Bool),xs=[V.ref p]/\cJ K H p (bs.map V.bl)/\Q (.bl (bs.all id)) H) AY:=by
 intro H x d1 f1 d Q r e k;cases d1 with
 |lst ds=>
  let#[p,xs,f,rfl,hq,rs,_]:=r.d9;have e:(ou ds).map (λbs=>D.bl (bs.all id))=some d:=e;exists h,ou ds,bs,e;ext e;have ex:=Tp rs h;subst ex;apply#[p,bs,rfl,hq,k H _ [] (aH.refl H) (.bl _) acE λa m=>nomatch m]
 |_=>ext e
def Ju(hc:X.calm=true)(hm:X.mg "all"=none)(ha:FP X a fa)(hg:Gl X "all":=by rfl)(hs:Y1 X a:=by rfl):FP X (.Call (.Name "all" p) [a] [] pos) (e1 AY fa):=
 fp_1 aai ha λta pa=>qk (Ws hc) hg hm boot_all (dg pa e_ hs) (he:=hs)
abbrev XF:=aL->Option (D×aL)
def ahB(ha:FP X a fa)(hb:FP X b fb):FP X (.Compare a [.Lt] [b] pos) (e2 oLt fa fb):=uT M3 uh ha hb (jm _)
def aeW(ha:FP X a fa)(hb:FP X b fb):FP X (.Compare a [.LtE] [b] pos) (e2 oLe fa fb):=uT EA uh ha hb (jm _)
def ahS(ha:FP X a fa)(hb:FP X b fb):FP X (.Compare a [.Is] [b] pos) (e2 jr fa fb):=uT Qx MQ ha hb (jm _)
end L2.Ev
namespace L2.Ev
open PySem
theorem dW:∀ns:List Int,aK (ns.map D.int)=true
 |[]=>rfl
 |n::r=>by rw[aaG];unfold aK;rw[dW r];rfl
def v8{as bs:List Int}(h:as.length+bs.length<=PySem.sizeLine):iw (.lst (as.map D.int)) (.lst (bs.map D.int))=some (.lst ((as++bs).map D.int)):=by
 show(if(aK (as.map D.int)&&aK (bs.map D.int)&&decide ((as.map D.int).length+(bs.map D.int).length<=PySem.sizeLine))=true then some (D.lst (as.map D.int++bs.map D.int)) else none)=_;rw[dW,dW,List.length_map,List.length_map,aaP h,adk];rfl
def Wz(h:ns.length<64):l_ (.lst (ns.map D.int))=some (.lst ((dh ns).map D.int)):=by
 show(match eV (ns.map D.int) with|some ns=>if ns.length<64 then some (D.lst ((dh ns).map D.int)) else none|none=>none)=_;rw[xA];dsimp only;rw[if_pos h]
def w_{ns:List Int}:pX (.lst (ns.map D.int))=some (.lst (ns.map D.int)):=by show(if aK (ns.map D.int)=true then some (D.lst (ns.map D.int)) else none)=_;rw[if_pos (dW ns)]
def U3{ns:List Int}:pX (.tup (ns.map D.int))=some (.lst (ns.map D.int)):=by show(if aK (ns.map D.int)=true then some (D.lst (ns.map D.int)) else none)=_;rw[if_pos (dW ns)]
def Lz{ns:List Int}:nY (.lst (ns.map D.int))=some (.tup (ns.map D.int)):=by show(if aK (ns.map D.int)=true then some (D.tup (ns.map D.int)) else none)=_;rw[if_pos (dW ns)]
open PySem PySem.Spec PyProof.Rows
def aD.look{K:Fr}:∀{es:List (Str×D)}{fs:List (Str×V)} {fp} {f} {d},es.map (·.1)=fs.map (·.1)->aD K H (es.map (·.2)) (fs.map (·.2)) fp->es.lookup f=some d->∃v g,fs.lookup f=some v/\Rep K H d v g/\∀a∈g,a∈fp
 |[],[],_,_,_,_,_,e=>by ext e
 |[],_::_,_,_,_,k,_,_=>by simp at k
 |_::_,[],_,_,_,k,_,_=>by simp at k
 |(x,d0)::es,(y,v0)::fs,fp,f,d,k,r,e=>by
  simp only[aaG,aga] at k;let#[rfl,k]:=k;cases r with
  |cons r1 r2=>
   by_cases hx:(f==x)=true
   .simp only[List.lookup,hx] at e ⊢;ext e;apply#[v0,_,rfl,r1,λa m=>abz _ m]
   .have hx:(f==x)=false:=by simpa using hx
    simp only[List.lookup,hx] at e ⊢;let#[v,g,h1,h2,h3]:=aD.look k r2 e;apply#[v,g,h1,h2,λa m=>aaH _ (h3 a m)]
theorem u0:∀{es:List (Str×D)}{fs:List (Str×V)} {f},es.map (·.1)=fs.map (·.1)->es.lookup f=none->fs.lookup f=none
 |[],[],_,_,_=>rfl
 |[],_::_,_,k,_=>by simp at k
 |_::_,[],_,k,_=>by simp at k
 |(x,d0)::es,(y,v0)::fs,f,k,e=>by
  simp only[aaG,aga] at k;let#[rfl,k]:=k
  by_cases hx:(f==x)=true
  .simp only[List.lookup,hx] at e;ext e
  .have hx:(f==x)=false:=by simpa using hx
   simp only[List.lookup,hx] at e ⊢;apply u0 k e
structure ClsAt(K:Fr)(cn:Str)(C:Addr):Prop where
 ns:PySem.W.nsIn K mainGlobals cn=some (some (.ref C))
 cl:j9 K C
def Rep.lO{K:Fr}(r:Rep K H (.ins cn es) v fp)(hn:PySem.W.nsIn K mainGlobals cn=some (some (.ref C))):
  ∃a dx fs g,v=.ref a/\fp=a::dx::g/\H a=some (.ins C dx fs)/\H dx=some (.own a)/\es.map (·.1)=fs.map (·.1)/\aD K H (es.map (·.2)) (fs.map (·.2)) g:=by
 cases r with
 | @ins _ a C' dx fs _ g h0 h1 h2 h3 h4=>
  rw[hn] at h0;ext h0;apply#[a,dx,fs,g,rfl,rfl,h1,h2,h3,h4]
def bH(cn f:Str)(fa:EF):EF:=λY=>match fa Y with
 |some (.ins c es,t)=>if c=cn then(es.lookup f).map λd=>(d,kC t) else none
 |_=>none
def cR.sub(hz:∀a j,z a=some j->∃o,H a=some o)(h:cR z H t f)(s:∀a∈g,a∈f):cR z H (kC t) g:=by
 cases t with
 |sh o=>apply λa m j q=>h a (s a m) j q
 |own=>apply λa m j q=>by let#[o,w]:=hz a j q;rw[h.2 a (s a m)] at w;ext w
 |lk=>apply λa m j q=>by let#[o,w]:=hz a j q;rw[h.2 a (s a m)] at w;ext w
def a_{cn f:Str}{C:Addr}(hC:ClsAt X.K cn C)(na:iQ X.K C f)(ha:FP X a fa)(hb:attributeBase a f X.env (eval a X.env)=eval a X.env:=by rfl):FP X (.Attribute a f pos) (bH cn f fa):=by
 let#[t,p,q]:=ha;exists 21,n_ p hb;unfold bH at e;exists h,fa Y,w,e,0;let#[d0,t0]:=w;rw[h] at e;ext d0<;>try (ext e;done)
 rename_i c es;dsimp only at e
 by_cases hc:c=cn
 .subst hc;rw[if_pos rfl] at e;exists hl,es.lookup f,d1,e;ext e;refine q ok h λH1 v fp s1 r1 g1=>?_
  let#[b,dx,fs,g,rfl,rfl,h1,h2,h3,h4]:=r1.lO hC.ns;let#[u,gf,h5,h6,h7]:=aD.look h3 h4 hl;apply#[b,C,dx,fs,u,rfl,h1,hC.cl,na,h5,k H1 u gf s1 h6 (cR.sub (λa j e=>(ok.zd a j e).1) g1 λa m=>aar _ (aar _ (h7 a m)))]
 .rw[abM hc] at e;ext e
def bK(cn m:Str)(F:List D->Option D)(fo:EF)(g:AF):EF:=λY=>match fo Y with
 |some (.ins c es,_)=>if c=cn/\es.lookup m=none then(g Y).bind λps=>(F (.ins c es::ps.map (·.1))).map λd=>(d,.own) else none
 |_=>none
section
variable{X:Cx}
def UA(hC:ClsAt X.K cn C)(q:∀{H0} {S} {z} {aq} {Y} {U} {H} {Q} {d} {tg},Ok X.K H0 S z aq Y U H->fo Y=some (d,tg)->(∀H' v fp,aH H H'->Rep X.K H' d v fp->cR z H tg fp->Q v H')->t U H Q)
  (qa:∀{H0} {S} {z} {aq} {Y} {U} {H} {Q} {ps},Ok X.K H0 S z aq Y U H->g Y=some ps->(∀H' vs fp,aH H H'->aD X.K H' (ps.map (·.1)) vs fp->cR z H (jG ps) fp->Q vs H')->ta U H Q)
  (ok:Ok X.K H0 S z aq Y U H) (e0:bK cn m F fo g Y=some (d,tg)) (kk:∀H' v fp,aH H H'->Rep X.K H' d v fp->cR z H tg fp->Q v H') :
  DL C m (bh X.K F) [] E0 t ta U H Q:=by
 unfold bK at e0;cases h:fo Y with
 |none=>rw[h] at e0;ext e0
 |some w=>
  let#[d0,t0]:=w;rw[h] at e0;ext d0<;>try (ext e0;done)
  rename_i c sY;dsimp only at e0
  by_cases hc:c=cn/\sY.lookup m=none
  .rw[if_pos hc] at e0;let#[rfl,hm]:=hc;cases h2:g Y with
   |none=>rw[h2] at e0;ext e0
   |some qs=>
    rw[h2,acG] at e0;cases h3:F (.ins c sY::qs.map (·.1)) with
    |none=>rw[h3] at e0;ext e0
    |some d1=>
     rw[h3] at e0;ext e0;refine q ok h λH1 v fp s1 r1 g1=>?_
     let#[b,dx,fs,gf,rfl,rfl,h4,h5,h6,h7]:=r1.lO hC.ns;refine#[b,dx,fs,rfl,h4,u0 h6 hm,?_];refine qa (ok.same s1) h2 λH2 vs jJ s2 r2 _=>?_
     rw[acL];apply#[_,_,d,.cons (r1.same s2) r2,h3,λH3 u gC s3 r3 nd fr=>kk H3 u gC ((s1.trans s2).trans s3) r3 #[nd,λa m=>s1.free (s2.free (fr a m))]]
  .rw[abM hc] at e0;ext e0
def fG(hC:ClsAt X.K cn C)(hm:kD X.K C m f)(G:cg X.prog X.w X.K X.mg X.base dw k f fd ps (bh X.K F))(hr:aZ k X.A)(hb:Binds X.K fd ps [])(ho:FP X o fo)(ha:FA X (e::es) g)
  (dG:SE X e es pos:=by apply#[rfl,rfl])
  (ht:wK X o m apos (e::es) pos pl:=by apply rfl):FP X (.Call (.Attribute o m apos) (e::es) [] pos) (bK cn m F fo g):=by
 let#[t,p,q]:=ho;let#[ta,pa,_,qa]:=ha;apply#[_,BC p hC.cl hm G hr hb .nil lD pa dG.1 dG.2 ht,@λH0 S z aq Y U H Q d tg ok e0 kk=>UA hC q qa ok e0 kk]
def cN(hC:ClsAt X.K cn C)(hm:kD X.K C m f)(G:cg X.prog X.w X.K X.mg X.base dw k f fd ps (bh X.K F))(hr:aZ k X.A)(hb:Binds X.K fd ps [])(ho:FP X o fo)
  (ht:wK X o m apos [] pos pl:=by apply rfl):FP X (.Call (.Attribute o m apos) [] [] pos) (bK cn m F fo aB):=by
 let#[t,p,q]:=ho;let#[ta,pa,_,qa]:=az (X:=X);refine#[_,VO p hC.cl hm G hr hb .nil lD ht,@λH0 S z aq Y U H Q d tg ok e0 kk=>UA hC q (@λ_ _ _ _ _ _ H _ _ _ e q=>by ext e;apply q H _ _ (aH.refl H) .nil .nil) ok e0 kk]
end
abbrev MF:=D->List D->Option (D×D)
def dJ(K:Fr)(G:MF):Sp:=λvs H Q _=>∃a ws d0 aX ds dX r d1,vs=V.ref a::ws/\Rep K H d0 (.ref a) aX/\aX.Nodup/\aD K H ds ws dX/\(∀b∈dX,b∉aX)/\G d0 ds=some (r,d1)/\
 ∀H' v bI,aW H H'->(∀b o,b∉aX->H b=some o->H' b=some o)->Rep K H' d1 (.ref a) bI->bI.Nodup->(∀b∈bI,b∈aX\/H b=none)->Rep K H' r v []->Q v H'
def apart(i:Nat)(ps:List (D×Tag)):Bool:=match jG ps with
 |.sh o=>!o.contains i
 |_=>true
def AE{K:Fr}(ok:Ok K H0 S z aq Y U H)(h:apart i ps=true)(g:cR z H (jG ps) fp)(zz:vv z i .own aX):∀b∈fp,b∉aX:=by
 intro b m n;unfold apart at h;have zb:=zz.2 b n;cases ht:jG ps with
 |sh o=>
  rw[ht] at h g;have:=g b m i zb;simp at h;apply h this
 |own=>
  rw[ht] at g;let#[#[o,w],_]:=ok.zd b i zb;rw[g.2 b m] at w;ext w
 |lk=>
  rw[ht] at g;let#[#[o,w],_]:=ok.zd b i zb;rw[g.2 b m] at w;ext w
def xO(i:Nat)(cn m:Str)(G:MF)(g:AF):XF:=λY=>match Y[i]?,g Y with
 |some (some (.ins c es,.own)),some ps=>if c=cn/\es.lookup m=none/\apart i ps=true then(G (.ins c es) (ps.map (·.1))).map λw=>(w.1,bU Y i w.2) else none
 |_,_=>none
def Va(e:xO i cn m G g Y=some (r,Y')):∃es ps d1,Y[i]? = some (some (.ins cn es,.own))/\g Y=some ps/\es.lookup m=none/\apart i ps=true/\G (.ins cn es) (ps.map (·.1))=some (r,d1)/\Y'=bU Y i d1:=by
 unfold xO at e
 split at e
 .rename_i c es ps h1 h2
  by_cases hc:c=cn/\es.lookup m=none/\apart i ps=true
  .rw[if_pos hc] at e;let#[rfl,hm,ha]:=hc;exists h3,G (.ins c es) (ps.map (·.1)),w,e;ext e;apply#[es,ps,w.2,h1,h2,hm,ha,h3,rfl]
  .rw[abM hc] at e;ext e
 .cases e
def FZ(X:Cx)(e:Expr)(f:XF):Prop:=∃t,PE X e t/\∀{H0} {S} {z} {aq} {Y} {U} {H} {Q} {d} {Y'},
 Ok X.K H0 S z aq Y U H->f Y=some (d,Y')->(∀z' H' v,Ok X.K H0 S z' aq Y' U H'->Rep X.K H' d v []->Q v H')->t U H Q
section
variable{X:Cx}
def ZD(hC:ClsAt X.K cn C)(hN:X.N[i]? = some x)
  (qa:∀{H0:Hp} {S} {z} {aq} {Y} {U} {H} {Q} {ps},Ok X.K H0 S z aq Y U H->g Y=some ps->(∀H' vs fp,aH H H'->aD X.K H' (ps.map (·.1)) vs fp->cR z H (jG ps) fp->Q vs H')->ta U H Q)
  (ok:Ok X.K H0 S z aq Y U H) (e0:xO i cn m G g Y=some (d,Y')) (kk:∀z' H' v,Ok X.K H0 S z' aq Y' U H'->Rep X.K H' d v []->Q v H') :
  DL C m (dJ X.K G) [] E0 (pS i) ta U H Q:=by
 let#[sY,qs,d1,h1,h2,hm,jC,hG,rfl]:=Va e0;let#[v,aX,hs,r0,zz]:=ok.sl i _ _ h1;refine#[v,hs,?_];let#[b,dx,fs,gf,rfl,Ii,h4,h5,h6,h7]:=r0.lO hC.ns;refine#[b,dx,fs,rfl,h4,u0 h6 hm,?_];refine qa ok h2 λH2 vs jJ s2 r2 g2=>?_
 rw[acL];have oS:=ok.same s2;refine#[b,vs,_,aX,_,jJ,d,d1,rfl,r0.same s2,zz.1,r2,AE ok jC g2 zz,hG,λH3 u bI im kp r1 nd fr rr=>?_];let#[z',iu]:=oS.put h1 hs zz im kp r1 nd fr;apply kk z' H3 u iu rr
def jo(i:Nat)(hC:ClsAt X.K cn C)(hm:kD X.K C m f)(GG:cg X.prog X.w X.K X.mg X.base dw k f fd ps (dJ X.K G))(hr:aZ k X.A)(hb:Binds X.K fd ps [])(va:VA X i x:=by walk_at "va")
  (ht:wK X (.Name x p1) m apos [] pos pl:=by apply rfl):FZ X (.Call (.Attribute (.Name x p1) m apos) [] [] pos) (xO i cn m G aB):=
 #[_,VO va.pe hC.cl hm GG hr hb .nil lD ht,@λH0 S z aq Y U H Q d Y' ok e0 kk=>ZD hC va.N (@λ_ _ _ _ _ _ H _ _ _ e q=>by ext e;apply q H _ _ (aH.refl H) .nil .nil) ok e0 kk]
def sZ(f:XF):SF:=λY=>(f Y).map λw=>.nx w.2
def k_(he:FZ X e fx)(iK:swapsWith e none pos.line X.env=pure false:=by rfl):eB X (.Expr e pos) (sZ fx):=by
 let#[t,p,q]:=he;exists 23,vd p iK;unfold sZ at e;exists h,fx Y,w,e,0;let#[d,aO]:=w;rw[h] at e;ext e;apply q ok h λz' H1 v aV r1=>k z' U H1 aV (.refl _ _)
def Ut(i:Nat)(f:XF):SF:=λY=>match f Y with
 |some (d,Y')=>some (.nx (iE Y' i d .own))
 |none=>none
def J6(i:Nat)(he:FZ X e fx)(hN:X.N.Nodup)(hi:X.N[i]? = some x:=by rfl)(hx:Loc X.env.scope x:=by first|exact Or.inl rfl|exact Or.inr rfl)
  (hs:swapsWith e (some (.Name x pos')) pos.line X.env=pure false:=by rfl) (hf:j7 X x:=by first|exact .inl rfl|exact .inr rfl) (lK:kr X x=false:=by rfl):eB X (.Assign [.Name x pos'] e pos) (Ut i fx):=by
 let#[t,p,q]:=he;exists 23,CM hN hi hx p hs hf;unfold Ut at e;cases h:fx Y with
 |none=>rw[h] at e;ext e
 |some w=>
  let#[d,aO]:=w;rw[h] at e;ext e;refine q ok h λz1 H1 v aV r1=>?_
  apply aV.stored (aH.refl H1) r1 .nil λz' aT=>k z' _ H1 aT (.set hi lK)
end
def nv(cn:Str)(G:MF)(g:AF):EF:=λY=>(g Y).bind λps=>match G (.ins cn []) (ps.map (·.1)) with
 |some (.aC,d)=>some (d,.own)
 |_=>none
section
variable{X:Cx}
def make_core{Q:VK}(hn:PySem.W.nsIn X.K mainGlobals cn=some (some (.ref C)))(r1:aD X.K H1 ds vs fp)(h3:G (.ins cn []) ds=some (.aC,d))(kk:∀H' v fp,aH H1 H'->Rep X.K H' d v fp->fp.Nodup->(∀a∈fp,H1 a=none)->Q v H'):
  ∀x dx,H1 x=none->H1 dx=none->dx≠x->dJ X.K G (.ref x::(vs++[])) (upd (upd H1 dx (.own x)) x (.ins C dx [])) (λv H2=>v=.aC/\Q (.ref x) H2) E0:=by
 intro b dx nb BU ne;rw[acL];have s2:aH H1 (upd (upd H1 dx (.own b)) b (.ins C dx [])):=λc o e=>by rw[aJ (cU e nb),aJ (cU e BU)];apply e
 refine#[b,vs,.ins cn [],[b,dx],_,fp,.aC,d,rfl,.ins hn bP (by rw[aJ ne];apply bP) rfl .nil,?_,r1.same s2,λc m n=>?_,h3,λH3 u bI im kp r3 nd fr rr=>?_]
 .exact acw.mpr #[λm=>ne (aa6.mp m).symm,acw.mpr #[(λm=>nomatch m),acE]]
 .let#[o,w,_]:=r1.cO c m;rcases aaO.mp n with e|n
  .rw[e,nb] at w;ext w
  .rw[aa6.mp n,BU] at w;ext w
 .cases rr;refine#[rfl,kk H3 _ bI (λc o e=>?_) r3 nd λc m=>?_]
  .refine kp c o (λn=>?_) (s2 c o e);rcases aaO.mp n with q|n
   .rw[q,nb] at e;ext e
   .rw[aa6.mp n,BU] at e;ext e
  .rcases fr c m with q|q
   .rcases aaO.mp q with q|q
    .rw[q];apply nb
    .rw[aa6.mp q];apply BU
   .exact s2.free q
def Ph(hn:PySem.W.nsIn X.K mainGlobals cn=some (some (.ref C)))
  (qa:∀{H0} {S} {z} {aq} {Y} {U} {H} {Q} {ps},Ok X.K H0 S z aq Y U H->g Y=some ps->(∀H' vs fp,aH H H'->aD X.K H' (ps.map (·.1)) vs fp->cR z H (jG ps) fp->Q vs H')->ta U H Q)
  (ok:Ok X.K H0 S z aq Y U H) (e0:nv cn G g Y=some (d,tg)) (kk:∀H' v fp,aH H H'->Rep X.K H' d v fp->cR z H tg fp->Q v H') :
  Hg C (dJ X.K G) [] E0 ta U H Q:=by
 unfold nv at e0;exists h2,g Y,qs,e0,0;rw[h2,acG] at e0;exists h3,G (.ins cn []) (qs.map (·.1)),w,e0,0;let#[r,d1]:=w;rw[h3] at e0;ext r<;>try (ext e0;done)
 ext e0;refine qa ok h2 λH1 vs fp s1 r1 _=>?_
 apply make_core hn r1 h3 λH' v fp s2 r3 nd fr=>kk H' v fp (s1.trans s2) r3 #[nd,λa m=>s1.free (fr a m)]
def abI(hn:PySem.W.nsIn X.K mainGlobals cn=some (some (.ref C)))(M:Mk X.K C f)(GG:cg X.prog X.w X.K X.mg X.base dw k f fd ps (dJ X.K G))(hr:aZ (k+1) X.A)(hm:X.mg x=some (.ref C))(hb:Binds X.K fd ps [])(hg:GD X x:=by apply#[rfl,by decide]):
  FP X (.Call (.Name x p) [] [] pos) (nv cn G aB):=
 #[_,aap M GG hr hg.1 hm hb .nil lD hg.2,@λH0 S z aq Y U H Q d tg ok e0 kk=>Ph hn (@λ_ _ _ _ _ _ H _ _ _ e q=>by ext e;apply q H _ _ (aH.refl H) .nil .nil) ok e0 kk]
def xJ(hn:PySem.W.nsIn X.K mainGlobals cn=some (some (.ref C)))(M:Mk X.K C f)(GG:cg X.prog X.w X.K X.mg X.base dw k f fd ps (dJ X.K G))(hr:aZ (k+1) X.A)(hm:X.mg x=some (.ref C))(hb:Binds X.K fd ps [])(ha:FA X (e::es) g)(hg:GD X x:=by apply#[rfl,by decide])
  (he:SE X e es pos:=by apply#[rfl,rfl]):FP X (.Call (.Name x p) (e::es) [] pos) (nv cn G g):=by
 let#[ta,pa,_,qa]:=ha;apply#[_,Z9 M GG hr hg.1 hm hb .nil lD pa hg.2 he.1 he.2,@λH0 S z aq Y U H Q d tg ok e0 kk=>Ph hn qa ok e0 kk]
end
end L2.Ev
namespace L2
open PySem PySem.Spec PyProof.Rows
abbrev Cx.j7(X:Cx)(xs:List Str):Cx:={ X with fn:=λy=>!(xs.contains y) }
def iP.j7{st:List Stmt}(hX:X.fn=λ_=>true)(h:iP (X.j7 xs) st t):iP X st t:=λaf s U H W I hw=>by
 have I':Inv (X.j7 xs) af U H s:=#[#[I.ok.mod,I.ok.kind,I.ok.glob,I.ok.blt,I.ok.above,I.ok.inj,I.ok.has,λx c _ e=>I.ok.o6 x c (by rw[hX]) e,I.ok.hd,I.ok.frames,I.ok.rA,I.ok.um,I.ok.bs,I.ok.jB,I.ok.pA,I.ok.oK,I.ok.ju,I.ok.mE],I.os,I.bare,I.base,I.loc,I.cell,I.free,I.g_,I.pin,I.aG,I.len,I.hq]
 have back:∀{aF} {H'} {s'},Inv (X.j7 xs) af aF H' s'->Inv X af aF H' s':=λJ=>#[I.ok,J.os,J.bare,J.base,J.loc,J.cell,J.free,J.g_,J.pin,J.aG,J.len,J.hq]
 refine adI (h af s U H W I' hw) (λf s' q=>?_) λ_ _ z=>z
 cases f with
 |next=>let#[a,b,J,q]:=q;apply#[a,b,back J,q]
 |brk=>let#[a,b,J,q]:=q;apply#[a,b,back J,q]
 |cont=>let#[a,b,J,q]:=q;apply#[a,b,back J,q]
 |ret u=>let#[v,a,b,J,r,q]:=q;apply#[v,a,b,back J,r,q]
end L2
namespace L2.Ev
open PySem PySem.Spec PyProof.Rows
def iR:List Nat->aL->Option (List D)
 |[],_=>some []
 |i::J,Y=>match Y[i]? with
  |some (some (d,Tag.own))=>(iR J Y).map (d::·)
  |_=>none
def yJ(J:List Nat)(im:Bool)(X:Cx)(H0:Hp)(S:List Addr)(aq:List qv)(pW:St)(E:Ends):Out->Prop
 |.rt p=>∃r es,p=.tup (r::es)/\∀z Y U H v cu,Ok X.K H0 S z aq Y U H->iR J Y=some es->Kp X pW U->Rep X.K H r v cu->cu.Nodup->(∀b∈cu,(H0 b=none\/b∈S)/\∀i∈J,z b≠some i)->(im=true->cu=[])->E.rt v H
 |o=>oZ X H0 S aq pW E o
def FJ(J:List Nat)(im:Bool)(X:Cx)(st:List Stmt)(f:SF):Prop:=∃t,iP X st t/\∀{H0} {S} {z} {aq} {Y} {U} {H} {E} {o},
 Ok X.K H0 S z aq Y U H->f Y=some o->yJ J im X H0 S aq U E o->t E U H
def o9(J:List Nat)(im:Bool)(X:Cx)(st:Stmt)(f:SF):Prop:=∃t,PS X st t/\∀{H0} {S} {z} {aq} {Y} {U} {H} {E} {o},
 Ok X.K H0 S z aq Y U H->f Y=some o->yJ J im X H0 S aq U E o->t E U H
abbrev Ct:=FJ [0]
abbrev FM:=FJ [0] true
def yJ.of(k:yJ J im X H0 S aq U E o)(a:Kp X U aF):yJ J im X H0 S aq aF E o:=by
 cases o with
 |nx Y=>apply oZ.of (o:=.nx Y) k a
 |bk Y=>apply oZ.of (o:=.bk Y) k a
 |ct Y=>apply oZ.of (o:=.ct Y) k a
 |er raw cn Y=>apply xS.of k a
 |rt d=>let#[r,d0,e,k]:=k;apply#[r,d0,e,λz Y s H v cu ok h b=>k z Y s H v cu ok h (a.trans b)]
def jE(f:SF):SF:=λY=>match f Y with
 |some (.nx Y')=>some (.nx Y')
 |some (.bk Y')=>some (.bk Y')
 |some (.ct Y')=>some (.ct Y')
 |some (.er raw cn Y')=>some (.er raw cn Y')
 |_=>none
section
variable{st:Stmt}{rest:List Stmt}
def aU(h:eB X st f):o9 J im X st (jE f):=by
 let#[t,p,q]:=h;refine#[t,p,@λH0 S z aq Y U H E o ok e k=>?_];unfold jE at e;cases h:f Y with
 |none=>rw[h] at e;ext e
 |some w=>
  rw[h] at e;refine q ok h ?_;ext w<;>first|(ext e;done)|(ext e;apply k)
def d8:FJ J im X [] gm:=#[_,Mm,@λ_ _ z _ _ U H _ _ ok e k=>by ext e;apply k z U H ok (.refl _ _)]
def bN(h:o9 J im X st f):FJ J im X [st] f:=let#[t,p,q]:=h;#[t,OU p,q]
def aP(h1:o9 J im X st f)(h2:FJ J im X rest g):FJ J im X (st::rest) (ck f g):=by
 let#[t,p,q]:=h1;let#[t',p',q']:=h2;exists 23,x6 p p';unfold ck at e;cases h:f Y with
 |none=>rw[h] at e;ext e
 |some w=>
  refine q ok h ?_;rw[h] at e;cases w with
  |nx Y'=>apply λz' aF H' aT a=>q' aT e (k.of a)
  |rt d=>ext e;apply k
  |bk Y'=>ext e;apply k
  |ct Y'=>ext e;apply k
  |er _ _ _=>ext e;apply k
def dR(hc:FT X c tc)(ha:FJ J im X a f)(hb:FJ J im X b g):o9 J im X (.If c a b pos) (eW tc f g):=by
 let#[t,p,q]:=hc;let#[t1,p1,q1]:=ha;let#[t2,p2,q2]:=hb;exists 23,CN p p1 p2;unfold eW at e;cases h:tc Y with
 |none=>rw[h] at e;ext e
 |some y=>
  rw[h] at e;refine q ok h λH1 s1=>?_
  cases y with
  |true=>rw[if_pos rfl];apply q1 (ok.same s1) e k
  |false=>rw[abM abm];apply q2 (ok.same s1) e k
def n6:o9 J im X st Gu:=#[_,Q7,@λ_ _ _ _ _ _ _ _ _ _ e _=>by ext e]
def lZ(f:EF)(J:List Nat:=[0]):SF:=λY=>match f Y,iR J Y with
 |some (r,_),some es=>if aA r=true then some (.rt (.tup (r::es))) else none
 |_,_=>none
def jj(he:FP X e f):o9 J im X (.Return (some e) pos) (lZ f J):=by
 let#[t,p,q]:=he;exists 23,xY p;unfold lZ at e
 split at e
 .rename_i r tg es h1 h2
  by_cases hi:aA r=true
  .rw[if_pos hi] at e;ext e;let#[r',gA,ee,k]:=k;ext ee;refine q ok h1 λH1 v fp s1 r1 _=>?_
   have hn:=r1.aA hi;subst hn;apply k z Y U H1 v [] (ok.same s1) h2 (.refl _ _) r1 acE (λb m=>nomatch m) λ_=>rfl
  .rw[abM hi] at e;ext e
 .cases e
def rG(f:XF)(J:List Nat:=[0]):SF:=λY=>match f Y with
 |some (r,Y')=>(iR J Y').map λes=>.rt (.tup (r::es))
 |none=>none
def lB(he:FZ X e f):o9 J im X (.Return (some e) pos) (rG f J):=by
 let#[t,p,q]:=he;exists 23,xY p;unfold rG at e;cases h1:f Y with
 |none=>rw[h1] at e;ext e
 |some w=>
  rw[h1] at e;let#[es,h2,rfl]:=abX.mp e;let#[r',gA,ee,k]:=k;ext ee;apply q ok h1 λz' H1 v aV r1=>k z' w.2 U H1 v [] aV h2 (.refl _ _) r1 acE (λb m=>nomatch m) λ_=>rfl
def T8(i:Nat)(J:List Nat:=[0]):SF:=λY=>match Y[i]?,iR J Y with
 |some (some (r,Tag.own)),some es=>if J.contains i=true then none else some (.rt (.tup (r::es)))
 |_,_=>none
def Nz(i:Nat)(va:VA X i x:=by walk_at "va"):o9 J false X (.Return (some (.Name x p1)) pos) (T8 i J):=by
 exists 23,xY va.pe;unfold T8 at e
 split at e
 .rename_i r es h1 h0
  by_cases hj:J.contains i=true
  .rw[if_pos hj] at e;ext e
  .rw[abM hj] at e;ext e;let#[r',gA,ee,k]:=k;ext ee;let#[v,fp,hs,rr,zz]:=ok.sl i _ _ h1;refine#[v,hs,k z Y U H v fp ok h0 (.refl _ _) rr zz.1 (λb m=>#[(ok.zd b i (zz.2 b m)).2,λj mj q=>?_]) λq=>nomatch q];rw[zz.2 b m] at q;ext q;apply hj (adz.mpr mj)
 .cases e
end
def yc(n:Nat)(d0:D)(ds:List D):aL:=some (d0,.own)::(ds.map (λd=>some (d,.sh []))++List.replicate (n-(ds.length+1)) none)
def runM(n N:Nat)(b:SF):MF:=λd0 ds=>if ds.length + 1=n then(match b (yc N d0 ds) with
 |some (.rt (.tup [r,d1]))=>some (r,d1)
 |some (.nx Y)=>match Y[0]? with
  |some (some (d1,Tag.own))=>some (.aC,d1)
  |_=>none
 |_=>none) else none
def ZR(h:iR [0] Y=some [d]):Y[0]? = some (some (d,.own)):=by
 unfold iR at h
 split at h
 .rename_i d' e;ext h;apply e
 .cases h
def CT(im:Bool)(K:Fr)(G:MF):Sp:=λvs H Q _=>∃v0 ws d0 aX ds dX r d1,vs=v0::ws/\Rep K H d0 v0 aX/\aX.Nodup/\aD K H ds ws dX/\(∀b∈dX,b∉aX)/\G d0 ds=some (r,d1)/\
 ∀H' v bI cu,aW H H'->(∀b o,b∉aX->H b=some o->H' b=some o)->Rep K H' d1 v0 bI->bI.Nodup->(∀b∈bI,b∈aX\/H b=none)->Rep K H' r v cu->cu.Nodup->(∀b∈cu,(b∈aX\/H b=none)/\b∉bI)->(im=true->cu=[])->Q v H'
def lN(K:Fr)(G:MF):Sp:=λvs H Q _=>∃v0 ws d0 aX ds dX r d1,vs=v0::ws/\Rep K H d0 v0 aX/\aX.Nodup/\aD K H ds ws dX/\(∀b∈dX,b∉aX)/\G d0 ds=some (r,d1)/\
 ∀H' v bI cu,aW H H'->(∀b o,b∉aX->H b=some o->H' b=some o)->Rep K H' d1 v0 bI->bI.Nodup->(∀b∈bI,b∈aX\/H b=none)->Rep K H' r v cu->cu.Nodup->(∀b∈cu,(b∈aX\/H b=none)/\b∉bI)->Q v H'
section
variable{K:Fr}
def Xm:∀vs H Q E,dJ K G vs H Q E->CT true K G vs H Q E:=by
 rintro _ _ _ _ ⟨a,ws,d0,aX,ds,dX,r,d1,h1,h2,h3,h4,h5,h6,q⟩
 apply#[.ref a,ws,d0,aX,ds,dX,r,d1,h1,h2,h3,h4,h5,h6,λH' v bI cu a1 a2 a3 a4 a5 a6 _ _ e=>q H' v bI a1 a2 a3 a4 a5 (by rw[<- e rfl];apply a6)]
def adn:∀vs H Q E,lN K G vs H Q E->CT false K G vs H Q E:=by
 rintro _ _ _ _ ⟨v0,ws,d0,aX,ds,dX,r,d1,h1,h2,h3,h4,h5,h6,q⟩
 apply#[v0,ws,d0,aX,ds,dX,r,d1,h1,h2,h3,h4,h5,h6,λH' v bI cu a1 a2 a3 a4 a5 a6 a7 a8 _=>q H' v bI cu a1 a2 a3 a4 a5 a6 a7 a8]
def aac{st:Stmt}(F:jw K x qual st f fd)(S:qj N ps (cE st))(h0:N[0]? = some x0)
  (hb:∀(aQ) (A) (outer) (s) (H) (E),aZ k (A.deeper (envOfC qual (cE st) s.heap.objs.size f aQ))->Ct im ((fU dw P w K mg base N qual (cE st) f aQ A outer s H E).eY.j7 [x0]) (gS st) b) :
  cg P w K mg base dw (k+1) f fd ps (CT im K (runM ps.length N.length b)):=by
 have oE:∀{d0} {ds} {r},runM ps.length N.length b d0 ds=some r->ds.length+1=ps.length:=λ{d0 ds r} e=>by
  unfold runM at e
  split at e
  .assumption
  .cases e
 refine F.ok S (λvs H Q E h=>?_) λaQ A outer s H vs Q E hr h=>?_<;>let#[v0,ws,d0,aX,ds,dX,r,d1,e0,r0,nd0,rs,dj,e,q]:=h
 .rw[e0,acv,<- rs.length,oE e]
 .let#[t,pt,sd]:=hb aQ A outer s H E hr;refine#[t,pt.j7 rfl,?_];have YW:aD K H [d0] [v0] aX:=by have:=aD.cons r0 .nil;rwa [acL] at this
  let#[z,ok]:=Ok.n5 YW nd0 rs dj;rw[e0];have fin:∀{z} {Y} {U} {H'} {v} {cu},Ok K H aX z [] Y U H'->Y[0]? = some (some (d1,.own))->Kp ((fU dw P w K mg base N qual (cE st) f aQ A outer s H E).eY.j7 [x0]) (start N (v0::ws)) U->Rep K H' r v cu->cu.Nodup->(∀b∈cu,(H b=none\/b∈aX)/\z b≠some 0)->(im=true->cu=[])->Q v H':=by
   intro z Y U H' v cu aT h1 kp rr uO nA hi;let#[u,bI,hs,r1,zz]:=aT.sl 0 d1 .own h1;have hk:=kp 0 _ h0 (by
    show(x0==("self":Str)||(!([x0].contains ("self":Str))&&!(!([x0].contains x0))))=true
    by_cases h:x0=("self":Str)
    .rw[h];rfl
    .simp[afv h])
   rw[hk] at hs;ext hs;have st:∀{c} {o},H c=some o->jn o=false->H' c=some o:=λ{c o} e' mo=>aT.en c _ e' λm=>by
    let#[o',w,l5]:=r0.cO c m;rw[e'] at w;ext w;rw[mo] at l5;ext l5
   apply q H' v bI cu #[λc xs e'=>st e' rfl,λc o u e'=>st e' rfl,λc φ e'=>st e' rfl] (λc o n e'=>aT.en c o e' n) r1 zz.1 (λc m=>((aT.zd c 0 (zz.2 c m)).2).symm.imp id id) rr uO (λc m=>#[(nA c m).1.symm.imp id id,λm'=>(nA c m).2 (zz.2 c m')]) hi
  have hl:=oE e;unfold runM at e;rw[if_pos hl] at e;cases ho:b (yc N.length d0 ds) with
  |none=>rw[ho] at e;ext e
  |some o=>
   rw[ho] at e;refine sd ok ho ?_;cases o with
   |rt p=>
    have hp:p=.tup [r,d1]:=by
     split at e<;>rename_i hh
     .cases e;ext hh;rfl
     .cases hh
     .cases e
    apply#[r,[d1],hp,λz Y U H' v cu aT h1 kp rr nd fr=>fin aT (ZR h1) kp rr nd λb m=>#[(fr b m).1,(fr b m).2 0 aav]]
   |nx Y'=>
    dsimp only at e
    split at e
    .rename_i dd h1;ext e;apply λz U H' aT kp=>fin aT h1 kp .aC acE (λb m=>nomatch m) λ_=>rfl
    .cases e
   |bk _=>ext e
   |ct _=>ext e
   |er _ _ _=>ext e
end
def eK(f:Str)(d:D):List (Str×D)->List (Str×D)
 |[]=>[(f,d)]
 |(g,x)::r=>if g=f then(g,d)::r else(g,x)::eK f d r
theorem Rv:∀{es} {fs},es.map (·.1)=fs.map (·.1)->(eK f d es).map (·.1)=(fN f v fs).map (·.1)
 |[],[],_=>rfl
 |[],_::_,k=>by simp at k
 |_::_,[],k=>by simp at k
 |(x,d0)::es,(y,v0)::fs,k=>by
  simp only[aaG,aga] at k;let#[rfl,k]:=k;unfold eK fN
  by_cases hx:x=f
  .rw[if_pos hx,if_pos hx,aaG,aaG,k]
  .rw[abM hx,abM hx,aaG,aaG,Rv k]
theorem TM:∀{es},es.lookup f=some d0->(eK f d es).map (·.1)=es.map (·.1)
 |[],e=>by ext e
 |(x,d1)::es,e=>by
  unfold eK
  by_cases hx:x=f
  .rw[if_pos hx];rfl
  .have hb:=adY.mpr λq=>hx q.symm
   simp only[List.lookup,hb] at e;rw[abM hx,aaG,TM e];rfl
section
variable{K:Fr}
def aD.fN(rd:Rep K H d v fd):∀{es} {fs} {g},es.map (·.1)=fs.map (·.1)->aD K H (es.map (·.2)) (fs.map (·.2)) g->
  ∃g',aD K H ((eK f d es).map (·.2)) ((L2.fN f v fs).map (·.2)) g'/\(∀a∈g',a∈g\/a∈fd)/\(g.Nodup->fd.Nodup->(∀a∈fd,a∉g)->g'.Nodup)
 |[],[],_,_,r=>by
  ext r;apply#[fd++[],.cons rd .nil,λa m=>.inr (by simpa using m),λ_ n _=>by simpa using n]
 |[],_::_,_,k,_=>by simp at k
 |_::_,[],_,k,_=>by simp at k
 |(x,d0)::es,(y,v0)::fs,_,k,r=>by
  simp only[aaG,aga] at k;let#[rfl,k]:=k;cases r with
  | @cons _ _ _ _ f1 f2 r1 r2=>
   unfold eK L2.fN
   by_cases hx:x=f
   .rw[if_pos hx,if_pos hx];refine#[fd++f2,.cons rd r2,λa m=>(abH.mp m).elim .inr λm=>.inl (aaH _ m),λn1 n2 n3=>?_];apply acU.mpr #[n2,(acU.mp n1).2.1,λa ma b mb e=>n3 a ma (aaH _ (e ▸ mb))]
   .rw[abM hx,abM hx];let#[g',h1,h2,h3]:=aD.fN rd k r2;refine#[f1++g',.cons r1 h1,λa m=>?_,λn1 n2 n3=>?_]
    .rcases abH.mp m with m|m
     .exact .inl (abz _ m)
     .exact(h2 a m).imp (aaH _) id
    .let#[a1,a2,a3]:=acU.mp n1;refine acU.mpr #[a1,h3 a2 n2 (λa m q=>n3 a m (aaH _ q)),λa ma b mb e=>?_];rcases h2 b mb with q|q
     .exact a3 a ma b q e
     .exact n3 b q (abz _ (e ▸ ma))
def aD.place:∀{es}{fs:List (Str×V)} {g},es.map (·.1)=fs.map (·.1)->aD K H (es.map (·.2)) (fs.map (·.2)) g->g.Nodup->es.lookup f=some d0->
  ∃v gf,fs.lookup f=some v/\Rep K H d0 v gf/\gf.Nodup/\(∀a∈gf,a∈g)/\∀(H') (d1) (g1),aW H H'->(∀b o,b∉gf->H b=some o->H' b=some o)->Rep K H' d1 v g1->g1.Nodup->(∀b∈g1,b∈gf\/H b=none)->
   ∃g',aD K H' ((eK f d1 es).map (·.2)) (fs.map (·.2)) g'/\g'.Nodup/\∀b∈g',b∈g\/H b=none
 |[],_,_,_,_,_,e=>by ext e
 |_::_,[],_,k,_,_,_=>by simp at k
 |(x,d)::es,(y,v0)::fs,_,k,r,nd,e=>by
  simp only[aaG,aga] at k;let#[rfl,k]:=k;cases r with
  | @cons _ _ _ _ f1 f2 r1 r2=>
   let#[a1,a2,a3]:=acU.mp nd
   by_cases hx:x=f
   .subst hx;have hb:=agf x;simp only[List.lookup,hb] at e ⊢;ext e;refine#[v0,f1,rfl,r1,a1,λa m=>abz _ m,λH' d1 g1 im kp rr n1 fr=>?_];refine#[g1++f2,?_,acU.mpr #[n1,a2,λa ma b mb e=>?_],λb m=>?_]
    .unfold eK;rw[if_pos rfl];refine .cons rr (r2.frame (λa m=>?_) im);let#[o,w,_]:=r2.cO a m;rw[kp a o (λq=>a3 a q a m rfl) w,w]
    .subst e;let#[o,w,_]:=r2.cO a mb;rcases fr a ma with q|q
     .exact a3 a q a mb rfl
     .rw[q] at w;ext w
    .rcases abH.mp m with m|m
     .exact(fr b m).imp (abz _) id
     .exact .inl (aaH _ m)
   .have hb:=adY.mpr λq=>hx q.symm
    simp only[List.lookup,hb] at e ⊢;let#[v,gf,h1,h2,h3,h4,h5]:=aD.place k r2 a2 e;refine#[v,gf,h1,h2,h3,λa m=>aaH _ (h4 a m),λH' d1 g1 im kp rr n1 fr=>?_];let#[g',c1,c2,c3]:=h5 H' d1 g1 im kp rr n1 fr;refine#[f1++g',?_,acU.mpr #[a1,c2,λa ma b mb e=>?_],λb m=>?_]
    .unfold eK;rw[abM hx];refine .cons (r1.frame (λa m=>?_) im) c1;let#[o,w,_]:=r1.cO a m;rw[kp a o (λq=>a3 a m a (h4 a q) rfl) w,w]
    .subst e;let#[o,w,_]:=r1.cO a ma;rcases c3 a mb with q|q
     .exact a3 a ma a q rfl
     .rw[q] at w;ext w
    .rcases abH.mp m with m|m
     .exact .inl (abz _ m)
     .exact(c3 b m).imp (aaH _) id
def Rep.M4(r:Rep K H (.ins cn es) v fp)(hn:PySem.W.nsIn K mainGlobals cn=some (some (.ref C)))(nd:fp.Nodup)(e:es.lookup f=some d0):
  ∃a dx fs u gf,(a∉gf/\dx∉gf)/\v=.ref a/\H a=some (.ins C dx fs)/\fs.lookup f=some u/\Rep K H d0 u gf/\gf.Nodup/\(∀b∈gf,b∈fp)/\∀(H':Hp) (d1) (g1),aW H H'->(∀b o,b∉gf->H b=some o->H' b=some o)->Rep K H' d1 u g1->g1.Nodup->(∀b∈g1,b∈gf\/H b=none)->
   ∃bI,Rep K H' (.ins cn (eK f d1 es)) v bI/\bI.Nodup/\∀b∈bI,b∈fp\/H b=none:=by
 let#[a,dx,fs,g,rfl,rfl,h1,h2,h3,h4]:=r.lO hn;let#[n1,n2]:=acw.mp nd;let#[n3,n4]:=acw.mp n2;let#[u,gf,c1,c2,c3,c4,c5]:=aD.place h3 h4 n4 e;refine#[a,dx,fs,u,gf,#[λm=>n1 (aar _ (c4 _ m)),λm=>n3 (c4 _ m)],rfl,h1,c1,c2,c3,λb m=>aar _ (aar _ (c4 b m)),λH' d1 g1 im kp rr m1 fr=>?_];let#[g',e1,e2,e3]:=c5 H' d1 g1 im kp rr m1 fr;have ka:=kp a _ (λq=>n1 (aar _ (c4 a q))) h1;have kd:=kp dx _ (λq=>n3 (c4 dx q)) h2;refine#[a::dx::g',.ins hn ka kd (by rw[TM e];apply h3) e1,?_,λb m=>?_]
 .refine acw.mpr #[λm=>?_,acw.mpr #[λm=>?_,e2]]
  .rcases aaO.mp m with q|m
   .exact n1 (by rw[q];apply aav)
   .rcases e3 a m with q|q
    .exact n1 (aar _ q)
    .rw[h1] at q;ext q
  .rcases e3 dx m with q|q
   .exact n3 q
   .rw[h2] at q;ext q
 .rcases aaO.mp m with q|m
  .exact .inl (by rw[q];apply aav)
  .rcases aaO.mp m with q|m
   .exact .inl (by rw[q];apply aar _ aav)
   .exact(e3 b m).imp (λq=>aar _ (aar _ q)) id
def Rep.place(r:Rep K H (.ins cn es) v fp)(hn:PySem.W.nsIn K mainGlobals cn=some (some (.ref C)))(nd:fp.Nodup)(e:es.lookup f=some d0):
  ∃a dx fs u gf,v=.ref a/\H a=some (.ins C dx fs)/\fs.lookup f=some u/\Rep K H d0 u gf/\gf.Nodup/\(∀b∈gf,b∈fp)/\∀(H') (d1) (g1),aW H H'->(∀b o,b∉gf->H b=some o->H' b=some o)->Rep K H' d1 u g1->g1.Nodup->(∀b∈g1,b∈gf\/H b=none)->
   ∃bI,Rep K H' (.ins cn (eK f d1 es)) v bI/\bI.Nodup/\∀b∈bI,b∈fp\/H b=none:=
 let#[a,dx,fs,u,gf,_,h]:=r.M4 hn nd e;#[a,dx,fs,u,gf,h]
end
def Ok.fld{K:Fr}(hC:ClsAt K cn C)(ok:Ok K H0 S z aq Y U H)(h:Y[i]? = some (some (.ins cn es,.own)))
  (hs:U[i]? = some (some (.ref b))) (hb:H b=some (.ins C dx fs)) (s1:aH H H1) (r1:Rep K H1 d y fd) (nd:fd.Nodup) (fr:∀c∈fd,H c=none):∃z',Ok K H0 S z' aq (bU Y i (.ins cn (eK f d es))) U (upd H1 b (.ins C dx (L2.fN f y fs))):=by
 let#[v,aX,c8,r0,zz]:=ok.sl i _ _ h;rw[hs] at c8;ext c8;let#[b',zF,vY,g,e,rfl,h3,h4,h5,h6]:=(r0.same s1).lO hC.ns;ext e;rw[s1 _ _ hb] at h3;ext h3;have h3:=s1 _ _ hb;have Bg:∀c∈fd,c∉b::dx::g:=λc m n=>by
  let#[#[o,w],_]:=ok.zd c i (zz.2 c n);rw[fr c m] at w;ext w
 have me:b∈b::dx::g:=aav;have md:dx∈b::dx::g:=aar _ aav;have mg:∀{c},c∈g->c∈b::dx::g:=λm=>aar _ (aar _ m)
 let#[n1,n2]:=acw.mp zz.1;let#[n3,n4]:=acw.mp n2;have ne:∀{c},c∈g->c≠b:=λm q=>n1 (q ▸ aar _ m)
 have im:aW H1 (upd H1 b (.ins C dx (L2.fN f y fs))):=aW.upd h3 rfl;let#[g',c1,c2,c3]:=aD.fN (r1.frame (λc m=>aJ λq:c=b=>Bg c m (q ▸ me)) im) h5 (h6.frame (λc m=>aJ (ne m)) im);have out:∀{c},c∈g'->c∈g\/c∈fd:=λ{c} m=>c2 c m
 refine ok.put h hs zz ((aW.of s1).trans im) (λc o n e=>by rw[aJ λq:c=b=>n (q ▸ me)];apply s1 c o e) (.ins hC.ns bP (by rw[aJ λq:dx=b=>n1 (q ▸ aav)];apply h4) (Rv h5) c1) ?_ λc m=>?_
 .refine acw.mpr #[λm=>?_,acw.mpr #[λm=>(out m).elim n3 λq=>Bg dx q md,c3 n4 nd λc m n=>Bg c m (mg n)]];rcases aaO.mp m with q|m
  .exact n1 (q ▸ aav)
  .exact(out m).elim (λq=>n1 (aar _ q)) λq=>Bg b q me
 .rcases aaO.mp m with q|m
  .exact .inl (q ▸ me)
  .rcases aaO.mp m with q|m
   .exact .inl (q ▸ md)
   .exact(out m).imp mg (fr c)
def uM(i:Nat)(cn f:Str)(fv:EF):SF:=λY=>match fv Y,Y[i]? with
 |some (d,t),some (some (.ins c es,.own))=>if c=cn/\es.length<1000/\(k9 t||aA d)=true then some (.nx (bU Y i (.ins c (eK f d es)))) else none
 |_,_=>none
def fq(i:Nat)(hC:ClsAt X.K cn C)(na:iQ X.K C f)(hv:FP X a fv)(va:VA X i x:=by walk_at "va")(hs:swapsWith a (some (.Attribute (.Name x p1) f pos')) pos.line X.env=pure false:=by rfl):eB X (.Assign [.Attribute (.Name x p1) f pos'] a pos) (uM i cn f fv):=by
 let#[t,p,q]:=hv;exists 23,abb va.pe p hs;unfold uM at e
 split at e
 .rename_i d tg c es h1 h2
  by_cases hc:c=cn/\es.length<1000/\(k9 tg||aA d)=true
  .rw[if_pos hc] at e;ext e;let#[rfl,hl,ho]:=hc;let#[v,aX,c8,r0,zz]:=ok.sl i _ _ h2;refine q ok h1 λH1 y fd s1 r1 g1=>#[v,c8,?_]
   let#[b,dx,fs,g,rfl,rfl,h3,h4,h5,h6]:=r0.lO hC.ns;have lf:fs.length<1000:=by have:=congrArg List.length h5;rw[List.length_map,List.length_map] at this;lia
   refine#[b,C,dx,fs,rfl,s1 _ _ h3,hC.cl,na,lf,?_];have g:fd.Nodup/\∀a∈fd,H a=none:=by
    rcases(aji _ _).mp ho with h|h
    .cases tg<;>first|exact g1|ext h
    .rw[r1.aA h];apply#[acE,λc m=>nomatch m]
   let#[z',aT]:=ok.fld hC h2 c8 h3 s1 r1 g.1 g.2;apply k z' U _ aT (.refl _ _)
  .rw[abM hc] at e;ext e
 .cases e
def Bq:D->Option D
 |.int i=>some (.int (-i))
 |_=>none
def ajg(ha:FP X a fa):FP X (.UnaryOp .USub a pos) (e1 Bq fa):=by
 let#[t,pa,q]:=ha;exists 21,ajx Y8 pa;let#[d1,t1,g1,g2,rfl]:=xN e;refine q ok g1 λH1 x f1 s1 r1 _=>?_
 ext r1<;>ext g2
 apply#[_,rfl,k H1 _ [] s1 (.int _) .nil]
def abc(hm:X.mg x=some (.int n tk))(hg:GD X x:=by apply#[rfl,by decide]):FP X (.Name x pos) (eC (.int n)):=
 #[_,UL hg.1 hm (v:=.int n) #[_,rfl] hg.2,@λ_ _ _ _ _ _ H _ _ _ _ e q=>by ext e;apply q H _ _ (aH.refl H) (.int n) .nil]
def J5(o o':D->D->Option D)(fa fb fc:EF):EF:=λY=>match fa Y,fb Y with
 |some (d1,_),some (d2,_)=>match o d1 d2 with
  |some (.bl true)=>match fc Y with
   |some (d3,_)=>(o' d2 d3).map λd=>(d,.own)
   |none=>none
  |some (.bl false)=>some (.bl false,.own)
  |_=>none
 |_,_=>none
def abC(ho:dO X (compareOp op) r)(lY:dO X (compareOp z9) r')(dd:gR X.K r o)(uZ:gR X.K r' o')(ha:FP X a fa)(hb:FP X b fb)(hc:FP X c fc)(hm:lastMarks [op,z9] [b,c]=false:=by with_unfolding_all rfl):
  FP X (.Compare a [op,z9] [b,c] pos) (J5 o o' fa fb fc):=by
 let#[ta,pa,sa]:=ha;let#[tb,pb,sb]:=hb;let#[tc,pc,sc]:=hc;exists 21,agt ho lY pa pb pc hm;unfold J5 at e
 split at e
 .rename_i d1 t1 d2 t2 e1 e2;refine sa ok e1 λH1 x f1 s1 r1 _=>?_
  refine sb (ok.same s1) e2 λH2 y f2 s2 r2 _=>?_
  exists h,o d1 d2,w,e,0;refine dd H2 x y d1 d2 f1 f2 w _ (r1.same s2) r2 h λH3 u s3 r3=>?_
  rw[h] at e;ext w<;>try (ext e;done)
  rename_i b';ext r3;refine#[b',rfl,?_];cases b' with
  |false=>
   ext e;rw[abM abm];apply k H3 _ [] ((s1.trans s2).trans s3) (.bl false) .nil
  |true=>
   rw[if_pos rfl];dsimp only at e;exists h3,fc Y,w3,e,0;let#[d3,t3]:=w3;rw[h3] at e;dsimp only at e;cases h4:o' d2 d3 with
   |none=>rw[h4] at e;ext e
   |some d4=>
    rw[h4] at e;ext e;refine sc (((ok.same s1).same s2).same s3) h3 λH4 w' f4 s4 r4 _=>?_
    apply uZ H4 y w' d2 d3 f2 f4 d Q ((r2.same s3).same s4) r4 h4 λH5 v5 s5 r5=>k H5 v5 [] ((((s1.trans s2).trans s3).trans s4).trans s5) r5 .nil
 .cases e
def aa4(ha:FP X a fa)(hb:FP X b fb)(hc:FP X c fc)(hm:lastMarks [.LtE,.LtE] [b,c]=false:=by with_unfolding_all rfl):FP X (.Compare a [.LtE,.LtE] [b,c] pos) (J5 oLe oLe fa fb fc):=abC EA EA uh uh ha hb hc hm
def qY(neg:Bool):D->D->Option D:=λkd dd=>match dd with
 |.cG es=>(iZ kd).map λk=>.bl (if neg=true then !(bu es k).isSome else(bu es k).isSome)
 |_=>none
def O0(neg:Bool):R2:=λy x H Q=>∃a o,x=.ref a/\iG H a y o/\Q (.bl (if neg=true then !o.isSome else o.isSome)) H
def GV{K:Fr}:gR K (O0 neg) (qY neg):=by
 intro H y x d1 d2 f1 f2 d Q r1 r2 e k;cases r2 with
 | @cG a ak es fp h hk rs=>
  have e:((iZ d1).map λk=>D.bl (if neg=true then !(bu es k).isSome else(bu es k).isSome))=some d:=e;exists yC,iZ d1,key,e;ext e;have ek:=r1.key yC;subst ek;have ev:(eT ak key).isSome=(bu es key).isSome:=by
   let#[h1,h2]:=qZ hk rs;cases hv:bu es key with
   |none=>rw[h2 hv];rfl
   |some dv=>let#[v,f,jN,_]:=h1 dv hv;rw[jN];rfl
  refine#[a,eT ak key,rfl,iG.k h,?_];rw[ev];exact k H _ (aH.refl H) (.bl _)
 |_=>ext e
def adp(hu:X.A.units+1<cLine)(ha:FP X a fa)(hb:FP X b fb)(hm:behindInMarks .In b=false:=by rfl):FP X (.Compare a [.In] [b] pos) (e2 (qY false) fa fb):=
 fp_2 GV ha hb λta tb pa pb=>S2 (Ub hu pa pb) hm
def MO(hu:X.A.units+1<cLine)(ha:FP X a fa)(hb:FP X b fb)(hm:behindInMarks .In b=false:=by rfl):FT X (.Compare a [.In] [b] pos) (tV (e2 (qY false) fa fb)):=by
 let#[ta,pa,sa]:=ha;let#[tb,pb,sb]:=hb;exists 22,ahV (t:=qQ (O0 false) ta tb) (Ub hu pa pb) hm;let#[tg,e0]:=FD e;let#[d1,t1,d2,t2,e1,i_,e3,rfl]:=sy e0;refine sa ok e1 λH1 x f1 s1 r1 _=>?_
 refine sb (ok.same s1) i_ λH2 y f2 s2 r2 _=>?_
 refine GV H2 x y d1 d2 f1 f2 _ _ (r1.same s2) r2 e3 λH3 v s3 r3=>?_
 ext r3;apply#[c,rfl,k H3 ((s1.trans s2).trans s3)]
def BR(f:EF):SF:=λY=>(f Y).map λ_=>.nx Y
def Z8(he:FP X a fa)(iK:swapsWith a none pos.line X.env=pure false:=by rfl):eB X (.Expr a pos) (BR fa):=by
 let#[t,p,q]:=he;exists 23,vd p iK;unfold BR at e;cases h:fa Y with
 |none=>rw[h] at e;ext e
 |some w=>
  let#[d,tg]:=w;rw[h] at e;ext e;apply q ok h λH1 v fp s1 r1 _=>k z U H1 (ok.same s1) (.refl _ _)
def qS(cn:Str):Option Slot->Option (List (Str×D))
 |some (some (.ins c es,.own))=>if c=cn then some es else none
 |_=>none
def xH:∀{x} {es},qS cn x=some es->x=some (some (.ins cn es,.own)):=by
 rintro(_|_|⟨d,t⟩) es e
 any_goals ext e
 ext d
 any_goals ext e
 ext t
 any_goals ext e
 apply(adB.mp e).elim λa b=>by ext a;ext b;rfl
def BB:D->Option (List D)
 |.lst ds=>some ds
 |_=>none
def Gj:∀{d} {ds},BB d=some ds->d=.lst ds:=by
 rintro(_|_) ds e
 all_goals ext e
 rfl
def JU(i:Nat)(cn f:Str)(fv:EF):SF:=λY=>(fv Y).bind λp=>(qS cn Y[i]?).bind λes=>((es.lookup f).bind BB).bind λds=>
 if(aA p.1&&aK ds&&decide (ds.length<sizeLine))=true then some (.nx (bU Y i (.ins cn (eK f (.lst (ds++[p.1])) es)))) else none
def AL(i:Nat)(hC:ClsAt X.K cn C)(na:iQ X.K C f)(hv:FP X a fv)(va:VA X i x:=by walk_at "va")(hs:Y1 X a:=by rfl)
  (hb:attributeBase (.Name x p) f X.env (eval (.Name x p) X.env)=eval (.Name x p) X.env:=by rfl)
  (jb:attributeBase (.Attribute (.Name x p) f p1) "append" X.env (eval (.Attribute (.Name x p) f p1) X.env)=eval (.Attribute (.Name x p) f p1) X.env:=by rfl)
  (kq:((backTo p3 (starEach [a] X.env)).all (λx=>!x.1)&&(backToKw p3 (keywordEach [] X.env)).all (λx=>x.1.isSome)&&decide ([a].length+([]:List Keyword).length+(if([]:List Keyword).isEmpty then 0 else 1)<30))=true:=by rfl)
  (jl:(p2.endLine==p3.line)=true:=by rfl) (iK:swapsWith (.Call (.Attribute (.Attribute (.Name x p) f p1) "append" p2) [a] [] p3) none pos.line X.env=pure false:=by rfl) :
  eB X (.Expr (.Call (.Attribute (.Attribute (.Name x p) f p1) "append" p2) [a] [] p3) pos) (JU i cn f fv):=by
 let#[tv,kR,sv]:=hv;exists 25,vd (vD PySem.F.plainAttrs_list PySem.F.slot_list_append PySem.F.type_list_append Eb (n_ va.pe hb) (dg kR e_ hs) jb kq jl hs rfl) iK;let#[#[d,td],g1,e]:=aa5.mp e;let#[es,g2,e]:=aa5.mp e;let#[ds,hl,e]:=aa5.mp e;let#[_,hl,h]:=aa5.mp hl;obtain rfl:=Gj h;have g2:=xH g2;let#[hc,e]:=adB.mp e;ext e;let#[c1,c3]:=(aaM _ _).mp hc;let#[c1,c2]:=(aaM _ _).mp c1;let#[xv,fp,c8,r,zz]:=ok.sl i _ _ g2;refine#[xv,c8,?_];let#[b0,dx,fs,u,gf,rfl,h1,h2,h3,h4,h5,h6]:=r.place hC.ns zz.1 hl;refine#[b0,C,dx,fs,u,rfl,h1,hC.cl,na,h2,?_];let#[l,xs,f0,rfl,hq,_,_]:=h3.d9;refine#[.inl #[rfl,_,hq],?_];refine sv ok g1 λH1 v fd s1 rv gv=>?_
 have hn:=rv.aA c1;subst hn;generalize hw:(V.ref l)=w at h3 h6;cases h3 with
 | @lst a' ys _ f' h rs=>
  ext hw;have hn:=rs.aA c2;subst hn;have ze:=s1 _ _ h;refine#[_,ys,v,rfl,rfl,ze,by rw[<- rs.length];apply abl c3,?_];have im:aW H1 (upd H1 l (.lst (ys++[v]))):=aW.upd ze rfl;let#[bI,k1,k2,k3]:=h6 (upd H1 l (.lst (ys++[v]))) (.lst (ds++[d])) [l] ((aW.of s1).trans im) (λc o n e=>by rw[aJ λq=>n (by rw[q];apply aav)];apply s1 c o e)
   (.lst bP (aD.append ((rs.same s1).frame (λa m=>nomatch m) im) (aD.cons (rv.frame (λa m=>nomatch m) im) .nil))) h4 (λc m=>.inl m)
  let#[z',aT]:=ok.put g2 c8 zz ((aW.of s1).trans im) (λc o n e=>by rw[aJ λq=>n (by rw[q];apply h5 l aav)];apply s1 c o e) k1 k2 k3;apply q z' U _ aT (.refl _ _)
def aD.VW{K:Fr}{H:Hp}:∀{ds:List D}{xs:List V},aD K H ds xs []->aD K H ds.dropLast xs.dropLast []:=λ{ds xs} r=>by
 rw[List.dropLast_eq_take,List.dropLast_eq_take,<- r.length];apply r.vE _
def El(fo fv:EF):SF:=λY=>match fo Y,fv Y with
 |some (.lst ds,.own),some _=>if ds.length<sizeLine then some (.nx Y) else none
 |_,_=>none
def aiT(ho:FP X o fo)(hv:FP X a fv)(hs:Y1 X a:=by rfl)
  (jb:attributeBase o "append" X.env (eval o X.env)=eval o X.env:=by rfl)
  (kq:((backTo p3 (starEach [a] X.env)).all (λx=>!x.1)&&(backToKw p3 (keywordEach [] X.env)).all (λx=>x.1.isSome)&&decide ([a].length+([]:List Keyword).length+(if([]:List Keyword).isEmpty then 0 else 1)<30))=true:=by rfl)
  (jl:(p2.endLine==p3.line)=true:=by rfl) (iK:swapsWith (.Call (.Attribute o "append" p2) [a] [] p3) none pos.line X.env=pure false:=by rfl) :
  eB X (.Expr (.Call (.Attribute o "append" p2) [a] [] p3) pos) (El fo fv):=by
 let#[to,po,so]:=ho;let#[tv,kR,sv]:=hv;refine#[_,vd (vD PySem.F.plainAttrs_list PySem.F.slot_list_append PySem.F.type_list_append Eb po (dg kR e_ hs) jb kq jl hs rfl) iK,@λH0 S z aq Y U H E oo ok e q=>?_];unfold El at e
 split at e
 .rename_i ds w g1 g2
  by_cases hc:ds.length<sizeLine
  .rw[if_pos hc] at e;ext e;refine so ok g1 λH1 v f1 s1 r1 t1=>?_
   let#[l,xs,f,rfl,hq,_,_]:=r1.d9;refine#[.inl #[rfl,_,hq],?_];refine sv (ok.same s1) g2 λH2 y fd s2 rv gv=>?_
   generalize hw:(V.ref l)=u at r1;cases r1 with
   | @lst a' ys _ f' h rs=>
    ext hw;refine#[_,ys,y,rfl,rfl,s2 _ _ h,by rw[<- rs.length];apply hc,?_];have nl:H l=none:=t1.2 l aav;have s3:aH H (upd H2 l (.lst (ys++[y]))):=λc o e=>by rw[aJ (cU e nl)];apply s2 _ _ (s1 _ _ e)
    apply q z U _ (ok.same s3) (.refl _ _)
  .rw[abM hc] at e;ext e
 .cases e
end L2.Ev
namespace L2
open PySem PySem.Spec PyProof.Rows
def aeV:V->List V->Hp->VK->Prop:=λx vs H Q=>∃(l:Addr) (ns:List Int) (n:Int),x=.ref l/\vs=[.int n]/\H l=some (.lst (ns.map V.int))/\n∈ns/\Q .aC (upd H l (.lst ((ns.erase n).map V.int)))
def Xe(n:Int):Value->Bool
 |.int a _=>a==n
 |_=>false
def Fw{ns:List Int}(r:aS (ns.map V.int) us)(h:m<us.length)(h2:m<ns.length):∃t,us[m]=.int ns[m] t:=by
 let#[u,hu,ru]:=r.get (by rw[acy,aa1 h2];rfl);rw[aa1 h] at hu;let#[t,rt]:=ru;apply#[t,by rw[<- rt];apply acB hu]
theorem Nf:∀{ns:List Int} {n} {m} (h:m<ns.idxOf n) (h2),ns[m]≠n
 |[],_,_,_,h2=>absurd h2 (Nat.not_lt_zero _)
 |a::ns,n,m,h,h2=>by
  rw[List.idxOf_cons] at h
  by_cases ha:(a==n)=true
  .rw[ha] at h;apply absurd h (Nat.not_lt_zero _)
  .have ha:(a==n)=false:=by simpa using ha
   rw[ha] at h;cases m with
   |zero=>apply adY.mp ha
   |succ m=>apply Nf (Nat.lt_of_succ_lt_succ h) (Nat.lt_of_succ_lt_succ h2)
def XJ{l:List α}:(l.map f).eraseIdx k=(l.eraseIdx k).map f:=by
 rw[List.eraseIdx_eq_take_drop_succ,List.eraseIdx_eq_take_drop_succ,adk,List.map_take,List.map_drop]
def XH:JT X "list.remove" aeV:=by
 intro af s U H x vs v us Q I rx rv h;let#[l,ns,n,rfl,rfl,hH,hn,q]:=h;ext rx;let#[u,rfl,ru]:=rv.one;let#[t,rfl]:=ru;let#[z,av,nn,r,hl,e]:=I.x8 hH;have hi:ns.idxOf n<ns.length:=List.idxOf_lt_length_of_mem hn;rw[List.length_map] at hl z;have hj:ns.idxOf n<av.toArray.size:=by rw[ab9];lia
 refine call_meets F.slot_list_remove #[_,e,rfl] F.entry_list_remove (F.args_list_remove_2 _ _)
  (MeetsSeq.list_remove l av.toArray nn (.int n t) (Xe n) (λy my=>?_) (ns.idxOf n) hj ?_ (λm hm h2=>?_) (by rw[ab9];lia)) #[e,?_]
 .let#[m,hm,em]:=Array.mem_iff_getElem.mp my;rw[ab9] at hm;rw[List.getElem_toArray] at em;let#[t',et]:=Fw r hm (by lia);rw[<- em,et];apply MeetsSeq.EqGives.int _ _ _ _
 .rw[List.getElem_toArray];let#[t',et]:=Fw r (by lia) hi;rw[et];rw[List.getElem_idxOf hi];apply agf n
 .rw[List.getElem_toArray];rw[ab9] at hm;let#[t',et]:=Fw r hm (by lia);rw[et];apply adY.mpr (Nf h2 (by lia))
 .refine#[.aC,_,I.F3 (its':=av.eraseIdx (ns.idxOf n)) hH e ?_ ?_ ?_,rfl,q]
  .show av.toArray.eraseIdxIfInBounds _=(av.eraseIdx _).toArray;rw[List.eraseIdxIfInBounds_toArray]
  .rw[List.erase_eq_eraseIdx_of_idxOf rfl,<- XJ];apply r.eraseIdx _
  .rw[List.length_map];have:=List.length_erase_le (a:=n) (l:=ns)
   lia
end L2
namespace L2.Ev
open PySem PySem.Spec PyProof.Rows
def DI(env:Env):Str×NameKind->Str×NameKind:=λ(n,k)=>if(k==NameKind.free&&env.scope.kind == .function&&env.kindOf n==some .cell) then(n,NameKind.cell) else(n,k)
theorem Up:∀{names:List (Str×NameKind)} {x},(names.lookup x=some .cell\/names.lookup x=some .free)->(names.map (DI env)).lookup x=some .cell\/(names.map (DI env)).lookup x=some .free
 |[],_,h=>by simp at h
 |(n,k)::r,x,h=>by
  rw[aaG];have e:DI env (n,k)=(n,.cell)\/DI env (n,k)=(n,k):=by
   show(if(k==NameKind.free&&env.scope.kind == .function&&env.kindOf n==some .cell)=true then(n,NameKind.cell) else(n,k))=_\/(if(k==NameKind.free&&env.scope.kind == .function&&env.kindOf n==some .cell)=true then(n,NameKind.cell) else(n,k))=_
   split
   .exact .inl rfl
   .exact .inr rfl
  cases hx:x==n with
  |true=>
   simp only[aej,hx] at h;rcases e with e|e<;>rw[e]<;>simp only[aej,hx]
   .exact .inl trivial
   .exact h
  |false=>
   simp only[aej,hx] at h;have ih:=Up (env:=env) h;rcases e with e|e<;>rw[e]<;>simp only[aej,hx]<;>apply ih
def aa9(h:yy M0 RT sc M js=true):mD (eE X M0 RT s3 H3 fp) M js sc:=by
 unfold yy at h;let#[h,a6]:=(aaM _ _).mp h;let#[h,a5]:=(aaM _ _).mp h;let#[h,a4]:=(aaM _ _).mp h;let#[h,a3]:=(aaM _ _).mp h;let#[a1,a2]:=(aaM _ _).mp h;refine#[?_,λy hy=>?_,λy hy hl=>?_,a4,λx hx=>?_,abl a6]
 .cases hk:sc.kind<;>rw[hk] at a1<;>first|rfl|exact absurd a1 (by decide)
 .have:=ado.mp a2 y hy;intro z;rw[z] at this;apply absurd this (by decide)
 .have:=ado.mp a3 y hy;rw[hl] at this;have this:=this;cases q:sc.names.lookup y.1 with
  |none=>rw[q] at this;apply absurd this (by decide)
  |some k=>rw[q] at this;ext k<;>first|rfl|exact absurd this (by decide)
 .have:=ado.mp a5 x hx;refine Up ?_;cases q:RT.names.lookup x with
  |none=>rw[q] at this;apply absurd this (by decide)
  |some k=>rw[q] at this;ext k<;>first|exact .inl rfl|exact .inr rfl|exact absurd this (by decide)
def yT(i:Nat)(fv:EF):SF:=λY=>match fv Y,Y[i]? with
 |some (.int n,_),some (some (.lst ds,.own))=>match eV ds with
  |some ns=>if n∈ns then some (.nx (bU Y i (.lst ((ns.erase n).map D.int)))) else none
  |none=>none
 |_,_=>none
theorem UY:∀{ds} {ns},eV ds=some ns->ds=ns.map D.int
 |[],_,e=>by ext e;rfl
 |d::ds,ns,e=>by
  ext d<;>try (ext e;done)
  rename_i i;unfold eV at e;exists h,eV ds,r,e;ext e;rw[UY h];rfl
def aak(i:Nat)(hv:FP X a fv)(va:VA X i x:=by walk_at "va")(hs:Y1 X a:=by rfl)
  (jb:attributeBase (.Name x p1) "remove" X.env (eval (.Name x p1) X.env)=eval (.Name x p1) X.env:=by rfl)
  (kq:((backTo p3 (starEach [a] X.env)).all (λx=>!x.1)&&(backToKw p3 (keywordEach [] X.env)).all (λx=>x.1.isSome)&&decide ([a].length+([]:List Keyword).length+(if([]:List Keyword).isEmpty then 0 else 1)<30))=true:=by rfl)
  (jl:(p2.endLine==p3.line)=true:=by rfl) (iK:swapsWith (.Call (.Attribute (.Name x p1) "remove" p2) [a] [] p3) none pos.line X.env=pure false:=by rfl) :
  eB X (.Expr (.Call (.Attribute (.Name x p1) "remove" p2) [a] [] p3) pos) (yT i fv):=by
 let#[tv,kR,sv]:=hv;exists 25,vd (vD PySem.F.plainAttrs_list PySem.F.slot_list_remove PySem.F.type_list_remove XH va.pe (dg kR e_ hs) jb kq jl hs rfl) iK;unfold yT at e
 split at e
 .rename_i n td ds g1 g2;exists hI,eV ds,ns,e;dsimp only at e;let#[hc,e]:=ci e;ext e;have:=UY hI;subst this;let#[xv,fp,c8,r,zz]:=ok.sl i _ _ g2;refine#[xv,c8,?_];let#[l,xs,f,rfl,hq,_,_]:=r.d9;refine#[.inl #[rfl,_,hq],?_];refine sv ok g1 λH1 v fd s1 rv gv=>?_
  ext rv;have r':=r.same s1;have aV:=ok.same s1;generalize hw:(V.ref l)=w at r' c8;cases r' with
  | @lst a' ys _ f' h rs=>
   ext hw;have ey:=u9 rs hI;subst ey;have hn:=rs.aA (dW ns);subst hn;refine#[_,ns,n,rfl,rfl,h,hc,?_];have im:aW H1 (upd H1 l (.lst ((ns.erase n).map V.int))):=aW.upd h rfl;apply q z U _ (Ok.CW aV g2 c8 zz aav h rfl (.lst bP (zZ _))) (.refl _ _)
 .cases e
def qJ(fa fh:EF):EF:=λY=>match fa Y,fh Y with
 |some (.lst ds,_),some (.int i,_)=>if aK ds=true then some (.lst (cutD ds none (some i)),.own) else none
 |_,_=>none
def II(ha:FP X a fa)(hh:FP X b fh):FP X (.Subscript a (.Slice none (some b) none p2) pos) (qJ fa fh):=by
 let#[t,p,q]:=ha;let#[th,ph,qh]:=hh;exists 21,Er Ke p HA (EL ph);unfold qJ at e
 split at e
 .rename_i ds t1 i t2 e1 e2;let#[hi,e]:=ci e;ext e;refine q ok e1 λH1 x f1 s1 r1 _=>?_
  refine qh (ok.same s1) e2 λH2 y f2 s2 r2 _=>?_
  ext r2;refine#[i,rfl,?_];let#[w,xs,f,rfl,hq,rs,_]:=(r1.same s2).d9;have hn:=rs.aA hi;subst hn;refine#[w,xs,rfl,hq,λp hp=>?_];have s3:aH H2 (upd H2 p (.lst (iM xs none (some i)))):=λb o e=>by rw[aJ (cU e hp)];apply e
  have rr:aD X.K H2 (cutD ds none (some i)) (iM xs none (some i)) []:=by
   unfold cutD iM;rw[rs.length];apply aD.vE _ (aD.AA _ rs)
  refine k _ _ [p] ((s1.trans s2).trans s3) (.lst bP (rr.same s3)) #[acw.mpr #[(λm=>by ext m),acE],λa m=>?_];cases aa6.mp m;apply s1.free (s2.free hp)
 .cases e
def Xp(h:l.Nodup):(dh l).Pairwise (· < ·):=by
 have n:=(tS l).nodup_iff.mpr h;apply(List.Pairwise.and (GS l) n).imp λ⟨a,b⟩=>Int.lt_iff_le_and_ne.mpr #[a,b]
end L2.Ev
namespace L2
open PySem PySem.Spec PyProof.Rows
def acR(I:Inv X af U H s)(hN:X.N.Nodup)(hi:X.N[i]? = some n)(hk:X.env.scope.names.lookup n=some .local)
  (h:∀s',Inv X af (U.set i none) H s'->Q () s'):wpAny M A (do bindName X.env n .none;unbindBehindTheSuite X.env n pos) Q E s:=by
 let#[m,hn,hl]:=id I.loc;have yr:(X.env.scope.kind == .class||(X.env.scope.kind == .module&&X.env.locals != X.env.globals))=false:=by rw[I.ok.kind];rfl
 have jS:=I.jS;have lo:∀{b} {o},X.cQ.heap.get? b=some o->b≠X.env.locals:=λ{b o} e=>acO (acS (abG e) I.ok.above)
 refine wpAny_nameGoes_keeps hk hn yr λh' v G6 hs=>?_
 refine h _ #[I.ok,I.os,I.bare,#[λb o e n hb hx=>(hs.2 b (lo e)).trans (I.base.keep b o e n hb hx),λb o e n hb hx=>?_,I.base.free,λb o e hx=>?_,I.base.jy,I.base.i9,I.base.jT],#[_,G6,λj y v' e1 e2 e3=>?_],λy c e=>?_,I.free,I.g_,λp hp=>?_,
  I.aG.tracked λb u o hb q=>(hs.2 b λz=>by rw[z,I.free] at hb;ext hb).trans q,by simpa using I.len,I.hq]
 .let#[sl,e1]:=I.base.slot b o e n hb hx;apply#[sl,(hs.2 b (lo e)).trans e1]
 .let#[o',e1]:=I.base.there b o e hx;apply#[o',(hs.2 b (lo e)).trans e1]
 .have hj:j≠i:=λz=>by
   subst z;have cM:j<U.length:=by rw[I.len];apply(abq.mp hi).1
   rw[aed cM] at e2;ext e2
  rw[acN (afv hj)] at e2;let#[u',r',q]:=hl j y v' e1 e2 e3;refine#[u',r',?_];rcases q with⟨k,e⟩|⟨k,c,e,z⟩
  .refine .inl #[k,?_];have:y≠n:=λe=>hj (GU hN e1 (e ▸ hi))
   apply(abM this).trans e
  .exact .inr #[k,c,e,z.sameBut hs (jS y c e)]
 .let#[w',z]:=I.cell y c e;apply#[w',z.sameBut hs (jS y c e)]
 .let#[e,n,ne,nf,d]:=I.pin p hp;apply#[(hs.2 p.1 ne).trans e,n,ne,nf,d]
def yX(K:Fr)(C D:Addr):Prop:=∃N bm i N' uf i',vg K C N bm i/\vg K D N' uf i'/\uf.contains (.type "BaseException")=true/\(Value.ref C::bm).contains (.ref D)=true
def Y4(L:gJ X af U H a (.ref C) aR s)(cat:yX X.K C D)(hg:Gl X x)(hm:X.mg x=some (.ref D))(k:R (.ok .brk) s)(gI:(x==("__debug__":Str))=false:=by decide):
  codeAny (model X.prog X.w) (X.A.mark (some (.ref a))) (.handlers (.ref a) [.ExceptHandler (some (.Name x px)) none [] pos] X.env) R s:=by
 let#[_,_,_,_,_,_,#[hC],#[hD],hb,hc]:=cat;have I:=L.known.choose_spec.2.nN a L.known.choose_spec.1.hq;have KI:=L.inv.dQ;let#[oe,vs,a0,T,oT,ts,h1,h2,_]:=L.ob;refine codeAny_handlers_test (rV I hg hm ?_ gI);let#[hh,g,d,t,os]:=s;refine aiA (KI _ _ hC) (KI _ _ hD) h1 h2 hb ?_;rw[hc];apply k
def ae4(L:gJ X af U H a (.ref C) aR s)(hc:X.calm=true)(hx:X.ex=[])(dG:X.stack=X.env::X.outer)(hf:X.env.frame=some X.env.locals)(cat:yX X.K C D)(hg:Gl X x)(hm:X.mg x=some (.ref D))
  (hN:X.N.Nodup) (hi:X.N[i]? = some n) (hk:X.env.scope.names.lookup n=some .local)
  (h:∀s5 H5,uN H H5 a (.ref C) aR->Inv (X.nN a) af (U.set i (some (.ref a))) H5 s5->
   wpAny (model X.prog X.w) (X.A.mark (some (.ref a))) (execs (b0::Cg) X.env) (SP (X.nN a) af { nx:=λU H=>W.nx (U.set i none) H,rt:=W.rt,bk:=λU H=>W.bk (U.set i none) H,ct:=λU H=>W.ct (U.set i none) H }) (λ_ _=>False) s5)
  (gI:(x==("__debug__":Str))=false:=by decide) :
  w8 X X.A (noteFrame (.ref a) X.env) (λ_ s2=>w8 X X.A (setFlight (.ref a) none) (λ_ s3=>w8 X X.A (handleBy (.ref a) X.env [.ExceptHandler (some (.Name x px)) (some n) (b0::Cg) pos]) (SP X af W) X.xe s3) X.xe s2) X.xe s:=by
 refine L.agL hx dG hf λs3 L3=>wpAny_handleBy_cons (Y4 L3 cat hg hm ?_ gI) (λz=>nomatch z)
 refine codeAny_handlers_suite_as (L3.again hx λs4 L4=>?_);let#[H5,kn,I4]:=L4.known;have I4:=I4.nN a kn.hq;refine BH (X:=X.nN a) I4 hN hi (.inl hk) (show RelV (V.ref a) (Value.ref a) from rfl) (λs5 I5=>?_) (.inr hk);refine adI (h s5 H5 kn I5) (λf s6 q=>?_) λ_ _ z=>False.elim z
 have fin:∀{nQ} {H6}{Z:Shared->Prop},Inv (X.nN a) af nQ H6 s6->(∀s7,Inv X af (nQ.set i none) H6 s7->Z s7)->w8 X X.A (do bindName X.env n .none;unbindBehindTheSuite X.env n pos) (λ_ s7=>Z s7) X.xe s6:=λ{nQ H6 Z} I6 k=>
  acR (L4.inv.ac3 hc I6) hN hi hk k
 cases f with
 |next=>let#[nQ,H6,I6,q6]:=q;apply fin I6 λs7 I7=>#[_,H6,I7,q6]
 |brk=>let#[nQ,H6,I6,q6]:=q;apply fin I6 λs7 I7=>#[_,H6,I7,q6]
 |cont=>let#[nQ,H6,I6,q6]:=q;apply fin I6 λs7 I7=>#[_,H6,I7,q6]
 |ret u=>let#[v,nQ,H6,I6,r6,q6]:=q;apply fin I6 λs7 I7=>#[v,_,H6,I7,r6,q6]
open PySem PySem.Spec PySem.W PySem.Calls PyProof.Rows Builtin Builtin.ObjectAttr Builtin.Getset_descriptor
structure qo(K:Frag)(C:Addr):Prop where
 ga:findIn K (.ref C) "__getattribute__"=some (some (.builtin "BaseException.__getattribute__"))
 gh:findIn K (.ref C) "__getattr__"=some none
 at_:findIn K (.ref C) "__class__"=some (some (.builtin "object.__class__"))
 get:specialIn K (.builtin "object.__class__") "__get__"=some (some (.builtin "getset_descriptor.__get__"))
 tk:takesIn K (.builtin "object.__class__")=some true
 mo:mroIn K C (.type "object")=some true
 mb:mroIn K C (.type "BaseException")=some true
 cl:(clsIn K C).isSome=true
section
variable{s:Shared}{K:Frag}
def VV(X:K.In s.heap)(hx:s.heap.get? x=some ox)(hc:ox.cls=.ref C)(hm:mroIn K C (.type "object")=some true)
  (h:R (.ok (.ret (.ref C))) s):codeAny (model prog w) A (.call (.builtin "getset_descriptor.__get__") #[[.builtin "object.__class__",.ref x,tp],[]]) R s:=by
 let#[hh,g,dr,t,os]:=s;have L0:Looks (model prog w) hh (typeOf (.ref x)) (.ref C):=hc ▸ (Looks.ld hx).andThen .now;have L1:=looks_mroIn (M:=model prog w) X hm;refine codeAny_call_builtin KF.slot_gs.plain KF.entry_gs (KF.slot_gs.check _ _ _ _ _ _ _ _ KF.type_class (KF.args_gs _ _ _) ?_);unfold Builtin.«getset_descriptor.__get__» descrGet;rw[dga_obj];refine aaq (abP ?_);unfold descrGetter descrCheckInstance descrNameAndClass isInstance;simp only[KF.owner_class]
 repeat lk
 refine#[Code.quiet_builtin _ (by decide +kernel),agR KF.entry_class ?_];unfold Builtin.«object.__class__» shownTypeOf
 repeat lk
 apply h
def X7(X:K.In s.heap)(k:qo K C):Looks (model prog w) s.heap (find (.ref x) (.ref C) "__class__") (.bind (.builtin "getset_descriptor.__get__") (.builtin "object.__class__")):=by
 have L1:=looks_findIn (M:=model prog w) X k.at_;have L2:Looks (model prog w) s.heap (getOf (some (.builtin "object.__class__"))) (some (.builtin "getset_descriptor.__get__")):=looks_specialIn X k.get;have L3:=looks_takesIn (M:=model prog w) X k.tk;apply L1.andThen (L2.andThen ((show Looks (model prog w) s.heap (dataDescriptor? (some (.builtin "object.__class__")) (some (.builtin "getset_descriptor.__get__"))) (some (.builtin "getset_descriptor.__get__",.builtin "object.__class__")) from L3.andThen .now).andThen (Looks.tag .now)))
def WK(X:K.In s.heap)(k:qo K C)(hx:s.heap.get? x=some ox)(hc:ox.cls=.ref C)(hq:Q () s):wpAny M A (checkBuiltinCall "BaseException.__getattribute__" #[[.ref x,aah],[]]) Q E s:=by
 let#[hh,g,dr,t,os]:=s;have hk:builtinKind "BaseException.__getattribute__"=some .slot:=by decide +kernel
 have ajk:splitId "BaseException.__getattribute__"=some ("BaseException","__getattribute__"):=by decide +kernel
 have L0:Looks M hh (typeOf (.ref x)) (.ref C):=hc ▸ (Looks.ld hx).andThen .now;have L1:=looks_mroIn (M:=M) X k.mb;have LI:Looks M hh (isInstance (.ref x) (.type "BaseException")) true:=L0.andThen L1;have ha:=F.args_bexc_ga (.ref x) aah;simp only[checkBuiltinCall,hk,ajk];refine aaq (LI.at ?_)
 repeat (first|assumption|wp_step)
def afQ(X:K.In s.heap)(k:qo K C)(hx:s.heap.get? x=some ox)(hc:ox.cls=.ref C)(hq:Q (.done (.ret (.ref C))) s):
  wpAny (model prog w) A (Builtin.«object.__getattribute__» #[[.ref x,.str "__class__" tk],[]]) Q E s:=by
 let#[hh,g,dr,t,os]:=s;have L0:Looks (model prog w) hh (typeOf (.ref x)) (.ref C):=hc ▸ (Looks.ld hx).andThen .now;have L1:=X7 (prog:=prog) (w:=w) (x:=x) X k;refine aaq (abP (aaq (abP (aaq (L0.at (aaq (L1.at ?_)))))));apply aaq (ae1 (wpAny_call (VV X hx hc k.mo (abP hq))))
def XW(X:K.In s.heap)(k:qo K C)(hx:s.heap.get? x=some ox)(hc:ox.cls=.ref C)(h:Q (some (.ref C)) { s with toks:=s.toks+1 }):wpAny (model prog w) A (getAttr? (.ref x) "__class__") Q E s:=by
 let#[hh,g,dr,t,os]:=s;have L0:Looks (model prog w) hh (typeOf (.ref x)) (.ref C):=hc ▸ (Looks.ld hx).andThen .now;have L1:=looks_findIn (M:=model prog w) X k.ga;have L2:=looks_findIn (M:=model prog w) X k.gh;have f3:=F.attr_ValueError.ga.bind (.ref x);have hx0:(false&&onTheHeap (Value.builtin "BaseException.__getattribute__"))=false:=rfl;have zY:(Value.builtin "BaseException.__getattribute__" == Value.builtin "object.__getattribute__")=false:=by decide +kernel
 have hx1:(onTheHeap (Value.ref C)&&Value.builtin "BaseException.__getattribute__" == Value.builtin "object.__getattribute__")=false:=by rw[zY];rfl
 unfold getAttr? getAttrBy? getAttrBy;refine aaq (wpAny_mkText (aaq (wpAny_attempt (ae1 (aaq (L0.at (aaq (L1.at ?_))))))));dsimp only;rw[abM (by rw[hx1];decide)];unfold getAttrByItsOwn hookBefore;refine aaq ?_;rw[if_pos (show onTheHeap (Value.ref C)=true from rfl)];refine L2.at ?_;refine aaq (wpAny_attempt (ae1 ?_));unfold callGetattribute;rw[abM (by rw[hx0];decide)];unfold boundAndCalled;rw[f3];refine aaq (abP (wpAny_call ?_));refine codeAny_call_builtin F.attr_ValueError.ga.plain F.entry_bexc_ga (WK X k hx hc (afQ X k hx hc ?_));apply abP (abP h)
end
def afh{K:Frag}(k:qo K C):KitX K (.ref x) (.ref C) (λh=>∃o,h.get? x=some o/\o.cls=.ref C) where
 ty:=λ_ _ _ #[o,h1,h2]=>h2 ▸ (Looks.ld h1).andThen .now
 it:=λ_ _ X _=>by
  let#[cd,gZ]:=afW.mp k.cl;unfold clsIn at gZ
  split at gZ
  .rename_i c' d' cd' qE ho;intro A' Q' E' s' k q;unfold isType loadHead;apply aaq (wpAny_loadPart (k _ _ (X _ _ ho)) (abP q))
  .cases gZ
 ne:=λh tp dd av n sl X htp=>by
  let#[cd,gZ]:=afW.mp k.cl;refine agJ.mpr λq=>?_
  have e:=Value.ref.inj (ahb.mp q);subst e;unfold clsIn at gZ
  split at gZ
  .rename_i c' d' cd' qE ho;have z:=(X _ _ ho).symm.trans htp;ext z
  .cases gZ
 ca:=λX #[o,h1,h2] q=>XW X k h1 h2 q
def agI:ie X (.builtin "isinstance") (λxs H Q=>∃a C c cv b de ob,xs=[V.ref a,c]/\(∀u,RelV c u->u=cv)/\H a=some (yh ob a (.ref C) de)/\qo X.K C/\kitOne X.K (.ref C) cv=some b/\Q (.bl b) H):=by
 exists 43;let#[a,C,c,cv,bb,de,ob,rfl,hc,ha,k,e,q]:=h;let#[u,w',rfl,ru,fM]:=vals2 r;obtain rfl:=hc w' fM;cases(show u=Value.ref a from ru);apply kia_one (afh k) I.dQ (Zx I.aG ha) e (λz=>nomatch z) λtk=>#[.bl bb,H,I.tok tk,rfl,q]
def adE(hg:Gl X x)(hm:X.mg x=some (.ref C))(gI:(x==("__debug__":Str))=false:=by decide):PE X (.Name x pos) (λ_ H Q=>Q (.ref C) H):=λaf s U H Q I h=>rV I hg hm #[V.ref C,H,I,(rfl:Value.ref C=Value.ref C),h] gI
end L2
namespace L2.Ev
open PySem PySem.Spec PyProof.Rows
def wk(X:Cx)(st:Stmt):TS:=λW U H=>∀(af) (s),Inv X af U H s->w8 X X.A (exec st X.env) (SP X af W) X.xe s
def zW{st:Stmt}:PS X st (wk X st):=λaf s _ _ _ I h=>h af s I
def Ck(cn:Str)(g:AF):SF:=λY=>match g Y with
 |some _=>some (.er true (cn,none) Y)
 |none=>none
def af9(hc:X.calm=true)(cl:Dm X.K C)(hn:PySem.W.nsIn X.K mainGlobals cn=some (some (.ref C)))(hm:X.mg x=some (.ref C))(ha:FA X (e::es) g)(hl:(e::es).length<=1000:=by decide)(hx:X.ex=[]:=by rfl)(hg:GD X x:=by apply#[rfl,by decide])
  (he:SE X e es fH:=by apply#[rfl,rfl]):eB X (.Raise (some (.Call (.Name x np) (e::es) [] fH)) none pos) (Ck cn g):=by
 let#[t,pa,hz,qa]:=ha;refine#[_,zW,@λH0 S z aq Y U H E o ok e0 k=>?_];unfold Ck at e0;cases h1:g Y with
 |none=>rw[h1] at e0;ext e0
 |some qs=>
  rw[h1] at e0;ext e0;let#[ES,th,kk]:=k;intro af s I;refine abo hc hx th cl hg.1 hm pa hg.2 he.1 he.2 af s U H E I ?_;refine qa ok h1 λH1 vs fp s1 r1 _=>#[?_,kk z U H1 C (ok.same s1) (.refl _ _) hn]
  rw[<- r1.length,List.length_map,hz Y qs h1];apply afR (A3 hl)
inductive ER where
 |ok (d:D) (Y:aL)|er (cn:XN) (Y:aL)
def V5(X:Cx)(H0:Hp)(S:List Addr)(aq:List qv)(U:St)(Q:VK)(E:XK):ER->Prop
 |.ok d Y=>∀z H1 H' v fp,Ok X.K H0 S z aq Y U H1->aH H1 H'->Rep X.K H' d v fp->cR z H1 .own fp->Q v H'
 |.er cn Y=>∀z H' C,Ok X.K H0 S z aq Y U H'->PySem.W.nsIn X.K mainGlobals cn.1=some (some (.ref C))->E (.ref C) cn.2 H'
abbrev XR:=aL->Option ER
def FE(X:Cx)(e:Expr)(f:XR):Prop:=∃t,PX X e t/\∀{H0} {S} {z} {aq} {Y} {U} {H} {Q} {E} {r},
 Ok X.K H0 S z aq Y U H->f Y=some r->V5 X H0 S aq U Q E r->t U H Q E
def Fi:qO X (λ_ _ _ _=>False):=λ_ _ _ _ _ _ _ _ z=>z.elim
def Az(i:Nat)(f:XR):SF:=λY=>match f Y with
 |some (.ok d Y')=>some (.nx (iE Y' i d .own))
 |some (.er cn Y')=>some (.er false cn Y')
 |none=>none
def Gm(f:XR):SF:=λY=>match f Y with
 |some (.ok d Y')=>some (.nx Y')
 |some (.er cn Y')=>some (.er false cn Y')
 |none=>none
def D4(f:XR):SF:=λY=>match f Y with
 |some (.ok d Y')=>some (.rt d)
 |some (.er cn Y')=>some (.er false cn Y')
 |none=>none
def DW(i:Nat)(he:FE X e f)(hN:X.N.Nodup)(hi:X.N[i]? = some x:=by rfl)(hx:Loc X.env.scope x:=by first|exact Or.inl rfl|exact Or.inr rfl)
  (hs:swapsWith e (some (.Name x pos')) pos.line X.env=pure false:=by rfl) (hf:j7 X x:=by first|exact .inl rfl|exact .inr rfl) (lK:kr X x=false:=by rfl):eB X (.Assign [.Name x pos'] e pos) (Az i f):=by
 let#[t,p,q]:=he;exists 23,zW;unfold Az at e;cases h:f Y with
 |none=>rw[h] at e;ext e
 |some r=>
  rw[h] at e;intro af s I;cases r with
  |ok d aO=>
   ext e;refine Sm Fi hN hi hx p hs hf af s U H E I ?_;apply q ok h λz1 H1 H2 v fp aV s1 r1 g1=>aV.stored s1 r1 g1 λz' aT=>k z' _ H2 aT (.set hi lK)
  |er cn aO=>
   ext e;let#[ES,th,kk]:=k;refine Sm th hN hi hx p hs hf af s U H E I ?_;apply q ok h λz1 H1 C aV hC=>kk z1 U H1 C aV (.refl _ _) hC
def aaF(he:FE X e f)(hs:swapsWith e none pos.line X.env=pure false:=by rfl):eB X (.Expr e pos) (Gm f):=by
 let#[t,p,q]:=he;exists 23,zW;unfold Gm at e;cases h:f Y with
 |none=>rw[h] at e;ext e
 |some r=>
  rw[h] at e;intro af s I;cases r with
  |ok d aO=>
   ext e;refine SJ Fi p hs af s U H E I ?_;apply q ok h λz1 H1 H2 v fp aV s1 r1 g1=>k z1 U H2 (aV.same s1) (.refl _ _)
  |er cn aO=>
   ext e;let#[ES,th,kk]:=k;refine SJ th p hs af s U H E I ?_;apply q ok h λz1 H1 C aV hC=>kk z1 U H1 C aV (.refl _ _) hC
def ZU(he:FE X e f):eB X (.Return (some e) pos) (D4 f):=by
 let#[t,p,q]:=he;exists 23,zW;unfold D4 at e;cases h:f Y with
 |none=>rw[h] at e;ext e
 |some r=>
  rw[h] at e;intro af s I;cases r with
  |ok d aO=>
   ext e;refine Ox Fi p af s U H E I ?_;refine q ok h λz1 H1 H2 v fp aV s1 r1 g1=>k H2 v fp (λa o e n=>s1 _ _ (aV.en a o e n)) r1 g1.1 λa m=>?_
   cases h0:H0 a with
   |none=>apply .inl rfl
   |some o=>
    by_cases hs:a∈S
    .exact .inr hs
    .have w:=aV.en a o h0 hs;rw[g1.2 a m] at w;ext w
  |er cn aO=>
   ext e;let#[ES,th,kk]:=k;refine Ox th p af s U H E I ?_;apply q ok h λz1 H1 C aV hC=>kk z1 U H1 C aV (.refl _ _) hC
def abW{K:Fr}(hC:PySem.W.nsIn K mainGlobals cn.1=some (some (.ref C)))(k:uN H H' a (.ref C) cn.2):Rep K H' (.exc cn) (.ref a) []:=by
 let#[c,aR]:=cn;let#[ob,vs,_,_,k]:=k;cases aR with
 |none=>ext k;apply .exc hC bP λ_ e=>by ext e
 |some n=>let#[dx,ne,_,rfl]:=k;apply .exc hC bP λm e=>by ext e;apply#[dx,rfl,by rw[aJ ne,bP]]
def Ok.unset{K:Fr}(ok:Ok K H0 S z aq Y U H)(i:Nat):Ok K H0 S z aq (Y.set i none) (U.set i none) H:=by
 have at_:∀{j} {w},(Y.set i none)[j]? = some (some w)->j≠i/\Y[j]? = some (some w):=λ{j w} e=>by
  have hj:j≠i:=λq=>by
   subst q
   by_cases hl:j<Y.length
   .rw[aed hl] at e;ext e
   .rw[ajb (by rw[ag3];apply Nat.le_of_not_lt hl)] at e;ext e
  apply#[hj,by rw[acN (afv hj)] at e;apply e]
 refine#[λj d t e=>?_,λp m=>?_,ok.zd,ok.en,by rw[ag3,ag3];apply ok.ln]
 .let#[hj,e]:=at_ e;let#[v,fp,a,b,c]:=ok.sl j d t e;apply#[v,fp,by rw[acN (afv hj)];apply a,b,c]
 .let#[r,h]:=ok.hl p m;apply#[r,λa ha j q=>let#[h1,h2]:=h a ha j q;#[h1,λd e=>h2 d (at_ e).2]]
inductive Rz where
 |ok (d:D)|er (cn:XN)
def lJ(K:Fr)(F:List D->Option Rz):Sp:=λvs H Q E=>∃ds fp r,aD K H ds vs fp/\F ds=some r/\match r with
 |.ok d=>∀H' v gC,aH H H'->Rep K H' d v gC->gC.Nodup->(∀a∈gC,H a=none)->Q v H'
 |.er cn=>∀H' C,aH H H'->PySem.W.nsIn K mainGlobals cn.1=some (some (.ref C))->E (.ref C) cn.2 H'
def lC(n N:Nat)(b:SF):List D->Option Rz:=λds=>if ds.length=n then(match b (tu N ds) with
 |some (.rt d)=>some (.ok d)
 |some (.nx _)=>some (.ok .aC)
 |some (.er _ cn _)=>some (.er cn)
 |_=>none) else none
section
variable{K:Fr}
def abr{x qual:Str}{st:Stmt}{f:Addr}{fd:FuncData}{N ps:List Str}{k:Nat}{b:SF}(F:jw K x qual st f fd)(S:qj N ps (cE st))(uF:ps.length<=N.length)
  (hb:∀(aQ) (A) (outer) (s) (H) (E),aZ k (A.deeper (envOfC qual (cE st) s.heap.objs.size f aQ))->FS (fU (gY P w) P w K mg base N qual (cE st) f aQ A outer s H E) (gS st) b) :
  cg P w K mg base (gY P w) (k+1) f fd ps (lJ K (lC ps.length N.length b)):=by
 have oE:∀{ds} {r},lC ps.length N.length b ds=some r->ds.length=ps.length:=λ{ds d} e=>by
  unfold lC at e
  by_cases h:ds.length=ps.length
  .exact h
  .rw[abM h] at e;ext e
 let#[oc,od,kV,doc,pm,an,aQ,ct,qP,rfl,lk,gZ]:=F.ex;refine MG lk gZ S (λvs H Q E #[ds,fp,r,rs,e,_]=>by rw[<- rs.length];apply oE e) λA outer s H vs Q E hr #[ds,fp,r,rs,e,q]=>?_
 let#[t,p,sd]:=hb aQ A outer s H E hr;refine#[t,p,?_];have hl:=oE e;let#[z,ok]:=Ok.n5 .nil .nil rs λ_ _ m=>nomatch m
 unfold lC at e;rw[if_pos hl] at e;cases ho:b (tu N.length ds) with
 |none=>rw[ho] at e;ext e
 |some o=>
  rw[ho] at e;refine sd ok ho ?_;cases o with
  |rt d'=>
   ext e;apply λH' v gC en r nd fr=>q H' v gC (λa o e=>en a o e (λm=>nomatch m)) r nd λa m=>(fr a m).resolve_right λm=>nomatch m
  |nx Y'=>
   ext e;apply λz' aF H' aT _=>q H' .aC [] (λa o e=>aT.en a o e (λm=>nomatch m)) .aC acE λa m=>nomatch m
  |bk _=>ext e
  |ct _=>ext e
  |er raw cn Y'=>
   ext e;cases raw with
   |true=>apply#[_,YA,λz' aF H' C aT _ hC=>q H' C (λa o e=>aT.en a o e (λm=>nomatch m)) hC]
   |false=>apply#[_,WJ,λz' aF H' C aT _ hC=>q H' C (λa o e=>aT.en a o e (λm=>nomatch m)) hC]
end
def Bk(F:List D->Option Rz)(g:AF):XR:=λY=>match g Y with
 |some ps=>match F (ps.map (·.1)) with
  |some (.ok d)=>some (.ok d Y)
  |some (.er cn)=>some (.er cn Y)
  |none=>none
 |none=>none
def aeM(GG:cg X.prog X.w X.K X.mg X.base (gY X.prog X.w) k f fd ps (lJ X.K F))(hr:aZ k X.A)(hm:X.mg x=some (.ref f))(hk:PySem.W.keepIn X.K (.ref f)=true)(hb:Binds X.K fd ps [])(ha:FA X.eY (e::es) g)
  (hx:X.ex=[]:=by rfl) (hg:GD X x:=by apply#[rfl,by decide])
  (he:SE X e es pos:=by apply#[rfl,rfl]):FE X (.Call (.Name x p) (e::es) [] pos) (Bk F g):=by
 let#[t,pa,_,sa]:=ha;refine#[_,Xd GG hr hx hg.1 hm hk hb .nil pa hg.2 he.1 he.2,@λH0 S z aq Y U H Q E r ok e0 q=>?_];unfold Bk at e0;cases h1:g Y with
 |none=>rw[h1] at e0;ext e0
 |some qs=>
  rw[h1] at e0;dsimp only at e0;cases h2:F (qs.map (·.1)) with
  |none=>rw[h2] at e0;ext e0
  |some r1=>
   rw[h2] at e0;refine sa ok h1 λH1 vs fp s1 r2 _=>?_
   rw[acL];cases r1 with
   |ok d=>
    ext e0;apply#[_,fp,_,r2,h2,λH2 v gC s2 r2 nd fr=>q z H1 H2 v gC (ok.same s1) s2 r2 #[nd,fr]]
   |er en=>
    ext e0;apply#[_,fp,_,r2,h2,λH2 C s2 hC=>q z H2 C ((ok.same s1).same s2) hC]
def LB(T:List (Str×Bool)):D->Option D
 |.exc cn=>(T.lookup cn.1).map .bl
 |_=>none
def Iw(K:Fr)(T:List (Str×Bool))(c:Value):Prop:=∀cn b C,T.lookup cn=some b->PySem.W.nsIn K mainGlobals cn=some (some (.ref C))->qo K C/\PySem.W.kitOne K (.ref C) c=some b
def afN{cv:Value}{c:V}{tc:TE}(hc:∀u,RelV c u->u=cv)(hT:Iw X.K T cv)(hm:X.mg "isinstance"=none)(ha:FP X a fa)(pc:PE X (.Name x p2) (λ_ H Q=>Q c H))(hg:Gl X "isinstance":=by rfl)
  (hs:starEach [a,.Name x p2] X.env=[(false,eval a X.env),(false,eval (.Name x p2) X.env)]:=by rfl) (hpl:(backTo pos (starEach [.Name x p2] X.env)).any (·.1)=false:=by rfl):FP X (.Call (.Name "isinstance" p) [a,.Name x p2] [] pos) (e1 (LB T) fa):=by
 let#[ta,pa,sa]:=ha;have eU:starEach [.Name x p2] X.env=[(false,eval (.Name x p2) X.env)]:=rfl;exists 21,qk agI hg hm (show bootBuiltins "isinstance"=some (.builtin "isinstance") by decide +kernel) (dg pa (dg pc e_) (by rw[hs,eU])) (he:=by rw[hs,eU]);let#[d1,t1,h1,h2,rfl]:=xN e;refine sa ok h1 λH1 v fp s1 r1 _=>?_
 unfold LB at h2
 split at h2
 .rename_i cn;cases hl:T.lookup cn.1 with
  |none=>rw[hl] at h2;ext h2
  |some b=>
   rw[hl] at h2;ext h2;cases r1 with
   | @exc _ a' C de ob hn ho _=>
    let#[kk,ke]:=hT cn.1 b C hl hn;apply#[a',C,c,cv,b,de,ob,rfl,hc,ho,kk,ke,k H1 _ [] s1 (.bl _) .nil]
 .cases h2
def V7{C:Addr}(hT:Iw X.K T (.ref C))(hm:X.mg "isinstance"=none)(Yw:X.mg x=some (.ref C))(ha:FP X a fa)(hg:Gl X "isinstance":=by rfl)(OE:GD X x:=by apply#[rfl,by decide])
  (hs:starEach [a,.Name x p2] X.env=[(false,eval a X.env),(false,eval (.Name x p2) X.env)]:=by rfl) (hpl:(backTo pos (starEach [.Name x p2] X.env)).any (·.1)=false:=by rfl):FP X (.Call (.Name "isinstance" p) [a,.Name x p2] [] pos) (e1 (LB T) fa):=
 afN (tc:=λ_ H Q=>Q (.ref C) H) (c:=.ref C) (λu r=>r) hT hm ha (adE OE.1 Yw OE.2) hg hs hpl
def kO:List D->Option (List Str)
 |[]=>some []
 |.str x::r=>(kO r).map λm=>x::m
 |_::_=>none
theorem yM{K:Fr}:∀{ds} {xs} {fp} {ys},aD K H ds xs fp->kO ds=some ys->xs=ys.map V.str
 |_,_,_,_,.nil,e=>by ext e;rfl
 |_,_,_,ys,.cons (d:=d) h t,e=>by
  cases d with
  |str x=>
   unfold kO at e;cases q:kO _ with
   |none=>rw[q] at e;ext e
   |some m=>
    rw[q] at e;ext e;ext h;rw[yM t q];rfl
  |_=>ext e
theorem PF:∀ys:List Str,kO (ys.map D.str)=some ys
 |[]=>rfl
 |y::ys=>by
  show(kO (ys.map D.str)).map (λm=>y::m)=_;rw[PF ys];rfl
theorem S7:∀{ys} {us},aS (ys.map V.str) us->StrsAre us ys
 |[],_,r=>by ext r;apply .nil
 |y::ys,_,r=>by
  cases r with
  |cons h t=>
   let#[tk,rfl]:=h;apply .cons y tk (S7 t)
def k8(k:Str)(ys:List Str):Nat:=ys.countP (· == k)
theorem count_eq(k:Str):∀ys:List Str,countIn (.str k) (ys.map PyData.str)=(k8 k ys:Int)
 |[]=>rfl
 |y::ys=>by
  rw[aaG,countIn,count_eq k ys];unfold k8;rw[List.countP_cons];have e:same (.str y) (.str k)=(y==k):=by simp[same]
  rw[e];cases h:(y==k)
  .simp
  .simp;omega
def agF(K:Fr):V->List V->Hp->VK->Prop:=λx vs H Q=>∃(l:Addr) (ys:List Str) (k:Str),x=.ref l/\vs=[.str k]/\cJ K H l (ys.map V.str)/\Q (.int (k8 k ys)) H
def ab3{X:Cx}:DU X "list.count" (agF X.K):=by
 intro af s U H x vs v us Q I rx rv h;let#[l,ys,k,rfl,rfl,hH,q]:=h;ext rx;let#[u,rfl,ru]:=rv.one;let#[t,rfl]:=ru;let#[av,r,pl,hz]:=I.list hH;refine count_list_strs pl.isList (S7 r) ?_;rw[count_eq];apply#[.int (k8 k ys),H,I.tok _,#[_,rfl],q]
def CA:D->D->Option D
 |.lst ds,.str k=>(kO ds).map λys=>.int (k8 k ys)
 |_,_=>none
def VD(ho:FP X o fo)(ha:FP X a fa)(hs:Y1 X a:=by rfl)(jb:attributeBase o "count" X.env (eval o X.env)=eval o X.env:=by rfl)
  (kq:((backTo p3 (starEach [a] X.env)).all (λx=>!x.1)&&(backToKw p3 (keywordEach [] X.env)).all (λx=>x.1.isSome)&&decide ([a].length+([]:List Keyword).length+(if([]:List Keyword).isEmpty then 0 else 1)<30))=true:=by rfl)
  (jl:(p2.endLine==p3.line)=true:=by rfl):FP X (.Call (.Attribute o "count" p2) [a] [] p3) (e2 CA fo fa):=by
 let#[to,po,so]:=ho;let#[ta,pa,sa]:=ha;refine#[_,vD PySem.F.plainAttrs_list PySem.F.slot_list_count PySem.F.type_list_count ab3 po (dg pa e_ hs) jb kq jl hs rfl,@λH0 S z aq Y U H Q dd tg ok e k=>?_];let#[d1,t1,d2,t2,e1,i_,e3,rfl]:=sy e;unfold CA at e3
 split at e3
 .rename_i ds ky;cases hS:kO ds with
  |none=>rw[hS] at e3;ext e3
  |some ys=>
   rw[hS] at e3;ext e3;refine so ok e1 λH1 v fp s1 r1 _=>?_
   let#[l,xs,f,rfl,hq,rs,_]:=r1.d9;have ex:=yM rs hS;subst ex;refine#[.inl #[rfl,_,hq],?_];refine sa (ok.same s1) i_ λH2 u jJ s2 r2 _=>?_
   ext r2;let#[l',S3,f',e',Fb,ye,_]:=(r1.same s2).d9;ext e';have ex:=yM ye hS;subst ex;apply#[l,ys,ky,rfl,rfl,Fb,k H2 _ [] (s1.trans s2) (.int _) .nil]
 .cases e3
def Ca(K:Fr)(t:Addr)(ys:List Str):Prop:=∃(o:Obj) (av:Array Value) (n:Nat),K.lookup t=some o/\o.cls=.type "tuple"/\o.dict=none/\o.data=.seq av n/\av.size<=sizeLine/\aS (ys.map V.str) av.toList
theorem T4{K:Fr}:∀ys:List Str,aD K H (ys.map D.str) (ys.map V.str) []
 |[]=>.nil
 |y::ys=>.cons (.str y) (T4 ys)
def agS(hm:X.mg x=some (.ref t))(ht:Ca X.K t ys)(hg:GD X x:=by apply#[rfl,by decide]):FP X (.Name x pos) (eC (.tup (ys.map D.str))):=
 #[_,UL hg.1 hm (v:=.ref t) rfl hg.2,@λ_ _ _ _ _ _ H _ _ _ _ e q=>by ext e;apply q H _ _ (aH.refl H) (.tup (.inr ht) (T4 ys)) .nil]
def vL(neg:Bool):D->D->Option D
 |.str i,.lst ds=>(kO ds).map λns=>.bl (if neg=true then !(ns.any (· == i)) else ns.any (· == i))
 |.str i,.tup ds=>(kO ds).map λns=>.bl (if neg=true then !(ns.any (· == i)) else ns.any (· == i))
 |_,_=>none
def PB(i:Str)(ns:List Str):wu (.str i) (ns.map V.str)=ns.any (· == i):=by
 unfold wu;rw[aip];rfl
def VP(ns:List Str):(ns.map V.str).all nG=true:=by
 rw[aj6];apply ado.mpr λ_ _=>rfl
def NH{K:Fr}{neg:Bool}:gR K (DG K neg) (vL neg):=by
 exists 41;unfold vL at e
 split at e
 .rename_i i ds;cases hS:kO ds with
  |none=>rw[hS] at e;ext e
  |some ys=>
   rw[hS] at e;ext e;ext r1;let#[l,xs,f,rfl,hq,rs,_]:=r2.d9;have ex:=yM rs hS;subst ex;refine#[l,_,rfl,.inl hq,rfl,VP ys,?_];rw[PB];exact k H _ (aH.refl H) (.bl _)
 .rename_i i ds;cases hS:kO ds with
  |none=>rw[hS] at e;ext e
  |some ys=>
   rw[hS] at e;ext e;ext r1;cases r2 with
   |tup hq rs=>
    have ex:=yM rs hS;subst ex;refine#[_,_,rfl,.inr hq,rfl,VP ys,?_];rw[PB];exact k H _ (aH.refl H) (.bl _)
 .cases e
def aev(ha:FP X a fa)(hb:FP X b fb)(hm:behindInMarks .In b=false:=by rfl):FT X (.Compare a [.In] [b] pos) (tV (e2 (vL false) fa fb)):=jX NU NH ha hb hm
def Xw(ha:FP X a fa)(hb:FP X b fb)(hm:behindInMarks .NotIn b=false:=by rfl):FT X (.Compare a [.NotIn] [b] pos) (tV (e2 (vL true) fa fb)):=jX E3 NH ha hb hm
end L2.Ev
namespace L2.Ev
open PySem PySem.W
def QS(q:zu K C=true):∃N bm,vg K C N bm "ValueError.__new__"/\nsOkIn K N=true/\nsIn K N "__init__"=some none/\tailIn K Qv bm=true:=by
 unfold zu at q;cases h:K.lookup C with
 |none=>rw[h] at q;ext q
 |some o=>
  let#[c,dd,da,#[sl]]:=o;rw[h] at q;ext da<;>try ext q
  rename_i cd;simp only[aaM,ahb] at q;let#[#[#[#[#[#[h1,h2],h3],h4],h5],h6],h7]:=q;let#[nm,bs,mro,ns,qn,hd,sn,sub,ab,col,del]:=cd;ext h4;dsimp only at h2;rw[h1,h2,h3] at h;apply#[ns,_,#[h],h6,h7,h5]
def ajj(q:zu K C=true):Dm K C:=by
 let#[N,bm,h]:=QS q;apply#[#[_,_,_,_,bm,N,PySem.F.excBase_ValueError,h]]
def Shape(K:Frag)(C:Addr):Prop:=∃N bm i,vg K C N bm i
def Mj(q:zu K C=true):Shape K C:=by
 let#[N,bm,h,_]:=QS q;apply#[N,bm,_,h]
def Sf(h:vg K C N bm i)(m:mroIn K C v=some true):(Value.ref C::bm).contains v=true:=by
 let#[h]:=h;unfold mroIn clsIn at m;rw[h] at m;dsimp only at m;rw[acG,abM (by simp)] at m;apply acB m
def ach{C D:Addr}(hC:Shape K C)(hD:Shape K D)(m:mroIn K C (.ref D)=some true)(b:mroIn K D (.type "BaseException")=some true):yX K C D:=by
 let#[N,bm,i,h1]:=hC;let#[N',uf,i',h2]:=hD;refine#[N,bm,i,N',uf,i',h1,h2,?_,Sf h1 m];have:=Sf h2 b;rw[List.contains_cons] at this;rcases(aji _ _).mp this with q|q
 .cases ahb.mp q
 .exact q
def ahs(names:List Str):Str->Bool:=λcn=>names.contains cn
def aiN(K:Frag)(names:List Str)(Dc:Addr):Prop:=∀cn C,ahs names cn=true->nsIn K mainGlobals cn=some (some (.ref C))->yX K C Dc
def Rp(hl:ds.length=n)(h:b (tu N ds)=some (.er raw cn Y)):lC n N b ds=some (.er cn):=by unfold lC;rw[if_pos hl,h]
def agP(m:mroIn K C v=some b):(clsIn K C).isSome=true:=by
 unfold mroIn at m;cases h:clsIn K C with
 |none=>rw[h] at m;ext m
 |some _=>rfl
end L2.Ev
namespace L2
open PySem PySem.Spec PyProof.Rows
def OZ(h:PE X.eY e t):PX X e (λU H Q _=>t U H Q):=λaf s U H Q E I hw=>
 adI (h af s U H Q (I.kK _) hw) (λ_ _ #[v,H',I',r,q]=>#[v,H',I'.mH,r,q]) λ_ _ z=>False.elim z
end L2
namespace L2.Ev
open PySem PySem.Spec PyProof.Rows
def wm(cn m:Str)(F:List D->Option Rz)(fo:EF)(g:AF):XR:=λY=>match fo Y,g Y with
 | some (.ins c es,_),some ps=>if c=cn/\es.lookup m=none then(match F (.ins c es::ps.map (·.1)) with
  |some (.ok d)=>some (.ok d Y)
  |some (.er en)=>some (.er en Y)
  |none=>none) else none
 |_,_=>none
def Nd(hC:ClsAt X.K cn C)(hm:kD X.K C m f)(GG:cg X.prog X.w X.K X.mg X.base (gY X.prog X.w) k f fd ps (lJ X.K F))(hr:aZ k X.A)(hb:Binds X.K fd ps [])(ho:FP X.eY o fo)(ha:FA X.eY (e::es) g)(hx:X.ex=[]:=by rfl)
  (dG:SE X e es pos:=by apply#[rfl,rfl])
  (ht:wK X o m apos (e::es) pos pl:=by apply rfl):FE X (.Call (.Attribute o m apos) (e::es) [] pos) (wm cn m F fo g):=by
 let#[to,po,so]:=ho;let#[ta,pa,_,qa]:=ha;refine#[_,aid po hC.cl hm GG hr hx hb .nil pa dG.1 dG.2 ht,@λH0 S z aq Y U H Q E r ok e0 kk=>?_];unfold wm at e0
 split at e0
 .rename_i c sY t0 qs h1 h2
  by_cases hc:c=cn/\sY.lookup m=none
  .rw[if_pos hc] at e0;let#[rfl,hml]:=hc;cases h3:F (.ins c sY::qs.map (·.1)) with
   |none=>rw[h3] at e0;ext e0
   |some w=>
    rw[h3] at e0;refine so ok h1 λH1 v fp s1 r1 _=>?_
    let#[b,dx,fs,gf,rfl,rfl,h4,h5,h6,h7]:=r1.lO hC.ns;refine#[b,dx,fs,rfl,h4,u0 h6 hml,?_];refine qa (ok.same s1) h2 λH2 vs jJ s2 r2 _=>?_
    rw[acL];cases w with
    |ok d=>
     ext e0;apply#[_,_,_,.cons (r1.same s2) r2,h3,λH3 u gC s3 r3 nd fr=>kk z H2 H3 u gC ((ok.same s1).same s2) s3 r3 #[nd,fr]]
    |er en=>
     ext e0;apply#[_,_,_,.cons (r1.same s2) r2,h3,λH3 C3 s3 hn=>kk z H3 C3 (((ok.same s1).same s2).same s3) hn]
  .rw[abM hc] at e0;ext e0
 .cases e0
def Bp(fa fh:EF):EF:=λY=>match fa Y,fh Y with
 |some (.lst ds,_),some (.int i,_)=>if aK ds=true then some (.lst (cutD ds (some i) none),.own) else none
 |_,_=>none
def acd(ha:FP X a fa)(hh:FP X b fh):FP X (.Subscript a (.Slice (some b) none none p2) pos) (Bp fa fh):=by
 let#[t,p,q]:=ha;let#[th,ph,qh]:=hh;exists 21,Er Ke p (EL ph) HA;unfold Bp at e
 split at e
 .rename_i ds t1 i t2 e1 e2;let#[hi,e]:=ci e;ext e;refine q ok e1 λH1 x f1 s1 r1 _=>?_
  refine qh (ok.same s1) e2 λH2 y f2 s2 r2 _=>?_
  ext r2;refine#[i,rfl,?_];let#[w,xs,f,rfl,hq,rs,_]:=(r1.same s2).d9;have hn:=rs.aA hi;subst hn;refine#[w,xs,rfl,hq,λp hp=>?_];have s3:aH H2 (upd H2 p (.lst (iM xs (some i) none))):=λb o e=>by rw[aJ (cU e hp)];apply e
  have rr:aD X.K H2 (cutD ds (some i) none) (iM xs (some i) none) []:=by
   unfold cutD iM;rw[rs.length];apply aD.vE _ (aD.AA _ rs)
  refine k _ _ [p] ((s1.trans s2).trans s3) (.lst bP (rr.same s3)) #[acw.mpr #[(λm=>by ext m),acE],λa m=>?_];cases aa6.mp m;apply s1.free (s2.free hp)
 .cases e
def Je(fa fb:EF):EF:=λY=>match fa Y,fb Y with
 |some (.tup ds,.sh o),some (.int i,_)=>(dM ds i).map λd=>(d,.sh o)
 |_,_=>none
def BO(ha:FP X a fa)(hb:FP X b fb)(hs:F7 b:=by apply λ_ _=>rfl):FP X (.Subscript a b pos) (Je fa fb):=by
 let#[ta,pa,sa]:=ha;let#[tb,pb,sb]:=hb;exists 20,JS Qs pa pb hs;unfold Je at e
 split at e
 .rename_i ds o i t2 e1 i_;cases h3:dM ds i with
  |none=>rw[h3] at e;ext e
  |some d3=>
   rw[h3] at e;ext e;refine sa ok e1 λH1 x f1 s1 r1 g1=>?_
   refine sb (ok.same s1) i_ λH2 y f2 s2 r2 _=>?_
   have r1:=r1.same s2;let#[p,xs,rfl,hq,rs]:=r1.ir;ext r2;unfold dM at h3;cases h:kh ds.length i with
   |none=>rw[h] at h3;ext h3
   |some j=>
    rw[h,acG] at h3;let#[v,f',hv,rv,hm]:=rs.get h3;refine .inr (.inl #[p,xs,i,v,rfl,rfl,hq,?_,q H2 v f' (s1.trans s2) rv λa m=>g1 a (hm a m)]);unfold dM;rw[<- rs.length,h,acG];apply hv
 .cases e
def pQ(X:Cx)(e:Expr)(f:aL->Option (Bool×aL)):Prop:=∃t,PT X e t/\∀{H0} {S} {z} {aq} {Y} {U} {H} {Q} {b} {Y'},
 Ok X.K H0 S z aq Y U H->f Y=some (b,Y')->(∀z' H',Ok X.K H0 S z' aq Y' U H'->Q b H')->t U H Q
def Bs(fx:XF)(fb:EF):aL->Option (Bool×aL):=λY=>match fx Y with
 |some (d1,Y')=>match fb Y' with
  |some (d2,_)=>match kY d1 d2 with
   |some (.bl b)=>some (b,Y')
   |_=>none
  |none=>none
 |none=>none
def w6(c:aL->Option (Bool×aL))(f g:SF):SF:=λY=>match c Y with
 |some (true,Y')=>f Y'
 |some (false,Y')=>g Y'
 |none=>none
def V9(ha:FZ X a fx)(hb:FP X b fb):pQ X (.Compare a [.NotEq] [b] pos) (Bs fx fb):=by
 let#[ta,pa,sa]:=ha;let#[tb,pb,sb]:=hb;exists 26,B7 MX pa pb (jm _);unfold Bs at e;cases h1:fx Y with
 |none=>rw[h1] at e;ext e
 |some w=>
  let#[d1,aO]:=w;rw[h1] at e;dsimp only at e;cases h2:fb aO with
  |none=>rw[h2] at e;ext e
  |some w2=>
   let#[d2,t2]:=w2;rw[h2] at e;dsimp only at e
   split at e
   .rename_i bb h3;ext e;refine sa ok h1 λz1 H1 x aV r1=>?_
    refine sb aV h2 λH2 y f2 s2 r2 _=>?_
    refine Oz H2 x y d1 d2 [] f2 _ _ (r1.same s2) r2 h3 λH3 v s3 r3=>?_
    ext r3;apply#[_,rfl,k z1 H3 ((aV.same s2).same s3)]
   .cases e
def afy(hc:pQ X c tc)(ha:FS X s1 f)(hb:FS X s2 g):eB X (.If c s1 s2 pos) (w6 tc f g):=by
 let#[t,p,q]:=hc;let#[t1,p1,q1]:=ha;let#[t2,p2,q2]:=hb;exists 23,CN p p1 p2;unfold w6 at e;cases h:tc Y with
 |none=>rw[h] at e;ext e
 |some w=>
  let#[y,aO]:=w;rw[h] at e;refine q ok h λz1 H1 aV=>?_
  cases y with
  |true=>rw[if_pos rfl];apply q1 aV e k
  |false=>rw[abM abm];apply q2 aV e k
section
variable(P:Program)(w:World)(K:Fr)(mg:Str->Option Value)(base:Heap)(CX:sO)(k:Nat)
def FN(x:Str)(ps:List Str)(sp:Sp)(cm:Bool:=true):Prop:=∃a fd,cg P w K mg base CX k a fd ps sp cm/\mg x=some (.ref a)/\PySem.W.keepIn K (.ref a)=true/\Binds K fd ps []
def MT(C:Addr)(x:Str)(ps:List Str)(sp:Sp)(cm:Bool:=true):Prop:=∃a fd,cg P w K mg base CX k a fd ps sp cm/\Binds K fd ps []/\kD K C x a
def MI(C:Addr)(ps:List Str)(sp:Sp)(cm:Bool:=true):Prop:=∃a fd,cg P w K mg base CX k a fd ps sp cm/\Binds K fd ps []/\Mk K C a
end
def GL(K:Fr)(x q:Str)(st:Stmt)(f:Addr):Prop:=∃oc od kV dc pm an cd ct sl,K.lookup f=some #[oc,od,.func (PySem.W.fnOf x q (mK st) (gS st) (cE st) .none kV dc pm an cd ct),sl]/\PySem.W.codeIn K cd q=true/\PySem.W.keepIn K (.ref f)=true
def Jf(K:Fr)(x:Str)(st:Stmt):Prop:=∃f,PySem.W.nsIn K mainGlobals x=some (some (.ref f))/\GL K x x st f
def GM(K:Fr)(C:Addr)(x q:Str)(st:Stmt):Prop:=∃f,PySem.W.findIn K (.ref C) x=some (some (.ref f))/\PySem.W.isFn K (.ref f)=true/\GL K x q st f
abbrev BA(x q:Str)(st:Stmt)(ps:List Str):Prop:=∀(kV doc pm) (an) (aQ ct) (us),us.length=ps.length->bindArgs (PySem.W.fnOf x q (mK st) (gS st) (cE st) .none kV doc pm an aQ ct) #[us,[]]=pure (ps.zip us)
def Lc{K:Fr}{x q:Str}{st:Stmt}{f:Addr}(l:GL K x q st f):PySem.W.keepIn K (.ref f)=true/\∃fd,jw K x q st f fd:=by
 let#[oc,od,kV,dc,pm,an,cd,ct,sl,h1,h2,h3]:=l;apply#[h3,_,VJ h1 h2 h3]
section
variable{K:Fr}{st:Stmt}
def Rq(X:K.In h)(G:h.Ns mainGlobals mg)(l:Jf K x st)(ok:∀{f} {fd},jw K x x st f fd->cg P w K mg base CX k f fd ps sp cm)(b:BA x x st ps):FN P w K mg base CX k x ps sp cm:=by
 let#[f,a,l]:=l;let#[kp,fd,F]:=Lc l;apply#[f,fd,ok F,PySem.W.mg_of X G a,kp,F.binds b]
def OR(l:GM K C x q st)(ok:∀{f} {fd},jw K x q st f fd->cg P w K mg base CX k f fd ps sp cm)(b:BA x q st ps):MT P w K mg base CX k C x ps sp cm:=by
 let#[f,a,i,l]:=l;let#[kp,fd,F]:=Lc l;apply#[f,fd,ok F,F.binds b,#[a,i,kp]]
def abg{sp:Heap->Sp}(X:K.In h)(G:h.Ns mainGlobals mg)(Gh:mg "law"=some (.ref fa))(l:Jf K "law" st)
  (b:∀(kV doc pm) (an) (aQ ct) (s) (v),BindsTo s (PySem.W.fnOf "law" "law" (mK st) (gS st) (cE st) .none kV doc pm an aQ ct) #[[v],[]] [(p,v)])
  (ok:∀base:Heap,K.In base->base.Ns mainGlobals mg->∀{f} {fd},jw K "law" "law" st f fd->cg P w K mg base CX k f fd [p] (sp base) cm) :
  ∃fd:FuncData,(∀(s) (v),BindsTo s fd #[[v],[]] [(p,v)])/\∀base:Heap,K.In base->base.Ns mainGlobals mg->cg P w K mg base CX k fa fd [p] (sp base) cm:=by
 let#[f,a,oc,od,kV,dc,pm,an,cd,ct,sl,h1,h2,h3]:=l;have e:=Gh.symm.trans (PySem.W.mg_of X G a);ext e;apply#[_,b kV dc pm an cd ct,λbase K1 G1=>ok base K1 G1 (VJ h1 h2 h3)]
end
def nq(h1:g d t Y=some aO)(h2:f aO=some (.nx bA)):dU g t f (d::ds) Y=dU g t f ds bA:=by
 conv=>lhs;unfold dU
 rw[h1];dsimp only;rw[h2]
def MJ(h1:g d t Y=some aO)(h2:f aO=some (.rt r)):dU g t f (d::ds) Y=some (.rt r):=by
 unfold dU;rw[h1];dsimp only;rw[h2]
end L2.Ev
namespace L2
open PySem PySem.Spec PyProof.Rows
namespace Ev
def yO(fx:XF):aL->Option (Bool×aL):=λY=>match fx Y with
 |some (.bl c,Y')=>some (!c,Y')
 |_=>none
def Oh(h:FZ X a fx)(he:∀whole,isTrue a X.env whole=(do let v <- whole;standAt a.pos;holding [v] (truthy v)):=by intro _;rfl):pQ X (.UnaryOp .Not a pos) (yO fx):=by
 let#[t,p,q]:=h;exists 26,OS (F2 p he);unfold yO at e
 split at e
 .rename_i c' aO h1;ext e;refine q ok h1 λz' H' v aT r=>?_
  ext r;apply#[_,rfl,k z' H' aT]
 .cases e
def uQ(ft:TF)(fz:aL->Option (Bool×aL)):aL->Option (Bool×aL):=λY=>match ft Y with
 |some true=>fz Y
 |some false=>some (false,Y)
 |none=>none
def Tf(ha:FT X a ft)(hb:pQ X b fz):pQ X (.BoolOp .And [a,b] pos) (uQ ft fz):=by
 let#[t,p,q]:=ha;let#[t',p',q']:=hb;exists 26,(Ma p (Oo p')).pt;unfold uQ at e
 split at e
 .rename_i h1;refine q ok h1 λH1 s1=>?_
  rw[if_pos rfl];apply q' (ok.same s1) e k
 .rename_i h1;ext e;refine q ok h1 λH1 s1=>?_
  rw[abM abm];apply k z H1 (ok.same s1)
 .cases e
end Ev
namespace Zt
section
variable{prog:Program}{w:World}{A:Around}{E:Value->Shared->Prop}{s:Shared}
def drawn{it t:Addr}{i:Nat}{items:Array Value}{x:Value}{Q:Value->Shared->Prop}(hit:s.heap.IsTupleIter it t i)(ht:s.heap.IsTuple t items)(hx:items[i]? = some x)
  (hQ:∀h',h'.IsTupleIter it t (i+1)->Heap.SameBut it s.heap h'->Q x { s with heap:=h' }):wpAny (model prog w) A (Builtin.SmallTypes.nextOf (.ref it)) Q E s:=by
 let#[oi,ei,ci,di]:=id hit;let#[ot,et,_,nt,dt]:=ht;unfold Builtin.SmallTypes.nextOf;refine aaq (af5 (name:=Str.ofString "__next__") hit.typeIs ahK (ahL ahK hit.typeIs F.entry_tuple_iterator_next ?_ (F.args_tuple_iterator_next_1 _)));show wpAny _ _ (field (.ref it) 0 >>= λv=>_) _ _ s;refine aaq (af3 ei di (x:=.ref t) rfl ?_);refine wpAny_ite_split (λz=>absurd z abm) λ_=>?_
 show wpAny _ _ (field (.ref it) 1 >>= λv=>_) _ _ s;refine aaq (af3 ei di (x:=.int i 0) rfl ?_);refine aaq (agQ et dt ?_);simp only[akf,hx];refine aaq (wpAny_setField ei di (by simp) (abP #[x,rfl,abP (hQ _ #[_,agX _ ei (Obj.isFreed_of_fields (Obj.data_mapFields di _)),(Obj.cls_mapFields ..).trans ci,?_] (Heap.SameBut.update ..))]));rw[Obj.data_mapFields di];simp[rawInt]
def ended{it t:Addr}{i:Nat}{items:Array Value}{Q:Value->Shared->Prop}(hh:A.handled=none)(hit:s.heap.IsTupleIter it t i)(ht:s.heap.IsTuple t items)(hx:items[i]? = none)
  (hE:∀h' e,Heap.ExtBut it s.heap h'->(∃o,h'.get? e=some o/\o.cls=.type "StopIteration")->E (.ref e) { s with heap:=h' }):wpAny (model prog w) A (Builtin.SmallTypes.nextOf (.ref it)) Q E s:=by
 let#[oi,ei,ci,di]:=id hit;let#[ot,et,_,nt,dt]:=ht;have ur:A.in1.handled=none:=hh;unfold Builtin.SmallTypes.nextOf;refine aaq (af5 (name:=Str.ofString "__next__") hit.typeIs ahK (ahL ahK hit.typeIs F.entry_tuple_iterator_next ?_ (F.args_tuple_iterator_next_1 _)));show wpAny _ _ (field (.ref it) 0 >>= λv=>_) _ _ s;refine aaq (af3 ei di (x:=.ref t) rfl ?_);refine wpAny_ite_split (λz=>absurd z abm) λ_=>?_
 show wpAny _ _ (field (.ref it) 1 >>= λv=>_) _ _ s;refine aaq (af3 ei di (x:=.int i 0) rfl ?_);refine aaq (agQ et dt ?_);simp only[akf,hx];refine aaq (akd (aaq (wpAny_setField ei di (by simp) ?_)));unfold Builtin.SmallTypes.stopIteration;refine aaq ?_;unfold newExc newTuple;refine aaq (aex ?_ (by size_fits));refine aaq (m:=firstArgMember _ _) (wpAny_of_eq (a:=Value.none) (by first|(simp only[firstArgMember];rfl)|rfl) ?_);refine aex ?_ (by size_fits);unfold raiseNew;refine aaq (wpAny_handled ?_);rw[ur];apply aaq (abP (wpAny_throw (hE _ _ (((Heap.SameBut.update ..).extBut.push _).push _) #[_,acm _ rfl,rfl])))
def step{z TI TO i1 i2 l1 l2:Addr}{k:Nat}{xs ys:Array Value}{a b:Value}{Q:Fin->Shared->Prop}(D:ZipApart z TI TO i1 i2 l1 l2)
  (hz:IsZip s.heap z TI TO .none) (F_:IsPair s.heap TI (.ref i1) (.ref i2)) (Fe:IsPair s.heap TO a b)
  (h1:s.heap.IsTupleIter i1 l1 k) (h2:s.heap.IsTupleIter i2 l2 k) (t1:s.heap.IsTuple l1 xs) (t2:s.heap.IsTuple l2 ys)
  (hQ:∀x y h',xs[k]? = some x->ys[k]? = some y->IsZip h' z TI TO (rawInt s.heap.objs.size)->IsPair h' TO x y->h'.IsTupleIter i1 l1 (k + 1)->h'.IsTupleIter i2 l2 (k + 1)->IsPair h' s.heap.objs.size x y->
   (∀c o,c∉[z,TO,i1,i2]->s.heap.get? c=some o->h'.get? c=some o)->Q (.done (.ret (.ref s.heap.objs.size))) { s with heap:=h' })
  (hE:(xs[k]? = none\/ys[k]? = none)->A.handled=none/\∀h' e,(∀c o,c∉[z,TO,i1,i2]->s.heap.get? c=some o->h'.get? c=some o)->(∃o,h'.get? e=some o/\o.cls=.type "StopIteration")->E (.ref e) { s with heap:=h' }) :
  wpAny (model prog w) A (Builtin.«zip.__next__» #[[.ref z],[]]) Q E s:=by
 show wpAny _ _ (field (.ref z) 2 >>= λv=>_) _ _ _;refine aaq (af3 hz rfl (x:=.bool false) rfl ?_);show wpAny _ _ (field (.ref z) 3 >>= λv=>_) _ _ _;refine aaq (af3 hz rfl (x:=.ref TI) rfl (aaq (agQ F_ rfl ?_)));show wpAny _ _ (Builtin.SmallTypes.ownedTupleIsFree (.ref z) >>= λv=>_) _ _ _;refine aaq ?_;unfold Builtin.SmallTypes.ownedTupleIsFree;refine aaq (af3 hz rfl (x:=.none) rfl (abP ?_));simp only[if_true];refine aaq (akd (aaq (af3 hz rfl (x:=.ref TO) rfl (aaq (ai7 hz (by simp) λg1 z1 b1=>?_)))));have IW:IsZip g1 z TI TO .ellipsis:=z1;have D1:=D;let#[TIz,TOz,i1z,i2z,TITO,TIi1,TIi2,TOi1,TOi2,i12,l1z,l1TO,l1i1,l1i2,l2z,l2TO,l2i1,l2i2]:=D1;refine aaq ?_;simp only[List.zipIdx_cons,List.zipIdx_nil,List.forIn_cons,List.forIn_nil];refine aaq (aaq (wpAny_onRaise ?_));show wpAny _ _ (Builtin.SmallTypes.nextOf (.ref i1) >>= λv=>_) _ _ _;cases hx:xs[k]? with
 |none=>
  let#[hh,fin]:=hE (.inl hx);refine aaq (ended hh (h1.extBut b1.extBut i1z) (t1.extBut b1.extBut l1z) hx ?_)
  rintro g2 e b2 ⟨oe,he,ce⟩
  have z2:IsZip g2 z TI TO .ellipsis:=b2 _ _ i1z.symm IW;have ez:e≠z:=λq=>by subst q;rw[z2] at he;ext he;simp at ce
  refine ai7 z2 (by simp) λg3 _ b3=>fin g3 e (λc o m q=>?_) #[oe,b3.extBut _ _ ez he,ce]
  simp only[aaO,acK,aeE,not_or] at m;apply b3.extBut _ _ m.1 (b2 _ _ m.2.2.1 (b1.extBut _ _ m.1 q))
 |some x=>
  refine aaq (drawn (h1.extBut b1.extBut i1z) (t1.extBut b1.extBut l1z) hx λg2 i2' b2=>abP ?_);have o2:IsPair g2 TO a b:=b2.extBut _ _ TOi1 (b1.extBut _ _ TOz Fe);refine aaq (agQ o2 rfl (aaq (wpAny_updateSeq_pair o2 λg3 o3 b3=>aaq (akk (abP ?_)))));have YC:IsPair g3 TO x b:=o3;refine aaq (aaq (wpAny_onRaise ?_));show wpAny _ _ (Builtin.SmallTypes.nextOf (.ref i2) >>= λv=>_) _ _ _;have j2:g3.IsTupleIter i2 l2 k:=((h2.extBut b1.extBut i2z).extBut b2.extBut i12.symm).extBut b3.extBut TOi2.symm;have u2:g3.IsTuple l2 ys:=((t2.extBut b1.extBut l2z).extBut b2.extBut l2i1).extBut b3.extBut l2TO;cases hy:ys[k]? with
  |none=>
   let#[hh,fin]:=hE (.inr hy);refine aaq (ended hh j2 u2 hy ?_)
   rintro g4 e b4 ⟨oe,he,ce⟩
   have z4:IsZip g4 z TI TO .ellipsis:=b4 _ _ i2z.symm (b3.extBut _ _ TOz.symm (b2.extBut _ _ i1z.symm IW));have ez:e≠z:=λq=>by subst q;rw[z4] at he;ext he;simp at ce
   refine ai7 z4 (by simp) λg5 _ b5=>fin g5 e (λc o m q=>?_) #[oe,b5.extBut _ _ ez he,ce]
   simp only[aaO,acK,aeE,not_or] at m;apply b5.extBut _ _ m.1 (b4 _ _ m.2.2.2 (b3.extBut _ _ m.2.1 (b2.extBut _ _ m.2.2.1 (b1.extBut _ _ m.1 q))))
  |some y=>
   refine aaq (drawn j2 u2 hy λg4 k2 b4=>abP ?_);have o4:IsPair g4 TO x b:=b4.extBut _ _ TOi2 YC;refine aaq (agQ o4 rfl (aaq (wpAny_updateSeq_pair o4 λg5 o5 b5=>aaq (akk (abP (abP ?_))))));have Um:IsPair g5 TO x y:=o5;refine aaq (agQ Um rfl (aaq (wpAny_newTuple ?_)));have sz:g5.objs.size=s.heap.objs.size:=by rw[b5.1,b4.1,b3.1,b2.1,b1.1]
   have z5:IsZip g5 z TI TO .ellipsis:=b5.extBut _ _ TOz.symm (b4.extBut _ _ i2z.symm (b3.extBut _ _ TOz.symm (b2.extBut _ _ i1z.symm IW)));have zl:g5.objs.size≠z:=agY (abG z5);show wpAny _ _ (Builtin.SmallTypes.ownedTupleHandOut (.ref z) (.ref g5.objs.size) >>= λv=>_) _ _ _;refine aaq ?_;unfold Builtin.SmallTypes.ownedTupleHandOut;have z6:IsZip (g5.push { cls:=.type "tuple",data:=.seq ([x,y].toArray) }) z TI TO .ellipsis:=aat _ z5;refine aaq (ai7 z6 (by simp) λg7 z7 b7=>?_);have z7':IsZip g7 z TI TO (rawInt g5.objs.size):=z7;refine ai7 z7' (by simp) λg8 z8 b8=>?_
   have Sx:IsZip g8 z TI TO (rawInt g5.objs.size):=z8;have up:∀c o,c≠z->g5.get? c=some o->g8.get? c=some o:=λc o n q=>b8.extBut _ _ n (b7.extBut _ _ n (aat _ q))
   have new:IsPair g8 g5.objs.size x y:=b8.extBut _ _ zl (b7.extBut _ _ zl (acm _ rfl));rw[sz] at Sx new;have r1:g5.IsTupleIter i1 l1 (k+1):=((i2'.extBut b3.extBut TOi1.symm).extBut b4.extBut i12).extBut b5.extBut TOi1.symm;have r2:g5.IsTupleIter i2 l2 (k+1):=k2.extBut b5.extBut TOi2.symm;refine abP ?_;show Q (.done (.ret (.ref g5.objs.size))) _;rw[sz];refine hQ x y g8 hx hy Sx (up _ _ TOz Um) (r1.at λo q=>up _ o i1z q) (r2.at λo q=>up _ o i2z q) new λc o m q=>?_
   simp only[aaO,acK,aeE,not_or] at m;apply up c o m.1 (b5.extBut _ _ m.2.1 (b4.extBut _ _ m.2.2.2 (b3.extBut _ _ m.2.1 (b2.extBut _ _ m.2.2.1 (b1.extBut _ _ m.1 q)))))
end
end Zt
namespace Zt
section
variable{prog:Program}{w:World}{A:Around}{E:Value->Shared->Prop}{s:Shared}
def zH(h:Heap)(l1 l2:Addr):Heap:=
 ((((h.push { cls:=.type "tuple_iterator",data:=.fields ([.ref l1,.int 0 0].toArray) }).push { cls:=.type "tuple_iterator",data:=.fields ([.ref l2,.int 0 0].toArray) }).push { cls:=.type "tuple",data:=.seq ([.ref h.objs.size,.ref (h.objs.size + 1)].toArray) }).push
  { cls:=.type "tuple",data:=.seq ([.none,.none].toArray) }).push { cls:=.type "zip",data:=.fields ([.none,.bool false,.bool false,.ref (h.objs.size+2),.ref (h.objs.size+3)].toArray) }
def Ab(h:Heap)(o:Obj):(h.push o).objs.size=h.objs.size+1:=aif ..
def ZX(l1 l2:Addr)(xs ys:Array Value):Meets (Builtin.«zip.__new__» #[[.type "zip",.ref l1,.ref l2],[]]) (λ_ R s=>s.heap.IsTuple l1 xs/\s.heap.IsTuple l2 ys/\
  R (.ok (.ret (.ref (s.heap.objs.size+4)))) { s with heap:=zH s.heap l1 l2 }):=
 .of_wp λprog w A R s h=>by
  let#[hp,g,d,tk,os]:=s;let#[ze,xh,h]:=h;have Pf:=sub_zip;have L1:Heap.IsTuple (Shared.heap #[hp,g,d,tk,os]) l1 xs:=ze;have L2:Heap.IsTuple (Shared.heap #[hp.push { cls:=.type "tuple_iterator",data:=.fields ([.ref l1,.int 0 0].toArray) },g,d,tk,os]) l2 ys:=Heap.IsTuple.push xh _
  wp_walk using wpAny_pyIter_tuple L1,wpAny_pyIter_tuple L2
  refine#[_,rfl,?_];unfold zH at h;simp only[Ab] at h ⊢;apply h
def call2{l1 l2:Addr}{xs ys:Array Value}{Q:Value->Shared->Prop}(t1:s.heap.IsTuple l1 xs)(t2:s.heap.IsTuple l2 ys)
  (h:∀h',IsZip h' (s.heap.objs.size + 4) (s.heap.objs.size + 2) (s.heap.objs.size + 3) .none->IsPair h' (s.heap.objs.size + 2) (.ref s.heap.objs.size) (.ref (s.heap.objs.size + 1))->IsPair h' (s.heap.objs.size + 3) .none .none->
   h'.IsTupleIter s.heap.objs.size l1 0->h'.IsTupleIter (s.heap.objs.size+1) l2 0->(∀c o,s.heap.get? c=some o->h'.get? c=some o)->Q (.ref (s.heap.objs.size+4)) { s with heap:=h' }) :
  wpAny (model prog w) A (call (.type "zip") [.ref l1,.ref l2]) Q E s:=by
 refine callType_new F.called_zip (by decide) (F.typeCall_zip_2 _ _) (F.newCall_zip_2 _ _) (λobj=>F.args_object_init_3 obj _ _) F.entry_zip_new (ZX l1 l2 xs ys) #[t1,t2,?_];have at_:∀{h:Heap}{o:Obj}{n:Nat},h.objs.size=n->(!o.isFreed)=true->(h.push o).get? n=some o:=λ{h o n} e f=>by subst e;apply acm _ (by simpa using f)
 have g5:IsZip (zH s.heap l1 l2) (s.heap.objs.size+4) (s.heap.objs.size+2) (s.heap.objs.size+3) .none:=at_ (by simp only[Ab]) rfl;have g4:IsPair (zH s.heap l1 l2) (s.heap.objs.size+3) .none .none:=aat _ (at_ (by simp only[Ab]) rfl);have g3:IsPair (zH s.heap l1 l2) (s.heap.objs.size+2) (.ref s.heap.objs.size) (.ref (s.heap.objs.size+1)):=aat _ (aat _ (at_ (by simp only[Ab]) rfl));have g2:(zH s.heap l1 l2).IsTupleIter (s.heap.objs.size+1) l2 0:=#[_,aat _ (aat _ (aat _ (at_ (by simp only[Ab]) rfl))),rfl,rfl]
 have g1:(zH s.heap l1 l2).IsTupleIter s.heap.objs.size l1 0:=#[_,aat _ (aat _ (aat _ (aat _ (at_ rfl rfl)))),rfl,rfl]
 apply#[#[_,g5,rfl],h _ g5 g3 g4 g1 g2 λc o q=>aat _ (aat _ (aat _ (aat _ (aat _ q))))]
def next{z TI TO i1 i2 l1 l2:Addr}{k:Nat}{xs ys:Array Value}{a b:Value}{Q:Option Value->Shared->Prop}(D:ZipApart z TI TO i1 i2 l1 l2)
  (hz:IsZip s.heap z TI TO .none) (F_:IsPair s.heap TI (.ref i1) (.ref i2)) (Fe:IsPair s.heap TO a b)
  (h1:s.heap.IsTupleIter i1 l1 k) (h2:s.heap.IsTupleIter i2 l2 k) (t1:s.heap.IsTuple l1 xs) (t2:s.heap.IsTuple l2 ys)
  (hQ:∀x y h',xs[k]? = some x->ys[k]? = some y->IsZip h' z TI TO (rawInt s.heap.objs.size)->IsPair h' TO x y->h'.IsTupleIter i1 l1 (k + 1)->h'.IsTupleIter i2 l2 (k + 1)->IsPair h' s.heap.objs.size x y->
   (∀c o,c∉[z,TO,i1,i2]->s.heap.get? c=some o->h'.get? c=some o)->Q (some (.ref s.heap.objs.size)) { s with heap:=h' })
  (hE:(xs[k]? = none\/ys[k]? = none)->A.handled=none/\∀h',(∀c o,c∉[z,TO,i1,i2]->s.heap.get? c=some o->h'.get? c=some o)->Q none { s with heap:=h' }) :
  wpAny (model prog w) A (pyNext (.ref z)) Q E s:=by
 have ty:s.TypeIs (.ref z) "zip":=#[_,hz,rfl]
 unfold pyNext;refine aaq (wpAny_attempt (af5 (name:=Str.ofString "__next__") ty F.slot_zip_next (ahL F.slot_zip_next ty F.entry_zip_next (step D hz F_ Fe h1 h2 t1 t2 ?_ ?_) (F.args_zip_next_1 _))))
 .exact λx y h' e1 e2 a1 a2 a3 a4 a5 a6=>#[_,rfl,abP (hQ x y h' e1 e2 a1 a2 a3 a4 a5 a6)]
 .intro en;let#[hh,fin]:=hE en;apply#[hh,λh' e kp #[o,ho,hc]=>aaq (wpAny_isInstance (T:="StopIteration") (b:=true) #[o,ho,hc] isSubtype_stop (abP (fin _ kp)))]
def whole{t sl:Addr}{items:Array Value}{vl vu:Value}{lo hi:Option Int}{Q:Value->Shared->Prop}(ht:IsTup s.heap t items)(hs:s.heap.IsSliceOf sl vl vu .none)(pl:IsPart vl lo)(pu:IsPart vu hi)
  (hw:HT.bG items.size 0 lo=0/\HT.bG items.size items.size hi=items.size) (h:Q (.ref t) s):wpAny (model prog w) A (getItem (.ref t) (.ref sl)) Q E s:=by
 let#[os,o7,oX,yE]:=id hs;have F1:s.TypeIs (.ref sl) "slice":=#[os,o7,oX]
 unfold getItem
 try with_reducible refine ae1 ?_
 first|refine aaq (abP ?_)|skip
 refine aaq (wpAny_sequenceKey ht.typeIs (by decide) ?_);refine aaq (af5 (name:=Str.ofString "__getitem__") ht.typeIs aeq
  (ahL aeq ht.typeIs entry_tuple_getitem ?_ (args_tuple_getitem _ _)))
 show wpAny _ _ (Builtin.Tuple.tupleItemsOf (.ref t) >>= λv=>_) _ _ s;refine aaq (tupleItemsOf_ ht ?_);refine aaq (aj5 F1 ?_);rw[if_pos (by decide)];refine aaq (HT.R9 hs pl pu ?_);rw[hw.1,hw.2];show wpAny _ _ (if(((0:Nat):Int)==0&&(1:Int)==1&&(items.size-0)==items.size)=true then _ else _) _ _ s;rw[if_pos (by simp)];unfold Builtin.Tuple.tupleIsExact;refine aaq (aaq (aj5 ht.typeIs (abP ?_)));rw[if_pos (by simp)];apply aaq (akd (abP #[_,rfl,abP h]))
end
end Zt
def Zm(K:Fr):V->Option Int->Option Int->Hp->VK->Prop:=λx lo hi H Q=>∃a xs,x=.ref a/\bQ K H a xs/\(HT.bG xs.length 0 lo=0/\HT.bG xs.length xs.length hi=xs.length)/\Q (.ref a) H
def aie{X:Cx}:sP X (Zm X.K):=by
 intro af s U H x v vl vu lo hi sl Q I rx hs pl pu h;let#[a,xs,rfl,hx,hw,q]:=h;ext rx;let#[av,r,ht,hz]:=I.tuple hx;have hlen:av.toArray.size=xs.length:=by rw[ab9];apply r.length.symm
 apply#["tuple",_,aeq.lookup,ht.typeIs,Zt.whole ht hs pl pu (by rw[hlen];apply hw) #[.ref a,H,I,rfl,q]]
def GC(K:Fr)(l1 l2:Addr):It:=
  #[λi H=>∃xs ys x y,bQ K H l1 xs/\bQ K H l2 ys/\xs[i]? = some x/\ys[i]? = some y,
   λi H v H'=>∃T a b,H T=none/\v=.ref T/\H'=upd H T (.tup [a,b])/\(∀xs,bQ K H l1 xs->xs[i]? = some a)/\∀ys,bQ K H l2 ys->ys[i]? = some b,
   λi H=>∃xs ys,bQ K H l1 xs/\bQ K H l2 ys/\(xs.length<=i\/ys.length<=i),false]
def WQ(z TI TO i1 i2 l1 l2:Addr)(i:Nat)(h:Heap):Prop:=IsZip h z TI TO .none/\IsPair h TI (.ref i1) (.ref i2)/\(∃a b,IsPair h TO a b)/\h.IsTupleIter i1 l1 i/\h.IsTupleIter i2 l2 i
def agb{P:Program}{w:World}{K:Fr}{elts:List Expr}{x1}{pos:Pos}{z TI TO i1 i2 l1 l2:Addr}(D:ZipApart z TI TO i1 i2 l1 l2):
  Turn P w K (.Tuple elts x1 pos) (GC K l1 l2) [z,TI,TO,i1,i2] z (WQ z TI TO i1 i2 l1 l2) where
 mem:=by simp
 obj:=λi h st b hb=>by
  let#[s1,s2,#[a,b',s3],#[o4,e4,c4,d4],#[o5,e5,c5,d5]]:=st;simp only[aaO,acK,aeE] at hb;rcases hb with rfl|rfl|rfl|rfl|rfl
  .exact#[_,s1,λv q=>by ext q]
  .exact#[_,s2,λv q=>by ext q]
  .exact#[_,s3,λv q=>by ext q]
  .exact#[o4,e4,λv q=>by rw[d4] at q;ext q]
  .exact#[o5,e5,λv q=>by rw[d5] at q;ext q]
 keep:=λi h h' st k=>by
  let#[s1,s2,#[a,b',s3],s4,s5]:=st;apply#[k _ (by simp) _ s1,k _ (by simp) _ s2,#[a,b',k _ (by simp) _ s3],s4.at λo e=>k _ (by simp) o e,s5.at λo e=>k _ (by simp) o e]
 item:=by
  exists 40;subst hP hw hK;let#[s1,s2,#[a,b',s3],s4,s5]:=st;let#[xs,ys,x,y,q1,q2,e1,e2]:=hg;let#[us,v1,p1,z1]:=I.tuple q1;let#[ws,v2,p2,z2]:=I.tuple q2;let#[u,hu,ru]:=v1.get e1;let#[t,ht,rt]:=v2.get e2;refine Zt.next D s1 s2 s3 s4 s5 (show s.heap.IsTuple l1 us.toArray from p1) (show s.heap.IsTuple l2 ws.toArray from p2) (λu' t' h' f1 f2 a1 a2 a3 a4 a5 a7=>#[_,rfl,?_]) λz=>?_
  .have T6:us[i]? = some u':=by simpa using f1
   have Q_:ws[i]? = some t':=by simpa using f2
   rw[hu] at T6;rw[ht] at Q_;ext T6;ext Q_;refine wpAny_letOwnedTupleGo_zip a1 λnH b1 b2=>?_
   have lz:z < s.heap.objs.size:=abG s1;have nz:s.heap.objs.size≠z:=agY lz;have T2:IsPair nH s.heap.objs.size u t:=b2.extBut _ _ nz a5;have nT:H s.heap.objs.size=none:=I.aG.fresh (abD _);have I1:Inv X af U (upd H s.heap.objs.size (.tup [x,y])) { s with heap:=nH }:=I.Mq (t':=s.toks) (ch:=[z,TO,i1,i2]) (λb m=>hf b (by
     simp only[aaO,acK,aeE] at m ⊢;rcases m with rfl|rfl|rfl|rfl<;>simp)) (λb o m e=>b2.extBut _ _ (λq=>m (by rw[q];apply aav)) (a7 b o m e)) (abD _)
     (show dD X.prog X.w _ nH _ (.tup [x,y]) from#[show 2<=sizeLine by unfold sizeLine;omega,[u,t],.cons ru (.cons rt .nil),#[_,T2,rfl,rfl,_,rfl]])
   refine#[.ref s.heap.objs.size,_,I1,rfl,#[_,x,y,nT,rfl,rfl,λS3 h=>by rw[I.Ik h q1];apply e1,λYu h=>by rw[I.Ik h q2];apply e2],?_,λb m=>?_]
   .have up:∀c o,c≠z->h'.get? c=some o->nH.get? c=some o:=λc o n e=>b2.extBut _ _ n e
    apply#[b1,up _ _ D.TIz (a7 TI _ (by simp[D.TIz,D.TITO,D.TIi1,D.TIi2]) s2),#[u,t,up _ _ D.TOz a2],a3.at λo e=>up _ o D.i1z e,a4.at λo e=>up _ o D.i2z e]
   .rw[aJ]
    .exact(hf b m).1
    .rintro rfl
     let#[o4,e4,_]:=id s4;let#[o5,e5,_]:=id s5;simp only[aaO,acK,aeE] at m;rcases m with m|m|m|m|m
     .exact nz m
     .exact absurd (abG s2) (by rw[<- m];apply aep _)
     .exact absurd (abG s3) (by rw[<- m];apply aep _)
     .exact absurd (abG e4) (by rw[<- m];apply aep _)
     .exact absurd (abG e5) (by rw[<- m];apply aep _)
  .have z1:us[i]? = none\/ws[i]? = none:=by simpa using z
   rw[hu,ht] at z1;rcases z1 with z1|z1<;>ext z1
 done:=by
  exists 40;subst hP hw hK;let#[s1,s2,#[a,b',s3],s4,s5]:=st;let#[xs,ys,q1,q2,e]:=hg;let#[us,v1,p1,z1]:=I.tuple q1;let#[ws,v2,p2,z2]:=I.tuple q2;have l1:=v1.length;have l2:=v2.length;refine Zt.next D s1 s2 s3 s4 s5 (show s.heap.IsTuple _ us.toArray from p1) (show s.heap.IsTuple _ ws.toArray from p2) (λu' t' h' f1 f2=>?_) λ_=>#[I.ok.hd (hc.resolve_right λz=>abm z),λh' k=>#[rfl,I.EO (t':=s.toks) (ch:=[z,TO,i1,i2]) (λb m=>hf b (by
    simp only[aaO,acK,aeE] at m ⊢;rcases m with rfl|rfl|rfl|rfl<;>simp)) k]]
  have g1:=(abq.mp (show us[i]? = some u' by simpa using f1)).1;have g2:=(abq.mp (show ws[i]? = some t' by simpa using f2)).1;omega
 self:=λ_ _ _ _ _ st h=>wpAny_pyIter_zip st.1 h
section
variable{X:Cx}{elts:List Expr}{tp:Pos}{a b:Expr}{ta:TA}{p pos:Pos}
def acu(K:Fr)(ta:TA):TI:=λU H R=>ta U H λvs H1=>∃l1 l2 xs ys,vs=[.ref l1,.ref l2]/\((cJ K H1 l1 xs/\cJ K H1 l2 ys/\R (LW K l1 l2) H1)\/(bQ K H1 l1 xs/\bQ K H1 l2 ys/\R (GC K l1 l2) H1))
def XG{x1}(hg:Gl X "zip")(hm:X.mg "zip"=none)(ha:PA X [a,b] ta)(hs:starEach [a,b] X.env=[(false,eval a X.env),(false,eval b X.env)]:=by rfl)(eU:Y1 X b:=by rfl):
  PI X (.Tuple elts x1 tp) (.Call (.Name "zip" p) [a,b] [] pos) (acu X.K ta):=by
 intro af s U H R I h;refine afq (rN I hg hm boot_zip (ahC (ha.n I h λus s1 vs H1 I1 r1 q1=>?_) (by rw[hs,eU]) (by rw[eU];rfl)));let#[l1,l2,xs,ys,rfl,q]:=q1;let#[u,v,rfl,ru,rv]:=vals2 r1;ext ru;ext rv;have up:∀j,iY X af H1 (s1.heap.objs.size+j):=λj=>I1.rq (Nat.le_add_right _ _) (I1.aG.fresh (Nat.le_add_right _ _))
 have dX:∀c∈[s1.heap.objs.size+4,s1.heap.objs.size+2,s1.heap.objs.size+3,s1.heap.objs.size,s1.heap.objs.size+1],iY X af H1 c:=λc hc=>by
  simp only[aaO,acK,aeE] at hc;rcases hc with rfl|rfl|rfl|rfl|rfl
  .exact up 4
  .exact up 2
  .exact up 3
  .exact up 0
  .exact up 1
 rcases q with⟨h1,h2,q⟩|⟨h1,h2,q⟩
 .let#[us,v1,p1,z1]:=I1.list h1;let#[ws,v2,p2,z2]:=I1.list h2;have b1:l1<s1.heap.objs.size:=let#[o,n,e,_]:=p1;abG e
  have b2:l2<s1.heap.objs.size:=let#[o,n,e,_]:=p2;abG e
  refine call_zip_2 p1.isList p2.isList λh' g1 g2 g3 g4 g5 g6 k=>?_
  refine wpAny_pyIter_zip g1 ?_;apply#[_,_,_,_,H1,rfl,I1.kept (t':=s1.toks) k,agO (zipApart_new b1 b2),#[g1,g2,#[_,_,g3],g4,g5],dX,q]
 .let#[us,v1,p1,z1]:=I1.tuple h1;let#[ws,v2,p2,z2]:=I1.tuple h2;have b1:l1<s1.heap.objs.size:=let#[o,e,_]:=p1;abG e
  have b2:l2<s1.heap.objs.size:=let#[o,e,_]:=p2;abG e
  refine Zt.call2 (show s1.heap.IsTuple l1 us.toArray from p1) (show s1.heap.IsTuple l2 ws.toArray from p2) λh' g1 g2 g3 g4 g5 k=>?_
  refine wpAny_pyIter_zip g1 ?_;apply#[_,_,_,_,H1,rfl,I1.kept (t':=s1.toks) k,agb (zipApart_new b1 b2),#[g1,g2,#[_,_,g3],g4,g5],dX,q]
end
end L2
namespace L2.Ev
open PySem PySem.Spec PyProof.Rows
section
variable{X:Cx}{elts:List Expr}{tp:Pos}{a b:Expr}{fa fb:EF}{p pos:Pos}
def sA(fa fb:EF):IF:=λY=>match fa Y,fb Y with
 |some (.lst ds,t1),some (.lst es,t2)=>if(aK ds&&aK es)=true then some ((ds.zip es).map λp=>.tup [p.1,p.2],jG [(.lst ds,t1),(.lst es,t2)]) else none
 |some (.tup ds,t1),some (.tup es,t2)=>if(aK ds&&aK es)=true then some ((ds.zip es).map λp=>.tup [p.1,p.2],jG [(.tup ds,t1),(.tup es,t2)]) else none
 |_,_=>none
def aaT{K:Fr}{l1 l2:Addr}{ds es:List D}{f1 f2:List Addr}(c1:aK ds=true)(c2:aK es=true):
  uA K (GC K l1 l2) ((ds.zip es).map λp=>.tup [p.1,p.2]) [#[.tup ds,.ref l1,f1],#[.tup es,.ref l2,f2]]:=by
 intro H i hh;let#[p1,xs,e1,q1,r1]:=(hh _ aav).ir;let#[p2,ys,e2,q2,r2]:=(hh _ (aar _ aav)).ir;ext e1;ext e2;have n1:=r1.aA c1;have n2:=r2.aA c2;dsimp only at n1 n2 r1 r2;subst n1 n2;refine#[λd hd=>?_,λhl=>?_]
 .rw[acy] at hd;cases hz:(ds.zip es)[i]? with
  |none=>rw[hz] at hd;ext hd
  |some pr=>
   rw[hz] at hd;ext hd;let#[k1,k2]:=ajV.mp hz;let#[x,hx,rx]:=r1.Cd k1;let#[y,hy,ry]:=r2.Cd k2;refine#[#[xs,ys,x,y,q1,q2,hx,hy],λv H1 hv=>?_];let#[T,a,b,hT,rfl,rfl,ha,hb]:=hv;have ea:=ha xs q1;have eb:=hb ys q2;rw[hx] at ea;rw[hy] at eb;ext ea;ext eb;have s2:aH H (upd H T (.tup [x,y])):=λb o e=>by rw[aJ (cU e hT)];apply e
   apply#[s2,[],.tup (bQ.of bP) (aD.cons (f1:=[]) (f2:=[]) (rx.same s2) (aD.cons (f1:=[]) (f2:=[]) (ry.same s2) .nil)),λa m=>nomatch m]
 .rw[List.length_map,List.length_zip,r1.length,r2.length] at hl;apply#[xs,ys,q1,q2,by omega]
def Mf{x1}(hm:X.mg "zip"=none)(ha:FP X a fa)(hb:FP X b fb)(hg:Gl X "zip":=by rfl)(hs:starEach [a,b] X.env=[(false,eval a X.env),(false,eval b X.env)]:=by rfl)(eU:Y1 X b:=by rfl):
  FI X (.Tuple elts x1 tp) (.Call (.Name "zip" p) [a,b] [] pos) (sA fa fb):=by
 let#[t,pa,hlen,q]:=ao ha (ao hb az eU) (by rw[hs,eU]);exists 24,XG hg hm pa hs eU;unfold sA at e
 split at e
 .rename_i d1 t1 d2 t2 h1 h2
  by_cases hc:(aK d1&&aK d2)=true
  .rw[if_pos hc] at e;ext e;let#[c1,c2]:=(aaM _ _).mp hc;refine q ok (by unfold au aB;rw[h1,h2]) λH1 vs fp s1 r g=>?_
   cases r with
   | @cons _ v1 _ _ f1 _ r1 r=>
    cases r with
    | @cons _ v2 _ _ f2 _ r2 r=>
     ext r;let#[l1,xs,g1,rfl,q1,_,_]:=r1.d9;let#[l2,ys,g2,rfl,q2,_,_]:=r2.d9;refine#[l1,l2,xs,ys,rfl,.inl #[q1,q2,k H1 _ [#[.lst d1,.ref l1,f1],#[.lst d2,.ref l2,f2]] s1 (λh m=>?_) (ad5 c1 c2)]];have go:=g.over ok;rcases aaO.mp m with rfl|m
     .exact#[r1,λa ma=>go a (abz _ ma)]
     .cases aa6.mp m;apply#[r2,λa ma=>go a (aaH _ (abz _ ma))]
  .rw[abM hc] at e;ext e
 .rename_i d1 t1 d2 t2 h1 h2
  by_cases hc:(aK d1&&aK d2)=true
  .rw[if_pos hc] at e;ext e;let#[c1,c2]:=(aaM _ _).mp hc;refine q ok (by unfold au aB;rw[h1,h2]) λH1 vs fp s1 r g=>?_
   cases r with
   | @cons _ v1 _ _ f1 _ r1 r=>
    cases r with
    | @cons _ v2 _ _ f2 _ r2 r=>
     ext r;let#[l1,xs,rfl,q1,_]:=r1.ir;let#[l2,ys,rfl,q2,_]:=r2.ir;refine#[l1,l2,xs,ys,rfl,.inr #[q1,q2,k H1 _ [#[.tup d1,.ref l1,f1],#[.tup d2,.ref l2,f2]] s1 (λh m=>?_) (aaT c1 c2)]];have go:=g.over ok;rcases aaO.mp m with rfl|m
     .exact#[r1,λa ma=>go a (abz _ ma)]
     .cases aa6.mp m;apply#[r2,λa ma=>go a (aaH _ (abz _ ma))]
  .rw[abM hc] at e;ext e
 .cases e
def oG(lo hi:Option Int):D->Option D
 |.lst ds=>if aK ds=true then some (.lst (cutD ds lo hi)) else none
 |.tup ds=>if aK ds=true then some (.tup (cutD ds lo hi)) else none
 |_=>none
def Ra{lo hi:Option Expr}{l h:Option Int}{p2:Pos}(hl:DF X lo l)(hh:DF X hi h)(ha:FP X a fa):FP X (.Subscript a (.Slice lo hi none p2) pos) (e1 (oG l h) fa):=by
 let#[t,p,q]:=ha;let#[tl,pl,ql]:=hl;let#[th,ph,qh]:=hh;exists 21,Er (Ke.or (ahF.or aie)) p pl ph;let#[d1,t1,g1,g2,rfl]:=xN e;refine q ok g1 λH1 x f1 s1 r1 _=>?_
 refine ql U H1 _ (qh U H1 _ ?_);cases d1 with
 |lst ds=>
  let#[w,xs,f,rfl,hq,rs,_]:=r1.d9;have g2:(if aK ds=true then some (D.lst (cutD ds l h)) else none)=some d:=g2
  by_cases hi:aK ds=true
  .rw[if_pos hi] at g2;ext g2;have hn:=rs.aA hi;subst hn;refine .inl #[w,xs,rfl,hq,λp hp=>?_];have s2:aH H1 (upd H1 p (.lst (iM xs l h))):=λb o e=>by rw[aJ (cU e hp)];apply e
   have rr:aD X.K H1 (cutD ds l h) (iM xs l h) []:=by
    unfold cutD iM;rw[rs.length];apply aD.vE _ (aD.AA _ rs)
   refine k _ _ [p] (s1.trans s2) (.lst bP (rr.same s2)) #[acw.mpr #[(λm=>by ext m),acE],λa m=>?_];cases aa6.mp m;apply s1.free hp
  .rw[abM hi] at g2;ext g2
 |tup ds=>
  let#[w,xs,rfl,hq,rs]:=r1.ir;have g2:(if aK ds=true then some (D.tup (cutD ds l h)) else none)=some d:=g2
  by_cases hi:aK ds=true
  .rw[if_pos hi] at g2;ext g2;have hn:=rs.aA hi;subst hn;have rr:aD X.K H1 (cutD ds l h) (iM xs l h) []:=by
    unfold cutD iM;rw[rs.length];apply aD.vE _ (aD.AA _ rs)
   by_cases hw:HT.bG xs.length 0 l=0/\HT.bG xs.length xs.length h=xs.length
   .refine .inr (.inr #[w,xs,rfl,hq,hw,k _ _ [] s1 ?_ #[acE,λa m=>by ext m]]);have:iM xs l h=xs:=by
     unfold iM;rw[hw.1,hw.2];simp
    rw[this] at rr;apply .tup hq rr
   .refine .inr (.inl #[w,xs,rfl,hq,hw,λp hp=>?_]);have s2:aH H1 (upd H1 p (.tup (iM xs l h))):=λb o e=>by rw[aJ (cU e hp)];apply e
    apply k _ _ [] (s1.trans s2) (.tup (bQ.of bP) (rr.same s2)) #[acE,λa m=>by ext m]
  .rw[abM hi] at g2;ext g2
 |_=>ext g2
end
end L2.Ev
namespace L2
open PySem PySem.Spec PyProof.Rows
def Inv.aaI(I:Inv X af U H s)(ha:H a=some (.dK ak))(ho:s.heap.get? a=some o):Inv X af U (upd H a (.cC o (.dK ak))) s:=
 I.write (h':=s.heap) (t':=s.toks) (o:=.cC o (.dK ak)) (x:=a) (e:=a) (by rw[ha];trivial) (.inl rfl) (λ_ _ _ q=>q) #[o,ho] #[ho,I.aG a _ ha]
def Inv.aiZ(I:Inv X af U H s)(ha:H a=some (.cC o (.dK ak)))(h0:∀o u,X.pO a≠some (.cC o u))(hd:X.A.handled=none):Inv X af U (upd H a (.dK ak)) s:=by
 have nn:∀{b},H b=none->upd H a (.dK ak) b=none:=λ{b} e=>by rw[aJ (λq=>by rw[q,ha] at e;ext e)];apply e
 have ne:∀{b} {u},H b=some u->(∀o',u≠.cC o' (.dK ak))->upd H a (.dK ak) b=some u:=λ{b u} e n=>by
  rw[aJ (λq=>by rw[q,ha] at e;ext e;apply n _ rfl)];apply e
 refine#[I.ok,I.os,I.bare,#[I.base.keep,I.base.slot,λb o e n hx=>nn (I.base.free b o e n hx),I.base.there,λb xs e=>ne (I.base.jy b xs e) (λ_ q=>by ext xs<;>ext q),λb o u e=>?_,λb ps e=>?_],I.loc,I.cell,nn I.free,λx c e=>nn (I.g_ x c e),λp hp=>?_,λb u e=>?_,I.len,#[.inl hd,I.hq.ok,λr m=>ne (I.hq.lm r m) (λ_ q=>by ext q)]]
 .rw[aJ (λq=>h0 o u (by rw[<- q];apply e))];apply I.base.i9 b o u e
 .let#[m,q]:=I.base.jT b ps e;apply#[m,ne q (λ_ q=>by ext q)]
 .let#[e,n,r]:=I.pin p hp;apply#[e,nn n,r]
 .by_cases hb:b=a
  .subst hb;rw[bP] at e;ext e;apply(I.aG b _ ha).2
  .rw[aJ hb] at e;apply(I.aG b u e).gH (λc v _ q=>q) (λc q=>ne q (λ_ q=>by ext q)) λc xs q=>ne q (λ_ q=>by ext xs<;>ext q)
end L2
namespace L2.Ev
open PySem PySem.Spec PyProof.Rows
def BW(fx:XF)(fb:EF):XF:=λY=>match fx Y with
 |some (d1,Y')=>match fb Y' with
  |some (d2,_)=>(oEq d1 d2).map λd=>(d,Y')
  |none=>none
 |none=>none
def VT(ha:FZ X a fx)(hb:FP X b fb):FZ X (.Compare a [.Eq] [b] pos) (BW fx fb):=by
 let#[ta,pa,sa]:=ha;let#[tb,pb,sb]:=hb;refine#[_,T5 DJ pa pb (jm _),@λH0 S z aq Y U H Q d Y' ok e k=>?_];unfold BW at e;cases h1:fx Y with
 |none=>rw[h1] at e;ext e
 |some w=>
  let#[d1,aO]:=w;rw[h1] at e;dsimp only at e;cases h2:fb aO with
  |none=>rw[h2] at e;ext e
  |some w2=>
   let#[d2,t2]:=w2;rw[h2] at e;dsimp only at e;cases h3:oEq d1 d2 with
   |none=>rw[h3] at e;ext e
   |some d3=>
    rw[h3] at e;ext e;refine sa ok h1 λz1 H1 x aV r1=>?_
    refine sb aV h2 λH2 y f2 s2 r2 _=>?_
    apply Gf H2 x y d1 d2 [] f2 _ _ (r1.same s2) r2 h3 λH3 v s3 r3=>k z1 H3 v ((aV.same s2).same s3) r3
def aaa(K:Fr)(T:List (Str×Bool))(cs:List Addr):Prop:=∀cn b C,T.lookup cn=some b->PySem.W.nsIn K mainGlobals cn=some (some (.ref C))->qo K C/\PySem.W.kitAny K (.ref C) (cs.map Value.ref)=some b
end L2.Ev
namespace L2
open PySem PySem.Spec PyProof.Rows
section
variable{X:Cx}
def ahU:ie X (.type "int") (λxs H Q=>∃b,xs=[V.bl b]/\Q (.int (if b then 1 else 0)) H):=by
 exists 43;let#[b,rfl,q]:=h;let#[u,rfl,ru]:=vals1 r;ext ru;apply call_int_bool #[.int _,H,I.tok _,#[_,rfl],q]
end
end L2
namespace L2.Ev
open PySem PySem.Spec PyProof.Rows
section
variable{X:Cx}{a b e:Expr}{fa fb fv:EF}{p p1 p2 p3 pos:Pos}
def NY:D->Option D
 |.bl b=>some (.int (if b then 1 else 0))
 |_=>none
def ZQ{K:Fr}:oz K (λxs H Q=>∃b,xs=[V.bl b]/\Q (.int (if b then 1 else 0)) H) NY:=by
 intro H x d1 f1 d Q r e k;ext d1<;>try (ext e;done)
 ext e;ext r;apply#[_,rfl,k H _ [] (aH.refl H) (.int _) acE λa m=>nomatch m]
def XX(hm:X.mg "int"=none)(ha:FP X a fa)(hg:Gl X "int":=by rfl)(hs:Y1 X a:=by rfl):FP X (.Call (.Name "int" p) [a] [] pos) (e1 NY fa):=
 fp_1 ZQ ha λta pa=>B_ ahU hg hm (show bootBuiltins "int"=some (.type "int") by decide +kernel) (dg pa e_ hs) (he:=hs) (hpl:=rfl)
end
open PySem PySem.Spec PyProof.Rows Builtin Builtin.Str
section
variable{X:Cx}{a b:Expr}{fa fb:EF}{p p2 p3 pos:Pos}
def SH:D->D->Option D
 |.str x,.str y=>if x.length+y.length<=sizeLine then some (.str (x++y)) else none
 |_,_=>none
def Wc{K:Fr}:gR K (λx y H Q=>∃i j,x=.str i/\y=.str j/\i.length+j.length<=sizeLine/\Q (.str (i++j)) H) SH:=by
 exists 41;ext d1<;>try (ext e;done)
 ext d2<;>try (ext e;done)
 rename_i i j;have e:(if i.length+j.length<=sizeLine then some (D.str (i++j)) else none)=some d:=e
 by_cases hc:i.length+j.length<=sizeLine
 .rw[if_pos hc] at e;ext e;ext r1;ext r2;apply#[_,_,rfl,rfl,hc,k H _ (aH.refl H) (.str _)]
 .rw[abM hc] at e;ext e
def agT(ha:FP X a fa)(hb:FP X b fb):FP X (.BinOp a .Add b pos) (e2 SH fa fb):=wQ adC Wc ha hb
end
end L2.Ev
namespace L2.Ev
open PySem
def sq(h:sf Y=some (.nx Y'))(h2:sg Y'=r):ck sf sg Y=r:=by rw[je,h,pC,h2]
def iO(h:f Y=some (d,t))(h2:sg (iE Y i d t)=r):ck (eO i f) sg Y=r:=sq (by unfold eO;rw[h]) h2
def pP(h:tf Y=some b)(h2:ck (if b=true then sf else gm) sg Y=r):ck (eW tf sf gm) sg Y=r:=by
 have e:eW tf sf gm Y=(if b=true then sf else gm) Y:=by rw[iH,h];ext b<;>rfl
 rw[je,e,<- je,h2]
def b_(h:tf Y=some false)(h2:sg Y=r):ck (eW tf sf gm) sg Y=r:=sq (by rw[iH,h];rfl) h2
def bB(h:f Y=some (d,t))(h2:op d=some d1):e1 op f Y=some (d1,.own):=by rw[yQ,h,Qp,h2];rfl
def aM(h:f Y=some (d1,t1))(h2:g Y=some (d2,t2))(h3:op d1 d2=some d):e2 op f g Y=some (d,.own):=by rw[kG,h,h2,zg,h3];rfl
def cP(h:g Y=some ps)(h2:F (ps.map (·.1))=some d):cZ F g Y=some (d,.own):=by rw[s_call,h,Vd,h2];rfl
def cj(h:f Y=some (.bl b,t)):tV f Y=some b:=by rw[zG,h];rfl
def kN(h:tf Y=some b):lV tf Y=some (!b):=by rw[Lx,h];rfl
open PySem PySem.Spec PyProof.Rows
def Nm:D->Option (List (Key×D))
 |.cG es=>some es
 |_=>none
def acM:∀{d} {es},Nm d=some es->d=.cG es:=by
 rintro(_|_) i e
 all_goals ext e
 rfl
def Au(i:Nat)(cn f:Str)(fk fv:EF):SF:=λY=>(fv Y).bind λp=>(qS cn Y[i]?).bind λes=>(fk Y).bind λq=>((es.lookup f).bind Nm).bind λak=>(iZ q.1).bind λk=>
 if(aA p.1&&aK (ak.map (·.2))&&decide (ak.length<sizeLine))=true then some (.nx (bU Y i (.ins cn (eK f (.cG (putD ak k p.1)) es)))) else none
def Cw(i:Nat)(hu:X.A.units+1<cLine)(hC:ClsAt X.K cn C)(na:iQ X.K C f)(hk:FP X k fk)(hv:FP X v fv)(va:VA X i x:=by walk_at "va")
  (hb:attributeBase (.Name x p) f X.env (eval (.Name x p) X.env)=eval (.Name x p) X.env:=by rfl)
  (hs:swapsWith v (some (.Subscript (.Attribute (.Name x p) f p1) k pos')) pos.line X.env=pure false:=by rfl) :
  eB X (.Assign [.Subscript (.Attribute (.Name x p) f p1) k pos'] v pos) (Au i cn f fk fv):=by
 let#[tk,pk,sk]:=hk;let#[tv,kR,sv]:=hv;exists 25,Ci hu (n_ va.pe hb) pk kR hs;let#[#[d,td],g1,e]:=aa5.mp e;let#[es,g2,e]:=aa5.mp e;have g2:=xH g2;let#[#[kd,RC],g3,e]:=aa5.mp e;let#[ak,hl,e]:=aa5.mp e;let#[_,hl,h]:=aa5.mp hl;let#[key,zX,e]:=aa5.mp e;let#[hc,e]:=adB.mp e;ext e;obtain rfl:=acM h;let#[c1,c3]:=(aaM _ _).mp hc;let#[c1,c2]:=(aaM _ _).mp c1;refine sv ok g1 λH1 v fd s1 rv gv=>?_
 have hn:=rv.aA c1;subst hn;let#[xv,fp,c8,r,zz]:=(ok.same s1).sl i _ _ g2;refine#[xv,c8,?_];let#[b0,dx,fs,u,gf,rfl,h1,h2,h3,h4,h5,h6]:=r.place hC.ns zz.1 hl;refine#[b0,C,dx,fs,u,rfl,h1,hC.cl,na,h2,?_];refine sk (ok.same s1) g3 λH2 y VF s2 rk _=>?_
 have ek:=rk.key zX;subst ek;have r':=h3.same s2;generalize hw:u=w at r' h6;cases r' with
 | @cG l ks _ f' h fZ rs=>
  have hn:=rs.aA c2;subst hn;have hlen:ks.length=ak.length:=by have:=congrArg List.length fZ;simpa using this.symm
  refine#[l,_,rfl,pL.k h (by rw[hlen];apply abl c3),?_];have im:aW H2 (upd H2 l (.dK (putK ks key v))):=aW.upd h rfl;have kp:∀(c) o,c∉[l]->H1 c=some o->upd H2 l (.dK (putK ks key v)) c=some o:=λc o n e=>by rw[aJ λq=>n (by rw[q];apply aav)];apply s2 c o e
  let#[bI,k1,k2,k3]:=h6 (upd H2 l (.dK (putK ks key v))) (.cG (putD ak key d)) [l] ((aW.of s2).trans im) kp
   (.cG bP (yj fZ) (CH fZ (rs.frame (λa m=>nomatch m) im) ((rv.same s2).frame (λa m=>nomatch m) im))) h4 (λc m=>.inl m)
  let#[z',aT]:=(ok.same s1).put g2 c8 zz ((aW.of s2).trans im) (λc o n e=>kp c o (λm=>n (h5 c m)) e) k1 k2 k3;apply q z' U _ aT (.refl _ _)
def inD:D->Option Int
 |.int i=>some i
 |_=>none
def Sn:∀{d} {i},inD d=some i->d=.int i:=by
 rintro(_|_) i e
 all_goals ext e
 rfl
def Gs(i:Nat)(cn f:Str)(fv:EF):SF:=λY=>(fv Y).bind λp=>(inD p.1).bind λj=>(qS cn Y[i]?).bind λes=>((es.lookup f).bind inD).bind λk=>
 if es.length<1000 then some (.nx (bU Y i (.ins cn (eK f (.int (k+j)) es)))) else none
def Jx(i:Nat)(hC:ClsAt X.K cn C)(na:iQ X.K C f)(hv:FP X a fv)(va:VA X i x:=by walk_at "va"):eB X (.AugAssign (.Attribute (.Name x p1) f pos') .Add a pos) (Gs i cn f fv):=by
 let#[t,p,q]:=hv;exists 23,Yk va.pe p Xs;let#[#[_,tg],h1,e]:=aa5.mp e;let#[j,hj,e]:=aa5.mp e;let#[es,h2,e]:=aa5.mp e;have h2:=xH h2;let#[m,hf,e]:=aa5.mp e;let#[_,hf,hm]:=aa5.mp hf;let#[hl,e]:=adB.mp e;ext e;obtain rfl:=Sn hj;obtain rfl:=Sn hm;let#[v,aX,c8,r0,zz]:=ok.sl i _ _ h2;refine#[v,c8,?_];let#[b,dx,fs,u,gf,rfl,h3,e2,e3,_]:=r0.place hC.ns zz.1 hf;let#[b',zF,vY,g,ev,rfl,BE,h4,h5,h6]:=r0.lO hC.ns;ext ev;rw[h3] at BE;ext BE;ext e3;have lf:fs.length<1000:=by have:=congrArg List.length h5;rw[List.length_map,List.length_map] at this;omega
 refine#[b,C,dx,fs,_,rfl,h3,hC.cl,na,e2,q ok h1 λH1 y fd s1 r1 g1=>?_];ext r1;refine#[m,j,rfl,rfl,dx,fs,s1 _ _ h3,lf,?_];let#[z',aT]:=ok.fld hC h2 c8 h3 s1 (.int (m+j)) acE λc m=>nomatch m
 apply k z' U _ aT (.refl _ _)
def uz(f:EF):TF:=λY=>match f Y with
 |some (.lst ds,_)=>some (!ds.isEmpty)
 |_=>none
def Vf(h:FP X a f)(he:∀whole,isTrue a X.env whole=(do let v <- whole;standAt a.pos;holding [v] (truthy v)):=by intro _;rfl):FT X a (uz f):=by
 let#[t,p,q]:=h;refine#[_,agl p he,@λH0 S z aq Y U H Q b ok e k=>?_];unfold uz at e
 split at e
 .rename_i ds tg e1;ext e;refine q ok e1 λH1 v fp s1 r1 _=>?_
  let#[w,xs,f,rfl,hq,rs,_]:=r1.d9;have he:(!ds.isEmpty)=!xs.isEmpty:=by ext rs<;>rfl
  apply#[_,.inl #[xs,hq,rfl],he ▸ k H1 s1]
 .cases e
def agq(hu:X.A.units+1<cLine)(ha:FP X a fa)(hb:FP X b fb)(hm:behindInMarks .NotIn b=false:=by rfl):FP X (.Compare a [.NotIn] [b] pos) (e2 (qY true) fa fb):=
 fp_2 GV ha hb λta tb pa pb=>S2 (afD hu pa pb) hm
end L2.Ev
namespace L2
open PySem PySem.Spec PyProof.Rows
def PM(I:Inv X af U H s)(h:bQ X.K H a (ks.map kV)):(tupleKind (f7 X.prog X.w)).is s.heap ks a:=by
 let#[av,r,#[o,h1,h2,_,n,h3],_]:=I.ac1 h;apply#[o,av.toArray,n,h1,h2,h3,by simpa using Ku r]
def NS(K:Fr)(neg:Bool):R2:=λx y H Q=>∃b a k ak,x=.ref b/\y=.ref a/\bQ K H b (List.map kV k)/\H a=some (.dT ak)/\Q (.bl (if neg=true then !(eT ak k).isSome else(eT ak k).isSome)) H
def ajS(hu:X.A.units+1<cLine):dO X (compareOp .In) (NS X.K false):=by
 rintro af s U H x y v u Q I rx ry ⟨b,a,k,ak,rfl,rfl,hq,e,q⟩
 obtain rfl:v=Value.ref b:=rx;obtain rfl:u=Value.ref a:=ry;let#[z,hd,xs,rel,dd]:=p_ I.aG (.inl e);refine wpAny_in_heap (ahf hu) (PM I hq) hd dd ?_;have w:=(rel.val k).v7;rw[ahA] at w;rw[<- w];apply#[.bl (eT ak k).isSome,H,I.tok _,rfl,q]
def ajO(K:Fr)(td ty:TE):TE:=λU H Q=>td U H λx H1=>ty U H1 λy H2=>∃a b k ak v,x=.ref a/\y=.ref b/\bQ K H2 b (List.map kV k)/\H2 a=some (.dT ak)/\eT ak k=some v/\Q v H2
def afM(hu:X.A.units+1<cLine)(ho:PE X o td)(hi:PE X i ty)(hs:yk i):PE X (.Subscript o i pos) (ajO X.K td ty):=by
 exists 44;refine NX PySem.F.slot_dict_getitem.lookup hs (ho.n I h λu s1 x H1 I1 rx q1=>cL (hi af s1 U H1 _ I1 q1) λiv s2 hq=>?_);let#[y,H2,I2,ry,a,b,k,ak,v,ex,ey,hq,e,l,q2]:=hq;subst ex;subst ey;obtain rfl:u=Value.ref a:=rx;obtain rfl:iv=Value.ref b:=ry;let#[z,hd,xs,rel,dd]:=p_ I2.aG (.inl e);let#[w',hw,fM]:=iI.some_of (by rw[<- l];apply rel.val k);let#[p,hp,Kv]:=abX.mp hw;refine#[dd.typeIs,wpAny_getItem_heap (ahf hu) (PM I2 hq) dd hp ?_];rw[Kv];apply#[v,H2,I2.tok _,fM,q2]
namespace Ev
def jh:List D->Option (List Key)
 |[]=>some []
 |d::ds=>match iZ d,jh ds with
  |some k,some ks=>some (k::ks)
  |_,_=>none
def aD.keys{K:Fr}:∀{ds} {xs} {fp} {ks},aD K H ds xs fp->jh ds=some ks->xs=ks.map L2.kV
 |[],_,_,_,.nil,e=>by ext e;rfl
 |d::ds,_,_,ks,.cons r rs,e=>by
  unfold jh at e
  split at e
  .rename_i k pH h1 h2;ext e;rw[r.key h1,aD.keys rs h2];rfl
  .cases e
def Lm(neg:Bool):D->D->Option D
 |.tup ds,.dN es=>(jh ds).map λk=>.bl (if neg=true then !(bu es k).isSome else(bu es k).isSome)
 |_,_=>none
def abw{neg:Bool}{K:Fr}:gR K (NS K neg) (Lm neg):=by
 exists 41;ext d1<;>try (ext e;done)
 ext d2<;>try (ext e;done)
 rename_i ds es;have e:((jh ds).map λk=>D.bl (if neg=true then !(bu es k).isSome else(bu es k).isSome))=some d:=e;let#[w,xs,rfl,hq,rs]:=r1.ir;cases hk:jh ds with
 |none=>rw[hk] at e;ext e
 |some ks=>
  rw[hk] at e;ext e;obtain rfl:=aD.keys rs hk;cases r2 with
  | @dN a ak _ f h fZ ye=>
   have ev:(eT ak ks).isSome=(bu es ks).isSome:=by
    let#[h1,h2]:=qZ fZ ye;cases hv:bu es ks with
    |none=>rw[h2 hv];rfl
    |some dv=>let#[v,f,jN,_]:=h1 dv hv;rw[jN];rfl
   refine#[w,a,ks,ak,rfl,rfl,hq,h,?_];rw[ev];exact k H _ (aH.refl H) (.bl _)
def Wt(hu:X.A.units+1<cLine)(ha:FP X a fa)(hb:FP X b fb)(hm:behindInMarks .In b=false:=by rfl):FT X (.Compare a [.In] [b] pos) (tV (e2 (Lm false) fa fb)):=jX (ajS hu) abw ha hb hm
def LY(fa fb:EF):EF:=λY=>match fa Y,fb Y with
 |some (.dN es,t),some (.tup ds,_)=>(jh ds).bind λk=>(bu es k).map λd=>(d,kC t)
 |_,_=>none
def ae3(hu:X.A.units+1<cLine)(ha:FP X a fa)(hb:FP X b fb)(hs:yk b):FP X (.Subscript a b pos) (LY fa fb):=by
 let#[ta,pa,sa]:=ha;let#[tb,pb,sb]:=hb;exists 20,afM hu pa pb hs;unfold LY at e
 split at e
 .rename_i es t ds t2 e1 i_;cases hk:jh ds with
  |none=>rw[hk] at e;ext e
  |some ks=>
   rw[hk,acG] at e;cases hv:bu es ks with
   |none=>rw[hv] at e;ext e
   |some dv=>
    rw[hv] at e;ext e;refine sa ok e1 λH1 x f1 s1 r1 g1=>?_
    refine sb (ok.same s1) i_ λH2 y f2 s2 r2 _=>?_
    let#[w,xs,rfl,hq,rs]:=r2.ir;obtain rfl:=aD.keys rs hk;have Im:=r1.same s2;cases Im with
    | @dN l ak _ f h fZ ye=>
     let#[h1,_]:=qZ fZ ye;let#[v,f,jN,rv,sub]:=h1 _ hv;refine#[l,w,ks,ak,v,rfl,rfl,hq,h,jN,?_];apply q H2 v f (s1.trans s2) rv (cR.sub (λa j e=>(ok.zd a j e).1) g1 λa m=>aar _ (sub a m))
 .cases e
def AB(neg:Bool):D->D->Option D
 |d1,.lst ds=>if(eS d1&&eS (.lst ds))=true then some (.bl (if neg=true then !(d_ ds).any λy=>PyData.eqv y (py d1) else(d_ ds).any λy=>PyData.eqv y (py d1))) else none
 |_,_=>none
def IS(K:Fr)(neg:Bool):R2:=λx y H Q=>∃d1 ds f1 f2,Rep K H d1 x f1/\Rep K H (.lst ds) y f2/\eS d1=true/\eS (.lst ds)=true/\Q (.bl (if neg=true then !(d_ ds).any λy=>PyData.eqv y (py d1) else(d_ ds).any λy=>PyData.eqv y (py d1))) H
def aiF(hu:X.A.units+64<cLine):dO X (compareOp .In) (IS X.K false):=by
 exists 42;let#[d1,ds,f1,f2,r1,r2,l1,l2,q]:=h;let#[a1,a2,a3]:=lay_of l1;let#[b1,b2,b3]:=lay_of l2;let#[as,ra]:=qC I r1 rx a1;let#[bs,rb]:=qC I r2 ry b1;rw[py] at rb b2 b3;simp only[PyData.canLay0] at b2;apply SeqAt.in_list_reads rb ra b2 a2 (by have:=Nat.min_le_right (PyData.depthAll (d_ ds)) (py d1).depth;omega) #[.bl _,H,I,rfl,q]
def aeB(hu:X.A.units+64<cLine):dO X (compareOp .NotIn) (IS X.K true):=by
 exists 42;let#[d1,ds,f1,f2,r1,r2,l1,l2,q]:=h;let#[a1,a2,a3]:=lay_of l1;let#[b1,b2,b3]:=lay_of l2;let#[as,ra]:=qC I r1 rx a1;let#[bs,rb]:=qC I r2 ry b1;rw[py] at rb b2 b3;simp only[PyData.canLay0] at b2;apply SeqAt.notIn_list_reads rb ra b2 a2 (by have:=Nat.min_le_right (PyData.depthAll (d_ ds)) (py d1).depth;omega) #[.bl _,H,I,rfl,q]
def Oq{K:Fr}:gR K (IS K neg) (AB neg):=by
 exists 41;ext d2<;>try (ext e;done)
 rename_i ds;have e:(if(eS d1&&eS (.lst ds))=true then some (D.bl (if neg=true then !(d_ ds).any λy=>PyData.eqv y (py d1) else(d_ ds).any λy=>PyData.eqv y (py d1))) else none)=some d:=by ext d1<;>apply e
 by_cases hc:(eS d1&&eS (.lst ds))=true
 .rw[if_pos hc] at e;ext e;let#[c1,c2]:=(aaM _ _).mp hc;apply#[d1,ds,f1,f2,r1,r2,c1,c2,k H _ (aH.refl H) (.bl _)]
 .rw[abM hc] at e;ext e
def SD(hu:X.A.units+64<cLine)(ha:FP X a fa)(hb:FP X b fb)(hm:behindInMarks .NotIn b=false:=by rfl):FT X (.Compare a [.NotIn] [b] pos) (tV (e2 (AB true) fa fb)):=jX (aeB hu) Oq ha hb hm
def adg(hu:X.A.units+64<cLine)(ha:FP X a fa)(hb:FP X b fb)(hm:behindInMarks .In b=false:=by rfl):FP X (.Compare a [.In] [b] pos) (e2 (AB false) fa fb):=uT (aiF hu) Oq ha hb hm
def M8:FP X (.Dict [] [] pos) (eC (.dN [])):=by
 refine#[_,adh,@λH0 S z aq Y U H Q d tg ok e k p hp=>?_];ext e;have s2:aH H (upd H p (.dT [])):=λb o e=>by rw[aJ (cU e hp)];apply e
 apply k _ _ [p] s2 (.dN bP rfl .nil) #[acw.mpr #[(λm=>by ext m),acE],λa m=>by cases aa6.mp m;apply hp]
end Ev
end L2
namespace L2
open PySem PySem.W PyProof.Rows
abbrev fY(n:Nat)(p:Array Nat):Prop:=p.Perm (List.range n).toArray
def getD_at{p:Array Nat}(h:i<p.size):p.getD i 0=p[i]:=by simp[Array.getD,h]
def fY.sz{p:Array Nat}(P:fY n p):p.size=n:=by rw[Array.Perm.size_eq P];simp
def fY.lt{p:Array Nat}(P:fY n p)(h:1<=n):p.getD i 0<n:=by
 by_cases hi:i<p.size
 .rw[getD_at hi];have:=(ajC.mp P).mem_iff.mp (show p[i]∈p.toList by simp);simpa using this
 .simp[Array.getD,hi];lia
def xV(r:Nat->Nat->Bool):KasT α->α
 |.ret a=>a
 |.ask i j k=>xV r (k (r i j))
def Vq(n:Nat):KasT α->(α->Prop)->Prop
 |.ret a,P=>P a
 |.ask i j k,P=>i<n/\j<n/\∀b,Vq n (k b) P
def Vq.bind{f:α->KasT β}{P:β->Prop}:∀{t:KasT α},Vq n t (λa=>Vq n (f a) P)->Vq n (t.bind f) P
 |.ret _,h=>h
 |.ask _ _ _,h=>#[h.1,h.2.1,λb=>Vq.bind (h.2.2 b)]
def Vq.run{cmp:Nat->Nat->(Bool->Shared->Prop)->Shared->Prop}{P:α->Prop}{G:α->Shared->Prop}(A:∀i j C,i<n->j<n->C (r i j) s->cmp i j C s):∀{t:KasT α},Vq n t P->(P (xV r t)->G (xV r t) s)->t.kasWp cmp G s
 |.ret _,h,g=>g h
 |.ask i j k,h,g=>A i j _ h.1 h.2.1 (Vq.run A (h.2.2 _) g)
section
variable{p:Array Nat}
theorem Hx(P:fY n p)(h:1<=n){Q:Nat->Prop}(q:∀m,Q m):∀f m,Vq n (kas_asc p f m) Q
 |0,m=>q m
 |f+1,m=>#[P.lt h,P.lt h,λ| false=>Hx P h q f _|true=>q _]
def zB(P:fY n p):fY n (kas_rev p i j):=(mirror_perm _ _ _ _).trans P
theorem BX(h:1<=n){Q:Array Nat×Nat×Nat->Prop}(q:∀p m i,fY n p->Q (p,m,i)):∀f {p} m i,fY n p->Vq n (kas_desc f p m i) Q
 |0,p,m,i,P=>q _ _ _ P
 | f + 1,p,m,i,P=>#[P.lt h,P.lt h,λb=>by
  cases b with
  |true=>
   show Vq n (if i > 0 then _ else _) Q
   split
   .exact BX h q f _ _ (zB P)
   .exact BX h q f _ _ P
  |false=>apply#[P.lt h,P.lt h,λ| false=>BX h q f _ _ P|true=>q _ _ _ P]]
def O4(P:fY n p)(h:1<=n){Q:Nat×Array Nat->Prop}(q:∀m p,fY n p->Q (m,p)):Vq n (kas_tail3 m k p) Q:=.bind (Hx (zB P) h (λ_=>q _ _ (zB P)) _ _)
def Q9(P:fY n p)(h:1<=n){Q:Nat×Array Nat->Prop}(q:∀m p,fY n p->Q (m,p)):Vq n (kas_descPart m k p) Q:=.bind (BX h (λp m i P=>by
 show Vq n (if i > 0 then _ else _) Q
 split
 .exact O4 (zB P) h q
 .exact O4 P h q) _ _ _ P)
theorem KS(h:1<=n):∀f {p} x,fY n p->Vq n (kas_bin f p x) (fY n)
 |0,p,x,P=>P
 | f + 1,p,x,P=>.bind (by
  have pl:∀f l u,Vq n (kas_place p x f l u) λl=>Vq n (kas_bin _ (bubble p x (x-l)) (x+1)) (fY n):=λg=>by
   induction g with
   |zero=>apply λl u=>KS h f _ ((bubble_perm _ _ _).trans P)
   |succ g ih=>
    intro l u;unfold kas_place
    split
    .exact KS h f _ ((bubble_perm _ _ _).trans P)
    .exact#[P.lt h,P.lt h,λ| false=>ih _ _|true=>ih _ _]
  apply pl _ _ _)
def VG(h:1<=n):Vq n (kas_sort n) (fY n):=by
 have P:fY n (List.range n).toArray:=Array.Perm.refl _;have q:∀m p,fY n p->Vq n (if m<n then kas_bin (n-max m 1) p (max m 1) else .ret p) (fY n):=λm p P=>by
  split
  .exact KS h _ _ P
  .exact P
 refine .bind (.bind (Hx P h (λm=>?_) _ _))
 split
 .exact q _ _ P
 .split
  .exact#[P.lt h,P.lt h,λ| false=>Q9 (zB P) h q|true=>q _ _ P]
  .exact Q9 P h q
end
open PySem PySem.Spec PySem.W PyProof.Rows
def lex(x y:Int×Int):Bool:=decide (x.1<y.1\/x.1=y.1/\x.2<y.2)
def IsPair(h:Heap)(q:Addr)(x:Int×Int):Prop:=∃t u,IsTup h q ([.int x.1 t,.int x.2 u].toArray)
def aiO(hx:IsPair s.heap x a)(hy:IsPair s.heap y b)(h:Q (lex a b) s):wpAny (model prog w) A (keyLt' (tuples' true) (.ref x) (.ref y)) Q E s:=by
 let#[t,u,o,h1,_,n,h2]:=hx;let#[t',u',o',iB,_,n',lT]:=hy;refine kat_lt h1 h2 iB lT (kat_cons (wpAny_eqBool_int (kat_go (λe=>kat_yes (kat_cons (wpAny_eqBool_int (kat_go (λe2=>kat_yes (kat_nil ?_)) λe2=>kat_no (kat_one _ _ (lt_int ?_)))))) λe=>kat_no (oneLt_int ?_))))
 .have e:=eq_of_beq e;have e2:=eq_of_beq e2;have:lex a b=false:=acp (by omega);rw[this] at h;apply h
 .have e:=eq_of_beq e;have:lex a b=decide (a.2<b.2):=by unfold lex;congr 1;apply propext #[λz=>by omega,λz=>.inr #[e,z]]
  rw[this] at h;apply h
 .have e:=ne_of_beq_false e;have:lex a b=decide (a.1<b.1):=by unfold lex;congr 1;apply propext #[λz=>by omega,.inl]
  rw[this] at h;apply h
theorem QN:∀{qs} {ps},Paired (IsPair h) qs ps->∃fs,KatTups h (qs.map Value.ref) fs/\fs.length=qs.length/\∀v∈fs,∃i t,v=Value.int i t
 |_,_,.nil=>#[[],.nil,rfl,λ_ m=>nomatch m]
 |_,_,.cons r t=>by
  let#[fs,h1,h2,h3]:=QN t;let#[t,u,o,e1,e2,n,e3]:=r;apply#[_::fs,KatTups.cons e1 e2 e3 rfl h1,by rw[acv,acv,h2],λv m=>(aaO.mp m).elim (λz=>#[_,_,z]) (h3 v)]
def oA(r:Nat->Nat->Bool)(n:Nat):Array Nat:=if n<2 then(List.range n).toArray else xV r (kas_sort n)
def E2:fY n (oA r n):=by
 unfold oA
 split
 .exact Array.Perm.refl _
 .have go:∀{α:Type}{P:α->Prop}{t:KasT α},Vq n t P->P (xV r t):=λ{α P t}=>by
   induction t with
   |ret a=>apply id
   |ask i j k ih=>apply λh=>ih _ (h.2.2 _)
  apply go (VG (by lia))
def o_(ps:List (Int×Int))(i j:Nat):Bool:=lex (ps.getD i (0,0)) (ps.getD j (0,0))
def ai9{a kS:Addr}{vs:List Value}(lW:vs.length<64)(hl:qs.length=vs.length)(hp:Paired (IsPair s.heap) qs ps)
  (hk:s.heap.get? kS=some (seqObj "list" (qs.map Value.ref).toArray e)) (ha:s.heap.get? a=some (seqObj "list" ([].toArray) e1)) (ne:a≠kS)
  (h:P (.done (.ret .none)) { s with heap:=(s.heap.update kS (Obj.mapSeq λ_=>([].toArray))).update a (Obj.mapSeq λ_=>((oA (o_ ps) vs.length).toList.map λi=>vs.getD i Value.none).toArray) }) :
  wpAny (model prog w) A (ksk_end a false vs.toArray e1 (.ref kS) (qs.map Value.ref).toArray) P E s:=by
 have D6:(qs.map Value.ref).length=vs.length:=by rw[List.length_map];apply hl
 have tail:∀(st),(arrOf st).map (·.2)=((oA (o_ ps) vs.length).toList.map λi=>vs.getD i Value.none).toArray->failedOf st=none->
   wpAny (model prog w) A (ksk_tail a false e1 (.ref kS) st) P E s:=by
  intro st ho hf;have s1:=Heap.SameBut.update s.heap kS (Obj.mapSeq λ_=>(([].toArray):Array Value));have Pu:=(s1.2 a ne).trans ha;unfold ksk_tail;dsimp only;refine aaq (listUpdate_at hk rfl ?_ (by rw[ab9,D6,afK];lia) (acP _));refine aaq (akk ?_);refine aaq (seqEpoch_at Pu rfl ?_);refine aaq (listUpdate_at Pu rfl ?_ (acP _) ?_)
  .rw[hf];simp only[bne_self_eq_false,ah8,if_false];rw[ho];apply abP h
  .simp only[ah8,if_false];rw[ho,ab9,List.length_map,aeI,fY.sz E2,afK];lia
 unfold ksk_end;dsimp only;rw[abM abm]
 by_cases h2:vs.toArray.size<2
 .rw[if_pos h2,if_pos h2];refine aaq (abP ?_);rw[StateT.run_pure];refine aaq (abP ?_);dsimp only;rw[ab9] at h2;refine tail _ ?_ rfl;rw[show oA (o_ ps) vs.length=(List.range vs.length).toArray from if_pos h2];have e:=kat_snds D6 (st:=kas_st general' ((qs.map Value.ref).toArray.zip vs.toArray) (List.range vs.length).toArray) rfl;have er:(List.range vs.length).toArray.map (kas_item ((qs.map Value.ref).toArray.zip vs.toArray))=(qs.map Value.ref).toArray.zip vs.toArray:=by
   have:=kas_range ((qs.map Value.ref).toArray.zip vs.toArray);rw[show((qs.map Value.ref).toArray.zip vs.toArray).size=vs.length by simp[hl]] at this;apply this
  rw[<- e];show((qs.map Value.ref).toArray.zip vs.toArray).map (·.2)=((List.range vs.length).toArray.map (kas_item ((qs.map Value.ref).toArray.zip vs.toArray))).map (·.2);rw[er]
 .rw[abM h2,abM h2];rw[ab9] at h2;let#[fs,k1,k2,k3]:=QN hp;refine aaq (kat_kind k1 (by lia) (λv m=>by let#[i,t,rfl]:=k3 v m;apply Looks.of_pure rfl) (by decide) ?_);refine aaq (adI (kat_run (Q:=λst s'=>s'=s/\(arrOf st).map (·.2)=((oA (o_ ps) vs.length).toList.map λi=>vs.getD i Value.none).toArray/\failedOf st=none)
   (G:=λq s'=>s'=s/\q=oA (o_ ps) vs.length) D6 (by lia) lW (λq lF s' _ ha hf g=>#[g.1,by rw[<- g.2];apply kat_snds D6 ha,hf]) ?_) ?_ λ_ _ z=>z)
  .have lp:ps.length=vs.length:=by rw[<- Paired.length hp];apply hl
   refine Vq.run (r:=o_ ps) (λi j C hi hj hc=>?_) (VG (by lia)) λ_=>#[rfl,(abM h2).symm]
   have at_:∀i,i<vs.length->∃x,(qs.map Value.ref).getD i Value.none=.ref x/\IsPair s.heap x (ps.getD i (0,0)):=λi hi=>by
    have lq:i<qs.length:=by lia
    have QH:i<ps.length:=by lia
    refine#[qs[i],by simp[adQ,lq],?_];rw[adQ,aa1 QH,ajX];have go:∀{qs} {ps},Paired (IsPair s.heap) qs ps->∀(i) (a) (b:i<ps.length),IsPair s.heap qs[i] ps[i]:=by
     intro qs ps r
     induction r with
     |nil=>intro i a;apply absurd a (Nat.not_lt_zero _)
     |cons r t ih=>intro i a b;cases i with
      |zero=>apply r
      |succ i=>apply ih i (by simpa using a) (by simpa using b)
    apply go hp i lq QH
   let#[x,ex,hx]:=at_ i hi;let#[y,ey,hy]:=at_ j hj;show wpAny (model prog w) A (keyLt' _ ((qs.map Value.ref).getD i Value.none) ((qs.map Value.ref).getD j Value.none)) C _ s;rw[ex,ey];apply aiO hx hy hc
  .rintro⟨⟨⟩,st⟩ s' ⟨rfl,h4,h5⟩
   apply tail st h4 h5
theorem B0:∀{K:Fr},K.lookup a=some o->(a,o)∈K
 |[],h=>by ext h
 |(b,u)::r,h=>by
  by_cases e:(a==b)=true
  .simp only[List.lookup,e] at h;ext h;rw[eq_of_beq e];apply aav
  .simp only[List.lookup,(by simpa using e:(a==b)=false)] at h;apply aar _ (B0 h)
def agy(I:Inv X af U H s)(lk:X.K.lookup f0=some o0)(sh:wB o0=some (cv,q,jU)):∃cc P,cv=.ref cc/\codeHdIn X.K cc P=true/\H P=some (.iV q jU):=by
 let#[aV,ok]:=(aaM _ _).mp I.hq.ok;have aV:=ado.mp ((aaM _ _).mp aV).2 (f0,o0) (B0 lk);have aV:=aV;rw[sh] at aV;let#[#[cc,P,q',pos'],e]:=afW.mp (show(CG X.K (f0,o0)).isSome=true from aV);have hm:(cc,P,q',pos')∈jA X.K:=ag4.mpr #[_,B0 lk,e];have e':=e;unfold CG at e';dsimp only at e';rw[sh] at e'
 split at e'
 .rename_i h;ext h
  split at e'
  .split at e'
   .cases e';refine#[cc,P,rfl,?_,I.hq.lm _ hm]
    split at ok
    .rename_i e;rw[e] at hm;ext hm
    .rename_i r e;rw[e] at hm;cases aa6.mp hm;apply((aaM _ _).mp ok).1
    .cases ok
   .cases e'
  .cases e'
 .cases e'
def adq(I:Inv X af U H s)(lk:X.K.lookup f0=some o0)(sh:wB o0=some (X.env.code,q,jU))(AV:defaultsOf args X.env=([],[]))(wV:closureFor sc X.env=pure pI)(hq:X.env.qual++"<lambda>"=q)
  (h:∀f c' ji pm H' s',Inv X ((f,kla_obj "<lambda>" q args body sc pI pm c' ji)::af) U H' s'->aH H H'->H' c'=some (.jv q)->Q (.ref f) s'):wpAny (model X.prog X.w) A (eval (.Lambda args body sc jU) X.env) Q E s:=by
 refine kla_eval AV ?_;rw[hq];let#[cc,P,Pz,hc,hP]:=agy I lk sh;let#[ps,eP,uF]:=I.aG P _ hP;have C:=codeHd_of_K I.dQ hc;have g:=I.ok.mod.glob.keeps I.bk;let#[bm,ob,b1,b2,b3,b4,b5,b6]:=I.ok.mod.bmn;have nP:∀{b} {o},X.base.get? b=some o->b≠P:=λ{b o} e z=>by
  have:=(I.bs b o e).2;rw[z,hP] at this;ext this
 let#[om,es,ep,em,dm,_]:=id I.ok.mod.glob;have hb:s.heap.BuiltinsAt X.mg P:=#[bm,ob,b1,b2,(λz=>by rw[z,em] at b3;ext b3;rw[dm] at b6;ext b6),nP b3,I.bk _ _ b3,b4,b5,b6]
 have fin:∀(f) (o) (H') (s'),Inv X af U H' s'->s'.heap.get? f=some o->s.heap.objs.size<=f->H' f=none->(∀v,o.data≠.cell v)->Inv X ((f,o)::af) U H' s':=λf o H' s' J e hf hn hd=>by
  refine J.tY λp hp=>?_
  rcases aaO.mp hp with rfl|hp
  .exact#[e,hn,agY (acS I.lt hf),I.Q6 hf,hd]
  .exact J.pin p (aaH _ hp)
 rcases uF with rfl|⟨c',rfl,tU⟩
 .refine kla_makeFunction wV I.ok.glob g Pz C eP trivial rfl (nP em) hb λc' ji h' tk hx DX cM Zv NL=>?_
  have fc:=I.aG.fresh DX;have ff:=I.aG.fresh (afR (ahm DX cM));have up:∀{b} {o},H b=some o->upd H c' (.jv q) b=some o:=λ{b o} e=>by rw[aJ (cU e fc)];apply e
  have pu:∀(b) (o),b≠P->s.heap.get? b=some o->(h'.push (kla_obj "<lambda>" q args body sc pI ((X.mg "__name__").getD .none) c' ji)).get? b=some o:=λb o n e=>aat _ (hx b o n e)
  have NB:∀{b},H b=none->b≠P:=λ{b} e z=>by rw[z,hP] at e;ext e
  have J:Inv X af U (upd H c' (.jv q)) { s with heap:=h'.push (kla_obj "<lambda>" q args body sc pI ((X.mg "__name__").getD .none) c' ji),toks:=tk }:=by
   refine I.un #[λb o e n _ _=>pu b o (NB n) e,λb o e n _ _=>#[o.slots,pu b o (NB n) e],λb o e n _=>?_,λb o e _=>?_,λb t e=>up e,λb o u e=>up e,λb ps e=>#[([].toArray),by rw[up e];simp]] λa o e=>?_
   .rw[aJ (acO (acS (abG e) DX))];apply n
   .by_cases z:b=P
    .rw[z];apply#[_,aat _ NL]
    .exact#[o,pu b o z e]
   .by_cases z:a=c'
    .subst z;rw[bP] at e;ext e;apply Zv.push _
    .rw[aJ z] at e
     by_cases z2:a=P
     .subst z2;rw[hP] at e;ext e;apply#[_,aat _ NL,.inr #[c',by simp,bP]]
     .refine(I.aG a o e).gH (λb u yN q=>pu b u ?_ q) (λb q=>up q) λb t q=>up q
      rcases yN with z3|z3
      .rw[z3];apply z2
      .intro z4;rw[z4,hP] at z3;ext z3
  refine h _ c' ji _ _ _ (fin _ _ _ _ J (acm _ rfl) (afR (ahm DX cM)) ?_ (λv z=>by ext z)) (λb o e=>up e) bP;rw[aJ (agY cM)];apply ff
 .refine kla_makeFunctionHit wV I.ok.glob g Pz C eP (TriplesOk_snoc _ _ _ [] trivial) (codeAmong_snoc [] trivial rfl) hb λji h' tk hk hsz=>?_
  apply h _ c' ji _ H _ (fin _ _ _ _ (I.kept λb u e=>aat _ (hk b u e)) (acm _ rfl) hsz (I.aG.fresh hsz) λv z=>by ext z) (aH.refl H) tU
def uC(X:Cx)(A:Around)(x y:Str)(q:Str)(sc:Scope)(f:Addr)(cd:Value)(pI:List (Str×Addr))(s:Shared)(H:Hp):Cx where
 prog:=X.prog
 w:=X.w
 K:=X.K
 mg:=X.mg
 base:=X.base
 A:=A.deeper (envX q sc s.heap.objs.size f cd pI)
 N:=[x,y]
 cQ:=s
 pO:=H
 env:=envX q sc s.heap.objs.size f cd pI
 outer:=X.stack
 stack:=envX q sc s.heap.objs.size f cd pI::X.stack
 ex:=[]
 fn:=λ_=>false
 calm:=X.calm
 pn:=[]
 xe:=λ_ _=>False
structure BL(sc:Scope)(args:Arguments)(x y:Str):Prop where
 kind:sc.kind=.function
 co:sc.isCoroutine=false
 gen:sc.isGenerator=false
 zV:∀z∈sc.names,z.2≠.cell
 loc:sc.names.lookup x=some .local
 Ae:sc.names.lookup y=some .free
 one:∀z∈sc.names,z.2=.free->z.1=y
 bnd:∀(q) (body) (pI) (pm aQ ji u),bindArgs (kla_fn "<lambda>" q args body sc pI pm aQ ji) #[[u],[]]=pure [(x,u)]
def afS{j:Nat}(I:Inv X af U H s)(S:BL sc args x y)(hf:(f,kla_obj "<lambda>" q args body sc [(y,c)] pm c' ji)∈af)(hc:H c'=some (.jv q))
  (oH:X.env.cells.lookup y=some c) (hj:X.N[j]? = some y) (hv:U[j]? = some (some v1)) (rC:X.env.scope.names.lookup y=some .cell) (ru:RelV v0 u) (hA:A.frames=X.A.frames) (hh:A.handled=X.A.handled) (hr:A.depth<recursionLimit)
  (hb:PE (uC X A x y q sc f (.ref c') [(y,c)] s H) body te) (h:te [some v0,some v1] H Q):wpAny (model X.prog X.w) A (call (.ref f) [u]) (EP X af U Q) E s:=by
 have hk0:=(I.pin _ (aaH _ hf)).1;refine wpAny_call (codeAny_mono (R:=λr s'=>match r with|.ok (.ret v)=>CE X.stack X.prog X.w H s Q v s'|_=>False) ?_ λr s' z=>?_)
 .refine kla_callFunE hr hk0 rfl S.co S.gen rfl (I.aG c' _ hc) ?_;rw[S.bnd];refine abP (wpAny_newFunctionEnv S.zV (λz m=>by cases aa6.mp m;apply S.loc) (λBe qR HW=>?_) S.kind);have zC:∀b o,s.heap.get? b=some o->Be.get? b=some o:=λb o e=>HW.extBut b o (acO (abG e)) (aat _ e)
  refine#[(I.ok.mod.nolimit.keeps I.bk).keeps zC,?_];have cl:∀{z} {d},List.lookup z [(y,c)]=some d->z=y/\d=c:=λ{z d} e=>by
   by_cases w:(z==y)=true
   .simp only[List.lookup,w] at e;ext e;apply#[eq_of_beq w,rfl]
   .simp only[List.lookup,(by simpa using w:(z==y)=false)] at e;ext e
  have cy:List.lookup y [(y,c)]=some c:=by simp[List.lookup]
  have ua:∀b:Addr,b∉(uC X A x y q sc f (.ref c') [(y,c)] s H).ex:=λb z=>absurd (show b∈([]:List Addr) from z) (by simp)
  have J:Inv (uC X A x y q sc f (.ref c') [(y,c)] s H) [] [some v0,some v1] H { s with heap:=Be,toks:=s.toks+[(x,u)].length }:=by
   refine#[#[I.ok.mod,S.kind,rfl,rfl,abD _,λa b d h1 h2=>?_,λa ha=>?_,(λa d h _=>by ext h),λhc=>?_,Around.frames_deeper (hA.trans I.ok.frames),.inr #[rfl,rfl],λb z=>absurd z (ua b),I.bs,ada I.ok.jB I.sz,λb _ _=>ua b,λb z=>absurd z (ua b),I.stack,I.vq],
    rfl,I.bare,Un.kept zC,#[_,qR,λi z v h1 h2 h3=>?_],λz d e=>?_,I.aG.fresh (abD _),λz d e=>?_,λp hp=>absurd (show p∈([]:List (Addr×Obj)) from hp) (by simp),I.aG.kept zC,rfl,#[?_,I.hq.ok,I.hq.lm]]
   .exact(cl h1).1.trans (cl h2).1.symm
   .have ha:=ha;rcases ha with ha|ha
    .exact absurd rfl (S.zV _ (PySem.mem_of_lookup ha))
    .have e:a=y:=S.one _ (PySem.mem_of_lookup ha) rfl;rw[e];apply#[c,cy]
   .have:=I.ok.hd hc;apply hh.trans this
   .match i,h1,h2 with
    |0,h1,h2=>
     ext h1;ext h2;refine#[u,ru,.inl #[S.loc,by simp[List.lookup]]]
    |1,h1,h2=>
     ext h1;ext h2;let#[m,_,hl]:=I.loc;let#[u1,r1,l]:=hl j y v1 hj hv (.inr (.inl rC));refine#[u1,r1,.inr #[.inr S.Ae,c,cy,?_]];rcases l with⟨kk,_⟩|⟨_,d,e,o,ho,hd⟩
     .rw[show X.env.kindOf y=some .cell from rC] at kk;ext kk
     .rw[oH] at e;ext e;apply#[o,zC _ _ ho,hd]
    |i+2,h1,h2=>apply absurd h2 (by simp)
   .rw[(cl e).2];let#[w,o,ho,hd]:=I.cell y c oH;apply#[w,o,zC _ _ ho,hd]
   .rw[(cl e).2];apply I.g_ y c oH
   .have:=I.hq.hd;unfold uH at this ⊢;rw[show(uC X A x y q sc f (.ref c') [(y,c)] s H).A.handled=X.A.handled from hh];apply this
  refine kla_codeExpr (adI (hb [] _ _ H _ J h) (?_) λ_ _ z=>z.elim)
  rintro v s' ⟨v',H',J',rv,q'⟩
  apply#[v',H',J'.os,J'.bare,J'.base,J'.aG,rv,q']
 .cases r with
  |error e=>apply z.elim
  |ok fl=>
   cases fl with
   |ret w=>apply I.after z
   |next=>apply z
   |brk=>apply z
   |cont=>apply z
def ahi(r:aS [.int a,.int b] av):∃t u,av=[.int a t,.int b u]:=by
 cases r with
 |cons h1 r=>cases r with
  |cons h2 r=>ext r;let#[t,rfl]:=h1;let#[u,rfl]:=h2;apply#[t,u,rfl]
theorem IntsAre.at{vs:List Value}{ns:List Int}(h:IntsAre vs ns):∀{j:Nat} {v},vs[j]? = some v->∃n t,ns[j]? = some n/\v=.int n t:=by
 induction h with
 |nil=>intro j v e;simp at e
 |cons n t _ ih=>
  intro j v e;cases j with
  |zero=>ext e;apply#[n,t,rfl,rfl]
  |succ j=>apply ih (by simpa using e)
def Paired.aaZ{α β:Type}{R:α->β->Prop}{l:List α}{m:List β}{a:α}{b:β}(h:Paired R l m)(r:R a b):Paired R (l++[a]) (m++[b]):=by
 induction h with
 |nil=>apply .cons r .nil
 |cons r' _ ih=>apply .cons r' ih
theorem QC(h:IntsAre av ns):∀(l:List Nat),(∀i∈l,i<ns.length)->aS ((l.map λi=>ns.getD i 0).map V.int) (l.map λi=>av.getD i Value.none)
 |[],_=>.nil
 |i::l,hl=>by
  have hi:=hl i aav;have Aw:i<av.length:=by rw[h.length];apply hi
  let#[n,t,e1,e2]:=IntsAre.at h (aa1 Aw);refine .cons ?_ (QC h l λj m=>hl j (aar _ m));show RelV (V.int (ns.getD i 0)) (av.getD i Value.none);rw[adQ,adQ,e1,aa1 Aw,e2];apply#[t,rfl]
def ah5{ns:List Int}{q:Array Nat}(P:fY ns.length q):(q.toList.map λi=>ns.getD i 0).Perm ns:=by
 have h:=(ajC.mp P).map λi=>ns.getD i 0
 have e:((List.range ns.length).toArray.toList.map λi=>ns.getD i 0)=ns:=by
  refine List.ext_getElem (by simp) λi h1 h2=>?_
  simp[adQ,h2]
 rw[e] at h;apply h
def lE(pr:Int->Int×Int)(ns:List Int):List Int:=(oA (o_ (ns.map pr)) ns.length).toList.map λi=>ns.getD i 0
def RJ(ns:List Int):(lE pr ns).Perm ns:=ah5 E2
section
variable{j:Nat}{te:Addr->Addr->Shared->Hp->TE}
def abQ{H2:Hp}{p f c':Addr}{ji pm:Value}{v1:V}{ns:List Int}{pr:Int->Int×Int}{Q:VK}(I:Inv X ((f,kla_obj "<lambda>" q args body sc [(y,c)] pm c' ji)::af) U H2 s)(S:BL sc args x y)(hc:H2 c'=some (.jv q))
  (oH:X.env.cells.lookup y=some c) (hj:X.N[j]? = some y) (hv:U[j]? = some (some v1)) (rC:X.env.scope.names.lookup y=some .cell) (AU:X.A.in1.in1.depth<recursionLimit)
  (hb:∀f c' s H,PE (uC X X.A.in1.in1 x y q sc f (.ref c') [(y,c)] s H) body (te f c' s H)) (hq:cJ X.K H2 p (ns.map V.int)) (lW:ns.length<64)
  (ht:∀s H3,aH H2 H3->∀n∈ns,te f c' s H3 [some (.int n),some v1] H3 λv H4=>∃k,v=.ref k/\bQ X.K H4 k [.int (pr n).1,.int (pr n).2]/\aH H3 H4)
  (hQ:∀(Hf) (D),aH H2 Hf->H2 D=none->Hf D=some (.lst ((lE pr ns).map V.int))->Q (.ref D) Hf) :
  w8 X X.A (call (.builtin "sorted") [.ref p] [(Str.ofString "key",.ref f)]) (EP X af U Q) X.xe s:=by
 let#[av,ri,pl,hz]:=I.list hq;have hi:=intsAre_of ri;have li:=hi.length;have zl:av.length<=sizeLine:=by rw[afK];lia
 refine call_function_entry_kw kind_sorted plain_sorted entry_sorted (ksk_s1 _ _) ?_;unfold Builtin.«sorted»;refine aaq (abP ?_);refine aaq (collect_list pl.isList ?_ zl);refine aaq (wpAny_newList ?_ zl);generalize Qo:(s.heap.push (seqObj "list" ([].toArray) 0)).update s.heap.objs.size (Obj.mapSeq (·++av.toArray))=h3;have k3:∀b o,s.heap.get? b=some o->h3.get? b=some o:=λb o e=>by
  rw[<- Qo,ahE _ _ _ _ (acO (abG e))];apply aat _ e
 have z3:h3.objs.size=s.heap.objs.size+1:=by rw[<- Qo,Heap.size_update,size_push']
 have hD:(h3.push (seqObj "list" av.toArray 0)).get? h3.objs.size=some (seqObj "list" av.toArray 0):=acm _ rfl;refine aaq (ae1 (wpAny_call_entry_kw slot_list_sort #[_,hD,rfl] entry_list_sort ?body (ksk_l1 _ _)))
 case body=>
  rw[ksk_t1];obtain⟨e1,Mb⟩:∃e1,((h3.push (seqObj "list" av.toArray 0)).update h3.objs.size (Obj.mapSeq λ_=>(([].toArray):Array Value))).get? h3.objs.size=some (seqObj "list" ([].toArray) e1):=#[_,get?_update_seq hD λ_=>([].toArray)]
  unfold ksk_tree;refine aaq (listItems_at hD rfl ?_);refine aaq (listUpdate_at hD rfl ?_ (by rw[ab9];apply zl) (acP _));refine aaq (seqEpoch_at Mb rfl ?_);refine aaq (wpAny_newTuple ?_ (by show av.length<=_;apply zl));refine aaq (wpAny_newList ?_ (acP _));refine ae1 ?_;generalize Ji:((h3.push (seqObj "list" av.toArray 0)).update h3.objs.size (Obj.mapSeq λ_=>(([].toArray):Array Value))).push (seqObj "tuple" av.toArray 0)=h6;have z6:h6.objs.size=s.heap.objs.size+3:=by rw[<- Ji,size_push',Heap.size_update,size_push',z3]
  have k6:∀b o,s.heap.get? b=some o->h6.get? b=some o:=λb o e=>by
   have cM:=abG e;rw[<- Ji];refine aat _ ?_;rw[ahE _ _ _ _ (acO (acS cM (by rw[z3];apply aj3 _)))];apply aat _ (k3 b o e)
  have hD6:h6.get? h3.objs.size=some (seqObj "list" ([].toArray) e1):=by rw[<- Ji];apply aat _ Mb
  generalize hDe:h3.objs.size=D at *;generalize hKe:h6.objs.size=kS at *;have fD:=I.rq (H':=λ_=>none) (b:=D) (by lia) rfl;have fK:=I.rq (H':=λ_=>none) (b:=kS) (by lia) rfl;have Jk:D≠kS:=by lia
  have Jv:∀{H:Hp}{s':Shared} {b} {o},iY X ((f,kla_obj "<lambda>" q args body sc [(y,c)] pm c' ji)::af) (λ_=>none) b->H b=none->s'.heap.get? b=some o->(∀v,o.data≠.cell v)->
    s'.heap.get? b=some o/\H b=none/\b≠X.env.locals/\b∉X.fs/\∀v,o.data≠.cell v:=λF a b d=>#[b,a,F.2.1,F.2.2.1,d]
  have J0:Inv X ((kS,seqObj "list" (List.map Value.ref []).toArray 0)::(D,seqObj "list" ([].toArray) e1)::(f,kla_obj "<lambda>" q args body sc [(y,c)] pm c' ji)::af) U H2 { s with heap:=h6.push (seqObj "list" ([].toArray) 0) }:=by
   have J:=I.kept (h':=h6.push (seqObj "list" ([].toArray) 0)) (t':=s.toks) λb o e=>aat _ (k6 b o e)
   refine J.tY λp hp=>?_
   rcases aaO.mp hp with rfl|hp
   .exact Jv fK (I.aG.fresh (by lia)) (by rw[<- hKe];apply acm _ rfl) (λv z=>by ext z)
   .rcases aaO.mp hp with rfl|hp
    .exact Jv fD (I.aG.fresh (by lia)) (aat _ hD6) (λv z=>by ext z)
    .exact J.pin p (aaH _ hp)
  unfold ksk_rest;refine aaq (akd ?_);rw[List.forIn_toArray];refine aaq (ksk_fold (λi s'=>∃(H:Hp) (qs:List Addr) (e:Nat),Inv X ((kS,seqObj "list" (qs.map Value.ref).toArray e)::(D,seqObj "list" ([].toArray) e1)::(f,kla_obj "<lambda>" q args body sc [(y,c)] pm c' ji)::af) U H s'/\aH H2 H/\
   Paired (λk n=>bQ X.K H k [.int (pr n).1,.int (pr n).2]) qs (ns.take i)) av 0 _ #[H2,[],0,J0,aH.refl _,.nil] (λi u s' hu hI=>?_) λs' hI=>?_)
  .rw[ain] at hI ⊢;let#[H,qs,e,J,sm,pd]:=hI;let#[n,t,en,rfl]:=IntsAre.at hi hu;have ln:=Paired.length pd;have xu:=(abq.mp en).1;rw[ahW] at ln;refine aaq (wpAny_attempt (adI (afS (v0:=.int n) (E:=λ_ _=>False) J S (aar _ (aar _ aav)) (sm _ _ hc) oH hj hv rC #[t,rfl] rfl rfl AU (hb f c' s' H) (ht s' H sm n (adW en))) (λk ig hk=>?_) λ_ _ z=>z.elim));let#[v,H',J',rv,k',rfl,sq,AO]:=hk;obtain rfl:k=.ref k':=rv;have pk:=(J'.pin _ (aaH _ aav))
   have ea:((qs.map Value.ref).toArray).push (.ref k')=((qs++[k']).map Value.ref).toArray:=by simp
   obtain⟨c2,ym⟩:∃c2,(ig.heap.update kS (Obj.mapSeq (·.push (.ref k')))).get? kS=some (seqObj "list" ((qs++[k']).map Value.ref).toArray c2):=#[_,by rw[<- ea];apply get?_update_seq pk.1 (·.push (.ref k'))]
   dsimp only;refine aaq (listUpdate_at pk.1 rfl ?_ (by rw[ab9,List.length_map,ln,afK];lia) (ada (Nat.le_of_eq (Array.size_push ..)) (by rw[ab9,List.length_map,ln,afK];lia)));refine abP #[rfl,H',qs++[k'],c2,?_,sm.trans AO,?_]
   .have J1:=J'.tY λp hp=>J'.pin p (aaH _ (aar _ hp))
    have J2:=J1.turned (h':=ig.heap.update kS (Obj.mapSeq (·.push (.ref k')))) (t':=ig.toks) (λb o n e=>(ahE _ _ _ _ n).trans e) pk.2.1 fK.2.1 fK.2.2.2.1 fK.2.2.2.2.1 λp hp=>by
     rcases abH.mp hp with hp|hp
     .exact fK.2.2.2.2.2 p (abz _ hp)
     .rcases aaO.mp hp with rfl|hp
      .exact Jk
      .exact fK.2.2.2.2.2 p (aaH _ hp)
    refine J2.tY λp hp=>?_
    rcases aaO.mp hp with rfl|hp
    .exact Jv fK pk.2.1 ym (λv z=>by ext z)
    .exact J2.pin p (aaH _ hp)
   .rw[List.take_succ,en];apply Paired.aaZ (Paired.CL pd λk n r=>by
     rcases r with(r|⟨o,r⟩)|r
     .exact .inl (.inl (AO _ _ r))
     .exact .inl (.inr #[o,AO _ _ r])
     .exact .inr r) sq
  .rw[ain] at hI;let#[H,qs,e,J,sm,pd]:=hI;rw[li,aiR] at pd;have lq:=Paired.length pd;have pk:=(J.pin _ (aaH _ aav))
   have pD:=(J.pin _ (aaH _ (aar _ aav)))
   refine aaq (listItems_at pk.1 rfl ?_);have pp:∀{l} {qs},Paired (λk n=>bQ X.K H k [.int (pr n).1,.int (pr n).2]) qs l->Paired (IsPair s'.heap) qs (l.map pr):=by
    intro l qs r
    induction r with
    |nil=>apply .nil
    |cons r _ ih=>
     refine .cons ?_ ih;let#[it,rv,tp,_]:=J.tuple r;let#[t,u,rfl]:=ahi rv;apply#[t,u,tp]
   refine ai9 (by lia) (by rw[lq,li]) (pp pd) pk.1 pD.1 Jk ?_;rw[li];have P2:fY ns.length (oA (o_ (ns.map pr)) ns.length):=E2;generalize Fb:oA (o_ (ns.map pr)) ns.length=q2 at P2 ⊢;have ql:∀i∈q2.toList,i<ns.length:=λi m=>by
    have:=(ajC.mp P2).mem_iff.mp m;simpa using this
   refine#[_,rfl,abP #[_,rfl,?_]];have J1:=J.tY λp hp=>J.pin p (aaH _ (aar _ (aar _ (aar _ hp))))
   have np:∀{b},iY X ((f,kla_obj "<lambda>" q args body sc [(y,c)] pm c' ji)::af) (λ_=>none) b->∀p∈X.pn++af,p.1≠b:=λF p hp=>F.2.2.2.2.2 p ((abH.mp hp).elim (λz=>abz _ z) λz=>aaH _ (aar _ z))
   have J2:=J1.turned (h':=s'.heap.update kS (Obj.mapSeq λ_=>([].toArray))) (t':=s'.toks) (λb o n e=>(ahE _ _ _ _ n).trans e) pk.2.1 fK.2.1 fK.2.2.2.1 fK.2.2.2.2.1 (np fK);have J3:=J2.turned (h':=(s'.heap.update kS (Obj.mapSeq λ_=>([].toArray))).update D (Obj.mapSeq λ_=>(q2.toList.map λi=>av.getD i Value.none).toArray)) (t':=s'.toks) (λb o n e=>(ahE _ _ _ _ n).trans e) pD.2.1 fD.2.1 fD.2.2.2.1 fD.2.2.2.2.1 (np fD);have hDf:=get?_update_seq (h:=s'.heap.update kS (Obj.mapSeq λ_=>([].toArray))) ((ahE _ _ _ _ Jk).trans pD.1) λ_=>(q2.toList.map λi=>av.getD i Value.none).toArray
   refine#[.ref D,upd H D (.lst ((q2.toList.map λi=>ns.getD i 0).map V.int)),J3.BQ pD.2.1 #[?_,fD.2.1,fD.2.2.2.2.1,np fD] #[?_,_,_,QC hi _ ql,hDf],rfl,hQ _ D (λb o e=>?_) ?_ (by unfold lE;rw[Fb,bP])]
   .exact Heap.get?_none_of_le (by have:=I.sz;lia)
   .rw[List.length_map,List.length_map,aeI,fY.sz P2,afK];lia
   .rw[aJ (cU (sm b o e) pD.2.1)];apply sm b o e
   .cases e:H2 D with
    |none=>rfl
    |some o=>have:=sm D o e;rw[pD.2.1] at this;ext this
def Od(K:Fr)(j:Nat)(te:Addr->Addr->Shared->Hp->TE)(U:St)(Q:VK)(x:V)(H1:Hp):Prop:=∃(p:Addr) (ns:List Int) (pr:Int->Int×Int) (v1:V),x=.ref p/\cJ K H1 p (ns.map V.int)/\ns.length<64/\U[j]? = some (some v1)/\
 (∀f c' s H3,aH H1 H3->∀n∈ns,te f c' s H3 [some (.int n),some v1] H3 λv H4=>∃k,v=.ref k/\bQ K H4 k [.int (pr n).1,.int (pr n).2]/\aH H3 H4)/\
 ∀(Hf) (D),aH H1 Hf->H1 D=none->Hf D=some (.lst ((lE pr ns).map V.int))->Q (.ref D) Hf
def VS(K:Fr)(j:Nat)(ta:TE)(te:Addr->Addr->Shared->Hp->TE):TE:=λU H Q=>ta U H (Od K j te U Q)
def afY{a:Expr}{ta:TE}{p kp pos jU:Pos}{f0:Addr}{o0:Obj}(hm:X.mg "sorted"=none)(ha:PE X a ta)(S:BL sc args x y)(lk:X.K.lookup f0=some o0)(sh:wB o0=some (X.env.code,q,jU))(hq:X.env.qual++"<lambda>"=q)(wV:closureFor sc X.env=pure [(y,c)])
  (oH:X.env.cells.lookup y=some c) (hj:X.N[j]? = some y) (rC:X.env.scope.names.lookup y=some .cell) (AU:X.A.in1.in1.depth<recursionLimit) (hb:∀f c' s H,PE (uC X X.A.in1.in1 x y q sc f (.ref c') [(y,c)] s H) body (te f c' s H))
  (AV:defaultsOf args X.env=([],[]):=by rfl) (hg:Gl X "sorted":=by rfl) (hs:Y1 X a:=by rfl)
  (h1:backTo pos (starEach [a] X.env)=(false,eval a X.env)::backTo pos (starEach [] X.env):=by rfl) (h2:(backTo pos (starEach [a] X.env)).any (·.1)=false:=by rfl)
  (h3:(backToKw pos (keywordEach [#[some "key",.Lambda args body sc jU,kp]] X.env)).all (·.1.isSome)=true:=by rfl) (h4:(backToKw pos (keywordEach [#[some "key",.Lambda args body sc jU,kp]] X.env)).any (·.1.isNone)=false:=by rfl)
  (h5:(backToKw pos (keywordEach [#[some "key",.Lambda args body sc jU,kp]] X.env)).filterMap (·.1)=[("key":Str)]:=by rfl) :
  PE X (.Call (.Name "sorted" p) [a] [#[some "key",.Lambda args body sc jU,kp]] pos) (VS X.K j ta te):=by
 exists 44;refine afq (rN I hg hm (show bootBuiltins "sorted"=some (.builtin "sorted") by decide +kernel) ?_ (by decide) (by decide));refine callWith_kw ?_ h1 h2 h3 h4;rw[h5];refine Ag (dg ha e_ hs pos af s U H (λvs H1=>match vs with|[x]=>Od X.K j te U Q x H1|_=>False) I h) λus s1 vs H1 I1 rv q1=>?_
 rcases vs with _|⟨x,_|⟨x2,r2⟩⟩
 .exact q1.elim
 .let#[u,rfl,ru]:=vals1 rv;let#[p,ns,pr,v1,rfl,lX,lW,hv,ht,hQ]:=q1;ext ru;refine kws_cons (adq I1 lk sh AV wV hq λf c' ji pm H' s' J sm hc=>kws_nil ?_);refine abQ J S hc oH hj hv rC AU hb (lX.elim (λz=>.inl (z.elim (λz=>.inl (sm _ _ z)) λ⟨o,z⟩=>.inr #[o,sm _ _ z])) .inr) lW (λs H3 AO=>ht f c' s H3 (sm.trans AO)) λHf D s1 n1=>hQ Hf D (sm.trans s1) ?_
  cases e:H1 D with
  |none=>rfl
  |some o=>have:=sm D o e;rw[n1] at this;ext this
 .exact q1.elim
end
end L2
namespace L2.Ev
open PySem PySem.Spec PyProof.Rows
def yo(fb:EF)(dc:D)(n:Int):Option (Int×Int):=match fb [some (.int n,.own),some (dc,.sh [])] with
 |some (.tup [.int a,.int b],_)=>some (a,b)
 |_=>none
def zh(fb:EF)(dc:D)(n:Int):Int×Int:=(yo fb dc n).getD (0,0)
def O2(j:Nat)(fa fb:EF):EF:=λY=>(fa Y).bind λp=>((Y[j]?).join).bind λq=>((BB p.1).bind eV).bind λns=>
 if ns.length<64/\∀n∈ns,(yo fb q.1 n).isSome=true then some (.lst ((lE (zh fb q.1) ns).map D.int),.own) else none
def ajT(j:Nat)(hm:X.mg "sorted"=none)(ha:FP X a fa)(S:BL sc args x y)(lk:X.K.lookup f0=some o0)(sh:wB o0=some (X.env.code,q,jU))(AU:X.A.in1.in1.depth<recursionLimit)
  (hb:∀f c' s H,FP (uC X X.A.in1.in1 x y q sc f (.ref c') [(y,c)] s H) body fb) (hq:X.env.qual++"<lambda>"=q:=by rfl) (wV:closureFor sc X.env=pure [(y,c)]:=by rfl)
  (oH:X.env.cells.lookup y=some c:=by rfl) (hj:X.N[j]? = some y:=by rfl) (rC:X.env.scope.names.lookup y=some .cell:=by rfl)
  (AV:defaultsOf args X.env=([],[]):=by rfl) (hg:Gl X "sorted":=by rfl) (hs:Y1 X a:=by rfl)
  (h1:backTo pos (starEach [a] X.env)=(false,eval a X.env)::backTo pos (starEach [] X.env):=by rfl) (h2:(backTo pos (starEach [a] X.env)).any (·.1)=false:=by rfl)
  (h3:(backToKw pos (keywordEach [#[some "key",.Lambda args body sc jU,kp]] X.env)).all (·.1.isSome)=true:=by rfl) (h4:(backToKw pos (keywordEach [#[some "key",.Lambda args body sc jU,kp]] X.env)).any (·.1.isNone)=false:=by rfl)
  (h5:(backToKw pos (keywordEach [#[some "key",.Lambda args body sc jU,kp]] X.env)).filterMap (·.1)=[("key":Str)]:=by rfl) :
  FP X (.Call (.Name "sorted" p) [a] [#[some "key",.Lambda args body sc jU,kp]] pos) (O2 j fa fb):=by
 let#[ta,pa,sa]:=ha;refine#[_,afY hm pa S lk sh hq wV oH hj rC AU (λf c' s H=>(hb f c' s H).choose_spec.1) AV hg hs h1 h2 h3 h4 h5,@λH0 S' z aq Y U H Q d tg ok e k=>?_];let#[#[_,t1],e1,e]:=aa5.mp e;let#[#[dc,t2],e2,e]:=aa5.mp e;have e2:=Option.join_eq_some_iff.mp e2;let#[ns,qR,e]:=aa5.mp e;let#[ds,h,qR]:=aa5.mp qR;let#[#[lW,hk],e]:=adB.mp e;ext e;obtain rfl:=Gj h;refine sa ok e1 λH1 v fp s1 r1 g1=>?_
 let#[l,xs,f',rfl,lX,rs,_]:=r1.d9;have ex:=u9 rs qR;subst ex;let#[vc,fc,hvc,rc,_]:=ok.sl j dc t2 e2;refine#[l,ns,zh fb dc,vc,rfl,lX,lW,hvc,λf c' s H3 s3 n mn=>?_,λHf D sf nD hD=>?_]
 .let#[kk,ek]:=afW.mp (hk n mn);have Cm:=ek;unfold yo at Cm
  split at Cm
  .rename_i a b tb eb;ext Cm;have iu:Ok X.K H3 [] (λ_=>none) [] [some (.int n,.own),some (dc,.sh [])] [some (.int n),some vc] H3:=by
    refine#[λi d t e=>?_,(λp m=>nomatch m),(λa j e=>nomatch e),λa o e _=>e,rfl]
    match i,e with
    |0,e=>ext e;apply#[_,[],rfl,.int n,acE,λa m=>nomatch m]
    |1,e=>ext e;apply#[vc,fc,rfl,(rc.same s1).same s3,λa m j e=>nomatch e]
    |i+2,e=>apply absurd e (by simp)
   refine(hb f c' s H3).choose_spec.2 iu eb λH4 v fp s4 r4 _=>?_
   let#[w,xs,rfl,hw,fM]:=r4.ir;refine#[w,rfl,?_,s4];have e1:(zh fb dc n)=(a,b):=by unfold zh;rw[ek];rfl
   rw[e1];cases fM with
   |cons h1 r=>cases r with
    |cons h2 r=>ext r;ext h1;ext h2;apply hw
  .cases Cm
 .refine k Hf _ [D] (s1.trans sf) (.lst hD (zZ _)) #[acw.mpr #[(λm=>nomatch m),acE],λa m=>?_];cases aa6.mp m;apply s1.free nD
def FY(X:Cx)(e:Expr)(f:XF):Prop:=∃t,PE X e t/\∀{H0} {S} {z} {aq} {Y} {U} {H} {Q} {d} {Y'},
 Ok X.K H0 S z aq Y U H->f Y=some (d,Y')->(∀z' H' v,Ok X.K H0 S z' aq Y' U H'->aW H H'->Rep X.K H' d v []->Q v H')->t U H Q
def FY.fz(h:FY X e f):FZ X e f:=let#[t,p,q]:=h;#[t,p,@λH0 S z aq Y U H Q d Y' ok e k=>q ok e λz' H' v o _ r=>k z' H' v o r]
def ly(i:Nat)(hC:ClsAt X.K cn C)(hm:kD X.K C m fa)(GG:cg X.prog X.w X.K X.mg X.base dw k fa fd ps (dJ X.K G))(hr:aZ k X.A)(hb:Binds X.K fd ps [])(ha:FA X (e::es) g)(va:VA X i x:=by walk_at "va")
  (dG:SE X e es pos:=by apply#[rfl,rfl])
  (ht:wK X (.Name x p1) m apos (e::es) pos pl:=by apply rfl):FY X (.Call (.Attribute (.Name x p1) m apos) (e::es) [] pos) (xO i cn m G g):=by
 let#[ta,pa,_,qa]:=ha;exists 27,BC va.pe hC.cl hm GG hr hb .nil lD pa dG.1 dG.2 ht;let#[sY,qs,d1,h1,h2,hm,jC,hG,rfl]:=Va e0;let#[v,aX,hs,r0,zz]:=ok.sl i _ _ h1;refine#[v,hs,?_];let#[b,dx,fs,gf,rfl,Ii,h4,h5,h6,h7]:=r0.lO hC.ns;refine#[b,dx,fs,rfl,h4,u0 h6 hm,?_];refine qa ok h2 λH2 vs jJ s2 r2 g2=>?_
 rw[acL];refine#[b,vs,_,aX,_,jJ,d,d1,rfl,r0.same s2,zz.1,r2,AE ok jC g2 zz,hG,λH3 u bI im kp r1 nd fr rr=>?_];let#[z',iu]:=(ok.same s2).put h1 hs zz im kp r1 nd fr;apply kk z' H3 u iu ((aW.of s2).trans im) rr
def C0(i:Nat)(cn fl iN m:Str)(G:MF)(g:AF):XF:=λY=>match Y[i]?,g Y with
 |some (some (.ins c es,.own)),some ps=>match es.lookup fl with
  |some (.ins c2 iz)=>if c=cn/\c2=iN/\iz.lookup m=none/\apart i ps=true then(G (.ins c2 iz) (ps.map (·.1))).map λw=>(w.1,bU Y i (.ins c (eK fl w.2 es))) else none
  |_=>none
 |_,_=>none
def afc(i:Nat)(hC:ClsAt X.K cn C)(na:iQ X.K C fl)(zm:ClsAt X.K iN C2)(hm:kD X.K C2 m fa)(GG:cg X.prog X.w X.K X.mg X.base dw k fa fd ps (dJ X.K G))(hr:aZ k X.A)(hb:Binds X.K fd ps [])(ha:FA X (e::es) g)(va:VA X i x:=by walk_at "va")
  (tR:attributeBase (.Name x p1) fl X.env (eval (.Name x p1) X.env)=eval (.Name x p1) X.env:=by rfl)
  (dG:SE X e es pos:=by apply#[rfl,rfl])
  (ht:wK X (.Attribute (.Name x p1) fl p2) m apos (e::es) pos pl:=by apply rfl):FY X (.Call (.Attribute (.Attribute (.Name x p1) fl p2) m apos) (e::es) [] pos) (C0 i cn fl iN m G g):=by
 let#[ta,pa,_,qa]:=ha;exists 27,BC (n_ va.pe tR) zm.cl hm GG hr hb .nil lD pa dG.1 dG.2 ht;unfold C0 at e0
 split at e0
 .rename_i c es1 qs h1 h2
  split at e0
  .rename_i c2 iz hl
   by_cases hc:c=cn/\c2=iN/\iz.lookup m=none/\apart i qs=true
   .rw[if_pos hc] at e0;let#[rfl,rfl,hlm,jC]:=hc;let#[w,hG,ew]:=abX.mp e0;ext ew;let#[v,aX,hs,r0,zz]:=ok.sl i _ _ h1;refine#[v,hs,?_];let#[b0,dx,fs,u,gf,rfl,a1,a2,a3,a4,a5,a6]:=r0.place hC.ns zz.1 hl;refine#[b0,C,dx,fs,u,rfl,a1,hC.cl,na,a2,?_];let#[b,dx2,WW,g2,rfl,Ii,c4,c5,c6,c7]:=a3.lO zm.ns;refine#[b,dx2,WW,rfl,c4,u0 c6 hlm,?_];refine qa ok h2 λH2 vs jJ s2 r2 gg=>?_
    rw[acL];refine#[b,vs,_,gf,_,jJ,w.1,w.2,rfl,a3.same s2,a4,r2,λx m n=>AE ok jC gg zz x m (a5 x n),hG,λH3 u' bI im kp r1 nd fr rr=>?_];have i3:=(aW.of s2).trans im;have k3:∀b o,b∉gf->H b=some o->H3 b=some o:=λb o n e=>kp b o n (s2 b o e)
    let#[Bu,k1,k2,k4]:=a6 H3 w.2 bI i3 k3 r1 nd λb m=>(fr b m).imp id s2.free
    let#[z',iu]:=ok.put h1 hs zz i3 (λb o n e=>k3 b o (λm=>n (a5 b m)) e) k1 k2 k4;apply kk z' H3 u' iu i3 rr
   .rw[abM hc] at e0;ext e0
  .cases e0
 .cases e0
def qd(i:Nat)(G:MF)(g:AF):XF:=λY=>match Y[i]?,g Y with
 | some (some (d0,.own)),some ps=>if apart i ps=true then(match G d0 (ps.map (·.1)) with
  |some (r,d1)=>if aA r=true then some (r,bU Y i d1) else none
  |none=>none) else none
 |_,_=>none
def KR(i:Nat)(GG:cg X.prog X.w X.K X.mg X.base dw k fa fd ps (lN X.K G))(hr:aZ k X.A)(hm:X.mg x=some (.ref fa))(hk:PySem.W.keepIn X.K (.ref fa)=true)(hb:Binds X.K fd ps [])(ha:FA X es g)
  (va:VA X i xn:=by walk_at "va")
  (hg:GD X x:=by apply#[rfl,by decide]) (he:starEach (.Name xn p1::es) X.env=(false,eval (.Name xn p1) X.env)::starEach es X.env:=by rfl) (hpl:(backTo pos (starEach es X.env)).any (·.1)=false:=by rfl) :
  FY X (.Call (.Name x p) (.Name xn p1::es) [] pos) (qd i G g):=by
 let#[t,pa,_,sa]:=ha;exists 27,BN GG hr hg.1 hm hk hb .nil lD (dg va.pe pa he) hg.2 he hpl;unfold qd at e0
 split at e0
 .rename_i d0 qs h1 h2
  by_cases jC:apart i qs=true
  .rw[if_pos jC] at e0
   split at e0
   .rename_i r d1 h3
    by_cases hi:aA r=true
    .rw[if_pos hi] at e0;ext e0;let#[v,aX,hs,r0,zz]:=ok.sl i _ _ h1;refine#[v,hs,?_];refine sa ok h2 λH2 vs jJ s2 r2 g2=>?_
     show lN X.K G ((v::vs)++[]) H2 Q E0;rw[acL];refine#[v,vs,d0,aX,_,jJ,d,d1,rfl,r0.same s2,zz.1,r2,AE ok jC g2 zz,h3,λH3 u bI cu im kp r1 nd fr rr uO nA=>?_];have hn:=rr.aA hi;subst hn;let#[z',iu]:=(ok.same s2).put h1 hs zz im kp r1 nd fr;apply kk z' H3 u iu ((aW.of s2).trans im) rr
    .rw[abM hi] at e0;ext e0
   .cases e0
  .rw[abM jC] at e0;ext e0
 .cases e0
def tZ(f:XF):aL->Option (Bool×aL):=λY=>match f Y with
 |some (.bl b,Y')=>some (b,Y')
 |_=>none
def afg(h:FZ X a f)(he:∀whole,isTrue a X.env whole=(do let v <- whole;standAt a.pos;holding [v] (truthy v)):=by intro _;rfl):pQ X a (tZ f):=by
 let#[t,p,q]:=h;exists 26,F2 p he;unfold tZ at e
 split at e
 .rename_i c' aO h1;ext e;refine q ok h1 λz' H' v aT r=>?_
  ext r;apply#[_,rfl,k z' H' aT]
 .cases e
def lQ(c:aL->Option (Bool×aL))(f:SF):Nat->SF
 |0,_=>none
 |n+1,Y=>match c Y with
  |some (false,aO)=>some (.nx aO)
  |some (true,aO)=>match f aO with
   |some (.nx Y')=>lQ c f n Y'
   |_=>none
  |none=>none
def acf(n:Nat)(hc:pQ X c tc)(hb:FS X body fb)(hp:PassesOwn (model X.prog X.w) X.A X.env X.xe:=by apply PassesOwn.never):eB X (.While c body [] pos) (lQ tc fb n):=by
 let#[t,p,q]:=hc;let#[tb,pb,qb]:=hb;exists 23,RN hp p pb;refine#[λm aF H'=>∃z' Y',Ok X.K H0 S z' aq Y' aF H'/\lQ tc fb m Y'=some o/\Kp X U aF,#[n,z,Y,ok,e,.refl _ _],?_]
 rintro m aF H' ⟨z',Y',aT,e',kp⟩
 cases m with
 |zero=>ext e'
 |succ m=>
  unfold lQ at e'
  split at e'
  .rename_i aO hc;ext e';refine q aT hc λz1 H1 aV=>?_
   rw[abM abm];apply k z1 aF H1 aV kp
  .rename_i aO hc;refine q aT hc λz1 H1 aV=>?_
   rw[if_pos rfl]
   split at e'
   .rename_i bA hf;refine#[λiW H2=>∃z2 bA,Ok X.K H0 S z2 aq bA iW H2/\lQ tc fb m bA=some o/\Kp X U iW,λiW H2 hn=>#[m,ahO m,hn],?_];apply qb aV hf λz3 dF H3 jd b=>#[z3,bA,jd,e',kp.trans b]
   .cases e'
  .cases e'
def xw(f g:XF):XF:=λY=>match f Y with
 |some (.bl true,Y')=>some (.bl true,Y')
 |some (.bl false,Y')=>match g Y' with
  |some (.bl b,bA)=>some (.bl b,bA)
  |_=>none
 |_=>none
def Y5(ha:FZ X a f)(hb:FZ X b g):FZ X (.BoolOp .Or [a,b] pos) (xw f g):=by
 let#[t,p,q]:=ha;let#[t',p',q']:=hb;refine#[_,ZF p (U8 p'),@λH0 S z aq Y U H Q d Y' ok e k=>?_];unfold xw at e
 split at e
 .rename_i aO h;ext e;refine q ok h λz1 H1 v aV r1=>?_
  ext r1;refine#[true,rfl,?_];rw[if_pos rfl];apply k z1 H1 _ aV (.bl _)
 .rename_i aO h
  split at e
  .rename_i c bA h2;ext e;refine q ok h λz1 H1 v aV r1=>?_
   ext r1;refine#[false,rfl,?_];rw[abM abm];apply q' aV h2 k
  .cases e
 .cases e
section
variable{K:Fr}
def Qi(h:bQ K H a (ks.map L2.kV))(ni:rm K=true)(hi:ks.all (λk=>k.isLeft)=true)(hn:ks≠[]):Tk H a (ks.map L2.kV):=by
 rcases h with(h|⟨o,h⟩)|⟨o,av,n,hk,_,_,hd,_,rv⟩
 .exact#[.tup _,rfl,h]
 .exact#[.vQ o _,rfl,h]
 .exfalso
  have q:=ado.mp ni (a,o) (B0 hk);dsimp only at q;rw[hd] at q;have len:=rv.length;have go:∀{ks:List Key} {vs},ks.all (λk=>k.isLeft)=true->aS (ks.map L2.kV) vs->∀v∈vs,∃i t,v=Value.int i t:=by
   intro ks
   induction ks with
   |nil=>intro vs _ r v m;ext r;ext m
   |cons k ks ih=>
    intro vs h r v m;let#[h1,h2]:=(aaM _ _).mp (by simpa only[aj8] using h);cases r with
    |cons r1 r2=>
     rcases aaO.mp m with e|m
     .subst e;cases k with
      |inr _=>ext h1
      |inl i=>let#[t,e]:=(show RelV (.int i) _ from r1);apply#[i,t,e]
     .exact ih h2 r2 v m
  rcases(aji _ _).mp (show(av.size==0||av.toList.any _)=true from q) with z|z
  .have z:av.size=0:=by simpa using z
   simp only[List.length_map,aeI] at len;apply hn (List.eq_nil_of_length_eq_zero (len.trans z))
  .let#[v,mv,e]:=adX.mp z;let#[i,t,rfl]:=go hi rv v mv;ext e
def Tk.aA(h:Tk H a xs)(i:aW H H'):Tk H' a xs:=by
 let#[t,e1,e2]:=h;cases t with
 |tup ys=>apply#[.tup ys,e1,i.1 _ _ e2]
 |vQ o ys=>apply#[.vQ o ys,e1,i.2.1 _ _ _ e2]
 |iV _ _=>ext e1
 |jv _=>ext e1
variable[DecidableEq κ]
theorem IT:∀{es:List (κ×α)},k∉es.map (·.1)->(es.map λkv=>if kv.1=k then(kv.1,d) else kv)=es
 |[],_=>rfl
 |(q,x)::es,n=>by
  rw[aaG] at n ⊢;rw[abM (λe=>n (by rw[e];apply aav)),IT λm=>n (aar _ m)]
def aD.Q3:∀{es}{ak:List (κ×V)} {g},es.map (·.1)=ak.map (·.1)->aD K H (es.map (·.2)) (ak.map (·.2)) g->g.Nodup->(es.map (·.1)).Nodup->bu es k=some d0->
  ∃v gf,eT ak k=some v/\Rep K H d0 v gf/\gf.Nodup/\(∀a∈gf,a∈g)/\∀(H') (d1) (g1),aW H H'->(∀b o,b∉gf->b∈g->H b=some o->H' b=some o)->Rep K H' d1 v g1->g1.Nodup->(∀b∈g1,b∈gf\/H b=none)->
   ∃g',aD K H' ((putD es k d1).map (·.2)) ((putK ak k v).map (·.2)) g'/\g'.Nodup/\∀b∈g',b∈g\/H b=none
 |[],_,_,_,_,_,_,e=>by ext e
 |_::_,[],_,k,_,_,_,_=>by simp at k
 |(x,d)::es,(y,v0)::ak,_,hk,r,nd,kd,e=>by
  simp only[aaG,aga] at hk;let#[rfl,hk]:=hk;rw[aaG] at kd;let#[Ug,kd2]:=acw.mp kd;have any:∀{α}{l:List (κ×α)}{d:α},k∈l.map (·.1)->(l.any λkv=>decide (kv.1=k))=true:=λ{α l d} m=>by
   let#[p,m1,m2]:=ab8.mp m;apply adX.mpr #[p,m1,aaP m2]
  cases r with
  | @cons _ _ _ _ f1 f2 r1 r2=>
   let#[a1,a2,a3]:=acU.mp nd
   by_cases hx:x=k
   .subst hx;have e1:bu ((x,d)::es) x=some d:=by simp[bu,adx]
    rw[e1] at e;obtain rfl:d=d0:=acB e;refine#[v0,f1,ya rfl,r1,a1,λa m=>abz _ m,λH' d1 g1 im kp rr n1 fr=>?_];refine#[g1++f2,?_,acU.mpr #[n1,a2,λa ma b mb e=>?_],λb m=>?_]
    .have er:putD ((x,d)::es) x d1=(x,d1)::es:=by
      unfold putD;rw[any (d:=d1) (by simp),if_pos rfl,aaG,IT Ug,if_pos rfl]
     have ev:putK ((x,v0)::ak) x v0=(x,v0)::ak:=by
      unfold putK;rw[any (d:=v0) (by simp),if_pos rfl,aaG,IT (show x∉ak.map (·.1) by rw[<- hk];apply Ug),if_pos rfl]
     rw[er,ev,aaG,aaG];refine .cons rr (r2.frame (λa m=>?_) im);let#[o,w,_]:=r2.cO a m;rw[kp a o (λq=>a3 a q a m rfl) (aaH _ m) w,w]
    .subst e;let#[o,w,_]:=r2.cO a mb;rcases fr a ma with q|q
     .exact a3 a q a mb rfl
     .rw[q] at w;ext w
    .rcases abH.mp m with m|m
     .exact(fr b m).imp (abz _) id
     .exact .inl (aaH _ m)
   .have e1:bu ((x,d)::es) k=bu es k:=by simp[bu,adx,hx]
    rw[e1] at e;let#[v,gf,h1,h2,h3,h4,h5]:=aD.Q3 hk r2 a2 kd2 e;have mk:k∈es.map (·.1):=by
     unfold bu at e;let#[p,e2,e3]:=abX.mp e;apply ab8.mpr #[p,afz e2,abl (show decide (p.1=k)=true from akc (p:=λkv:κ×D=>decide (kv.1=k)) e2)]
    refine#[v,gf,by rw[y_ hx];apply h1,h2,h3,λa m=>aaH _ (h4 a m),λH' d1 g1 im kp rr n1 fr=>?_];let#[g',c1,c2,c3]:=h5 H' d1 g1 im (λb o n m e=>kp b o n (aaH _ m) e) rr n1 fr;refine#[f1++g',?_,acU.mpr #[a1,c2,λa ma b mb e=>?_],λb m=>?_]
    .have er:(putD ((x,d)::es) k d1)=(x,d)::putD es k d1:=by
      unfold putD;rw[any (d:=d1) (l:=(x,d)::es) (aar _ mk),any (d:=d1) mk,if_pos rfl,if_pos rfl,aaG,abM hx]
     have ev:(putK ((x,v0)::ak) k v)=(x,v0)::putK ak k v:=by
      unfold putK;rw[any (d:=v) (by rw[aaG,<- hk];apply aar _ mk),any (d:=v) (by rw[<- hk];apply mk),if_pos rfl,if_pos rfl,aaG,abM hx]
     rw[er,ev,aaG,aaG];refine .cons (r1.frame (λa m=>?_) im) c1;let#[o,w,_]:=r1.cO a m;rw[kp a o (λq=>a3 a m a (h4 a q) rfl) (abz _ m) w,w]
    .subst e;let#[o,w,_]:=r1.cO a ma;rcases c3 a mb with q|q
     .exact a3 a ma a q rfl
     .rw[q] at w;ext w
    .rcases abH.mp m with m|m
     .exact .inl (abz _ m)
     .exact(c3 b m).imp (aaH _) id
def Ok.blank(ok:Ok K H0 S z aq Y U H)(h:Y[i]? = some none):Ok K H0 S z aq Y (U.set i x) H:=
 #[λj d t e=>by
  have ne:i≠j:=λz=>by rw[<- z,h] at e;ext e
  let#[v,fp,a,b,c]:=ok.sl j d t e;apply#[v,fp,by rw[acN ne];apply a,b,c],ok.hl,ok.zd,ok.en,by rw[ag3];apply ok.ln]
end
def EY:Option Slot->Option (List D)
 |some (some (.tup ls,_))=>some ls
 |_=>none
def LV:Option Slot->Option Str
 |some (some (.str w,_))=>some w
 |_=>none
def ET:Option D->Option (List (List Key×D))
 |some (.dN l)=>some l
 |_=>none
def ai5:∀{x} {ls},EY x=some ls->∃t,x=some (some (.tup ls,t)):=by
 rintro(_|_|⟨d,t⟩) es e
 any_goals ext e
 ext d
 all_goals ext e
 apply#[_,rfl]
def ag6:∀{x} {w},LV x=some w->∃t,x=some (some (.str w,t)):=by
 rintro(_|_|⟨d,t⟩) es e
 any_goals ext e
 ext d
 all_goals ext e
 apply#[_,rfl]
def ahd:∀{x} {l},ET x=some l->x=some (.dN l):=by
 rintro(_|d) es e
 any_goals ext e
 ext d
 all_goals ext e
 rfl
def xR(cn fl iN m:Str)(ft:EF)(G:MF):SF:=λY=>
 (qS cn Y[0]?).bind λes=>(EY Y[1]?).bind λls=>(LV Y[2]?).bind λwd=>(ET (es.lookup fl)).bind λak=>(jh ls).bind λks=>(ft Y).bind λdn=>
  (qS iN (some (some ((bu ak ks).getD dn.1,dn.2)))).bind λiz=>(G (.ins iN iz) [.str wd]).bind λr=>
   if Y[3]?.any Option.isNone=true/\iz.lookup m=none/\ks.all (λk=>k.isLeft)=true/\ks≠[]/\(ak.map (·.1)).Nodup/\ak.length<sizeLine/\aA r.1=true then some (.nx (iE (bU Y 0 (.ins cn (eK fl (.dN (putD ak ks r.2)) es))) 4 r.1 .own)) else none
def aau(e:xR cn fl iN m ft G Y=some w):∃es ls lt wd wt ak ks dn iz r d1,Y[0]? = some (some (.ins cn es,.own))/\Y[1]? = some (some (.tup ls,lt))/\Y[2]? = some (some (.str wd,wt))/\Y[3]? = some none/\es.lookup fl=some (.dN ak)/\jh ls=some ks/\ft Y=some (dn,.own)/\
  (bu ak ks).getD dn=.ins iN iz/\iz.lookup m=none/\ks.all (λk=>k.isLeft)=true/\ks≠[]/\(ak.map (·.1)).Nodup/\ak.length<sizeLine/\G (.ins iN iz) [.str wd]=some (r,d1)/\aA r=true/\w=.nx (iE (bU Y 0 (.ins cn (eK fl (.dN (putD ak ks d1)) es))) 4 r .own):=by
 let#[es,h1,e]:=aa5.mp e;let#[ls,h2,e]:=aa5.mp e;let#[wd,h3,e]:=aa5.mp e;let#[ak,h4,e]:=aa5.mp e;let#[ks,h5,e]:=aa5.mp e;let#[dn,h6,e]:=aa5.mp e;let#[iz,h7,e]:=aa5.mp e;let#[#[r,d1],h8,e]:=aa5.mp e;let#[#[a0,a1,a2,a3,a4,a5,a6],e]:=adB.mp e;let#[t2,h2]:=ai5 h2;let#[t3,h3]:=ag6 h3;have h7:=xH h7;have a0:Y[3]? = some none:=by
  rcases h:Y[3]? with _|_|_<;>rw[h] at a0<;>first|rfl|ext a0
 ext e;injection h7 with h7;injection h7 with h7;injection h7 with h7 h9;apply#[es,ls,t2,wd,t3,ak,ks,dn.1,iz,r,d1,xH h1,h2,h3,a0,ahd h4,h5,by rw[h6,<- h9],h7,a1,a2,a3,a4,a5,h8,a6,rfl]
def adG(h0:Y[0]? = some (some (.ins cn es,.own)))(h1:Y[1]? = some (some (.tup ls,lt)))(h2:Y[2]? = some (some (.str wd,wt)))(h3:Y[3]? = some none)(h4:es.lookup fl=some (.dN ak))(h5:jh ls=some ks)(h6:ft Y=some (dn,.own))(h7:(bu ak ks).getD dn=.ins iN iz)(h8:G (.ins iN iz) [.str wd]=some (r,d1))
  (hc:iz.lookup m=none/\ks.all (λk=>k.isLeft)=true/\ks≠[]/\(ak.map (·.1)).Nodup/\ak.length<sizeLine/\aA r=true):xR cn fl iN m ft G Y=some (.nx (iE (bU Y 0 (.ins cn (eK fl (.dN (putD ak ks d1)) es))) 4 r .own)):=by
 unfold xR qS EY LV ET;simp only[h0,h1,h2,h3,h4,h5,h6,h7,h8,acG,if_pos];apply if_pos #[rfl,hc]
section
variable{cn fl iN m x0 x1 x2 x3 x4:Str}{rest:List Stmt}
set_option maxHeartbeats 1000000 in
def Xk(hu:X.A.units+1<cLine)(ni:rm X.K=true)(hC:ClsAt X.K cn C)(na:iQ X.K C fl)(zm:ClsAt X.K iN C2)(hm:kD X.K C2 m fa)(GG:cg X.prog X.w X.K X.mg X.base dw k fa fd ps (dJ X.K G))(hr:aZ k X.A)(hb:Binds X.K fd ps [])
  (hT:FP X tc ft) (B9:FM X rest g) (hN:X.N.Nodup) (a0:VA X 0 x0:=by walk_at "va") (a1:VA X 1 x1:=by walk_at "va") (a2:VA X 2 x2:=by walk_at "va") (a3:VA X 3 x3:=by walk_at "va") (h4:X.N[4]? = some x4:=by rfl)
  (v3:Loc X.env.scope x3:=by first|exact Or.inl rfl|exact Or.inr rfl) (v4:Loc X.env.scope x4:=by first|exact Or.inl rfl|exact Or.inr rfl)
  (tR:attributeBase (.Name x0 p1) fl X.env (eval (.Name x0 p1) X.env)=eval (.Name x0 p1) X.env:=by rfl) (abf:attributeBase (.Name x0 q1) fl X.env (eval (.Name x0 q1) X.env)=eval (.Name x0 q1) X.env:=by rfl)
  (mm:M2 X (.Attribute (.Name x0 p1) fl p2) "get" p3 (.Name x1 p4) tc p5:=by apply#[rfl,rfl,rfl,rfl])
  (s1:swapsWith (.Call (.Attribute (.Attribute (.Name x0 p1) fl p2) "get" p3) [.Name x1 p4,tc] [] p5) (some (.Name x3 p6)) p7.line X.env=pure false:=by rfl)
  (s2:swapsWith (.Call (.Attribute (.Name x3 q2) m q3) [.Name x2 q4] [] q5) (some (.Name x4 p8)) p9.line X.env=pure false:=by rfl)
  (s3:swapsWith (.Name x3 q6) (some (.Subscript (.Attribute (.Name x0 q1) fl q7) (.Name x1 q8) q9)) r1.line X.env=pure false:=by rfl)
  (f3:j7 X x3:=by first|exact .inl rfl|exact .inr rfl) (f4:j7 X x4:=by first|exact .inl rfl|exact .inr rfl) (k3:kr X x3=false:=by rfl) (k4:kr X x4=false:=by rfl)
  (dG:starEach [.Name x2 q4] X.env=[(false,eval (.Name x2 q4) X.env)]:=by rfl)
  (ht:eval (.Call (.Attribute (.Name x3 q2) m q3) [.Name x2 q4] [] q5) X.env=(do
   let ov <- eval (.Name x3 q2) X.env
   standAt q3.atName
   let(f,first) <- holding [ov] (getMethod ov m pl)
   callWith q5 f first (backTo q5 (starEach [.Name x2 q4] X.env)) (backToKw q5 (keywordEach [] X.env))):=by rfl) :
  FM X (.Assign [.Name x3 p6] (.Call (.Attribute (.Attribute (.Name x0 p1) fl p2) "get" p3) [.Name x1 p4,tc] [] p5) p7::.Assign [.Name x4 p8] (.Call (.Attribute (.Name x3 q2) m q3) [.Name x2 q4] [] q5) p9::.Assign [.Subscript (.Attribute (.Name x0 q1) fl q7) (.Name x1 q8) q9] (.Name x3 q6) r1::rest) (ck (xR cn fl iN m ft G) g):=by
 let#[tT,pT,sT]:=hT;let#[tr,pr,sr]:=B9;refine#[_,x6 (CM hN a3.N v3 (Ln hu (n_ a0.pe tR) a1.pe pT mm) s1 f3)
  (x6 (CM hN h4 v4 (BC a3.pe zm.cl hm GG hr hb .nil lD (dg a2.pe e_ dG) dG rfl ht) s2 f4)
  (x6 (Ci hu (n_ a0.pe abf) a1.pe a3.pe s3) pr)),@λH0 S z aq Y U H E o ok e kE=>?_]
 cases hw:xR cn fl iN m ft G Y with
 |none=>unfold ck at e;rw[hw] at e;ext e
 |some w=>
  let#[es,ls,lt,wd,wt,ak,ks,dn,iz,r,d1,e0,e1,e2,e3,elf,eks,Yc,xE,elm,EJ,kU,knd,hlen,eG,hir,rfl]:=aau hw;have e:g (iE (bU Y 0 (.ins cn (eK fl (.dN (putD ak ks d1)) es))) 4 r .own)=some o:=by unfold ck at e;rw[hw] at e;apply e
  let#[v,aX,hs,r0,zz]:=ok.sl 0 _ _ e0;let#[vl,JI,Pj,rl,_]:=ok.sl 1 _ _ e1;let#[bL,xs,rfl,hqL,rsL]:=rl.ir;obtain rfl:=aD.keys rsL eks;have wj:=Qi hqL ni EJ kU;let#[vw,fw,iK,fM,_]:=ok.sl 2 _ _ e2;let#[rfl,rfl]:=fM.xj;have l3:3<U.length:=by rw[<- ok.ln];apply(abq.mp e3).1
  let#[b0,dx,fs,u,gf,#[nb,nx],rfl,a1,a2,a3,a4,a5,a6]:=r0.M4 hC.ns zz.1 elf;cases a3 with
  | @dN l iF _ g0 hl fZ rs=>
   let#[lg,n0]:=acw.mp a4;refine#[.ref b0,hs,b0,C,dx,fs,.ref l,rfl,a1,hC.cl,na,a2,l,rfl,.inr #[iF,.inl hl],.ref bL,Pj,?_];refine sT ok Yc λH3 zv Bu s3 rn gn=>?_
   refine#[eT iF ks,.inr #[iF,ks,bL,.inl (s3 _ _ hl),rfl,(Tk.aA wj (.of s3)),rfl],?_];have hv:∃jL,Rep X.K H3 (.ins iN iz) ((eT iF ks).getD zv) jL/\jL.Nodup/\(∀b∈jL,b∈g0\/H b=none)/\∀H5 bI,aW H3 H5->(∀b o,b∉jL->H3 b=some o->H5 b=some o)->Rep X.K H5 d1 ((eT iF ks).getD zv) bI->bI.Nodup->(∀b∈bI,b∈jL\/H3 b=none)->
     ∃g',aD X.K (upd H5 l (.dT (putK iF ks ((eT iF ks).getD zv)))) ((putD ak ks d1).map (·.2)) ((putK iF ks ((eT iF ks).getD zv)).map (·.2)) g'/\g'.Nodup/\l∉g'/\∀b∈g',b∈g0\/H b=none:=by
    cases ud:bu ak ks with
    |some dv=>
     rw[ud,ajX] at xE;subst xE;let#[v,gv,b1,b2,b3,b4,b5]:=aD.Q3 fZ rs n0 knd ud;rw[b1,ajX];refine#[gv,b2.same s3,b3,λb m=>.inl (b4 b m),λH5 bI im kp r5 AD mY=>?_];have nl:l∉gv:=λm=>lg (b4 l m)
     have qm:=kp l _ nl (s3 _ _ hl);have A9:l∉bI:=λm=>(mY l m).elim nl λq=>by rw[s3 _ _ hl] at q;ext q
     let#[g',c1,c2,c3]:=b5 (upd H5 l (.dT (putK iF ks v))) d1 bI (((aW.of s3).trans im).trans (aW.upd qm rfl)) (λb o n mb e=>by rw[aJ (λq:b=l=>lg (q ▸ mb))];apply kp b o n (s3 b o e))
      (r5.frame (λb m=>aJ (λq:b=l=>A9 (q ▸ m))) (aW.upd qm rfl)) AD (λb m=>(mY b m).imp id s3.free)
     apply#[g',c1,c2,(λm=>(c3 l m).elim lg λq=>by rw[hl] at q;ext q),c3]
    |none=>
     rw[ud] at xE;have xE:=xE;subst xE;have hn:=(qZ fZ rs).2 ud;rw[hn];show ∃jL,Rep X.K H3 (.ins iN iz) zv jL/\jL.Nodup/\(∀b∈jL,b∈g0\/H b=none)/\∀H5 bI,aW H3 H5->(∀b o,b∉jL->H3 b=some o->H5 b=some o)->Rep X.K H5 d1 zv bI->bI.Nodup->(∀b∈bI,b∈jL\/H3 b=none)->
      ∃g',aD X.K (upd H5 l (.dT (putK iF ks zv))) ((putD ak ks d1).map (·.2)) ((putK iF ks zv).map (·.2)) g'/\g'.Nodup/\l∉g'/\∀b∈g',b∈g0\/H b=none
     refine#[Bu,rn,gn.1,λb m=>.inr (gn.2 b m),λH5 bI im kp r5 AD mY=>?_];have nl:l∉Bu:=λm=>by rw[gn.2 l m] at hl;ext hl
     have qm:=kp l _ nl (s3 _ _ hl);have Ae:∀b∈bI,H b=none:=λb m=>(mY b m).elim (gn.2 b) s3.free
     have A9:l∉bI:=λm=>by rw[Ae l m] at hl;ext hl
     have i6:aW H (upd H5 l (.dT (putK iF ks zv))):=((aW.of s3).trans im).trans (aW.upd qm rfl);have n1:(ak.any λkv=>decide (kv.1=ks))=false:=by
      unfold bu at ud;rw[Option.map_eq_none_iff,aho] at ud;apply List.any_eq_false.mpr ud
     have n2:(iF.any λkv=>decide (kv.1=ks))=false:=by
      rw[EW,hn];rfl
     refine#[g0++(bI++[]),?_,?_,λm=>?_,λb m=>?_]
     .unfold putD putK;rw[n1,n2,abM abm,abM abm,adk,adk];unfold putK at i6;rw[n2,abM abm] at i6;refine aD.append (rs.frame (λb m=>?_) i6) (.cons (r5.frame (λb m=>aJ (λq:b=l=>A9 (q ▸ m))) (aW.upd qm rfl)) .nil);let#[o,w,_]:=rs.cO b m;rw[aJ (λq:b=l=>lg (q ▸ m)),kp b o (λq=>by rw[gn.2 b q] at w;ext w) (s3 b o w),w]
     .rw[acL];refine acU.mpr #[n0,AD,λa ma b mb e=>?_];let#[o,w,_]:=rs.cO a ma;rw[e,Ae b mb] at w;ext w
     .rw[acL] at m;apply(abH.mp m).elim lg A9
     .rw[acL] at m;apply(abH.mp m).imp id (Ae b)
   generalize(eT iF ks).getD zv=v at hv ⊢;let#[jL,rv,ndv,Gw,fin]:=hv;let#[a,Xj,fsT,gT,rfl,Ii,t1,t2,t3,t4]:=rv.lO zm.ns;refine#[.ref a,aed l3,a,Xj,fsT,rfl,t1,u0 t3 elm,.str wd,(by rw[acN (by decide)];apply iK),?_];refine#[a,[.str wd],_,jL,[.str wd],[],r,d1,rfl,rv,ndv,.cons (.str wd) .nil,(λb m=>nomatch m),eG,λH5 ut bI im kp r5 AD mY rr=>?_];have nl:l∉jL:=λm=>(Gw l m).elim lg λq=>by rw[hl] at q;ext q
   have qm:=kp l _ nl (s3 _ _ hl);have nb0:b0∉jL:=λm=>(Gw b0 m).elim (λq=>nb (aar _ q)) λq=>by rw[a1] at q;ext q
   have a15:=kp b0 _ nb0 (s3 _ _ a1);have hlv:iF.length=ak.length:=by have:=congrArg List.length fZ;simpa using this.symm
   refine#[.ref a,(by rw[acN (by decide)];apply aed l3),.ref b0,(by rw[acN (by decide),acN (by decide)];apply hs),b0,C,dx,fs,.ref l,rfl,a15,hC.cl,na,a2,.ref bL,(by rw[acN (by decide),acN (by decide)];apply Pj),l,_,rfl,
    .inr #[iF,ks,bL,qm,rfl,(Tk.aA wj ((aW.of s3).trans im)),(by rw[hlv];apply hlen),rfl],?_]
   let#[g',y1,y2,y3,y4]:=fin H5 bI im kp r5 AD mY;have i6:aW H (upd H5 l (.dT (putK iF ks (.ref a)))):=((aW.of s3).trans im).trans (aW.upd qm rfl);have k6:∀b o,b∉l::g0->H b=some o->upd H5 l (.dT (putK iF ks (.ref a))) b=some o:=λb o n e=>by
    rw[aJ (λq=>n (by rw[q];apply aav))];apply kp b o (λm=>(Gw b m).elim (λq=>n (aar _ q)) λq=>by rw[e] at q;ext q) (s3 b o e)
   let#[akh,z1,z2,z3]:=a6 _ (.dN (putD ak ks d1)) (l::g') i6 k6 (.dN bP (yj fZ) y1) (acw.mpr #[y3,y2]) (λb m=>(aaO.mp m).elim (λq=>.inl (by rw[q];apply aav)) λm=>(y4 b m).imp (aar _) id);let#[z',iu]:=ok.put e0 hs zz i6 (λb o n e=>k6 b o (λm=>n (a5 b m)) e) z1 z2 z3;have e3':(bU Y 0 (.ins cn (eK fl (.dN (putD ak ks d1)) es)))[3]? = some none:=by unfold bU;rw[acN (by decide),acy,e3];rfl
   refine(iu.blank (x:=some (.ref a)) e3').stored (t:=.own) (i:=4) (aH.refl _) (rr.frame (λa m=>nomatch m) (aW.upd qm rfl)) .nil λz2 GJ=>?_
   apply sr GJ e (kE.of ((Kp.set a3.N k3).trans (Kp.set h4 k4)))
end
end L2.Ev
namespace L2
open PySem PySem.Spec PyProof.Rows
def aiz(K:Fr):V->List V->Hp->VK->Prop:=λx vs H Q=>∃(l:Addr) (ts:List Int) (i:Int) (j:Nat),x=.ref l/\vs=[.int i]/\cJ K H l (ts.map V.int)/\ts[j]? = some i/\(∀m,m<j->ts[m]?≠some i)/\Q (.int j) H
def PY(i y:Int)(t:Tok):i7 (.int i) (.int y t)=(y==i):=rfl
def afT:DU X "list.index" (aiz X.K):=by
 intro af s U H x vs v us Q I rx rv h;let#[l,ts,i,j,rfl,rfl,hq,hj,Ac,q]:=h;ext rx;let#[u,rfl,ru]:=vals1 rv;let#[t,rfl]:=ru;let#[av,r,pl,hz]:=I.list hq;have hlen:=r.length;rw[List.length_map] at hlen hz;let#[o,ho,hc,n,hd]:=pl.isList;let#[c,dd,da,sl]:=o;ext hc;ext hd;have hjl:=(abq.mp hj).1;have uy:∀(m) (hm:m<av.toArray.size),∃y t',ts[m]? = some y/\av.toArray[m]=.int y t':=λm hm=>by
  have pN:m<ts.length:=by simp at hm;omega
  let#[w,hw,fM]:=r.get (by rw[acy,aa1 pN];rfl);let#[t',rfl]:=fM;refine#[ts[m],t',aa1 pN,?_];have:=(abq.mp hw).2;simpa using this
 have hsz:j<av.toArray.size:=by simp;omega
 refine call_meets F.slot_list_index #[_,ho,rfl] F.entry_list_index (F.args_list_index_2 _ _) (SeqAt.list_indexAt l av.toArray n dd sl (.int i t) (i7 (.int i)) j hsz (by rw[afK] at hz;omega) ?_ (λm hm cM=>?_)) #[ho,λw hw=>vA (x:=.int i) #[t,rfl] rfl r (by rw[aj6];apply ado.mpr λ_ _=>rfl) w (by simpa using hw),#[.int j,H,I.tok _,#[_,rfl],q]]
 .let#[y,t',h1,h2]:=uy j hsz;rw[h2,PY];rw[hj] at h1;ext h1;apply agf _
 .let#[y,t',h1,h2]:=uy m hm;rw[h2,PY];refine agJ.mpr λe=>Ac m cM ?_
  rw[h1,eq_of_beq e]
end L2
namespace L2
def aZ.m(r:aZ k A cm)(h:j<=k:=by decide):aZ j A cm:=r.mono h
end L2
namespace L2.Ev
open PySem PySem.Spec PyProof.Rows
def JO:D->D->Option D
 |.lst ds,.int i=>match eV ds with
  |some ts=>(ts.findIdx? (· == i)).map λj:Nat=>.int j
  |none=>none
 |_,_=>none
def ajr(ha:FP X a fa)(hb:FP X b fb)(hs:Y1 X b:=by rfl)(jb:attributeBase a "index" X.env (eval a X.env)=eval a X.env:=by rfl)
  (kq:((backTo p3 (starEach [b] X.env)).all (λx=>!x.1)&&(backToKw p3 (keywordEach [] X.env)).all (λx=>x.1.isSome)&&decide ([b].length+([]:List Keyword).length+(if([]:List Keyword).isEmpty then 0 else 1)<30))=true:=by rfl)
  (jl:(p2.endLine==p3.line)=true:=by rfl):FP X (.Call (.Attribute a "index" p2) [b] [] p3) (e2 JO fa fb):=by
 let#[ta,pa,sa]:=ha;let#[tb,pb,sb]:=hb;exists 21,vD PySem.F.plainAttrs_list PySem.F.slot_list_index PySem.F.type_list_index afT pa (dg pb e_ hs) jb kq jl hs rfl;let#[d1,t1,d2,t2,e1,i_,e3,rfl]:=sy e;refine sa ok e1 λH1 x f1 s1 r1 _=>?_
 cases d1 with
 |lst ds=>
  cases d2 with
  |int i=>
   have e3:(match eV ds with|some ts=>(ts.findIdx? (· == i)).map λj:Nat=>D.int j|none=>none)=some d:=e3;cases h:eV ds with
   |none=>rw[h] at e3;ext e3
   |some ts=>
    rw[h] at e3;dsimp only at e3;cases h2:ts.findIdx? (· == i) with
    |none=>rw[h2] at e3;ext e3
    |some j=>
     rw[h2] at e3;ext e3;let#[l0,xs0,f0,rfl,X3,rs0,_]:=r1.d9;refine#[.inl #[rfl,_,X3],?_];refine sb (ok.same s1) i_ λH2 y f2 s2 r2 _=>?_
     let#[rfl,_]:=r2.jq;have Im:=r1.same s2;let#[l,xs,f,e0,hq,rs,_]:=Im.d9;ext e0;have hx:=u9 rs h;subst hx;let#[hj,hp,Ac]:=List.findIdx?_eq_some_iff_getElem.mp h2;refine#[l0,ts,i,j,rfl,rfl,hq,?_,λm hm em=>?_,k H2 _ [] (s1.trans s2) (.int _) #[acE,λa m=>nomatch m]]
     .rw[aa1 hj,eq_of_beq hp]
     .let#[pN,e']:=abq.mp em;apply Ac m hm (by rw[e'];apply agf _)
  |_=>ext e3
 |_=>ext e3
end L2.Ev
namespace L2
open PySem PySem.Spec PyProof.Rows
def Jq{K:Fr}(h:AH K=true):∀r∈jA K,jA K=[r]/\PySem.W.codeHdIn K r.1 r.2.1=true/\K.lookup r.2.1=none:=λr m=>by
 have ok:=((aaM _ _).mp h).2
 split at ok
 .rename_i e;rw[e] at m;ext m
 .rename_i r' e;rw[e] at m;cases aa6.mp m;let#[a,b]:=(aaM _ _).mp ok;apply#[e,a,by simpa using b]
 .cases ok
def wL(K:Fr):Hp:=λb=>match jA K with
 |[r]=>if b=r.2.1 then some (.iV r.2.2.1 r.2.2.2) else none
 |_=>none
def adS{K:Fr}
  (KX:K.In bZ.heap) (Ao:AH K=true) (yK:∀r∈jA K,bZ.heap.get? r.2.1=some (PySem.W.tabObj ([].toArray))) (qR:bZ.heap.Ns mainGlobals mg) (hb:bZ.heap.Ns builtinsNs mb) (hbb:∀x:Str,x≠"__name__"->mb x=bootBuiltins x) (ac4:bZ.heap.NoLimit)
  (YI:∃bm ob,mg "__builtins__"=some (.ref bm)/\bm≠builtinsNs/\bZ.heap.get? bm=some ob/\ob.cls=.type "module"/\ob.dict=some builtinsNs/\ob.data=.plain) (hg:bZ.gens=([].toArray))
  (ha:bZ.heap.get? a=some { cls:=.type "list",data:=.seq vs.toArray }) (hi:IntsAre vs ns) (hl:ns.length<=sizeLine) (hr:aZ k callerA)
  (F:∀base:Heap,K.In base->base.Ns mainGlobals mg->cg P w K mg base CX k fa fd [x] sp) (abB:∀(s) (u),BindsTo s fd #[[u],[]] [(x,u)])
  (qw:∀H:Hp,Ev.rZ K H a (ns.map V.int)->sp [.ref a] H (λv _=>v=.bl true) λ_ _ _=>False) (Jp:∀H e s',CX [] H bZ (λ_ _ _=>False) e s'->False) :
  codeAny (model P w) callerA (.call (.ref fa) #[[.ref a],[]]) (λr s'=>r=.ok (.ret (.bool true))/\OldK bZ.heap s'.heap/\s'.os=bZ.os/\AllBare s'.gens) bZ:=by
 have rv:=Ll hi;have afm:=hi.length;have tab_of:∀{b} {u},wL K b=some u->∃r∈jA K,b=r.2.1/\u=.iV r.2.2.1 r.2.2.2:=λ{b u} e=>by
  unfold wL at e
  split at e
  .rename_i r er;let#[h,e]:=ci e;ext e;apply#[r,by rw[er];apply List.mem_singleton_self r,h,rfl]
  .cases e
 have Su:∀r∈jA K,wL K r.2.1=some (.iV r.2.2.1 r.2.2.2):=λr m=>by
  unfold wL;rw[(Jq Ao r m).1];apply if_pos rfl
 have na:∀r∈jA K,r.2.1≠a:=λr m z=>by
  have:=yK r m;rw[z,ha] at this;ext this
 have core:∀H:Hp,Ev.rZ K H a (ns.map V.int)->(∀b u,H b=some u->(b=a/\K.lookup a=none/\u=.cC { cls:=.type "list",data:=.seq vs.toArray } (.lst (ns.map V.int)))\/∃r∈jA K,b=r.2.1/\u=.iV r.2.2.1 r.2.2.2)->(∀r∈jA K,H r.2.1=some (.iV r.2.2.1 r.2.2.2))->
   codeAny (model P w) callerA (.call (.ref fa) #[[.ref a],[]]) (λr s'=>r=.ok (.ret (.bool true))/\OldK bZ.heap s'.heap/\s'.os=bZ.os/\AllBare s'.gens) bZ:=by
  intro H hS hA hL;have aG:cY P w H bZ.heap:=λb u e=>by
   rcases hA b u e with⟨rfl,_,rfl⟩|⟨r,m,rfl,rfl⟩
   .exact#[ha,by rw[List.length_map];apply hl,vs,_,rv,ha]
   .exact#[([].toArray),yK r m,.inl rfl]
  have free:∀{b} {o},bZ.heap.get? b=some o->(∀xs n,o.data≠.seq xs n)->(∀xs,o.data≠.fields xs)->H b=none:=λ{b o} e d1 d2=>by
   cases q:H b with
   |none=>rfl
   |some u=>
    rcases hA b u q with⟨rfl,_,_⟩|⟨r,m,rfl,_⟩
    .rw[ha] at e;ext e;apply absurd rfl (d1 _ _)
    .rw[yK r m] at e;ext e;apply absurd rfl (d2 _)
  have CJ:∀{b} {m},bZ.heap.Ns b m->(rH bZ.heap H).Ns b m:=λ{b m} ⟨o,es,ep,e,d,r⟩=>#[o,es,ep,IB e (free e (λ_ _ z=>by rw[d] at z;ext z) λ_ z=>by rw[d] at z;ext z),d,r]
  have NO:K.In (rH bZ.heap H):=λb o e=>IB (KX b o e) (by
   cases q:H b with
   |none=>rfl
   |some u=>
    rcases hA b u q with⟨rfl,z,_⟩|⟨r,m,rfl,_⟩
    .rw[z] at e;ext e
    .rw[(Jq Ao r m).2.2] at e;ext e)
  let#[bm,ob,b1,b2,b3,b4,b5,b6]:=YI;have hM:Mod K mg (rH bZ.heap H):=#[NO,CJ qR,#[mb,CJ hb,hbb],let#[mc,h1,h2]:=ac4;#[mc,CJ h1,h2],bm,ob,b1,b2,IB b3 (free b3 (λ_ _ z=>by rw[b6] at z;ext z) λ_ z=>by rw[b6] at z;ext z),b4,b5,b6]
  have e0:tK P w K mg (rH bZ.heap H) callerA [] bZ H:=#[rfl,hM,λb o e=>aiV e,Nat.le_of_eq (aiJ _ _),trivial,λb hb=>absurd (show b∈([]:List Addr) from hb) (by simp),aG,.of_eq hg,#[.inl rfl,Ao,hL]]
  refine codeAny_mono ((F _ NO (CJ qR)).run callerA [] bZ H #[[.ref a],[]] [.ref a] [.ref a] _ _ hr e0 (abB bZ (.ref a)) (.cons rfl .nil) (qw H hS)) λr s' h=>?_
  cases r with
  |error e=>apply(Jp H e s' h).elim
  |ok fl=>
   cases fl with
   |next=>apply False.elim h
   |brk=>apply False.elim h
   |cont=>apply False.elim h
   |ret u=>
    let#[v,H',os,bare,un,O_,r',q]:=h;have q':=q;subst q';obtain rfl:u=Value.bool true:=r';refine#[rfl,#[λb o e=>?_,λb o e=>un.there b o e (by simp)],os,bare];cases q:H b with
    |none=>apply .inl (un.keep b o e q (by intro z;apply absurd (show b∈([]:List Addr) from z) (by simp)) (by simp))
    |some u=>
     rcases hA b u q with⟨rfl,_,rfl⟩|⟨r,m,rfl,rfl⟩
     .have z2:=un.i9 b _ _ q;let#[e1,_]:=aG b _ q;let#[e2,_]:=O_ b _ z2;rw[e] at e1;ext e1;apply .inl e2
     .have z2:=un.jy r.2.1 (.iV _ _) q;let#[ps,e2,_]:=O_ _ _ z2;rw[yK r m] at e;ext e;apply .inr (.inl #[((PySem.W.codeHd_of_K KX (Jq Ao r m).2.1).tab (yK r m)).isCodeTable,rfl,([].toArray),ps,rfl,by simpa using e2])
 cases hk:K.lookup a with
 |some o=>
  have e:=KX a o hk;rw[ha] at e;ext e;refine core (wL K) (.inr #[_,vs.toArray,_,hk,rfl,rfl,rfl,by rw[ab9,afm];apply hl,by simpa using rv]) (λb u z=>.inr (tab_of z)) Su
 |none=>
  refine core (λb=>if b=a then some (.cC { cls:=.type "list",data:=.seq vs.toArray } (.lst (ns.map V.int))) else wL K b) (.inl #[{ cls:=.type "list",data:=.seq vs.toArray },if_pos rfl]) (λb u z=>?_) λr m=>(abM (na r m)).trans (Su r m)
  by_cases hb:b=a
  .have z':=(if_pos hb).symm.trans z;ext z';apply .inl #[hb,hk,rfl]
  .exact .inr (tab_of ((abM hb).symm.trans z))
def aeo{l:PySem.W.OpenLaw}{K:Params->Fr}{CX:World->sO}{sp:World->Sp}
  (hn:l.most=some n) (DM:n<=sizeLine) (z_:d.params.defaults=[]) (hr:aZ k callerA) (hY:∀(w) (h),YP w h->(K w.params).In h) (hT:∀(w) (h),YP w h->∀r∈jA (K w.params),h.get? r.2.1=some (PySem.W.tabObj ([].toArray))) (hL:∀w:World,AH (K w.params)=true)
  (F:∀(w) (mg) (fa) (h),(K w.params).In h->h.Ns mainGlobals mg->mg d.name=some (.ref fa)->
   ∃fd:FuncData,(∀(s) (u),BindsTo s fd #[[u],[]] [(x,u)])/\∀base:Heap,(K w.params).In base->base.Ns mainGlobals mg->cg l.prog w (K w.params) mg base (CX w) k fa fd [x] (sp w))
  (qw:∀(w) (H) (a) (ns:List Int),ns.length<=n->Ev.rZ (K w.params) H a (ns.map V.int)->sp w [.ref a] H (λv _=>v=.bl true) λ_ _ _=>False)
  (Jp:∀(w) (H) (s) (e) (s'),CX w [] H s (λ_ _ _=>False) e s'->False) :
  PySem.W.WalkO q loose XP YP l.row.toRowW d [] (λf vs=>PySem.call f vs):=by
 refine Qw.aea hn z_ λw cQ bZ mg mb fa o pm cd doc a vs ns G YY ho hd gZ Av LZ hints hlen hg=>?_
 let#[fd,hb,hF]:=F w mg fa _ (hY w _ YY) G.T.g Av;apply adS (hY w _ YY) (hL w) (hT w _ YY) G.T.g G.T.b G.T.builtins G.T.nolimit G.T.bmain hg LZ hints (ada hlen DM) hr hF hb (λH hS=>qw w H a ns hlen hS) λH e s'=>Jp w H bZ e s'
end L2
namespace L2.Ev
open PySem PySem.Spec PySem.W PyProof.Rows
structure Z where
 P:Program
 w:World
 K:Frag
 mg:Str->Option Value
 base:Heap
structure En(L:Ls)(z:Z):Prop where
 b:∀{x},L.bt.contains x=true->z.mg x=none
 i:∀{x} {n},L.gi.lookup x=some n->∃t,z.mg x=some (.int n t)
 t:∀{x} {l},L.tp.lookup x=some l->∃a,z.mg x=some (.ref a)/\Ca z.K a l
 c:∀c:Str,L.cl.contains c=true->ClsAt z.K c (cA z.K c)
 m:∀{c},L.cl.contains c=true->z.mg c=some (.ref (cA z.K c))
 n:∀{c a},L.na.contains (c,a)=true->iQ z.K (cA z.K c) a
 ni:L.ni=true->rm z.K=true
 g:∀{c},L.ex.contains c=true->nsIn z.K mainGlobals c=some (some (.ref (cA z.K c)))
 e:∀{c},L.ex.contains c=true->z.mg c=some (.ref (cA z.K c))
 x:∀{c},L.xc.contains c=true->Dm z.K (cA z.K c)
 ct:∀{c} {ns},L.ct.lookup c=some ns->aiN z.K ns (cA z.K c)
 kt:∀{c} {tb},L.kt.lookup c=some tb->Iw z.K tb (kv z.K c)
 ki:∀{c} {p},L.ki.lookup c=some p->aaa z.K p.2 (p.1.map (cA z.K))
def jR(s:Stmt):List Str:=(mK s).args.map (·.arg)
theorem Na:∀{l:List Str} {us},us.map strOf=l.map some->aS (l.map V.str) us
 |[],[],_=>.nil
 |[],_::_,e=>nomatch e
 |_::_,[],e=>nomatch e
 |a::l,u::us,e=>by
  let#[e1,e2]:=List.cons.inj e;refine .cons ?_ (Na e2);ext u<;>ext e1
  apply#[_,rfl]
def YH{K:Frag}(q:Fp K x l=true):∃a,nsIn K mainGlobals x=some (some (.ref a))/\Ca K a l:=by
 unfold Fp at q
 split at q
 .rename_i a h;refine#[a,h,?_]
  split at q
  .rename_i c av n sl h1;simp only[aaM,ahb,ajo] at q;apply#[_,av,_,h1,q.1.1,rfl,rfl,q.1.2,Na q.2]
  .cases q
 .cases q
theorem qX:∀{l:List (Str×β)},l.lookup x=some y->(x,y)∈l
 |[],e=>nomatch e
 |(a,b)::l,e=>by
  rw[aej] at e
  by_cases h:(x==a)=true
  .rw[h] at e;ext e;rw[eq_of_beq h];apply .head _
  .rw[show(x==a)=false by simpa using h] at e;apply .tail _ (qX e)
def Ov{K:Frag}(h:ek K r=true):qo K (cA K r):=by
 unfold ek at h;simp only[aaM,ahb] at h;let#[#[#[#[#[#[h1,h2],h3],h4],h5],h6],h7]:=h;apply#[h1,h2,h3,h4,h5,h6,h7,agP h6]
def aiI{L:Ls}{K:Frag}(X:K.In h)(G:h.Ns mainGlobals mg)(q:vj L K=true):En L #[P,w,K,mg,base]:=by
 unfold vj at q;simp only[aaM,ado,ahb] at q;let#[#[#[#[#[#[qi,qx],q1],q2],q3],q4],q5]:=q;unfold Vz at qx;simp only[aaM,ado,ahb,adz] at qx;let#[#[#[#[x1,x2],x3],x4],x5]:=qx;have cx:∀{r} {C},r∈L.ex->nsIn K mainGlobals r=some (some (.ref C))->C=cA K r:=λm e=>by
  rw[x1 _ m] at e;ext e;rfl
 have cl:∀c:Str,L.cl.contains c=true->AW K c=true:=λc h=>q4 c (adz.mp h)
 refine#[λh=>mg_none_of X G (q1 _ (adz.mp h)),λ{x n} h=>?_,λh=>?_,λc h=>?_,λ{c} h=>?_,λh=>q5 _ (adz.mp h),λh=>?_,λh=>x1 _ (adz.mp h),λh=>mg_of X G (x1 _ (adz.mp h)),λh=>ajj (x2 _ (adz.mp h)),λh cn C h1 hn=>?_,λh cn b C h1 hn=>?_,λh cn b C h1 hn=>?_]
 .have:=q2 _ (qX h);unfold Ql at this
  split at this
  .rename_i m t e;cases eq_of_beq this;apply#[t,mg_of X G e]
  .cases this
 .let#[a,e,t]:=YH (q3 _ (qX h));apply#[a,mg_of X G e,t]
 .have:=cl c h;unfold AW at this;simp only[aaM,ahb] at this;let#[#[#[#[#[#[h1,h2],h3],h4],h5],_],_]:=this;apply#[h1,#[h2,h3,h4,h5]]
 .have:=cl c h;unfold AW at this;simp only[aaM,ahb] at this;apply mg_of X G this.1.1.1.1.1.1
 .rw[h] at qi;apply qi
 .let#[#[a1,a2],a3]:=x3 _ (qX h);let#[#[b1,b2],b3]:=a3 cn (adz.mp h1);cases cx b2 hn;apply ach (Mj (x2 _ b1)) (Mj (x2 _ a1)) b3 a2
 .let#[#[a1,a2],a3]:=x4 _ (qX h) _ (qX h1);cases cx a1 hn;apply#[Ov a2,a3]
 .let#[#[a1,a2],a3]:=x5 _ (qX h) _ (qX h1);cases cx a1 hn;apply#[Ov a2,a3]
def aaR{K:Frag}(q:vj L K=true)(h:L.cl.contains c=true):makesIn K (cA K c)=true/\keepIn K (.ref (cA K c))=true:=by
 unfold vj at q;simp only[aaM,ado] at q;have:=q.1.2 c (adz.mp h);unfold AW at this;simp only[aaM] at this;apply#[this.1.2,this.2]
def U1{K:Frag}(e:HC K q v=some (fnOf x q (mK s) (gS s) (cE s) .none .none .none .none none .none .none)):∃f,v=some (some (.ref f))/\isFn K (.ref f)=true/\GL K x q s f:=by
 unfold HC at e
 split at e
 .rename_i a
  split at e
  .rename_i oc od fd sl h;let#[hc,e]:=ci e;simp only[aaM] at hc;refine#[a,rfl,hc.2,?_];let#[n,qn,pa,bo,sc,gl,cl,df,kw,dc,pm,an,cd,ct,bi]:=fd;unfold Qk at e;injection e with e;injection e with e1 e2 e3 e4 e5 e6 e7 e8 e9 e10 TR e12 e13 e14 e15;subst e1 e2 e3 e4 e5 e6 e7 e8 e15;apply#[_,_,_,_,_,_,_,_,_,h,hc.1.1,hc.1.2]
  .cases e
 .cases e
def VN{K:Frag}{tab:List (Str×Stmt)}{i:Nat}(t:tab.map (look K)=tab.map want)(e:tab[i]? = some p):look K p=want p:=by
 have:=congrArg (·[i]?) t;simp only[acy,e,Option.map_some] at this;apply acB this
def GK{K:Frag}{tab:List (Str×Stmt)}(i:Nat){s:Stmt}(t:tab.map (look K)=tab.map want)(e:tab[i]? = some (Str.empty,s)):Jf K (ia s) s:=by
 let#[f,h,_,g]:=U1 (VN t e);apply#[f,h,g]
def G5{K:Frag}{tab:List (Str×Stmt)}(i:Nat){c:Str}(t:tab.map (look K)=tab.map want)(e:tab[i]? = some (c,s))(n:(c==Str.empty)=false):GM K (cA K c) (ia s) (iy c s) s:=by
 let#[f,h,i,g]:=U1 (VN t e);refine#[f,?_,i,g];rw[n] at h;apply h
section
variable(z:Z)(k:Nat)(c:Str)(s:Stmt)(sp:Frag->Sp)(cm:Bool:=true)
def Z.D:Prop:=∀(f) (fd),jw z.K (ia s) (iy c s) s f fd->cg z.P z.w z.K z.mg z.base dw k f fd (jR s) (sp z.K) cm
def Z.DR:Prop:=∀(f) (fd),jw z.K (ia s) (iy c s) s f fd->cg z.P z.w z.K z.mg z.base (gY z.P z.w) k f fd (jR s) (sp z.K) cm
def Z.N:Prop:=FN z.P z.w z.K z.mg z.base dw k (ia s) (jR s) (sp z.K) cm
def Z.M:Prop:=MT z.P z.w z.K z.mg z.base dw k (cA z.K c) (ia s) (jR s) (sp z.K) cm
def Z.MR:Prop:=MT z.P z.w z.K z.mg z.base (gY z.P z.w) k (cA z.K c) (ia s) (jR s) (sp z.K) cm
def Z.I:Prop:=MI z.P z.w z.K z.mg z.base dw k (cA z.K c) (jR s) (sp z.K) cm
end
section
variable{K:Frag}
def FN.G(W:FN P w K mg base CX k x ps sp cm):cg P w K mg base CX k W.choose W.choose_spec.choose ps sp cm:=W.choose_spec.choose_spec.1
def FN.m(W:FN P w K mg base CX k x ps sp cm):mg x=some (.ref W.choose):=W.choose_spec.choose_spec.2.1
def FN.kp(W:FN P w K mg base CX k x ps sp cm):keepIn K (.ref W.choose)=true:=W.choose_spec.choose_spec.2.2.1
def FN.b(W:FN P w K mg base CX k x ps sp cm):Binds K W.choose_spec.choose ps []:=W.choose_spec.choose_spec.2.2.2
def MT.G(W:MT P w K mg base CX k C x ps sp cm):cg P w K mg base CX k W.choose W.choose_spec.choose ps sp cm:=W.choose_spec.choose_spec.1
def MT.b(W:MT P w K mg base CX k C x ps sp cm):Binds K W.choose_spec.choose ps []:=W.choose_spec.choose_spec.2.1
def MT.t(W:MT P w K mg base CX k C x ps sp cm):kD K C x W.choose:=W.choose_spec.choose_spec.2.2
def MI.G(W:MI P w K mg base CX k C ps sp cm):cg P w K mg base CX k W.choose W.choose_spec.choose ps sp cm:=W.choose_spec.choose_spec.1
def MI.b(W:MI P w K mg base CX k C ps sp cm):Binds K W.choose_spec.choose ps []:=W.choose_spec.choose_spec.2.1
def MI.M(W:MI P w K mg base CX k C ps sp cm):Mk K C W.choose:=W.choose_spec.choose_spec.2.2
end
def iS(s:Stmt):List Str:=(cE s).names.filterMap λy=>if y.2 == .local||y.2 == .cell then some y.1 else none
def vJ(n m:Nat)(s:Stmt):Prop:=qj (iS s) (jR s) (cE s)/\(jR s).length=n/\(iS s).length=m/\n<=m
section
variable{z:Z}
def Z.oF(S:vJ n m s)(h:∀(f) (fd:FuncData) (aQ:{c:Value // c=fd.code}) (A) (o) (t) (H) (E),aZ k (A.deeper (envOfC (iy c s) (cE s) t.heap.objs.size f aQ)) cm->(iS s).Nodup->FS (fU dw z.P z.w z.K z.mg z.base (iS s) (iy c s) (cE s) f aQ A o t H E cm).eY (gS s) b):
  z.D (k+1) c s (bh · (bJ n m b)) cm:=by
 let#[S,rfl,rfl,_]:=S;apply λ_ _ F=>Se F S λaQ A o t H E hr=>h _ _ aQ A o t H E hr S.nd
def Z.oQ(S:vJ n m s)(h0:(iS s)[0]? = some x0)(h:∀(f) (aQ) (A) (o) (t) (H) (E),aZ k (A.deeper (envOfC (iy c s) (cE s) t.heap.objs.size f aQ))->(iS s).Nodup->Ct im ((fU dw z.P z.w z.K z.mg z.base (iS s) (iy c s) (cE s) f aQ A o t H E).eY.j7 [x0]) (gS s) b):
  z.D (k+1) c s (CT im · (runM n m b)):=by
 let#[S,rfl,rfl,l]:=S;apply λ_ _ F=>aac F S h0 λaQ A o t H E hr=>h _ aQ A o t H E hr S.nd
def Z.oM(S:vJ n m s)(h0:(iS s)[0]? = some x0)(h:∀(f) (aQ) (A) (o) (t) (H) (E),aZ k (A.deeper (envOfC (iy c s) (cE s) t.heap.objs.size f aQ))->(iS s).Nodup->Ct true ((fU dw z.P z.w z.K z.mg z.base (iS s) (iy c s) (cE s) f aQ A o t H E).eY.j7 [x0]) (gS s) b):
  z.D (k+1) c s (dJ · (runM n m b)):=λ_ _ F=>(Z.oQ S h0 h _ _ F).imp Xm
def Z.oP(S:vJ n m s)(h0:(iS s)[0]? = some x0)(h:∀(f) (aQ) (A) (o) (t) (H) (E),aZ k (A.deeper (envOfC (iy c s) (cE s) t.heap.objs.size f aQ))->(iS s).Nodup->Ct false ((fU dw z.P z.w z.K z.mg z.base (iS s) (iy c s) (cE s) f aQ A o t H E).eY.j7 [x0]) (gS s) b):
  z.D (k+1) c s (lN · (runM n m b)):=λ_ _ F=>(Z.oQ S h0 h _ _ F).imp adn
def Z.oR(S:vJ n m s)(h:∀(f) (aQ) (A) (o) (t) (H) (E),aZ k (A.deeper (envOfC (iy c s) (cE s) t.heap.objs.size f aQ))->(iS s).Nodup->FS (fU (gY z.P z.w) z.P z.w z.K z.mg z.base (iS s) (iy c s) (cE s) f aQ A o t H E) (gS s) b):
  z.DR (k+1) c s (lJ · (lC n m b)):=by
 let#[S,rfl,rfl,l]:=S;apply λ_ _ F=>abr F S l λaQ A o t H E hr=>h _ aQ A o t H E hr S.nd
end
section
variable{K:Frag}{tab:List (Str×Stmt)}
def eF(X:K.In h)(G:h.Ns mainGlobals mg)(t:tab.map (look K)=tab.map want)(i:Nat)(o:Z.D #[P,w,K,mg,base] k Str.empty s sp cm)(b:BA (ia s) (ia s) s (jR s):=by walk_at "ba")(e:tab[i]? = some (Str.empty,s):=by rfl):Z.N #[P,w,K,mg,base] k s sp cm:=Rq X G (GK i t e) (λF=>o _ _ F) b
def cH(t:tab.map (look K)=tab.map want)(i:Nat)(o:Z.D #[P,w,K,mg,base] k c s sp cm)(b:BA (ia s) (iy c s) s (jR s):=by walk_at "ba")(e:tab[i]? = some (c,s):=by rfl)(n:(c==Str.empty)=false:=by rfl):Z.M #[P,w,K,mg,base] k c s sp cm:=OR (G5 i t e n) (λF=>o _ _ F) b
def UN(t:tab.map (look K)=tab.map want)(i:Nat)(o:Z.DR #[P,w,K,mg,base] k c s sp cm)(b:BA (ia s) (iy c s) s (jR s):=by walk_at "ba")(e:tab[i]? = some (c,s):=by rfl)(n:(c==Str.empty)=false:=by rfl):Z.MR #[P,w,K,mg,base] k c s sp cm:=OR (G5 i t e n) (λF=>o _ _ F) b
def Df(t:tab.map (look K)=tab.map want)(q:vj L K=true)(i:Nat)(o:Z.D #[P,w,K,mg,base] k c s sp cm)(b:BA (ia s) (iy c s) s (jR s):=by walk_at "ba")(e:tab[i]? = some (c,s):=by rfl)(n:(c==Str.empty)=false:=by rfl)(y:ia s="__init__":=by rfl)(v:L.cl.contains c=true:=by rfl):Z.I #[P,w,K,mg,base] k c s sp cm:=by
 have l:=G5 i t e n;let#[a,b']:=aaR q v;let#[f,e1,i,l]:=l;let#[kp,fd,F]:=Lc l;rw[y] at e1;apply#[f,fd,o _ _ F,F.binds b,#[a,e1,i,b']]
end
section
variable{st:Stmt}
def ba_n(n:Nat)(h:ps.length=n)(e:∀(kV doc pm) (an) (aQ ct) (f:Fin n->Value),bindArgs (fnOf x q (mK st) (gS st) (cE st) .none kV doc pm an aQ ct) #[List.ofFn f,[]]=pure (ps.zip (List.ofFn f))):BA x q st ps:=λkV doc pm an aQ ct us hl=>by
 obtain rfl:=hl.trans h;have:=e kV doc pm an aQ ct λi=>us[(i:Nat)]
 rwa [List.ofFn_getElem] at this
end
def qt(h:∃t,X.mg x=some (.int n t))(hg:GD X x:=by apply#[rfl,by decide]):FP X (.Name x pos) (eC (.int n)):=let#[_,h]:=h;abc h hg
def To(h:∃t,X.mg x=some (.ref t)/\Ca X.K t ys)(hg:GD X x:=by apply#[rfl,by decide]):FP X (.Name x pos) (eC (.tup (ys.map D.str))):=let#[_,h,t]:=h;agS h t hg
def iA(h3:X.env.kindOf=λx=>X.env.scope.names.lookup x)(h:yy X.N X.env.scope sc M js=true):mD X M js sc:=Wp rfl rfl h3 h
section
variable{A:Z->Prop}
abbrev wF{F:List D->Option D}(_:∀z,A z->z.D k c s (bh · F) cm)(z:Z):Prop:=z.N k s (bh · F) cm
abbrev wP{F:MF}(_:∀z,A z->z.D k c s (lN · F) cm)(z:Z):Prop:=z.N k s (lN · F) cm
abbrev wG{F:List D->Option D}(_:∀z,A z->z.D k c s (bh · F) cm)(z:Z):Prop:=z.M k c s (bh · F) cm
abbrev wO{F:MF}(_:∀z,A z->z.D k c s (dJ · F) cm)(z:Z):Prop:=z.M k c s (dJ · F) cm
abbrev wI{F:MF}(_:∀z,A z->z.D k c s (dJ · F) cm)(z:Z):Prop:=z.I k c s (dJ · F) cm
abbrev wR{F:List D->Option Rz}(_:∀z,A z->z.DR k c s (lJ · F) cm)(z:Z):Prop:=z.MR k c s (lJ · F) cm
abbrev fF{F:List D->Option D}(_:∀z,A z->z.D k c s (bh · F) cm):List D->Option D:=F
abbrev fO{F:MF}(_:∀z,A z->z.D k c s (dJ · F) cm):MF:=F
abbrev fP{F:MF}(_:∀z,A z->z.D k c s (lN · F) cm):MF:=F
abbrev fR{F:List D->Option Rz}(_:∀z,A z->z.DR k c s (lJ · F) cm):List D->Option Rz:=F
end
end L2.Ev
namespace L2.Ev
open PySem PySem.Spec PyProof.Rows
abbrev JF:=List D->Option (D×List D)
def ow(J:List Nat):Nat->List D->aL
 |_,[]=>[]
 |i,d::r=>some (d,if J.contains i=true then Tag.own else Tag.sh [])::ow J (i+1) r
def ng(J:List Nat)(n N:Nat)(b:SF):JF:=λds=>if ds.length=n then(match b (ow J 0 ds++List.replicate (N - ds.length) none) with
 |some (.rt (.tup (r::es)))=>some (r,es)
 |some (.nx Y)=>(iR J Y).map λes=>(.aC,es)
 |_=>none) else none
structure WH(K:Fr)(H:Hp)(J:List Nat)(C:List Addr)(y:Addr->Option Nat)(ds:List D)(vs:List V):Prop where
 ln:ds.length=vs.length
 sl:∀i d,ds[i]? = some d->∃v f,vs[i]? = some v/\Rep K H d v f/\(i∈J->f.Nodup/\∀a∈f,y a=some i)/\(i∉J->∀a∈f,y a=none)
 dm:∀a j,y a=some j->a∈C
 mu:∀a∈C,∃o,H a=some o/\jn o=true
def nW(J:List Nat)(K:Fr)(G:JF):Sp:=λvs H Q _=>∃ds C y r es,WH K H J C y ds vs/\G ds=some (r,es)/\
 ∀H' v cu (nf:Nat->List Addr),aW H H'->(∀b o,b∉C->H b=some o->H' b=some o)->(∀k l a,a∈nf k->a∈nf l->k=l)->
  (∀k i,J[k]? = some i->∃d u,es[k]? = some d/\vs[i]? = some u/\Rep K H' d u (nf k)/\(nf k).Nodup/\∀a∈nf k,a∈C\/H a=none)->
  Rep K H' r v cu->cu.Nodup->(∀b∈cu,(b∈C\/H b=none)/\∀k,b∉nf k)->es.length=J.length->Q v H'
theorem RW:∀{ds} {k i},(ow J k ds)[i]? = (ds[i]?).map λd=>some (d,if J.contains (k+i)=true then Tag.own else Tag.sh [])
 |[],k,i=>by simp[ow]
 |d::ds,k,0=>rfl
 |d::ds,k,i+1=>by
  show(ow J (k+1) ds)[i]? = _;rw[RW,Nat.add_right_comm];rfl
theorem Bo:∀{ds} {k},(ow J k ds).length=ds.length
 |[],_=>rfl
 |d::ds,k=>by show(ow J (k+1) ds).length+1=_;rw[Bo];rfl
theorem NN:∀{J} {Y} {es},iR J Y=some es->es.length=J.length/\∀(k i:Nat),J[k]? = some i->∃d,es[k]? = some d/\Y[i]? = some (some (d,Tag.own))
 |[],Y,es,h=>by ext h;apply#[rfl,λk i e=>by simp at e]
 |j::J,Y,es,h=>by
  unfold iR at h
  split at h
  .rename_i d e;let#[gA,h',rfl]:=abX.mp h;let#[l,c]:=NN h';refine#[by rw[acv,acv,l],λk i e2=>?_];cases k with
   |zero=>ext e2;apply#[d,rfl,e]
   |succ k=>apply c k i e2
  .cases h
def N1(N xs:List Str)(J:List Nat):Bool:=J.all λi=>match N[i]? with
 |some x=>x==("self":Str)||(!(xs.contains ("self":Str))&&!(!(xs.contains x)))
 |none=>false
section
variable{K:Fr}
def WC{st:Stmt}(F:jw K x qual st f fd)(S:qj N ps (cE st))(h0:N1 N xs J=true)(hJ:J.Nodup)(uF:ps.length<=N.length)
  (hb:∀(aQ) (A) (outer) (s) (H) (E),aZ k (A.deeper (envOfC qual (cE st) s.heap.objs.size f aQ))->FJ J false ((fU dw P w K mg base N qual (cE st) f aQ A outer s H E).eY.j7 xs) (gS st) b) :
  cg P w K mg base dw (k+1) f fd ps (nW J K (ng J ps.length N.length b)):=by
 have oE:∀{ds} {r},ng J ps.length N.length b ds=some r->ds.length=ps.length:=λ{ds r} e=>by
  unfold ng at e
  split at e
  .assumption
  .cases e
 refine F.ok S (λvs H Q E h=>?_) λaQ A outer s H vs Q E hr h=>?_<;>let#[ds,C,y,r,es,a,e,q]:=h
 .rw[<- a.ln,oE e]
 .let#[t,pt,sd]:=hb aQ A outer s H E hr;refine#[t,pt.j7 rfl,?_];have hl:=oE e;have ok:Ok K H C y [] (ow J 0 ds++List.replicate (N.length-ds.length) none) (start N vs) H:=by
   unfold start;refine#[λi d t e=>?_,(λp m=>by ext m),(λa' j e=>#[let#[o,w,_]:=a.mu a' (a.dm a' j e);#[o,w],.inr (a.dm a' j e)]),(λa o e _=>e),?_]
   .by_cases hi:i<ds.length
    .rw[adO (by rw[Bo];apply hi),RW,aa1 hi] at e;ext e;let#[v,g,hv,rv,h1,h2]:=a.sl i _ (aa1 hi);refine#[v,g,(adO (by rw[List.length_map,<- a.ln];apply hi)).trans (by rw[acy,hv];rfl),rv,?_];rw[ain]
     by_cases hj:i∈J
     .rw[if_pos (adz.mpr hj)];apply h1 hj
     .rw[abM λq=>hj (adz.mp q)];intro a' m j e;rw[h2 hj a' m] at e;ext e
    .rw[aeh (by rw[Bo];lia),aiv] at e
     split at e<;>ext e
   .simp only[abV,List.length_map,List.length_replicate,Bo];have:=a.ln
    lia
  have fin:∀{z} {Y} {U} {H'} {v} {cu},Ok K H C z [] Y U H'->iR J Y=some es->Kp ((fU dw P w K mg base N qual (cE st) f aQ A outer s H E).eY.j7 xs) (start N vs) U->Rep K H' r v cu->cu.Nodup->(∀b∈cu,(H b=none\/b∈C)/\∀i∈J,z b≠some i)->Q v H':=by
   intro z Y U H' v cu aT h1 kp rr uO nA;let#[le,at_]:=NN h1;have ex:∀k:Nat,∃g:List Addr,(∀i,J[k]? = some i->∃d u,es[k]? = some d/\vs[i]? = some u/\Rep K H' d u g/\g.Nodup/\(∀a∈g,z a=some i))/\(J[k]? = none->g=[]):=λk=>by
    cases hk:J[k]? with
    |none=>apply#[[],(λi e=>nomatch e),λ_=>rfl]
    |some i=>
     let#[d,e1,e2]:=at_ k i hk;let#[u,g,hs,r1,zz]:=aT.sl i d .own e2;refine#[g,λi' e'=>?_,λe'=>nomatch e'];ext e';refine#[d,u,e1,?_,r1,zz.1,zz.2];have hi:=ado.mp h0 i (adW hk);cases hN:N[i]? with
     |none=>rw[hN] at hi;ext hi
     |some x=>
      rw[hN] at hi;have hk:=kp i x hN hi;rw[hs] at hk;have il:i<vs.length:=by
       by_cases hv:i<vs.length
       .exact hv
       .exfalso
        unfold start at hk;rw[aeh (by rw[List.length_map];lia),aiv] at hk
        split at hk<;>ext hk
      unfold start at hk;rw[adO (by rw[List.length_map];apply il),acy] at hk;cases hv:vs[i]? with
      |none=>rw[hv] at hk;ext hk
      |some u'=>rw[hv] at hk;ext hk;rfl
   let#[nf,hn]:=Classical.axiomOfChoice ex;have zk:∀k a,a∈nf k->∃i,J[k]? = some i/\z a=some i:=λk a m=>by
    cases hk:J[k]? with
    |none=>rw[(hn k).2 hk] at m;ext m
    |some i=>let#[_,_,_,_,_,_,c]:=(hn k).1 i hk;apply#[i,rfl,c a m]
   have qU:∀{c} {o},H c=some o->jn o=false->H' c=some o:=λ{c o} e' mo=>aT.en c _ e' λm=>by
    let#[o',w,l5]:=a.mu c m;rw[e'] at w;ext w;rw[mo] at l5;ext l5
   refine q H' v cu nf #[λc xs e'=>qU e' rfl,λc o u e'=>qU e' rfl,λc φ e'=>qU e' rfl] (λc o n e'=>aT.en c o e' n) (λk l a m m'=>?_) (λk i e=>?_) rr uO (λc m=>#[(nA c m).1.symm,λk m'=>?_]) le
   .let#[i,h1,h2]:=zk k a m;let#[j,h3,h4]:=zk l a m';rw[h2] at h4;ext h4;let#[lk,ek]:=abq.mp h1;let#[ll,el]:=abq.mp h3;apply(List.getElem_inj hJ).mp (ek.trans el.symm)
   .let#[d,u,a1,a2,a3,a4,a5]:=(hn k).1 i e;apply#[d,u,a1,a2,a3,a4,λa m=>((aT.zd a i (a5 a m)).2).symm]
   .let#[i,h1,h2]:=zk k c m';apply(nA c m).2 i (adW h1) h2
  unfold ng at e;rw[if_pos hl] at e;cases ho:b (ow J 0 ds++List.replicate (N.length-ds.length) none) with
  |none=>rw[ho] at e;ext e
  |some o=>
   rw[ho] at e;refine sd ok ho ?_;cases o with
   |rt p=>
    have hp:p=.tup (r::es):=by
     split at e<;>rename_i hh
     .cases e;ext hh;rfl
     .cases hh
     .cases e
    apply#[r,es,hp,λz Y U H' v cu aT h1 kp rr nd fr _=>fin aT h1 kp rr nd fr]
   |nx Y'=>
    let#[gA,h1,e2]:=abX.mp e;ext e2;apply λz U H' aT kp=>fin aT h1 kp .aC acE λb m=>nomatch m
   |bk _=>ext e
   |ct _=>ext e
   |er _ _ _=>ext e
end
def mQ:aL->List Nat->List D->aL
 |Y,j::js,e::es=>mQ (bU Y j e) js es
 |Y,_,_=>Y
theorem Vi:∀{js} {es} {Y},(mQ Y js es).length=Y.length
 |[],_,_=>rfl
 |_::_,[],_=>rfl
 |j::js,e::es,Y=>by show(mQ (bU Y j e) js es).length=_;rw[Vi,A_]
theorem F4:∀{js} {es} {Y} {j} {d} {t},js.length=es.length->j∉js->(mQ Y js es)[j]? = some (some (d,t))->Y[j]? = some (some (d,t))/\∀o,t=.sh o->∀i∈js,i∉o
 |[],[],_,_,_,_,_,_,h=>#[h,λ_ _ _ m=>nomatch m]
 |i::js,e::es,Y,j,d,t,l,n,h=>by
  let#[h1,h2]:=F4 (by simpa using l) (λm=>n (aar _ m)) h;let#[h3,h4]:=LD (λq=>n (by rw[q];apply aav)) h1;refine#[h3,λo ho k m=>?_];rcases aaO.mp m with rfl|m
  .exact h4.resolve_left (λq=>q) o ho
  .exact h2 o ho k m
theorem Ux:∀{js} {es} {Y} {j} {d},j∉js->Y[j]? = some (some (d,.own))->(mQ Y js es)[j]? = some (some (d,.own))
 |[],_,_,_,_,_,h=>h
 |_::_,[],_,_,_,_,h=>h
 | i::js,e::es,Y,j,d,n,h=>Ux (Y:=bU Y i e) (λm=>n (aar _ m)) (by
  unfold bU;rw[acN λq=>n (by rw[q];apply aav),acy,h];rfl)
theorem Mw:∀{js} {es} {Y}{k j:Nat} {d},js.Nodup->js[k]? = some j->es[k]? = some d->j<Y.length->(mQ Y js es)[j]? = some (some (d,.own))
 |[],_,_,_,_,_,_,h,_,_=>by simp at h
 |_::_,[],_,_,_,_,_,_,h,_=>by simp at h
 |i::js,e::es,Y,0,j,d,n,h1,h2,l=>by
  ext h1;ext h2;apply Ux (js:=js) (acw.mp n).1 (E4 (aa1 l))
 |i::js,e::es,Y,k+1,j,d,n,h1,h2,l=>Mw (Y:=bU Y i e) (acw.mp n).2 h1 h2 (by rw[A_];apply l)
section
variable{K:Fr}
def Ok.afU{C:List Addr}{nf:Nat->List Addr}(ok:Ok K H0 S z aq Y U H)(nd:js.Nodup)(le:es.length=js.length)(old:∀j∈js,∃d,Y[j]? = some (some (d,.own)))(im:aW H H')(hz:∀a∈C,∃j∈js,z a=some j)
  (keep:∀b o,b∉C->H b=some o->H' b=some o) (ap:∀k l a,a∈nf k->a∈nf l->k=l) (new:∀k j,js[k]? = some j->∃d v,es[k]? = some d/\U[j]? = some (some v)/\Rep K H' d v (nf k)/\(nf k).Nodup/\∀a∈nf k,a∈C\/H a=none):∃z',Ok K H0 S z' aq (mQ Y js es) U H':=by
 classical
 let N:Addr->Prop:=λa=>∃k,k<js.length/\a∈nf k
 let z':Addr->Option Nat:=λa=>if h:N a then js[Classical.choose h]? else if ∃j∈js,z a=some j then none else z a
 have z1:∀{a k j},js[k]? = some j->a∈nf k->z' a=some j:=λ{a k j} e m=>by
  have h:N a:=#[k,(abq.mp e).1,m]
  show(if h:N a then js[Classical.choose h]? else _)=_;rw[dif_pos h,ap _ k a (Classical.choose_spec h).2 m,e]
 have z2:∀{a j},z' a=some j->(∃k,js[k]? = some j/\a∈nf k)\/(z a=some j/\j∉js):=λ{a j} e=>by
  have e:(if h:N a then js[Classical.choose h]? else if ∃j∈js,z a=some j then none else z a)=some j:=e
  by_cases h:N a
  .rw[dif_pos h] at e;apply .inl #[_,e,(Classical.choose_spec h).2]
  .rw[dif_neg h] at e
   by_cases h2:∃j∈js,z a=some j
   .rw[if_pos h2] at e;ext e
   .rw[abM h2] at e;apply .inr #[e,λm=>h2 #[j,m,e]]
 have at_:∀{k j},js[k]? = some j->j<Y.length:=λ{k j} e=>let#[_,h]:=old j (adW e);(abq.mp h).1
 have nC:∀{a},(∀j∈js,z a≠some j)->a∉C:=λh m=>let#[j,mj,e]:=hz _ m;h j mj e
 have fr:∀{d v fp},Rep K H d v fp->(∀a∈fp,∀j∈js,z a≠some j)->Rep K H' d v fp:=λr h=>r.frame (λa m=>by
  let#[o,w,_]:=r.cO a m;rw[keep a o (nC (h a m)) w,w]) im
 have Fq:∀{a k},k<js.length->a∈nf k->a∈C\/H a=none:=λ{a k} l m=>let#[_,_,_,_,_,_,h]:=new k _ (aa1 l);h a m
 refine#[z',λi d t e=>?_,λp m=>?_,λa j e=>?_,λa o e n=>?_,Vi.trans ok.ln]
 .by_cases hi:i∈js
  .let#[k,hk]:=ajI hi;let#[d',v,e1,e2,e3,e4,_]:=new k i hk;rw[Mw nd hk e1 (at_ hk)] at e;ext e;apply#[v,nf k,e2,e3,e4,λa m=>z1 hk m]
  .let#[e1,e2]:=F4 le.symm hi e;let#[v,fp,hs,r,zz]:=ok.sl i d t e1;have hn:∀a∈fp,∀j∈js,z a≠some j:=λa m j mj q=>by
    cases t with
    |sh o=>apply e2 o rfl j mj (zz a m j q)
    |own=>have:=zz.2 a m;rw[q] at this;ext this;apply hi mj
    |lk=>have:=zz.2 a m;rw[q] at this;ext this;apply hi mj
   have hN:∀a∈fp,∀j,z' a=some j->z a=some j:=λa m j q=>by
    rcases z2 q with⟨k,hk,mk⟩|⟨q,_⟩
    .rcases Fq (abq.mp hk).1 mk with c|c
     .exact(nC (hn a m) c).elim
     .let#[o,w,_]:=r.cO a m;rw[c] at w;ext w
    .exact q
   have zc:∀a∈fp,z' a=z a:=λa m=>by
    have h1:¬N a:=by
     rintro⟨k,l,mk⟩
     rcases Fq l mk with c|c
     .exact nC (hn a m) c
     .let#[o,w,_]:=r.cO a m;rw[c] at w;ext w
    show(if h:N a then js[Classical.choose h]? else if ∃j∈js,z a=some j then none else z a)=_;rw[dif_neg h1,abM λ⟨j,mj,q⟩=>hn a m j mj q]
   refine#[v,fp,hs,fr r hn,?_];cases t with
   |sh o=>apply λa m j q=>zz a m j (hN a m j q)
   |own=>apply#[zz.1,λa m=>(zc a m).trans (zz.2 a m)]
   |lk=>apply#[zz.1,λa m=>(zc a m).trans (zz.2 a m)]
 .let#[r,h]:=ok.hl p m;have hn:∀a∈p.fp,∀j∈js,z a≠some j:=λa ma j mj q=>let#[d,e]:=old j mj;(h a ma j q).2 d e
  refine#[fr r hn,λa ma j q=>?_];rcases z2 q with⟨k,hk,mk⟩|⟨q,nj⟩
  .rcases Fq (abq.mp hk).1 mk with c|c
   .exact(nC (hn a ma) c).elim
   .let#[o,w,_]:=r.cO a ma;rw[c] at w;ext w
  .exact#[(h a ma j q).1,λd e=>(h a ma j q).2 d (F4 le.symm nj e).1]
 .rcases z2 e with⟨k,hk,mk⟩|⟨q,nj⟩
  .let#[d',v,e1,e2,e3,e4,e5]:=new k j hk;refine#[let#[o,w,_]:=e3.cO a mk;#[o,w],?_];rcases e5 a mk with c|c
   .let#[j,_,q]:=hz a c;apply(ok.zd a j q).2
   .cases h0:H0 a with
    |none=>apply .inl rfl
    |some o=>
     by_cases hS:a∈S
     .exact .inr hS
     .rw[ok.en a o h0 hS] at c;ext c
  .let#[#[o,w],y]:=ok.zd a j q;apply#[#[o,keep a o (nC λi mi q'=>by rw[q] at q';ext q';apply nj mi) w],y]
 .refine keep a o (λc=>?_) (ok.en a o e n);let#[j,_,q]:=hz a c;rcases(ok.zd a j q).2 with w|w
  .rw[e] at w;ext w
  .exact n w
end
structure aiW(K:Fr)(z:Addr->Option Nat)(H H':Hp)(Y:aL)(U:St)(sl:List (Option Nat))(ps:List (D×Tag))(vs:List V)(C:List Addr):Prop where
 ln:ps.length=vs.length
 at_:∀(i:Nat) (p),ps[i]? = some p->∃v f s,vs[i]? = some v/\sl[i]? = some s/\Rep K H' p.1 v f/\(∀j,s=some j->U[j]? = some (some v)/\(∃d,Y[j]? = some (some (d,.own)))/\f.Nodup/\∀a∈f,z a=some j/\a∈C)/\(s=none->cR z H p.2 f)
 cc:∀a∈C,∃(i j:Nat),sl[i]? = some (some j)/\z a=some j/\∃o,H' a=some o/\jn o=true
def pV(js:List Nat):List (Option Nat)->List (D×Tag)->Bool
 |none::sl,p::ps=>(match p.2 with|.sh o=>o.all λx=>!(js.contains x)|_=>true)&&pV js sl ps
 |some _::sl,_::ps=>pV js sl ps
 |_,_=>true
theorem Jg:∀{sl} {ps}{i:Nat} {p} {o},pV js sl ps=true->sl[i]? = some none->ps[i]? = some p->p.2=.sh o->∀x∈o,x∉js
 |[],_,_,_,_,_,h,_,_=>by simp at h
 |_::_,[],_,_,_,_,_,h,_=>by simp at h
 |none::sl,p::ps,0,_,o,h,_,e,e2=>by
  ext e;unfold pV at h;rw[e2] at h;intro x m q;have:=ado.mp (ajD.mp h).1 x m;rw[adz.mpr q] at this;ext this
 |none::sl,p::ps,i+1,_,o,h,e0,e,e2=>Jg (i:=i) (by unfold pV at h;apply(ajD.mp h).2) e0 e e2
 |some _::sl,p::ps,0,_,o,h,e0,_,_=>by ext e0
 |some _::sl,p::ps,i+1,_,o,h,e0,e,e2=>Jg (ps:=ps) h e0 e e2
def FK(X:Cx)(e:Expr)(f:XF):Prop:=∃t,PE X e t/\∀{H0} {S} {z} {aq} {Y} {U} {H} {Q} {d} {Y'},
 Ok X.K H0 S z aq Y U H->f Y=some (d,Y')->(∀z H1 H' v fp,Ok X.K H0 S z aq Y' U H1->aH H1 H'->Rep X.K H' d v fp->cR z H1 .own fp->Q v H')->t U H Q
abbrev QZ(J js:List Nat)(sl:List (Option Nat)):Prop:=(∀i,i<sl.length->((sl[i]?).join.isSome=true->i∈J))/\J.length=js.length/\(∀k,k<J.length->sl[(J[k]?).getD 0]? = some (js[k]?))/\js.Nodup/\J.Nodup
open PySem PySem.Spec PySem.W PyProof.Rows
def se:D->Option (List Key)
 |.tup ds=>match jh ds with
  |some ks=>if ks.all (λk=>k.isLeft)=true/\ks≠[] then some ks else none
  |none=>none
 |_=>none
def Rep.tk{K:Frag}(r:Rep K H d v fp)(ni:rm K=true)(h:se d=some ks):∃b,v=.ref b/\Tk H b (ks.map L2.kV):=by
 cases d with
 |tup ds=>
  let#[b,xs,rfl,hq,rs]:=r.ir;unfold se at h;dsimp only at h;cases hk:jh ds with
  |none=>rw[hk] at h;ext h
  |some k=>
   rw[hk] at h;dsimp only at h
   by_cases hc:k.all (λk=>k.isLeft)=true/\k≠[]
   .rw[if_pos hc] at h;ext h;obtain rfl:=aD.keys rs hk;apply#[b,rfl,Qi hq ni hc.1 hc.2]
   .rw[abM hc] at h;ext h
 |_=>ext h
def yV(d1 d2 d3:D):Option D:=match d1,se d2 with
 |.dN es,some k=>if aA ((bu es k).getD d3)=true then some ((bu es k).getD d3) else none
 |_,_=>none
def ZT{apos fH:Pos}(hu:X.A.units+1<cLine)(ni:rm X.K=true)(ha:FP X a fa)(hb:FP X b fb)(hc:FP X c fc)(m:M2 X a "get" apos b c fH:=by apply#[rfl,rfl,rfl,rfl]):FP X (.Call (.Attribute a "get" apos) [b,c] [] fH) (e3 yV fa fb fc):=by
 let#[ta,pa,sa]:=ha;let#[tb,pb,sb]:=hb;let#[tc,pc,sc]:=hc;exists 21,Ln hu pa pb pc m;let#[d1,t1,d2,t2,d3,t3,h1,h2,h3,h4,rfl]:=RP e;unfold yV at h4
 split at h4
 .rename_i es ks hk
  split at h4
  .rename_i hi;ext h4;refine sa ok h1 λH1 x f1 s1 r1 _=>?_
   cases r1 with
   | @dN p ak _ fp h he rs=>
    refine#[p,rfl,.inr #[ak,.inl h],?_];refine sb (ok.same s1) h2 λH2 y f2 s2 r2 _=>?_
    refine sc ((ok.same s1).same s2) h3 λH3 w f3 s3 r3 _=>?_
    let#[bL,rfl,wj]:=r2.tk ni hk;refine#[_,iG.t (s3 _ _ (s2 _ _ h)) (Tk.aA wj (.of s3)),?_];have AZ:=(s1.trans s2).trans s3;let#[i1,i2]:=qZ he ((rs.same s2).same s3);cases hv:bu es ks with
    |some d'=>
     rw[hv] at hi k;let#[v,f,e1,r,_]:=i1 d' hv;have hn:=r.aA hi;subst hn;rw[e1];apply k H3 v [] AZ r .nil
    |none=>
     rw[hv] at hi k;rw[i2 hv];have hn:=r3.aA hi;subst hn;apply k H3 w [] AZ r3 .nil
  .cases h4
 .cases h4
def Rh(i:Nat)(fk fv:EF):SF:=λY=>match fv Y,Y[i]?,fk Y with
 |some (d,_),some (some (.dN es,.own)),some (kd,_)=>match se kd with
  |some k=>if(aA d&&aK (es.map (·.2))&&decide (es.length<sizeLine))=true then some (.nx (bU Y i (.dN (putD es k d)))) else none
  |none=>none
 |_,_,_=>none
def Yd(i:Nat){x:Str}(hu:X.A.units+1<cLine)(ni:rm X.K=true)(hk:FP X k fk)(hv:FP X v fv)(va:VA X i x:=by walk_at "va")(hs:swapsWith v (some (.Subscript (.Name x p1) k pos')) pos.line X.env=pure false:=by rfl):
  eB X (.Assign [.Subscript (.Name x p1) k pos'] v pos) (Rh i fk fv):=by
 let#[tk,pk,sk]:=hk;let#[tv,kR,sv]:=hv;exists 25,Ci hu va.pe pk kR hs;unfold Rh at e
 split at e
 .rename_i d td es kd RC h1 h2 h3;cases h4:se kd with
  |none=>rw[h4] at e;ext e
  |some key=>
   rw[h4] at e;dsimp only at e
   by_cases hc:(aA d&&aK (es.map (·.2))&&decide (es.length<sizeLine))=true
   .rw[if_pos hc] at e;ext e;let#[uU,GB]:=(aaM _ _).mp hc;let#[uU,ym]:=(aaM _ _).mp uU;have hz:=abl GB;refine sv ok h1 λH1 v Po s1 rv _=>?_
    let#[xv,fp,c8,r,zz]:=(ok.same s1).sl i _ _ h2;refine#[xv,c8,?_];refine sk (ok.same s1) h3 λH2 y VF s2 rk _=>?_
    let#[bL,rfl,wj]:=rk.tk ni h4;have r':=r.same s2;cases r' with
    | @dN a ak _ f h fZ rs=>
     have hn:=rs.aA ym;subst hn;have A2:=rv.aA uU;subst A2;have hl:ak.length=es.length:=by have:=congrArg List.length fZ;simpa using this.symm
     refine#[a,_,rfl,pL.t h wj (by rw[hl];apply hz),?_];have im:aW H2 (upd H2 a (.dT (putK ak key v))):=aW.upd h rfl;refine q z U _ (Ok.CW ((ok.same s1).same s2) h2 c8 zz aav h rfl (.dN bP (yj fZ) ?_)) (.refl _ _);apply CH fZ (rs.frame (λa m=>nomatch m) im) ((rv.same s2).frame (λa m=>nomatch m) im)
   .rw[abM hc] at e;ext e
 .cases e
def AI(Y:aL)(j:Nat):aL:=(Y.map (Ah j)).set j none
def Ok.out{K:Frag}(ok:Ok K H0 S z aq Y U H)(hj:Y[j]? = some (some (d,.own)))(r:Rep K H d v fp)(hz:∀a∈fp,z a=some j):
  ∃z',Ok K H0 S z' aq (AI Y j) U (λc=>if c∈fp then none else H c):=by
 classical
 have im:aW H (λc=>if c∈fp then none else H c):=by
  have st:∀{c} {o},H c=some o->jn o=false->(if c∈fp then none else H c)=some o:=λ{c o} e mo=>by
   rw[abM λm=>?_]
   .exact e
   .let#[o',w,l5]:=r.cO c m;rw[e] at w;ext w;rw[mo] at l5;ext l5
  apply#[λc xs e=>st e rfl,λc o u e=>st e rfl,λc φ e=>st e rfl]
 have fr:∀{d v g},Rep K H d v g->(∀a∈g,z a≠some j)->Rep K (λc=>if c∈fp then none else H c) d v g:=λr h=>r.frame (λa m=>abM λq=>h a m (hz a q)) im
 have at_:∀{a k},(if z a=some j then none else z a)=some k->z a=some k/\k≠j:=λ{a k} e=>by
  by_cases h:z a=some j
  .rw[if_pos h] at e;ext e
  .rw[abM h] at e;apply#[e,λq=>h (q ▸ e)]
 refine#[λa=>if z a=some j then none else z a,λk d t e=>?_,λp m=>?_,λa k e=>?_,λa o e n=>?_,?_]
 .unfold AI at e
  by_cases hk:k=j
  .subst hk;rw[aed (by rw[List.length_map];apply(abq.mp hj).1)] at e;ext e
  .rw[acN (afv hk),acy] at e;let#[s,e0,e]:=abX.mp e;let#[rfl,h2]:=Jm e;let#[v,g,hs,r1,zz]:=ok.sl k d t e0;have own:(∀a∈g,z a=some k)->∀a∈g,z a≠some j:=λh a m q=>by rw[h a m] at q;apply hk (acB q)
   cases t with
   |sh o=>apply#[v,g,hs,fr r1 λa m q=>h2 o rfl (zz a m j q),λa m i e=>zz a m i (at_ e).1]
   |own=>apply#[v,g,hs,fr r1 (own zz.2),zz.1,λa m=>(abM (own zz.2 a m)).trans (zz.2 a m)]
   |lk=>apply#[v,g,hs,fr r1 (own zz.2),zz.1,λa m=>(abM (own zz.2 a m)).trans (zz.2 a m)]
 .let#[r1,h]:=ok.hl p m;refine#[fr r1 λa m q=>(h a m j q).2 d hj,λa m k e=>?_];let#[h1,h2]:=h a m k (at_ e).1;refine#[h1,λd' q=>h2 d' ?_];unfold AI at q;rw[acN (afv (at_ e).2),acy] at q;let#[s,e0,q]:=abX.mp q;rw[e0,(Jm q).1]
 .let#[e1,e2]:=at_ e;let#[#[o,w],y]:=ok.zd a k e1;apply#[#[o,(abM λm=>by rw[hz a m] at e1;apply e2 (acB e1).symm).trans w],y]
 .show(if a∈fp then none else H a)=some o;rw[abM λm=>?_]
  .exact ok.en a o e n
  .rcases(ok.zd a j (hz a m)).2 with w|w
   .rw[e] at w;ext w
   .exact n w
 .unfold AI;rw[ag3,List.length_map];apply ok.ln
def DQ(f0:EF)(j:Nat)(f2:EF):XR:=λY=>match f0 Y,Y[j]?,f2 Y with
 |some (d0,_),some (some (d,.own)),some (d2,.own)=>if aA d0=true then some (.ok (.tup [d0,d,d2]) (AI Y j)) else none
 |_,_,_=>none
def ahJ(j:Nat){y:Str}{p1:Pos}{x1}(h0:FP X.eY a f0)(h2:FP X.eY b f2)(va:VA X.eY j y:=by walk_at "va")(hs:starEach [a,.Name y p1,b] X.env=(false,eval a X.env)::starEach [.Name y p1,b] X.env:=by rfl)(eU:starEach [.Name y p1,b] X.env=(false,eval (.Name y p1) X.env)::starEach [b] X.env:=by rfl)(Cu:Y1 X b:=by rfl):
  FE X (.Tuple [a,.Name y p1,b] x1 pos) (DQ f0 j f2):=by
 classical
 let#[t0,p0,q0]:=h0;let#[t2,p2,q2]:=h2;refine#[_,OZ (OH (dg p0 (dg va.pe (dg p2 e_ Cu) eU) hs)),@λH0 S z aq Y U H Q E r ok e k=>?_];unfold DQ at e
 split at e
 .rename_i d0 t d d2 e0 e1 e2
  by_cases hi:aA d0=true
  .rw[if_pos hi] at e;ext e;refine q0 ok e0 λH1 v0 g0 s1 r0 _=>?_
   have hn:=r0.aA hi;subst hn;let#[v,fj,hv,rj,zz]:=ok.sl j _ _ e1;refine#[v,hv,q2 (ok.same s1) e2 λH2 v2 g2 s2 r2 gg=>#[by show(3:Nat)<=_;apply afR (A3 (by decide)),λc hc=>?_]];let#[z',aT]:=ok.out e1 rj zz.2;have sc:aH H2 (upd H2 c (.tup [v0,v,v2])):=λb o e=>by rw[aJ (cU e hc)];apply e
   have sa:=(s1.trans s2).trans sc;refine k z' _ _ _ ([]++(fj++(g2++[]))) aT (λb o e=>?_) (.tup (bQ.of bP) (.cons (r0.same (s2.trans sc)) (.cons (rj.same sa) (.cons (r2.same sc) .nil)))) #[?_,λb m=>?_]
   .by_cases m:b∈fj
    .rw[show(if b∈fj then none else H b)=none from if_pos m] at e;ext e
    .exact sa b o ((abM m).symm.trans e)
   .rw[List.nil_append,acL];refine acU.mpr #[zz.1,gg.1,λa ma b mb e=>?_];let#[o,w,_]:=rj.cO a ma;have:=s1.free (gg.2 b mb);rw[<- e,w] at this;ext this
   .rw[List.nil_append,acL] at m;rcases abH.mp m with m|m
    .exact if_pos m
    .show(if b∈fj then none else H b)=none;rw[s1.free (gg.2 b m)];split<;>rfl
  .rw[abM hi] at e;ext e
 .cases e
section
variable{z:Z}
def Z.oJ(J:List Nat)(xs:List Str)(S:vJ n m s)(h0:N1 (iS s) xs J=true)(hJ:J.Nodup)(h:∀(f) (aQ) (A) (o) (t) (H) (E),aZ k (A.deeper (envOfC (iy c s) (cE s) t.heap.objs.size f aQ))->(iS s).Nodup->FJ J false ((fU dw z.P z.w z.K z.mg z.base (iS s) (iy c s) (cE s) f aQ A o t H E).eY.j7 xs) (gS s) b):
  z.D (k+1) c s (nW J · (ng J n m b)):=by
 let#[S,rfl,rfl,l]:=S;apply λ_ _ F=>WC F S h0 hJ l λaQ A o t H E hr=>h _ aQ A o t H E hr S.nd
end
section
variable{A:Z->Prop}
abbrev wJ{F:JF}(_:∀z,A z->z.D k c s (nW J · F) cm)(z:Z):Prop:=z.N k s (nW J · F) cm
abbrev fJ{F:JF}(_:∀z,A z->z.D k c s (nW J · F) cm):JF:=F
end
end L2.Ev
namespace L2
open PySem PySem.Spec PyProof.Rows
def WZ{P:Program}{w:World}{k:Key}{u:Value}(h:(f7 P w).is k u=true):RelV (kV k) u:=by
 rcases m9 h with⟨i,t,rfl,rfl⟩|⟨x,t,rfl,rfl⟩
 .exact#[t,rfl]
 .exact#[t,rfl]
theorem KV.at{κ:Type}:∀{ak:List (κ×V)}{vs:List (κ×Value)}{i:Nat}{p:κ×V},KV ak vs->ak[i]? = some p->∃q,vs[i]? = some q/\p.1=q.1
 |_,_,i,p,.nil,e=>by simp at e
 |_,_,0,p,.cons r _,e=>by ext e;apply#[_,rfl,r.1]
 |_,_,i+1,p,.cons _ t,e=>KV.at (i:=i) t e
def MN(a:Addr)(o:Obj)(ak:List (Key×V)):It:=#[λi H=>i<ak.length/\H a=some (.cC o (.dK ak)),λi H x H'=>H'=H/\∃p,ak[i]? = some p/\x=kV p.1,λi H=>ak.length<=i/\H a=some (.cC o (.dK ak)),false]
def ZJ{P:Program}{w:World}{K:Fr}{tg:Expr}(a it:Addr){o:Obj}{es:Array DictEntry}{ep:Nat}{ak:List (Key×V)}{vs:List (Key×Value)}(kv:KV ak vs)(h1:o.ExactDict)(h2:o.data=.dict es ep)(h3:KeysOf (f7 P w) es)(h4:Pairs (f7 P w) es.toList vs)(h5:(vs.map (·.1)).Nodup):
  Turn P w K tg (MN a o ak) [it] it (λi h=>h.IsKeyIter it a i vs.length ep) where
 mem:=by simp
 obj:=λi h st b hb=>by
  have e:b=it:=by simpa using hb
  subst e;let#[o,e,c,d]:=st;apply#[o,e,λv z=>by rw[d] at z;ext z]
 keep:=λi h h' st k=>by
  let#[o,e,c,d]:=st;apply#[o,k it (by simp) o e,c,d]
 item:=by
  exists 40;subst hP hw hK;let#[hi,hH]:=hg;let#[ho,_]:=(show s.heap.get? a=some o/\dD X.prog X.w H s.heap a (.dK ak) from I.aG a _ hH)
  let#[f0,f1,f2,f3,f4,f5]:=hf it (by simp);let#[q,hq,e]:=kv.at (aa1 hi);refine wpAny_pyNext_dict_item st #[o,es,ho,h1,h2,h3,h4,h5] hq λkey h' hk lF sb=>?_
  have I1:Inv X af U H { s with heap:=h' }:=I.turned (λb o hb e=>(sb.2 b hb).trans e) f0 f1 f3 f4 f5;let#[o',e',c,d]:=id lF;apply#[key,rfl,DA e' c d (by decide) #[kV q.1,H,I1,WZ hk,#[rfl,_,aa1 hi,by rw[e]],lF,λb hb=>(hf b hb).1]]
 done:=by
  exists 40;subst hP hw hK;let#[hi,hH]:=hg;let#[ho,_]:=(show s.heap.get? a=some o/\dD X.prog X.w H s.heap a (.dK ak) from I.aG a _ hH)
  let#[f0,f1,f2,f3,f4,f5]:=hf it (by simp);have hl:=Paired.length kv;apply wpAny_pyNext_dict_end (I.ok.hd (hc.resolve_right λz=>abm z)) st #[o,es,ho,h1,h2,h3,h4,h5] (ajb (by omega)) λh' eb=>#[rfl,I.turned (λb o hb e=>eb b o hb e) f0 f1 f3 f4 f5]
 self:=λ_ _ _ _ _ st h=>wpAny_pyIter_keyiter st h
def iDk(X:Cx)(tl:TE):TI:=λU H R=>tl U H λx H1=>∃a ak,x=.ref a/\H1 a=some (.dK ak)/\∀o,(∀o u,X.pO a≠some (.cC o u))->R (MN a o ak) (upd H1 a (.cC o (.dK ak)))
def Yn{tg l:Expr}{tl:TE}(hl:PE X l tl):PI X tg l (iDk X tl):=by
 intro af s U H R I h;refine hl.n I h λv s1 x H1 I1 r1 q1=>?_
 let#[a,ak,e,ha,q]:=q1;subst e;ext r1;let#[_,aaJ,vs,kv,od]:=(show ak.length<=sizeLine/\(a==sysModules)=false/\∃vs,KV ak vs/\s1.heap.DictOf (f7 X.prog X.w) a vs from I1.aG a _ ha)
 let#[ep,uy]:=od.dictAt;let#[o,es,ho,h1,h2,h3,h4,h5]:=id uy;refine wpAny_pyIter_dict aaJ uy ?_;have I2:=I1.aaI ha ho;refine#[s1.heap.objs.size,[s1.heap.objs.size],_,_,_,rfl,I2.kept λb o e=>aat _ e,ZJ a _ kv h1 h2 h3 h4 h5,#[_,acm _ rfl,rfl,rfl],λb hb=>?_,q o λo u z=>by rw[I1.base.i9 a o u z] at ha;ext ha];have e:b=s1.heap.objs.size:=by simpa using hb
 subst e;apply I2.rq (abD _) (I2.aG.fresh (abD _))
def UM(K:Fr)(f c:Str):TT:=QE (qQ Fk (qQ (B4 K) (NF (G8 K (pS 1) f) (pS 0)) (tC (.int 0))) (tC (.str c)))
def jW(c:Str)(ps:List ((Key×V)×Str)):List V:=(ps.filter λp=>decide (p.2=c)).map λp=>kV p.1.1
def acn(K:Fr)(i:Nat)(f c:Str):TE:=λU H Q=>∃b C dx fs a ak ss,U[i]? = some (some (.ref b))/\H b=some (.ins C dx fs)/\j9 K C/\iQ K C f/\fs.lookup f=some (.ref a)/\H a=some (.dK ak)/\(ak.map (·.1)).Nodup/\ak.length<sizeLine/\ak.length=ss.length/\
 (∀(j:Nat) (p:Key×V) (s:Str),ak[j]? = some p->ss[j]? = some s->∃t xs,p.2=.ref t/\bQ K H t xs/\dM xs 0=some (.str s))/\∀D,H D=none->Q (.ref D) (upd H D (.lst (jW c (ak.zip ss))))
def acC{ak:List (Key×V)}{j:Nat}{p:Key×V}(nd:(ak.map (·.1)).Nodup)(e:ak[j]? = some p):eT ak p.1=some p.2:=by
 induction ak generalizing j with
 |nil=>simp at e
 |cons q r ih=>
  let#[n1,n2]:=acw.mp nd;unfold eT;cases j with
  |zero=>ext e;rw[ai4 (by simp)];rfl
  |succ j=>
   have e:=e;rw[aft (by simpa using λz:q.1=p.1=>n1 (ab8.mpr #[p,adW e,z.symm]))];apply ih n2 e
def aiK{i:Nat}{f c:Str}{tg iter elt:Expr}{ifs:List Expr}{sc:Scope}{pos:Pos}{M:List Str}(S:mD X M [none,some i] sc)(hc:X.calm=true)(hl:PE X iter (G8 X.K (pS i) f))
  (hb:∀s3 H3 fp,PG (eE X M sc s3 H3 fp) tg (uS 0)/\tX (eE X M sc s3 H3 fp) ifs (UM X.K f c)/\PE (eE X M sc s3 H3 fp) elt (pS 0)) (hs:∀x,foldedSetIterable iter X.env x=pure x:=by intro _;rfl) :
  PE X (.ListComp elt [#[tg,iter,ifs,0]] sc pos) (acn X.K i f c):=by
 exists 44;let#[b,C,dx,fs,a,ak,ss,DV,hB,cl,na,hf,ha,nd,hz,vz,hv,k]:=h;have Yj:b≠a:=λz=>by rw[z,ha] at hB;ext hB
 refine cL (VM S hc (Yn hl) hb hs af s U H (λv H'=>∃o D,(∀o u,X.pO a≠some (.cC o u))/\v=.ref D/\H D=none/\H'=upd (upd H a (.cC o (.dK ak))) D (.lst (jW c (ak.zip ss)))) I ?_) λv s1 #[x,H',I',r,o,D,h0,e1,hD,e2]=>?_
 .refine#[.ref b,DV,b,C,dx,fs,.ref a,rfl,hB,cl,na,hf,a,ak,rfl,ha,λo h0 D hD=>?_];have kU:D≠a:=λz=>by rw[z,bP] at hD;ext hD
  rw[aJ kU] at hD;have hnb:D≠b:=λz=>by rw[z,hB] at hD;ext hD
  refine#[λj m aF H'=>m=ak.length-j/\j<=ak.length/\(∃s0,aF=[s0,some (.ref b)])/\H'=upd (upd H a (.cC o (.dK ak))) D (.lst (jW c ((ak.zip ss).take j))),#[_,rfl,acP _,#[none,by show[none,(U[i]?).join]=_;rw[DV];rfl],rfl],?_]
  rintro j m aF H' ⟨rfl,hj,⟨s0,rfl⟩,rfl⟩
  have ga:upd (upd H a (.cC o (.dK ak))) D (.lst (jW c ((ak.zip ss).take j))) a=some (.cC o (.dK ak)):=by rw[aJ (afv kU),bP]
  by_cases cM:j<ak.length
  .refine .inr #[#[cM,ga],?_]
   rintro x H2 ⟨rfl,p,hp,rfl⟩
   have RG:=aa1 (vz ▸ cM);let#[t,xs,e1,hq,e2]:=hv j p _ hp RG;have zj:(ak.zip ss)[j]? = some (p,ss[j]'(vz ▸ cM)):=ajV.mpr #[hp,RG];have tk:(ak.zip ss).take (j+1)=(ak.zip ss).take j++[(p,ss[j]'(vz ▸ cM))]:=by
    let#[l,e]:=abq.mp zj;rw[List.take_succ_eq_append_getElem l,e]
   have gq:bQ X.K (upd (upd H a (.cC o (.dK ak))) D (.lst (jW c ((ak.zip ss).take j)))) t xs:=by
    have n1:∀{u:HO}{ad:Addr},H ad=some u->(∀z,u≠.dK z)->upd (upd H a (.cC o (.dK ak))) D (.lst (jW c ((ak.zip ss).take j))) ad=some u:=λ{u ad} e n=>by
     rw[aJ (λz=>by rw[z,hD] at e;ext e),aJ (λz=>by rw[z,ha] at e;ext e;apply n _ rfl)];apply e
    rcases hq with(h|⟨o',h⟩)|h
    .exact .inl (.inl (n1 h λ_ z=>by ext z))
    .exact .inl (.inr #[o',n1 h λ_ z=>by ext z])
    .exact .inr h
   refine#[.ref b,rfl,b,C,dx,fs,.ref a,rfl,by rw[aJ (afv hnb),aJ Yj];apply hB,cl,na,hf,kV p.1,rfl,a,p.2,rfl,.inl #[ak,p.1,.inr #[o,ga],rfl,(acC nd hp).symm],?_];refine#[t,xs,0,_,e1,rfl,gq,e2,rfl,?_];refine#[_,rfl,?_]
   by_cases oX:ss[j]'(vz ▸ cM)=c
   .have:decide (V.str (ss[j]'(vz ▸ cM))=V.str c)=true:=aaP (by rw[oX]);rw[this];dsimp only;rw[if_pos rfl];refine#[_,rfl,_,bP,?_,ak.length-(j+1),by omega,rfl,cM,#[_,rfl],?_]
    .refine ahm ?_ hz;unfold jW;rw[List.length_map];refine ada (aeY _ _) ?_;rw[ahW];omega
    .rw[tk];unfold jW;rw[List.filter_append,adk,aiB (by simpa using oX)]
     funext z
     by_cases h1:z=D
     .rw[h1,bP,bP];rfl
     .rw[aJ h1,aJ h1,aJ h1]
   .have:decide (V.str (ss[j]'(vz ▸ cM))=V.str c)=false:=acp (λz=>oX (by injection z));rw[this];dsimp only;rw[abM abm];refine#[ak.length-(j+1),by omega,rfl,cM,#[_,rfl],?_];rw[tk];unfold jW;rw[List.filter_append,aiH (by simpa using oX),List.filter_nil,acL]
  .have ej:j=ak.length:=by omega
   refine .inl #[#[by omega,ga],o,D,h0,rfl,hD,?_];rw[ej,List.take_of_length_le (by rw[List.length_zip];omega)]
 .subst e1 e2;have kU:D≠a:=λz=>by rw[z,ha] at hD;ext hD
  have I2:=I'.aiZ (by rw[aJ (afv kU),bP]) h0 (I.ok.hd hc);have e:upd (upd (upd H a (.cC o (.dK ak))) D (.lst (jW c (ak.zip ss)))) a (.dK ak)=upd H D (.lst (jW c (ak.zip ss))):=by
   funext z
   by_cases h1:z=a
   .subst h1;rw[bP,aJ (afv kU),ha]
   .rw[aJ h1]
    by_cases h2:z=D
    .subst h2;rw[bP,bP]
    .rw[aJ h2,aJ h2,aJ h1]
  rw[e] at I2;apply#[_,_,I2,r,k D hD]
end L2
namespace L2.Ev
open PySem PySem.Spec PyProof.Rows
def n9:D->Option Str
 |.tup (.str s::_)=>some s
 |_=>none
def XO:Key->D
 |.inl k=>.int k
 |.inr x=>.str x
def xC(c:Str)(ak:List (Key×D)):List D:=(ak.filter λp=>decide ((n9 p.2).getD Str.empty=c)).map λp=>XO p.1
def G2(i:Nat)(cn f c:Str):EF:=λY=>match Y[i]? with
 |some (some (.ins UK es,_))=>match es.lookup f with
  |some (.cG ak)=>if UK=cn/\(ak.map (·.1)).Nodup/\ak.length<sizeLine/\∀p∈ak,(n9 p.2).isSome=true then some (.lst (xC c ak),.own) else none
  |_=>none
 |_=>none
theorem Pw{K:Fr}{H:Hp}{c:Str}:∀{ak:List (Key×D)}{vs:List (Key×V)},ak.map (·.1)=vs.map (·.1)->aD K H (xC c ak) (jW c (vs.zip (ak.map λp=>(n9 p.2).getD Str.empty))) []
 |[],[],_=>.nil
 |[],_::_,e=>nomatch e
 |_::_,[],e=>nomatch e
 |p::ak,q::vs,e=>by
  let#[e1,e2]:=List.cons.inj e;have ih:=Pw (K:=K) (H:=H) (c:=c) e2;unfold xC jW at ih ⊢;rw[aaG,List.zip_cons_cons]
  by_cases h:(n9 p.2).getD Str.empty=c
  .rw[aiB (by simpa using h),aiB (by simpa using h),aaG,aaG];refine .cons (f1:=[]) ?_ ih;have e1:p.1=q.1:=e1;rw[e1];cases q.1 with
   |inl k=>apply .int k
   |inr x=>apply .str x
  .rw[aiH (by simpa using h),aiH (by simpa using h)];apply ih
def aju{X:Cx}{pos:Pos}(i:Nat){x cn f c:Str}{C:Addr}{p1 p2:Pos}{tg elt:Expr}{ifs:List Expr}{sc:Scope}{M:List Str}(S:mD X M [none,some i] sc)(hc:X.calm=true)(hC:ClsAt X.K cn C)(na:iQ X.K C f)
  (hb:∀s3 H3 fp,PG (eE X M sc s3 H3 fp) tg (uS 0)/\tX (eE X M sc s3 H3 fp) ifs (UM X.K f c)/\PE (eE X M sc s3 H3 fp) elt (pS 0)) (va:VA X i x:=by walk_at "va") (tR:attributeBase (.Name x p1) f X.env (eval (.Name x p1) X.env)=eval (.Name x p1) X.env:=by rfl) (hs:∀v,foldedSetIterable (.Attribute (.Name x p1) f p2) X.env v=pure v:=by intro _;rfl) :
  FP X (.ListComp elt [#[tg,.Attribute (.Name x p1) f p2,ifs,0]] sc pos) (G2 i cn f c):=by
 exists 21,aiK S hc (n_ va.pe tR) hb hs;unfold G2 at e
 split at e
 .rename_i UK es t h1
  split at e
  .rename_i ak h2
   split at e
   .rename_i h3;let#[rfl,nd,hz,hS]:=h3;ext e;let#[v,fp,DV,r,_]:=ok.sl i _ _ h1;let#[b,dx,fs,g,rfl,rfl,h1,lT,h3,h4]:=r.lO hC.ns;let#[u,gf,h5,h6,_]:=aD.look h3 h4 h2;cases h6 with
    | @cG a vs _ g0 ha fZ rs=>
     refine#[b,C,dx,fs,a,vs,ak.map λp=>(n9 p.2).getD Str.empty,DV,h1,hC.cl,na,h5,ha,fZ ▸ nd,?_,?_,λj p s hp hs=>?_,λD hD=>?_]
     .have:=congrArg List.length fZ;rw[List.length_map,List.length_map] at this;omega
     .have:=congrArg List.length fZ;rw[List.length_map,List.length_map] at this;rw[List.length_map,this]
     .rw[acy] at hs;let#[q,hq,rfl]:=abX.mp hs;let#[w,fw,hw,fM,_]:=rs.get (d:=q.2) (by rw[acy,hq];rfl);rw[acy,hp] at hw;have hw:=acB hw;have hq:=hS q (adW hq);cases hd:q.2 with
      |tup ds=>
       rw[hd] at hq fM;cases ds with
       |nil=>ext hq
       |cons d0 ds=>
        cases d0 with
        |str s=>
         let#[tt,xs,e1,lX,r2]:=fM.ir;cases r2 with
         |cons r3 _=>
          let#[e3,_]:=r3.xj;apply#[tt,_,hw.trans e1,lX,by rw[e3];unfold dM kh;rw[if_pos (by omega),if_pos (by rw[acv];omega)];rfl]
        |_=>ext hq
      |_=>rw[hd] at hq;ext hq
     .have s2:aH H (upd H D (.lst (jW c (vs.zip (ak.map λp=>(n9 p.2).getD Str.empty))))):=λb o e=>by rw[aJ (cU e hD)];apply e
      refine k _ _ [D] s2 (.lst bP (Pw fZ)) #[acw.mpr #[(λm=>by ext m),acE],λa m=>?_];cases aa6.mp m;apply hD
   .cases e
  .cases e
 .cases e
def pgn{X:Cx}(i:Nat){x:Str}{pos:Pos}(hN:X.N.Nodup)(hi:X.N[i]? = some x:=by rfl)(hx:Loc X.env.scope x:=by first|exact Or.inl rfl|exact Or.inr rfl)(hf:j7 X x:=by first|exact .inl rfl|exact .inr rfl):PG X (.Name x pos) (uS i):=Uc hN hi hx hf
open PySem PySem.Spec PySem.W PyProof.Rows
def xI(f:XF):XF:=λY=>match f Y with
 |some (d,Y')=>if aA d=true then some (d,Y') else none
 |none=>none
def FK.fz(h:FK X e fx):FZ X e (xI fx):=by
 let#[t,p,q]:=h;refine#[t,p,@λH0 S z aq Y U H Q d Y' ok e k=>?_];unfold xI at e;cases h1:fx Y with
 |none=>rw[h1] at e;ext e
 |some w=>
  rw[h1] at e;dsimp only at e
  by_cases hi:aA w.1=true
  .rw[if_pos hi] at e;ext e;refine q ok h1 λz' H1 H' v fp aV s1 r1 _=>?_
   have hn:=r1.aA hi;subst hn;apply k z' H' v (aV.same s1) r1
  .rw[abM hi] at e;ext e
end L2.Ev
namespace L2.Ev
open PySem PySem.Spec PyProof.Rows
def Aq(o:D->Option D)(fx:XF):XF:=λY=>match fx Y with
 |some (d1,Y')=>match o d1 with
  |some d=>if aA d=true then some (d,Y') else none
  |none=>none
 |none=>none
def FF(hc:pQ X c tc)(ha:FJ J im X s1 f)(hb:FJ J im X s2 g):o9 J im X (.If c s1 s2 pos) (w6 tc f g):=by
 let#[t,p,q]:=hc;let#[t1,p1,q1]:=ha;let#[t2,p2,q2]:=hb;exists 23,CN p p1 p2;unfold w6 at e;cases h:tc Y with
 |none=>rw[h] at e;ext e
 |some w=>
  let#[y,aO]:=w;rw[h] at e;refine q ok h λz1 H1 aV=>?_
  cases y with
  |true=>rw[if_pos rfl];apply q1 aV e k
  |false=>rw[abM abm];apply q2 aV e k
open PySem PySem.Spec PySem.W PyProof.Rows
def agM(i:Nat)(cn f:Str):SF:=λY=>(qS cn Y[i]?).bind λes=>((es.lookup f).bind BB).bind λds=>
 if(aK ds&&!ds.isEmpty)=true then some (.nx (bU Y i (.ins cn (eK f (.lst ds.dropLast) es)))) else none
def aec(i:Nat)(hC:ClsAt X.K cn C)(na:iQ X.K C f)(va:VA X i x:=by walk_at "va")
  (hb:attributeBase (.Name x p) f X.env (eval (.Name x p) X.env)=eval (.Name x p) X.env:=by rfl)
  (jb:attributeBase (.Attribute (.Name x p) f p1) "pop" X.env (eval (.Attribute (.Name x p) f p1) X.env)=eval (.Attribute (.Name x p) f p1) X.env:=by rfl)
  (jl:(p2.endLine==p3.line)=true:=by rfl) (iK:swapsWith (.Call (.Attribute (.Attribute (.Name x p) f p1) "pop" p2) [] [] p3) none pos.line X.env=pure false:=by rfl) :
  eB X (.Expr (.Call (.Attribute (.Attribute (.Name x p) f p1) "pop" p2) [] [] p3) pos) (agM i cn f):=by
 exists 25,vd (ah1 PySem.F.plainAttrs_list PySem.F.slot_list_pop PySem.F.type_list_pop af1 (n_ va.pe hb) jb jl) iK;let#[es,g2,e]:=aa5.mp e;have g2:=xH g2;let#[ds,hl,e]:=aa5.mp e;let#[_,hl,h]:=aa5.mp hl;let#[hc,e]:=adB.mp e;ext e;obtain rfl:=Gj h;let#[c2,c3]:=(aaM _ _).mp hc;let#[xv,fp,c8,r,zz]:=ok.sl i _ _ g2;refine#[xv,c8,?_];let#[b0,dx,fs,u,gf,rfl,h1,h2,h3,h4,h5,h6]:=r.place hC.ns zz.1 hl;refine#[b0,C,dx,fs,u,rfl,h1,hC.cl,na,h2,?_];let#[l,xs,f0,rfl,hq,_,_]:=h3.d9;refine#[.inl #[rfl,_,hq],?_];generalize hw:(V.ref l)=w at h3 h6;cases h3 with
 | @lst a' ys _ f' h rs=>
  ext hw;have hn:=rs.aA c2;subst hn;have kU:ys.length-1<ys.length:=by
   have:ds≠[]:=λz=>by rw[z] at c3;ext c3
   have:=aj4.mpr this;rw[<- rs.length];lia
  refine#[_,ys,ys[ys.length-1],rfl,rfl,h,aa1 kU,?_];have im:aW H (upd H l (.lst ys.dropLast)):=aW.upd h rfl;let#[bI,k1,k2,k3]:=h6 (upd H l (.lst ys.dropLast)) (.lst ds.dropLast) [l] im (λc o n e=>by rw[aJ λq=>n (by rw[q];apply aav)];apply e)
   (.lst bP (rs.VW.frame (λa m=>nomatch m) im)) h4 (λc m=>.inl m)
  let#[z',aT]:=ok.put g2 c8 zz im (λc o n e=>by rw[aJ λq=>n (by rw[q];apply h5 l aav)];apply e) k1 k2 k3;apply q z' U _ aT (.refl _ _)
def HP(i:Nat)(cn fl:Str)(G:MF)(g:AF):XF:=λY=>(Y[i]?).bind fun
 |some (.ins c es,.own)=>(g Y).bind λps=>(es.lookup fl).bind λd0=>if c=cn/\apart i ps=true then(G d0 (ps.map (·.1))).bind λw=>if aA w.1=true then some (w.1,bU Y i (.ins c (eK fl w.2 es))) else none else none
 |_=>none
def ag1(i:Nat)(hC:ClsAt X.K cn C)(na:iQ X.K C fl)(GG:cg X.prog X.w X.K X.mg X.base dw k fa fd ps (lN X.K G))(hr:aZ k X.A)(hm:X.mg x=some (.ref fa))(hk:PySem.W.keepIn X.K (.ref fa)=true)(hb:Binds X.K fd ps [])(ha:FA X es g)
  (va:VA X i xn:=by walk_at "va") (tR:attributeBase (.Name xn p1) fl X.env (eval (.Name xn p1) X.env)=eval (.Name xn p1) X.env:=by rfl)
  (hg:GD X x:=by apply#[rfl,by decide]) (he:starEach (.Attribute (.Name xn p1) fl p2::es) X.env=(false,eval (.Attribute (.Name xn p1) fl p2) X.env)::starEach es X.env:=by rfl) (hpl:(backTo pos (starEach es X.env)).any (·.1)=false:=by rfl) :
  FY X (.Call (.Name x p) (.Attribute (.Name xn p1) fl p2::es) [] pos) (HP i cn fl G g):=by
 let#[t,pa,_,sa]:=ha;exists 27,BN GG hr hg.1 hm hk hb .nil lD (dg (n_ va.pe tR) pa he) hg.2 he hpl;let#[w,h1,e1]:=aa5.mp e0
 split at e1
 .rename_i c es1;let#[qs,h2,e2]:=aa5.mp e1;let#[d0,hl,e3]:=aa5.mp e2
  by_cases hc:c=cn/\apart i qs=true
  .rw[if_pos hc] at e3;let#[rfl,jC]:=hc;let#[u3,h3,e4]:=aa5.mp e3
   by_cases hi:aA u3.1=true
   .rw[if_pos hi] at e4;ext e4;let#[v,aX,hs,r0,zz]:=ok.sl i _ _ h1;refine#[v,hs,?_];let#[b0,dx,fs,u,gf,rfl,a1,a2,a3,a4,a5,a6]:=r0.place hC.ns zz.1 hl;refine#[b0,C,dx,fs,u,rfl,a1,hC.cl,na,a2,?_];refine sa ok h2 λH2 vs jJ s2 r2 gg=>?_
    show lN X.K G ((u::vs)++[]) H2 Q E0;rw[acL];refine#[u,vs,d0,gf,_,jJ,u3.1,u3.2,rfl,a3.same s2,a4,r2,λx m n=>AE ok jC gg zz x m (a5 x n),h3,λH3 u' bI cu im kp r1 nd fr rr uO nA=>?_];have hn:=rr.aA hi;subst hn;have i3:=(aW.of s2).trans im;have k3:∀b o,b∉gf->H b=some o->H3 b=some o:=λb o n e=>kp b o n (s2 b o e)
    let#[Bu,k1,k2,k4]:=a6 H3 u3.2 bI i3 k3 r1 nd λb m=>(fr b m).imp id s2.free
    let#[z',iu]:=ok.put h1 hs zz i3 (λb o n e=>k3 b o (λm=>n (a5 b m)) e) k1 k2 k4;apply kk z' H3 u' iu i3 rr
   .rw[abM hi] at e4;ext e4
  .rw[abM hc] at e3;ext e3
 .cases e1
def Z.NR(z:Z)(k:Nat)(s:Stmt)(sp:Frag->Sp)(cm:Bool:=true):Prop:=FN z.P z.w z.K z.mg z.base (gY z.P z.w) k (ia s) (jR s) (sp z.K) cm
def ajv{K:Frag}{tab:List (Str×Stmt)}(X:K.In h)(G:h.Ns mainGlobals mg)(t:tab.map (look K)=tab.map want)(i:Nat)(o:Z.DR #[P,w,K,mg,base] k Str.empty s sp cm)(b:BA (ia s) (ia s) s (jR s):=by walk_at "ba")(e:tab[i]? = some (Str.empty,s):=by rfl):Z.NR #[P,w,K,mg,base] k s sp cm:=Rq X G (GK i t e) (λF=>o _ _ F) b
section
variable{A:Z->Prop}
abbrev wNR{F:List D->Option Rz}(_:∀z,A z->z.DR k Str.empty s (lJ · F) cm)(z:Z):Prop:=z.NR k s (lJ · F) cm
end
def Ib(fx:XF)(fb:EF):aL->Option (Bool×aL):=λY=>(fx Y).bind λp=>(fb p.2).bind λq=>(AG p.1 q.1).bind fun
 |.bl b=>some (b,p.2)
 |_=>none
def acq(ha:FZ X a fx)(hb:FP X b fb):pQ X (.Compare a [.IsNot] [b] pos) (Ib fx fb):=by
 let#[ta,pa,sa]:=ha;let#[tb,pb,sb]:=hb;exists 26,B7 Pb pa pb (jm _);let#[p,h1,e]:=aa5.mp e;let#[q,h2,e]:=aa5.mp e;let#[d3,h3,e]:=aa5.mp e
 split at e
 .cases e;refine sa ok h1 λz1 H1 x aV r1=>sb aV h2 λH2 y f2 s2 r2 _=>?_
  have r1:=r1.same s2;let#[d1,aO]:=p;let#[d2,t2]:=q;have key:=Vw H2 x y d1 d2 [] f2 _ (λv H'=>∃b,v=.bl b/\(∃z',Ok X.K H0 S z' aq aO U H')/\b=c) r1 r2 h3 λH3 v s3 r3=>by
   ext r3;apply#[_,rfl,#[z1,(aV.same s2).same s3],rfl]
  let#[e1,b,e2,#[z',o],e3]:=key;apply#[e1,b,e2,by rw[e3];apply k z' _ o]
 .cases e
end L2.Ev
namespace L2.Ev
open PySem PySem.Spec PyProof.Rows
abbrev AX:=aL->Option (List (D×Tag)×aL)
def rT(X:Cx)(sl:List (Option Nat))(es:List Expr)(g:AX):Prop:=∃t,PA X es t/\∀{H0} {S} {z} {aq} {Y} {U} {H} {Q} {ps} {aO},
 Ok X.K H0 S z aq Y U H->g Y=some (ps,aO)->(∀z1 H1 H' vs C,Ok X.K H0 S z1 aq aO U H1->aH H1 H'->aiW X.K z1 H1 H' aO U sl ps vs C->Q vs H')->t U H Q
def zo(js:List Nat)(sl:List (Option Nat))(G:JF)(g:AX):XF:=λY=>(g Y).bind λp=>if pV js sl p.1=true then(G (p.1.map (·.1))).map λw=>(w.1,mQ p.2 js w.2) else none
def Bt(fz:XF):AX:=λY=>(fz Y).map λw=>([(w.1,.own)],w.2)
def ae6(ha:FZ X e fz)(hs:starEach [e] X.env=(false,eval e X.env)::starEach [] X.env:=by rfl):rT X [none] [e] (Bt fz):=by
 let#[t,p,q]:=ha;refine#[_,dg p e_ hs,@λH0 S z aq Y U H Q ps aO ok e0 k=>?_];let#[w,h,e0]:=abX.mp e0;ext e0;refine q ok h λz1 H1 v aV r1=>k z1 H1 H1 [v] [] aV (.refl _) #[rfl,λn p e=>?_,λa m=>nomatch m]
 cases n with
 |zero=>ext e;apply#[v,[],_,rfl,rfl,r1,(λj e=>nomatch e),λ_=>.nil]
 |succ n=>simp at e
def lM(i:Nat)(g:AX):AX:=λY=>(aj i Y).bind λ_=>(g Y).bind λp=>(aj i p.2).map λq=>(q::p.1,p.2)
def m6(i:Nat)(hr:rT X sl es g)(va:VA X i x:=by walk_at "va")(hs:starEach (.Name x p1::es) X.env=(false,eval (.Name x p1) X.env)::starEach es X.env:=by rfl):rT X (none::sl) (.Name x p1::es) (lM i g):=by
 let#[t,p,q]:=hr;have at_:∀{Y:aL} {w},aj i Y=some w->∃d t0,Y[i]? = some (some (d,t0))/\w=(d,CO i t0):=λ{Y w} e=>by
  unfold aj at e
  split at e
  .rename_i d t0 h;ext e;apply#[d,t0,h,rfl]
  .cases e
 refine#[_,dg va.pe p hs,@λH0 S z aq Y U H Q ps aO ok e0 k=>?_];let#[w0,h0,e0]:=aa5.mp e0;let#[#[qs,bA],h,e0]:=aa5.mp e0;let#[w,h2,e0]:=abX.mp e0;ext e0;let#[d0,t0,g0,rfl]:=at_ h0;let#[d,t1,g1,rfl]:=at_ h2;let#[v,_,hv,_,_]:=ok.sl i _ _ g0;refine#[v,hv,q ok h λz1 H1 H' vs C aV s a=>k z1 H1 H' (v::vs) C aV s #[by rw[acv,acv,a.ln],λn p e=>?_,λb m=>?_]]
 .cases n with
  |zero=>
   ext e;let#[v',f,jN,r,zz]:=aV.sl i _ _ g1;rw[hv] at jN;ext jN;refine#[v,f,_,rfl,rfl,r.same s,(λj e=>nomatch e),λ_=>?_];cases t1 with
   |sh o=>apply zz
   |own=>intro a m j ej;rw[zz.2 a m] at ej;ext ej;apply aav
   |lk=>intro a m j ej;rw[zz.2 a m] at ej;ext ej;apply aav
  |succ n=>apply a.at_ n p e
 .let#[n,j,c1,c2,c3]:=a.cc b m;apply#[n+1,j,c1,c2,c3]
def xx(i:Nat)(g:AX):AX:=λY=>(aj i Y).bind λ_=>(g Y).bind λp=>(p.2[i]?).bind fun
 |some (d,.own)=>some ((d,.sh [i])::p.1,p.2)
 |_=>none
def Dg(i:Nat)(hr:rT X sl es g)(va:VA X i x:=by walk_at "va")(hs:starEach (.Name x p1::es) X.env=(false,eval (.Name x p1) X.env)::starEach es X.env:=by rfl):rT X (some i::sl) (.Name x p1::es) (xx i g):=by
 let#[t,p,q]:=hr;refine#[_,dg va.pe p hs,@λH0 S z aq Y U H Q ps aO ok e0 k=>?_];let#[w0,h0,e0]:=aa5.mp e0;let#[#[qs,bA],h,e0]:=aa5.mp e0;let#[s0,h2,e0]:=aa5.mp e0
 split at e0
 .rename_i d;ext e0;obtain⟨d0,t0,g0⟩:∃d t0,Y[i]? = some (some (d,t0)):=by
   unfold aj at h0
   split at h0
   .rename_i d t0 h;apply#[d,t0,h]
   .cases h0
  let#[v,_,hv,_,_]:=ok.sl i _ _ g0;refine#[v,hv,q ok h λz1 H1 H' vs C aV s a=>?_];let#[v',f,jN,rv,zz]:=aV.sl i _ _ h2;rw[hv] at jN;ext jN;refine k z1 H1 H' (v::vs) (f++C) aV s #[by rw[acv,acv,a.ln],λn p e=>?_,λb m=>?_]
  .cases n with
   |zero=>ext e;apply#[v,f,_,rfl,rfl,rv.same s,(λj e=>by ext e;apply#[hv,#[_,h2],zz.1,λa m=>#[zz.2 a m,abz _ m]]),λe=>nomatch e]
   |succ n=>
    let#[v',f',s',a1,a2,a3,a4,a5]:=a.at_ n p e;apply#[v',f',s',a1,a2,a3,λj e=>let#[b1,b2,b3,b4]:=a4 j e;#[b1,b2,b3,λa m=>#[(b4 a m).1,aaH _ (b4 a m).2]],a5]
  .rcases abH.mp m with m|m
   .exact#[0,i,rfl,zz.2 b m,(rv.same s).cO b m]
   .let#[n,j,c1,c2,c3]:=a.cc b m;apply#[n+1,j,c1,c2,c3]
 .cases e0
def Qc(js:List Nat)(sl:List (Option Nat))(GG:cg X.prog X.w X.K X.mg X.base dw k f fd ps (nW J X.K G))(hr:aZ k X.A)(hm:X.mg x=some (.ref f))(hk:PySem.W.keepIn X.K (.ref f)=true)(hb:Binds X.K fd ps [])(ha:rT X sl (e::es) g)
  (hJ:QZ J js sl:=by decide) (hg:GD X x:=by apply#[rfl,by decide]) (he:starEach (e::es) X.env=(false,eval e X.env)::starEach es X.env:=by rfl) (hpl:(backTo pos (starEach es X.env)).any (·.1)=false:=by rfl) :
  FK X (.Call (.Name x p) (e::es) [] pos) (zo js sl G g):=by
 classical
 let#[t,pa,sa]:=ha;let#[j1,j2,j3,j4,j5]:=hJ;exists 27,BN GG hr hg.1 hm hk hb .nil lD pa hg.2 he hpl;let#[qr,h1,e0]:=aa5.mp e0;let#[qs,Y]:=qr;dsimp only at e0
 by_cases jC:pV js sl qs=true
 .rw[if_pos jC] at e0;let#[w,h3,e0]:=abX.mp e0;ext e0;refine sa ok h1 λz H H2 vs C ok s2 ai=>?_
  rw[acL];have oS:=ok.same s2;have kJ:∀{k i},J[k]? = some i->∃j,js[k]? = some j/\sl[i]? = some (some j):=λ{k i} e=>by
   have l:=(abq.mp e).1;have:=j3 k l;rw[e] at this;apply#[js[k]'(j2 ▸ l),aa1 _,this.trans (by rw[aa1 (j2 ▸ l)])]
  have iJ:∀{i j},sl[i]? = some (some j)->∃k,J[k]? = some i/\js[k]? = some j:=λ{i j} e=>by
   let#[k,hk]:=ajI (j1 i (abq.mp e).1 (by rw[e];rfl));let#[j',a1,a2]:=kJ hk;rw[e] at a2;ext a2;apply#[k,hk,a1]
  have inj:∀{i i' j},sl[i]? = some (some j)->sl[i']? = some (some j)->i=i':=λ{i i' j} e e'=>by
   let#[k,a1,a2]:=iJ e;let#[k',b1,b2]:=iJ e';let#[l1,c1]:=abq.mp a2;let#[l2,c2]:=abq.mp b2;cases(List.getElem_inj j4).mp (c1.trans c2.symm);rw[a1] at b1;ext b1;rfl
  let M:Addr->Nat->Prop:=λa i=>a∈C/\∃j,sl[i]? = some (some j)/\z a=some j
  let y:Addr->Option Nat:=λa=>if h:∃i,M a i then some (Classical.choose h) else none
  have y1:∀{a i},M a i->y a=some i:=λ{a i} m=>by
   show(if h:∃i,M a i then some (Classical.choose h) else none)=_;rw[dif_pos #[i,m]];let#[_,j,b1,b2]:=Classical.choose_spec (#[i,m]:∃i,M a i);let#[_,j',c1,c2]:=m;rw[b2] at c2;ext c2;rw[inj b1 c1]
  refine#[_,C,y,w.1,w.2,#[by rw[List.length_map,ai.ln],λi d e=>?_,λa j e=>?_,λa m=>let#[_,_,_,_,c]:=ai.cc a m;c],h3,λH3 u cu nf im kp ap nw rr uO nA le=>?_]
  .rw[acy] at e;let#[q,hq,rfl]:=abX.mp e;let#[v,fp,s,a1,a2,a3,a4,a5]:=ai.at_ i q hq;refine#[v,fp,a1,a3,λm=>?_,λn a m=>?_]
   .let#[k,hk]:=ajI m;let#[j,_,b2]:=kJ hk;rw[a2] at b2;ext b2;let#[_,_,c3,c4]:=a4 j rfl;apply#[c3,λa m=>y1 #[(c4 a m).2,j,a2,(c4 a m).1]]
   .show(if h:∃i,M a i then some (Classical.choose h) else none)=_;rw[dif_neg]
    rintro⟨i',mc,j,b1,b2⟩
    cases s with
    |some j'=>let#[k,hk,_]:=iJ a2;apply n (adW hk)
    |none=>
     have tg:=a5 rfl;let#[k,_,hj]:=iJ b1;cases ht:q.2 with
     |sh o=>rw[ht] at tg;apply Jg jC a2 hq ht j (tg a m j b2) (adW hj)
     |own=>rw[ht] at tg;let#[#[o,hw],_]:=ok.zd a j b2;rw[tg.2 a m] at hw;ext hw
     |lk=>rw[ht] at tg;let#[#[o,hw],_]:=ok.zd a j b2;rw[tg.2 a m] at hw;ext hw
  .have e:(if h:∃i,M a i then some (Classical.choose h) else none)=some j:=e
   by_cases h:∃i,M a i
   .let#[_,m,_]:=h;apply m
   .rw[dif_neg h] at e;ext e
  .have st:∀{c} {o},H3 c=some o->jn o=false->(if c∈cu then none else H3 c)=some o:=λ{c o} e mo=>by
    rw[abM λm=>?_]
    .exact e
    .let#[o',w,l5]:=rr.cO c m;rw[e] at w;ext w;rw[mo] at l5;ext l5
   have i4:aW H2 (λc=>if c∈cu then none else H3 c):=#[λc xs e=>st (im.1 c xs e) rfl,λc o u e=>st (im.2.1 c o u e) rfl,λc φ e=>st (im.2.2 c φ e) rfl]
   have P:∃z',Ok X.K H0 S z' aq (mQ Y js w.2) U (λc=>if c∈cu then none else H3 c):=by
    refine oS.afU (C:=C) j4 (le.trans j2) (λj m=>?_) i4 (λa m=>?_) (λb o n e=>?_) ap (λk j e=>?_)
    .let#[k,hk]:=ajI m;have l:=(abq.mp hk).1;let#[j',c1,c2]:=kJ (aa1 (j2 ▸ l:k<J.length));rw[hk] at c1;ext c1;let#[d,u',_,b2,_]:=nw k _ (aa1 (j2 ▸ l:k<J.length));have lv:=(abq.mp b2).1;let#[v,fp,s,a1,a2,a3,a4,a5]:=ai.at_ _ _ (aa1 (ai.ln ▸ lv));rw[c2] at a2;ext a2;apply(a4 _ rfl).2.1
    .let#[i,j,c1,c2,_]:=ai.cc a m;let#[k,_,hj]:=iJ c1;apply#[j,adW hj,c2]
    .show(if b∈cu then none else H3 b)=some o;rw[abM λm=>?_]
     .exact kp b o n e
     .rcases(nA b m).1 with q|q
      .exact n q
      .rw[e] at q;ext q
    .have l:=(abq.mp e).1;let#[j',c1,c2]:=kJ (aa1 (j2 ▸ l:k<J.length));rw[e] at c1;ext c1;let#[d,u',b1,b2,b3,b4,b5]:=nw k _ (aa1 (j2 ▸ l:k<J.length));have lv:=(abq.mp b2).1;let#[v,fp,s,a1,a2,a3,a4,a5]:=ai.at_ _ _ (aa1 (ai.ln ▸ lv));rw[c2] at a2;ext a2;rw[b2] at a1;ext a1;refine#[d,u',b1,(a4 _ rfl).1,b3.frame (λa m=>abM λq=>(nA a q).2 k m) #[λc xs e=>st e rfl,λc o u e=>st e rfl,λc φ e=>st e rfl],b4,b5]
   let#[z',iu]:=P;refine kk z' _ H3 u cu iu (λc o e=>?_) rr #[uO,λa m=>if_pos m];have e:(if c∈cu then none else H3 c)=some o:=e
   by_cases m:c∈cu
   .rw[if_pos m] at e;ext e
   .rw[abM m] at e;apply e
 .rw[abM jC] at e0;ext e0
def qL:V->Option Str
 |.aC=>some "None"
 |.bl b=>some (if b then "True" else "False")
 |.int i=>if i.natAbs.log2<1920 then some (toString i) else none
 |.str x=>if(reprText x).length<=sizeLine then some (reprText x) else none
 |_=>none
def pK:D->Option D
 |.aC=>(qL .aC).map .str
 |.bl b=>(qL (.bl b)).map .str
 |.int i=>(qL (.int i)).map .str
 |.str x=>(qL (.str x)).map .str
 |_=>none
def M5:ie X (.builtin "repr") (λxs H Q=>∃x s,xs=[x]/\qL x=some s/\Q (.str s) H):=by
 exists 43;let#[x,t,rfl,e,q]:=h;let#[u,rfl,ru]:=vals1 r;cases x with
 |aC=>ext e;ext ru;apply PySem.P.repr_of_none #[.str _,H,I.tok _,#[_,rfl],q]
 |bl b=>ext e;ext ru;apply PySem.P.repr_of_bool #[.str _,H,I.tok _,#[_,rfl],q]
 |int i=>
  let#[t',rfl]:=ru;have e:(if i.natAbs.log2<1920 then some (toString i:Str) else none)=some t:=e
  by_cases hz:i.natAbs.log2<1920
  .rw[if_pos hz] at e;ext e;apply PySem.P.repr_of_int hz #[.str _,H,I.tok _,#[_,rfl],q]
  .rw[abM hz] at e;ext e
 |str y=>
  let#[t',rfl]:=ru;have e:(if(reprText y).length<=sizeLine then some (reprText y) else none)=some t:=e
  by_cases hz:(reprText y).length<=sizeLine
  .rw[if_pos hz] at e;ext e;apply PySem.P.repr_of_str #[.str _,H,I.tok _,#[_,rfl],q] hz
  .rw[abM hz] at e;ext e
 |_=>ext e
def T3{K:Fr}:oz K (λxs H Q=>∃x s,xs=[x]/\qL x=some s/\Q (.str s) H) pK:=by
 intro H x d1 f1 d Q r e k;have key:∀{x:V},(qL x).map D.str=some d->∃x' s,[x]=[x']/\qL x'=some s/\Q (.str s) H:=λ{x} h=>by
  let#[t,h2,rfl]:=abX.mp h;apply#[x,t,rfl,h2,k H _ [] (aH.refl H) (.str _) acE λa m=>nomatch m]
 cases d1 with
 |aC=>ext r;apply key e
 |bl b=>ext r;apply key e
 |int i=>ext r;apply key e
 |str y=>ext r;apply key e
 |_=>ext e
def CU(hm:X.mg "repr"=none)(ha:FP X a fa)(hg:Gl X "repr":=by rfl)(hs:Y1 X a:=by rfl):FP X (.Call (.Name "repr" p) [a] [] pos) (e1 pK fa):=
 fp_1 T3 ha λta pa=>qk M5 hg hm boot_repr (dg pa e_ hs) (he:=hs)
def UX(hm:X.mg "repr"=none)(ha:FZ X a fx)(hg:Gl X "repr":=by rfl)(hs:Y1 X a:=by rfl):FZ X (.Call (.Name "repr" p) [a] [] pos) (Aq pK fx):=by
 let#[ta,pa,sa]:=ha;refine#[_,qk M5 hg hm boot_repr (dg pa e_ hs) (he:=hs),@λH0 S z aq Y U H Q d Y' ok e k=>?_];unfold Aq at e;cases h1:fx Y with
 |none=>rw[h1] at e;ext e
 |some w=>
  rw[h1] at e;dsimp only at e;cases h2:pK w.1 with
  |none=>rw[h2] at e;ext e
  |some d2=>
   rw[h2] at e;dsimp only at e
   by_cases hi:aA d2=true
   .rw[if_pos hi] at e;ext e;refine sa ok h1 λz1 H1 x aV r1=>?_
    refine T3 H1 x w.1 [] _ _ r1 h2 λH2 v fp s2 r2 _ _=>?_
    have hn:=r2.aA hi;subst hn;apply k z1 H2 v (aV.same s2) r2
   .rw[abM hi] at e;ext e
def Qt:AX:=λY=>some ([],Y)
def NT:rT X [] [] Qt:=#[_,e_,@λ_ _ _ _ _ _ H _ _ _ ok e k=>by ext e;apply k _ _ H [] [] ok (.refl _) #[rfl,λi p e=>by simp at e,λa m=>nomatch m]]
def A8(js:List Nat)(sl:List (Option Nat))(G:JF)(g:AX):XR:=λY=>(zo js sl G g Y).map λw=>.ok w.1 w.2
def MS(js:List Nat)(sl:List (Option Nat))(GG:cg X.prog X.w X.K X.mg X.base dw k f fd ps (nW J X.K G))(hr:aZ k X.A)(hm:X.mg x=some (.ref f))(hk:PySem.W.keepIn X.K (.ref f)=true)(hb:Binds X.K fd ps [])(ha:rT X.eY sl (e::es) g)
  (hJ:QZ J js sl:=by decide) (hg:GD X x:=by apply#[rfl,by decide]) (he:starEach (e::es) X.env=(false,eval e X.env)::starEach es X.env:=by rfl) (hpl:(backTo pos (starEach es X.env)).any (·.1)=false:=by rfl) :
  FE X (.Call (.Name x p) (e::es) [] pos) (A8 js sl G g):=by
 let#[t,p,q]:=Qc (X:=X.eY) js sl GG hr hm hk hb ha hJ hg he hpl;refine#[_,OZ p,@λH0 S z aq Y U H Q E r ok e0 kk=>?_];let#[w,h,rfl]:=abX.mp e0;apply q ok h kk
open PySem PySem.Spec PySem.W PyProof.Rows
def F9(i:Nat)(sub:Str->Bool)(f g:SF):SF:=λY=>match f Y with
 | some (.er false cn Y')=>if sub cn.1=true then(match g (Y'.set i (some (.exc cn,.own))) with
  |some (.nx bA)=>some (.nx (bA.set i none))
  |_=>none) else none
 |_=>none
def abK{sub:Str->Bool}{f g:SF}(i:Nat)(hb:∀af R,FS (X.lS af R) body f)(hs:∀a,FS (X.nN a) (b0::Cg) g)(ack:∀cn C,sub cn=true->PySem.W.nsIn X.K mainGlobals cn=some (some (.ref C))->yX X.K C Dc)(hm:X.mg x=some (.ref Dc))(hN:X.N.Nodup)
  (hcm:X.calm=true:=by rfl) (hx:X.ex=[]:=by rfl) (dG:X.stack=X.env::X.outer:=by rfl) (pU:X.env.frame=some X.env.locals:=by rfl) (hg:Gl X x:=by rfl) (hi:X.N[i]? = some n:=by rfl) (hk:X.env.scope.names.lookup n=some .local:=by rfl) (lK:kr X n=false:=by rfl) (gI:(x==("__debug__":Str))=false:=by decide) :
  eB X (.Try body [.ExceptHandler (some (.Name x px)) (some n) (b0::Cg) aby] [] [] pos) (F9 i sub f g):=by
 exists 23,zW;intro af s I;unfold F9 at e
 split at e
 .rename_i cn Y' hf
  split at e
  .rename_i Pf
   split at e
   .rename_i bA Ym;ext e;refine wpAny_Try_except ?_;let#[tb,pb,sb]:=hb af (λcls aR aF H'=>∀a s',gJ X af aF H' a cls aR s'->
     w8 X X.A (noteFrame (.ref a) X.env) (λ_ s2=>w8 X X.A (setFlight (.ref a) none) (λ_ s3=>w8 X X.A (handleBy (.ref a) X.env [.ExceptHandler (some (.Name x px)) (some n) (b0::Cg) aby]) (SP X af E) X.xe s3) X.xe s2) X.xe s')
    refine adI (pb [] s U H #[λ_ _=>False,λ_ _=>False,λ_ _=>False,λ_ _=>False] I.lS (sb ok hf #[_,aeU,λz' aF H' C aT kp hC a s' L=>?_])) (λfl s1 q=>?_) λev s1 #[aF,H',a,cls,aR,e,L,r]=>by subst e;apply r a s1 L
    .refine ae4 L hcm hx dG pU (ack cn.1 C Pf hC) hg hm hN hi hk (λs5 H5 kn I5=>?_) gI;let#[ts,W_,ss]:=hs a;refine W_ af s5 _ _ _ I5 (aT.stored (i:=i) (t:=.own) (λb o q=>kn.same L.fr q) (abW hC kn) .nil λz5 GJ=>ss GJ Ym λz6 nQ H6 ok6 b=>?_);apply k z6 _ H6 (ok6.unset i) (((kp.trans (.set hi lK)).trans b).trans (.set hi lK))
    .cases fl with
     |ret u=>let#[_,_,_,_,_,q]:=q;apply q.elim
     |_=>let#[_,_,_,q]:=q;apply q.elim
   .cases e
  .cases e
 .cases e
end L2.Ev
namespace K93
open PySem L2 L2.Ev
local macro_rules | `(tactic| walk_at "s")=>`(tactic| apply #[#[rfl,rfl,rfl,by decide +kernel,rfl,by decide +kernel,by decide +kernel],rfl,rfl,by decide])
set_option hygiene false
local macro_rules | `(tactic| exists 1,$a)=>`(tactic| apply Z.oF (by walk_at "s") fun _ _ _ _ _ _ _ _ hr nd=>by apply $a)
local macro_rules | `(tactic| exists 2,$a)=>`(tactic| apply Z.oM (by walk_at "s") rfl fun _ _ _ _ _ _ _ hr nd=>by apply $a)
local macro_rules | `(tactic| exists 3,$a)=>`(tactic| apply Z.oP (by walk_at "s") rfl fun _ _ _ _ _ _ _ hr nd=>by apply $a)
set_option hygiene true
def eZ{z:Z}(E:En L z):ClsAt z.K "Book" (cA z.K "Book"):=E.c _ rfl
def gj{z:Z}(E:En L z):ClsAt z.K "Changes" (cA z.K "Changes"):=E.c _ rfl
def aE{z:Z}(E:En L z):ClsAt z.K "Gate" (cA z.K "Gate"):=E.c _ rfl
def jc{z:Z}(E:En L z):ClsAt z.K "Tally" (cA z.K "Tally"):=E.c _ rfl
set_option hygiene false
local macro_rules|`($s:str $a*)=>do
 let r:="ƚ8ā(ĂăĄ$ ƙ<rd&, Ƙŝ#;* Ɨ24: ƖÀÜż=żŰ ƕŴ2ŗ ƔŖ+ Ɠ$Ţ$Ţ* ƒC#&) ƑŜT#+²)#>Ś Ɛ-7=F-7= Ə0/e% Ǝòš&óôõ#& ƍ$#+ ƌÇ&RL, Ƌ9Pś& Ɗ*024 Ɖ#B) ƈ¼RL#+#& Ƈ©%[ Ɔ½1%)T ƅ-7aŪ Ƅ&P'.% ƃŜ)Ś ƂĀ1%cq3PŠ$#;*É ƁO$=$ ƀ<vJ2 ſSš ž8ą(ĆćĈŻ>$#]* Ž4sd&, ż9fś& Ż$#3$# źŢ*J2KGŢ= Ź24Ô&,'.%) Ÿ-7YF ŷř#& ŶŘ#& ŵ#+ŕ Ŵ2ŗX* ų0/: Ų<rcq&, űŜ#+Ś Ű-7=F/E ů85(@A6$ ŮQWŘş+ ŭ#+$#&* Ŭ/EG#3=°F ū8_(ÅÆ`$ş+$ Ū1%ŕ ũ'µ¶(· Ũ#&$D, ŧ2KG#3= Ŧ'£g(h ť'¢x(y Ť$)$z{%* ţ?&V% ŢC#+) š1%# Š'l_(` ş#&$# ŞH(opI$ ŝ8g(®¯h$ ŜŖ&$ ś'.%# Ś$)$)* ř'UH(I Ř'M5(6 ŗ4N&,'.% Ŗ85(@A6$# ŕ9,'.%#&".splitOn " "|>.foldl (init:=s.getString) fun s e=>match e.toList with|c::w=>s.replace (toString c) (String.ofList w)|_=>s
 let T:="#ah1 $ao2 %rfl0 &00 'E0 (hr.m0 )ay0 *az0 +10 ,aE1 -aI1 .E.n1 /aN2 0nd0 1E.b1 2aP2 320 4aU1 5p.G0 6p.b0 7aY1 8bz6 9a_3 :bC3 ;30 <bN1 =bT0 >40 ?cB2 @p.m0 Ap.kp0 B50 CbO2 DcN6 EcV3 FcT0 Gdz2 Hq.G0 Iq.b0 Jd80 KdR3 Lhr0 Mp.t0 Nfq4 OeX1 PeZ1 QfG7 RfT1 Sf62 Tf92 Uq.t0 Vabl1 Wgj1 XgO1 YgW0 Zh_1 [iD2 ]70 ^fQ1 _u.G0 `u.b0 ajf2 bjj1 cFY.fz1 djo6 ejF4 fjc1 gv.G0 hv.b0 i90 jFW.ft1 k60 lu.t0 m80 nkP1 oq.m0 pq.kp0 qly7 rlB1 sk_1 tmR2 um62 vn60 wnX0 xy.G0 yy.b0 zqt1 {E.i1 |110 }qF2 ~sN1 ¡rR2 ¢y.t0 £v.t0 ¤rB2 ¥rJ2 ¦uq2 §tO1 ¨ue2 ©uL2 ªuV0 «uR2 ¬tG1 ­100 ®v.m0 ¯v.kp0 °uW0 ±xF2 ²vM2 ³wX1 ´zf1 µg.t0 ¶g.G0 ·g.b0 ¸AL4 ¹hr.units0 ºAn2 »DN3 ¼Bm3 ½Dl3 ¾CK3 ¿Cp4 ÀDz2 ÁDp3 ÂDW3 ÃBO2 ÄDg2 Åu.m0 Æu.kp0 ÇCw6 ÈCz2 ÉCU2 ÊIo2 ËHG0 ÌHu4 ÍLA0 ÎII2 ÏKc2 ÐE.ni1 ÑJ63 ÒJu3 Ó40000 ÔJx4 ÕKR7 ÖFF3 ×120 ØQ44 ÙM80 ÚOw2 Ûpv1 ÜVD2 ÝOJ3 ÞTo1 ßE.t1 àh.t0 áh.G0 âh.b0 ãa0.G0 äa0.b0 åm.G0 æm.b0 çl.t0 èl.G0 él.b0 êj.t0 ëj.G0 ìj.b0 íNz1 îMS8 ïNT0 ðSD3 ñE.e1 òMf3 óRa3 ôUk0 õTJ0 öMO3 ÷Vf1 øS_3 ùS92 úQm4 ûTf2 üNZ2 ýy.m0 þy.kp0 ÿOh1 ĀUX2 āa2.G0 Ăa2.m0 ăa2.kp0 Ąa2.b0 ąa3.G0 Ća3.m0 ća3.kp0 Ĉa3.b0 ĉaew0 ĊaeH1 ċadU0 Čaa43 čagq3 Ďpgn2 ďPy1 ĐB74 đDJ0 ĒJS4 ēOa0 ĔM14 ĕn_2 ĖJl0 ėP_0 Ęjm1 ęabk4 ĚY62 ěWt3 Ĝae34 ĝaev2 ĞagT2 ğa0.t0 Ġm.t0 ġahJ3 ĢZT5 ģYd5 ĤXw2 ĥaf95 ĦE.x1 ħE.g1 ĨZU1 ĩNd7 ĪaeM6 īabK6 ĬE.ct1 ĭahB2 ĮaeW2 įahS2 İadp3 ıaak2 ĲYr3 ĳaf23 ĴY52 ĵadg3 Ķaer2 ķaih2 ĸacf3 Ĺafg1 ĺafc9 Ļajr2 ļacd2 ĽXk< ľag19 Ŀaec3 ŀZ81 Łacq2 łV92 ŃVT2 ńaiT2 Ņm.m0 ņm.kp0 ŇXX2 ňafy3 ŉFK.fz1 ŊQc8 ŋa0.m0 Ōa0.kp0 ōae61 Ŏa1.G0 ŏa1.m0 Őa1.kp0 őa1.b0 Œa4.t0 œa4.G0 Ŕa4.b0".splitOn " "|>.map (·.toList);let mut k:=a.toList.reverse;let mut t:List Lean.Term:=[]
 for c in r.toList.reverse do
  if c=='!' then t:=k.head!::t;k:=k.tail! else if let some (_::e):=T.find? (·.head?==some c) then
   let n:=String.ofList e.dropLast;let m:=e.getLast!.toNat-48;let h:Lean.Term:=if e.head!.isDigit then ⟨Lean.Syntax.mkNumLit n⟩ else ⟨Lean.mkIdent n.toName⟩
   t:=(if m==0 then h else ⟨Lean.Syntax.mkApp h (t.take m).toArray⟩)::t.drop m
 pure t.head!
set_option hygiene true
def HH:=λ(z:Z) (E:En L z)=>(by exists 1,"/:>)0/EÊſ&)-:>C#&±#+ſ&0F-7±±T²T#>²#+#+))#3#;" 0:z.D 1 Str.empty (top 53) (bh · (bJ 4 5 _)))
abbrev tN:=fF HH
def qy:=wF HH
def GW:=λ(z:Z) (E:En L z/\qy z)=>(by let#[E,p]:=E;exists 1,"/:3T)Ŝ)$)ƍ*ų;T)ƃ0/EGƃ)-:;)0F/:>T)ƃ0-7OŻ;$#>$T#>ƃ*" 0:z.D 2 Str.empty (top 54) (bh · (bJ 2 5 _)))
abbrev Ri:=fF GW
def agV:=wF GW
def Em:=λ(z:Z) (E:En L z)=>(by exists 1,"-7¦Øĉ1%š&¦ĊØċ1%š&´Č#+#&#3" 0:z.D 1 Str.empty (top 12) (bh · (bJ 3 3 _)))
abbrev mT:=fF Em
def xD:=wF Em
def Lj:=λ(z:Z) (E:En L z/\xD z)=>(by let#[E,p]:=E;exists 1,"-7¦ƔŤ´Ŝ)ƍ*" 0:z.D 2 Str.empty (top 42) (bh · (bJ 2 2 _)))
abbrev afd:=fF Lj
def Of:=wF Lj
def RX:=λ(z:Z) (E:En L z)=>(by exists 2,"<4N&W'.%X*" 0:z.D 1 "Changes" (inClass (top 26) 0) (dJ · (runM 1 1 _)))
def ajF:=wI RX
def FH:=λ(z:Z) (E:En L z/\Of z/\xD z/\ajF z)=>(by let#[E,p,q,u]:=E;exists 2,"2Knj}Z8Ş#+Ť}Z8Ş#3Ť§ZŖ;$#>*ƀŗOƍŻ;$#>*2ŗ!ŴƕË2ŗÙƕYŴƕ)<ŗ)" (abI (gj E).ns u.M u.G hr.m (E.m rfl) u.b):z.D 3 "Gate" (inClass (top 47) 0) (dJ · (runM 5 5 _)))
abbrev AK:=fO FH
def F6:=wI FH
def E1:=λ(z:Z) (E:En L z/\F6 z)=>(by let#[E,p]:=E;exists 2,"24NƄ!<4NƄX*" (xJ (aE E).ns p.M p.G hr.m (E.m rfl) p.b (ao (ah 1) (ao (ah 2) (ao (ah 3) (ao (ah 4) az))))):z.D 5 "Book" (inClass (top 49) 0) (dJ · (runM 5 5 _)))
abbrev Ej:=fO E1
def ZE:=wI E1
def Ig:=λ(z:Z) (E:En L z)=>(by exists 1,"ƅ" 0:z.D 1 "Gate" (inClass (top 47) 15) (bh · (bJ 1 1 _)))
abbrev R8:=fF Ig
def Wm:=wG Ig
def Ep:=λ(z:Z) (E:En L z)=>(by exists 1,"ƅ" 0:z.D 1 "Gate" (inClass (top 47) 14) (bh · (bJ 1 1 _)))
abbrev U6:=fF Ep
def agx:=wG Ep
def LS:=λ(z:Z) (E:En L z)=>(by exists 1,"ƅ" 0:z.D 1 "Gate" (inClass (top 47) 10) (bh · (bJ 1 1 _)))
abbrev O8:=fF LS
def IL:=wG LS
def Lk:=λ(z:Z) (E:En L z)=>(by exists 1,"-7!" (jK (M:=["number","self"]) (js:=[none,some 0]) (iA rfl (by kernel_rfl)) rfl ("^»%Ū" 0) (by decide) λs3 H3 fp=>#["ţ" 0,mU,"O$#&$¼RL9,ś+#&*" 0]):z.D 1 "Gate" (inClass (top 47) 9) (bh · (bJ 1 1 _)))
abbrev QX:=fF Lk
def Z2:=wG Lk
def Gg:=λ(z:Z) (E:En L z)=>(by exists 1,"-7S1%9Wś&" 0:z.D 1 "Changes" (inClass (top 26) 2) (bh · (bJ 1 1 _)))
abbrev Kg:=fF Gg
def Ff:=wG Gg
def Hh:=λ(z:Z) (E:En L z)=>(by exists 1,"-7¦Úŵ¦Úŵ´čRLŵ" 0:z.D 1 "Gate" (inClass (top 47) 19) (bh · (bJ 2 2 _)))
abbrev ae2:=fF Hh
def af7:=wG Hh
def IG:=λ(z:Z) (E:En L z/\Ff z/\af7 z)=>(by let#[E,p,q]:=E;exists 1,"-7!" (jK (M:=["number","self"]) (js:=[none,some 0]) (iA rfl (by kernel_rfl)) rfl ("ƆDWŘŕ)" 0) (by decide) λs3 H3 fp=>#["ţ" 0,"~ZQ,řŭ" 0,ah 0]):z.D 2 "Gate" (inClass (top 47) 8) (bh · (bJ 1 1 _)))
abbrev AJ:=fF IG
def vB:=wG IG
def GP:=λ(z:Z) (E:En L z)=>(by exists 1,"ƅ" 0:z.D 1 "Gate" (inClass (top 47) 7) (bh · (bJ 1 1 _)))
abbrev Vm:=fF GP
def Lv:=wG GP
def JH:=λ(z:Z) (E:En L z)=>(by exists 1,"ƅ" 0:z.D 1 "Gate" (inClass (top 47) 6) (bh · (bJ 1 1 _)))
abbrev Q0:=fF JH
def ah9:=wG JH
def Ky:=λ(z:Z) (E:En L z)=>(by exists 1,"/:+SŪų3S1%!0-7Oƍ$¨SŪ#+$ŕ$#3$ŕ*" (aju (M:=["number","self"]) 0 (iA rfl (by kernel_rfl)) rfl (aE E) (E.n rfl) λs3 H3 fp=>#["Ď&V%" 0,"ďĐđĒēĔRLĕÛ+!Û&!Ė!ėĘ!" (by rfl) (by apply λ_ _=>rfl) (by apply λ_ _=>rfl) _,pv 0]):z.D 1 "Gate" (inClass (top 47) 18) (bh · (bJ 1 3 _)))
abbrev Tn:=fF Ky
def ags:=wG Ky
def LL:=λ(z:Z) (E:En L z)=>(by exists 1,"-7ę%1%!w" (jK (M:=["slot","old","new","values"]) (js:=[none,none,none,some 0]) (iA rfl (by kernel_rfl)) rfl (fQ (ah 1)) (by decide) λs3 H3 fp=>#["Ƈţ[?+V%[?3V%ª" 0,"~¡ÌRL#;#&)#+" 0,ah 0]):z.D 1 Str.empty (top 20) (bh · (bJ 2 2 _)))
abbrev Gc:=fF LL
def E_:=wF LL
def HR:=λ(z:Z) (E:En L z)=>(by exists 1,"-7!" (jK (M:=["slot","values"]) (js:=[none,some 0]) (iA rfl (by kernel_rfl)) rfl ("^»%š&" 0) (by decide) λs3 H3 fp=>#["ţ" 0,"~¡ƈ)" 0,"O$#&$ƈ*" 0]):z.D 1 Str.empty (top 21) (bh · (bJ 1 1 _)))
abbrev Y9:=fF HR
def acI:=wF HR
def T7:=λ(z:Z) (E:En L z/\E_ z/\acI z)=>(by let#[E,p,q]:=E;exists 1,"/:3¾%š&Ə^#+?;ų>Ŗ3$#;*0/EĚ#>w-ÍF-e%^#;Ƈ?B0[?k0[?]0ª-¿3RL#B#]-78Ş#3*" 0:z.D 2 Str.empty (top 18) (bh · (bJ 2 8 _)))
def ajy:=wF T7
def IQ:=λ(z:Z) (E:En L z/\xD z/\Ff z)=>(by let#[E,p,q]:=E;exists 1,"-7Ɣ$)$DWŷ*" 0:z.D 2 "Changes" (inClass (top 26) 9) (bh · (bJ 2 2 _)))
abbrev KA:=fF IQ
def Jr:=wG IQ
def Il:=λ(z:Z) (E:En L z/\Jr z)=>(by let#[E,p]:=E;exists 1,"/EnZŮ*-ÍF-7C9Wś&¨#+)" 0:z.D 3 "Changes" (inClass (top 26) 10) (bh · (bJ 2 2 _)))
abbrev X6:=fF Il
def Jo:=wG Il
def IM:=λ(z:Z) (E:En L z/\Jo z)=>(by let#[E,p]:=E;exists 1,"-7a1%CŮ*)" 0:z.D 4 "Changes" (inClass (top 26) 5) (bh · (bJ 2 2 _)))
abbrev BF:=fF IM
def Ds:=wG IM
def IV:=λ(z:Z) (E:En L z/\ajy z/\Ds z)=>(by let#[E,p,q]:=E;exists 1,"-7ůX*$!*" (jK (M:=["number","changes"]) (js:=[none,some 0]) (iA rfl (by kernel_rfl)) rfl (fQ (ah 1)) (by decide) λs3 H3 fp=>#["ţ" 0,mU,"QWřŭ" 0]):z.D 5 Str.empty (top 27) (bh · (bJ 2 2 _)))
abbrev abu:=fF IV
def O5:=wF IV
def JE:=λ(z:Z) (E:En L z/\O5 z)=>(by let#[E,p]:=E;exists 1,"-7ůŕ$ŕ*" 0:z.D 6 "Gate" (inClass (top 47) 13) (bh · (bJ 1 1 _)))
abbrev L5:=fF JE
def Ol:=wG JE
def IJ:=λ(z:Z) (E:En L z)=>(by exists 1,"-7ŕ" 0:z.D 1 "Gate" (inClass (top 47) 12) (bh · (bJ 1 1 _)))
abbrev SV:=fF IJ
def N8:=wG IJ
def Fv:=λ(z:Z) (E:En L z)=>(by exists 1,"/EƖƖÀS1%żżƐ" 0:z.D 1 "Tally" (inClass (top 41) 3) (bh · (bJ 1 1 _)))
abbrev Qq:=fF Fv
def NK:=wG Fv
def Ez:=λ(z:Z) (E:En L z/\NK z)=>(by let#[E,p]:=E;exists 1,"-7ÝěRLŵDfŘĜRLŕ#+!=" (by apply λ_ _=>rfl):z.D 2 "Gate" (inClass (top 47) 21) (bh · (bJ 2 2 _)))
abbrev C6:=fF Ez
def Kq:=wG Ez
def JK:=λ(z:Z) (E:En L z)=>(by exists 1,"-7t1%«ŕÎŕ#+" 0:z.D 1 "Gate" (inClass (top 47) 20) (bh · (bJ 2 2 _)))
abbrev yp:=fF JK
def HU:=wG JK
def KJ:=λ(z:Z) (E:En L z/\Kq z/\HU z)=>(by let#[E,p,q]:=E;exists 1,"/e%ƆSŪ)?+0-EĝQ,Ŷ$Q,řş+**Þß%-³+F-7w" 0:z.D 3 "Gate" (inClass (top 47) 11) (bh · (bJ 1 2 _)))
abbrev xZ:=fF KJ
def A4:=wG KJ
def Ja:=λ(z:Z) (E:En L z/\Wm z/\agx z/\IL z/\Z2 z/\vB z/\Lv z/\ah9 z/\ags z/\Ol z/\N8 z/\A4 z)=>(by let#[E,p,q,u,v,y,g,h,j,l,m,a0]:=E;exists 1,"/:+X$D,'àá(âŨũŨťŨŦŨŠŨřŨŶ*0-7ĞÁLš+ÁL1%O$D,'ğã(äŨ'Ġå(æŨ'çè(éŨ'êë(ì#&*" 0:z.D 7 Str.empty (top 59) (bh · (bJ 1 2 _)))
abbrev S5:=fF Ja
def Uu:=wF Ja
def HJ:=λ(z:Z) (E:En L z/\qy z)=>(by let#[E,p]:=E;exists 1,"/:Bű0/Ej}Z#3§ÊƉŰj¤j}¥Ɖ§¥#+)¤j}¥Ɖ§Gſ;)¬j}GƉ§Gſ>)Ű¥ƉŰGƉƐ" 0:z.D 2 Str.empty (top 58) (bh · (bJ 5 6 _)))
abbrev ahl:=fF HJ
def aeF:=wF HJ
def Ga:=λ(z:Z) (E:En L z/\qy z)=>(by let#[E,p]:=E;exists 1,"/:;ËƏÏ1%ű?>ųBƑųkÌRL#3Ɖ0/EGŜT#+#>Ś)-:kŜT#+#>Ś0F/:]Ƒ0/EG#]#k-:]T#k)0F-¿;RL#BO$#B$#k$#]*-7!" (jK (M:=["_law_slot","_law_news"]) (js:=[none,some 3]) (iA rfl (by kernel_rfl)) rfl ("^»%š;" 0) (by decide) λs3 H3 fp=>#["ţ" 0,mU,"ƈ" 0]):z.D 2 Str.empty (top 55) (bh · (bJ 3 8 _)))
abbrev U4:=fF Ga
def WO:=wF Ga
def KG:=λ(z:Z) (E:En L z/\qy z/\WO z)=>(by let#[E,p,q]:=E;apply Z.oJ [2] ["_law_values"] (by walk_at "s") rfl (by decide) fun _ _ _ _ _ _ _ hr nd=>by apply "Ɨ>XƊEGű)-!F24ÂBġ>ű8Şş+$#3Ɗe%^ÃƉƇ?k0[?]0[?m0ª-¿3RL#k#m<íB" (BY 4 (hN:=nd) (M:=["_law_number","_law_script","_law_k"]) (js:=[none,some 0,some 1]) (iA rfl (by kernel_rfl)) rfl ("Ɔ#;)" 0) (by decide) λs3 H3 fp=>#["ţ" 0,"~GƔ$T#3²)#&Ś)" 0,ah 0]):z.D 3 Str.empty (top 56) (nW [2] · (ng [2] 4 9 _)))
abbrev QW:=fJ KG
def afI:=wJ KG
def GQ:=λ(z:Z) (E:En L z/\qy z)=>(by let#[E,p]:=E;exists 1,"/:;#3Ə^#+?>0-:;±T²#;)#>)ųBŜ±#;)Ś0/E¥#BT)ƃŰGƉƐ" 0:z.D 2 Str.empty (top 57) (bh · (bJ 3 6 _)))
abbrev adl:=fF GQ
def Ze:=wF GQ
def LQ:=λ(z:Z) (E:En L z/\afI z/\IL z/\qy z/\Ze z/\vB z/\Lv z)=>(by let#[E,p,q,u,v,y,g]:=E;apply Z.oJ [4,5] ["_law_record","_law_values"] (by walk_at "s") rfl (by decide) fun _ _ _ _ _ _ _ hr nd=>by apply "ŧ24Â]î!!5(@A6u&u+ÄBukï0<bƁÃ#])$t1%Ã#])$t1%Ã#])*JŧƗmD,ř#;0ƗiC#mū)$ſmƊ:­ĢRLÐ%#>#i)024ģ>RLÐ%#iT#­)<bƁ#i$ŝşi$#­**JŧƗ|«D,ť#;D,ũ#;0<bƁC#|ū)$ſ|**J<bO$#3*" [5] [none,none,some 5,none]:z.D 4 Str.empty (top 60) (nW [4,5] · (ng [4,5] 7 12 _)))
abbrev Zw:=fJ LQ
def ago:=wJ LQ
def EB:=λ(z:Z) (E:En L z)=>(by exists 1,"/EGƒ=-7Ɓƒ$t1%ƒ$t1%!*F-7tš&" (jK (M:=["edit"]) (js:=[none]) (iA rfl (by kernel_rfl)) rfl ("^ƒ" 0) (by decide) λs3 H3 fp=>#["ţ" 0,mU,"tš&" 0]):z.D 1 Str.empty (top 51) (bh · (bJ 1 1 _)))
abbrev aiX:=fF EB
def Ua:=wF EB
def GA:=λ(z:Z) (E:En L z/\Of z)=>(by let#[E,p]:=E;exists 2,"2KnZƔ$#3*ƀ4N&fś+24N&fś3<4N&f'.%X*" 0:z.D 3 "Tally" (inClass (top 41) 0) (dJ · (runM 3 3 _)))
abbrev Cy:=fO GA
def L_:=wI GA
def E9:=λ(z:Z) (E:En L z/\NK z)=>(by let#[E,p]:=E;exists 2,"2KĤ#+Þß%ƀK¡DfŶ=ƀ4¸&fś+<bDfŶ" 0:z.D 2 "Tally" (inClass (top 41) 1) (dJ · (runM 2 2 _)))
abbrev Vk:=fO E9
def U9:=wO E9
def Fy:=λ(z:Z) (E:En L z/\L_ z/\U9 z)=>(by let#[E,p,q]:=E;apply Z.oR (by walk_at "s") fun _ _ _ _ _ _ _ hr nd=>by apply "/Eð¹ŵ-ĥ%Ħ%ħ%ñ%$=*F/:;ÌRLŕ#+!0/Ñ>cq;fř$#3*0°" (xJ (jc E).ns p.M p.G hr.m (E.m rfl) p.b (ao (bO (a_ (aE E) (E.n rfl) (ah 0)) ay) (ao (bO (a_ (aE E) (E.n rfl) (ah 0)) ay) az))):z.DR 5 "Gate" (inClass (top 47) 3) (lJ · (lC 3 5 _)))
abbrev Gx:=fR Fy
def ahI:=wR Fy
def IZ:=λ(z:Z) (E:En L z/\ahI z)=>(by let#[E,p]:=E;apply Z.oR (by walk_at "s") fun _ _ _ _ _ _ _ hr nd=>by apply "/:3Ţ0ŬŬ/EG#3=-Ĩĩ,ŶƓFŬŬ°" 0:z.DR 6 Str.empty (top 50) (lJ · (lC 2 3 _)))
abbrev G4:=fR IZ
def aeQ:=wNR IZ
def EI:=λ(z:Z) (E:En L z/\Ua z/\aeQ z)=>(by let#[E,p,q]:=E;apply Z.oR (by walk_at "s") fun _ _ _ _ _ _ _ hr nd=>by apply "/:3Ɣ*0/Â;ĪŞƋ$#3*0°" 0:z.DR 7 "Book" (inClass (top 49) 1) (lJ · (lC 2 4 _)))
abbrev Lf:=fR EI
def ahT:=wR EI
def Gb:=λ(z:Z) (E:En L z/\ahT z)=>(by let#[E,p]:=E;exists 3,"Ɨ+Y024ī3!!Ĭ%ñ%0<í+" (λaf R=>(aI (aaF (Nd (eZ E) p.t p.G hr.m p.b (ah 0) (ao (eX (ao bT (ao (eX (ao ay az)) (ao bT az)))) az))))) (λa=>(aI (bC 1 (V7 (E.kt (c:="NoLook") rfl) (E.b rfl) (E.e rfl) (ah 2)) nd))):z.D 8 Str.empty (top 62) (lN · (runM 1 3 _)))
abbrev Tg:=fP Gb
def ae5:=wP Gb
def Ie:=λ(z:Z) (E:En L z)=>(by exists 1,"-7Ò%1%!" (jK (M:=["low","high"]) (js:=[none,none]) (iA rfl (by kernel_rfl)) rfl ("Ǝ" 0) (by decide) λs3 H3 fp=>#["Ƈţ[?+V%ª" 0,mU,"ĭ#&#+" 0]):z.D 1 Str.empty (top 13) (bh · (bJ 1 1 _)))
abbrev Z6:=fF Ie
def QK:=wF Ie
def HV:=λ(z:Z) (E:En L z/\xD z/\QK z)=>(by let#[E,p,q]:=E;exists 1,"/e%^#&Ƈ?+0[?30[?;0ª/Enj}ZƔŤ§ZŖ3ŤŸ-Ej¤nZŖ;Ť¬G#3#;Ÿ-78Ş!*" (jK (M:=["edit"]) (js:=[none]) (iA rfl (by kernel_rfl)) rfl (fQ (ah 0)) (by decide) λs3 H3 fp=>#["ţ" 0,mU,"ƒ" 0]):z.D 2 Str.empty (top 19) (bh · (bJ 1 4 _)))
abbrev ad8:=fF HV
def Z7:=wF HV
def Ia:=λ(z:Z) (E:En L z/\xD z/\QK z/\Jr z/\Z7 z)=>(by let#[E,p,q,u,v]:=E;exists 1,"/EnZƔŤŸ/Ej¤nZÒ%1%!¬nZ8Ş#3*Ÿ-7¦Įſ;z{%´Ƙ" (jK (M:=["lean","self"]) (js:=[none,some 0]) (iA rfl (by kernel_rfl)) rfl (fQ (ah 2)) (by decide) λs3 H3 fp=>#["ţ" 0,mU,"QWŠŭ" 0]):z.D 3 "Changes" (inClass (top 26) 11) (bh · (bJ 4 4 _)))
abbrev X8:=fF Ia
def We:=wG Ia
def JQ:=λ(z:Z) (E:En L z/\We z/\Ff z)=>(by let#[E,p,q]:=E;exists 2,"2KnZŮŻ;*ƀKÀDWŷz{%ƀ4¸&W'.%Oƍ$tš3$t1%!*<bDWŷ" (jK (M:=["edit"]) (js:=[none]) (iA rfl (by kernel_rfl)) rfl (fQ (ah 3)) (by decide) λs3 H3 fp=>#["ţ" 0,mU,"tš&" 0]):z.D 4 "Changes" (inClass (top 26) 1) (dJ · (runM 4 4 _)))
abbrev Ef:=fO JQ
def aad:=wO JQ
def HB:=λ(z:Z) (E:En L z/\Jo z)=>(by let#[E,p]:=E;exists 1,"-7a1%CŮ*)" 0:z.D 4 "Changes" (inClass (top 26) 4) (bh · (bJ 2 2 _)))
abbrev G9:=fF HB
def Rb:=wG HB
def FL:=λ(z:Z) (E:En L z/\vB z/\Rb z)=>(by let#[E,p,q]:=E;exists 2,"<4e%^D,Ŷ?+0/!-E÷#3-ƌś+ƁC#3)*F" (BY 2 (hN:=nd) (M:=["lean","self"]) (js:=[none,some 0]) (iA rfl (by kernel_rfl)) rfl ("^QWřŕƍ*" 0) (by decide) λs3 H3 fp=>#["ţ" 0,"~öRL#&9,ś+" 0,ah 0]):z.D 5 "Gate" (inClass (top 47) 24) (dJ · (runM 1 3 _)))
abbrev HQ:=fO FL
def aee:=wO FL
def Lb:=λ(z:Z) (E:En L z/\O5 z)=>(by let#[E,p]:=E;exists 1,"-7¾%1%Ŝ«aš+aš3*" 0:z.D 6 Str.empty (top 33) (bh · (bJ 3 3 _)))
abbrev agK:=fF Lb
def ahh:=wF Lb
def F8:=λ(z:Z) (E:En L z/\Jo z)=>(by let#[E,p]:=E;exists 1,"-7CŮ*)" 0:z.D 4 "Changes" (inClass (top 26) 3) (bh · (bJ 2 2 _)))
abbrev D3:=fF F8
def abU:=wG F8
def afo:SF:=(l7 (O2 0 (aj 1) (gX (au (e1 Bq (bK "Changes" "rank_of" D3 (aj 1) (au (aj 0) aB))) (au (aj 0) aB)))))
def Hr:=λ(z:Z) (E:En L z/\abU z)=>(by let#[E,p]:=E;intro f fd F;let#[oc,od,kV,doc,pm,an,cd0,ct,qP,rfl,lk,_]:=id F.ex;apply Se (N:=["changes","numbers"]) F #[rfl,rfl,rfl,by decide +kernel,rfl,by decide +kernel,by decide +kernel] λaQ A outer s H E' hr=>by apply(aI (aY (ajT (x:="number") (y:="changes") 0 (E.b rfl) (ah 1) #[rfl,rfl,rfl,by decide +kernel,rfl,rfl,by decide +kernel,λ_ _ _ _ _ _ _=>rfl] lk (congrArg (λc=>some (c,_,_)) aQ.2.symm) (aZ.depth (k:=0) (aZ.in1 (aZ.in1 hr.m))) (λf c' s H=>(eX (ao (ajg (fG (gj E) p.t p.G (aZ.deeper (aZ.in1 (aZ.in1 hr.m)) _) p.b (ah 1) (ao (ah 0) az))) (ao (ah 0) az))))))):z.D 8 Str.empty (top 32) (bh · (bJ 2 2 afo)))
abbrev PJ:=fF Hr
def ac6:=wF Hr
def I_:=λ(z:Z) (E:En L z/\E_ z/\Ds z)=>(by let#[E,p,q]:=E;exists 1,"-7įƔ$QWřş3**w" 0:z.D 5 Str.empty (top 34) (bh · (bJ 3 3 _)))
abbrev G3:=fF I_
def agH:=wF I_
def KD:=λ(z:Z) (E:En L z/\ac6 z/\agH z)=>(by let#[E,p,q]:=E;exists 1,"/e%^Ŝ#3*?;0-EZ8Şş+$#;*-³;F-7w" 0:z.D 9 Str.empty (top 31) (bh · (bJ 3 4 _)))
abbrev BZ:=fF KD
def ag2:=wF KD
def LN:=λ(z:Z) (E:En L z/\Rb z)=>(by let#[E,p]:=E;exists 1,"/:>¾%1%!0-7!" (jK (M:=["number"]) (js:=[none]) (iA rfl (by kernel_rfl)) rfl ("^«aš+aš3" 0) (by decide) λs3 H3 fp=>#["ţ" 0,mU,"O$#&$Y*" 0]) (jK (M:=["number","changes","here"]) (js:=[none,some 0,some 4]) (iA rfl (by kernel_rfl)) rfl (fQ (ah 3)) (by decide) λs3 H3 fp=>#["ţ" 0,"~ZÒ%1%!" (jK (M:=["lean","here"]) (js:=[none,some 2]) (aa9 (by decide +kernel)) rfl ("^QWŘŭ" 0) (by decide) λs3 H3 fp=>#["ţ" 0,mU,"İRL#&#+" 0]),ah 0]):z.D 5 Str.empty (top 29) (bh · (bJ 4 5 _)))
abbrev CQ:=fF LN
def My:=wF LN
def ED:=λ(z:Z) (E:En L z/\ahh z/\ag2 z/\My z/\Ds z)=>(by let#[E,p,q,u,v]:=E;exists 1,"/:Baš3ųkaš;ų]Ŝ#+$#3*0/øÓ¥ſB#>/:m8Şş]$ū#B$#k**0/EÈ#mw-³BF/ºB#m/ık#m-e%^QWŦşm*Ƈ?i0[?­0[?|0ª-¿]RL#i#|-³B" 0:z.D 10 Str.empty (top 30) (bh · (bJ 5 12 _)))
abbrev Fd:=fF ED
def ad9:=wF ED
def G7:=λ(z:Z) (E:En L z/\A4 z/\HU z/\Kq z)=>(by let#[E,p,q,u]:=E;exists 2,"2KĲ¹D,Ŷ)<bYJƗ+Q,ŷ$)Ɗƌ'.%Cŕ)ƁtŪƍ$Q,Šş+**Ŵ<bY" 0:z.D 4 "Gate" (inClass (top 47) 26) (dJ · (runM 1 2 _)))
abbrev OY:=fO G7
def Z0:=wO G7
def JA:=λ(z:Z) (E:En L z/\E_ z)=>(by let#[E,p]:=E;exists 1,"-7ů¾%1%ş+*" 0:z.D 2 Str.empty (top 17) (bh · (bJ 2 2 _)))
abbrev Rt:=fF JA
def aiS:=wF JA
def FO:=λ(z:Z) (E:En L z/\My z/\vB z/\Ol z/\aiS z/\Ds z)=>(by let#[E,p,q,u,v,y]:=E;exists 2,"2K÷ŕ<bYJƗ+ůŕ$ŕ$X*$D,ŷƊ:3D,Š#&024e%^#+?;0-ƌś;Ɓŝ#3$QWťŕ$#;***<bĳ¹#+X*" 0:z.D 7 "Gate" (inClass (top 47) 27) (dJ · (runM 1 4 _)))
abbrev JG:=fO FO
def aio:=wO FO
def K7:=λ(z:Z) (E:En L z/\A4 z/\ad9 z/\vB z/\Z0 z/\aio z)=>(by let#[E,p,q,u,v,y]:=E;exists 2,"2KÈD,Ŷw<ŗ8Şŕ$ŕ$ŕ$D,Š#&$Cŕ)*J<rĴd&,Ŧd&,ť" 0:z.D 11 "Gate" (inClass (top 47) 25) (dJ · (runM 1 1 _)))
abbrev mG:=fO K7
def Zu:=wO K7
def GH:=λ(z:Z) (E:En L z/\Kq z)=>(by let#[E,p]:=E;exists 1,"-7¦ĵ¹ŵ´ùQ,Řş+*=" 0:z.D 3 "Gate" (inClass (top 47) 29) (bh · (bJ 2 2 _)))
abbrev WA:=fF GH
def aan:=wG GH
def Ek:SF:=(ck (eO 1 (e2 c9 (aj 0) (eC (.int 0)))) (ck (eO 2 (aj 1)) (ck (jH (sA (aj 0) (e1 (oG (some 1) none) (aj 0))) (gT (fB (gN 3) (fB (gN 4) nZ))) (eW (tV (e2 Aj (e2 jY (aj 4) (aj 3)) (e2 jY (aj 2) (aj 1)))) (ck (eO 1 (aj 3)) (eO 2 (aj 4))) gm)) (l7 (e2 oDiv (e2 jz (aj 1) (aj 2)) (eC (.int 2)))))))
def E5:=λ(z:Z) (E:En L z)=>(by exists 1,"/:+ƒų3#+ƏƎƇ?;0[?>0ª-EÊ¨#>#;¨#3#+/:+#;0-:3#>0F-7ĶT#+#3)" 0:z.D 1 Str.empty (top 37) (bh · (bJ 1 5 Ek)))
abbrev yb:=fF E5
def ajU:=wF E5
def Ip:SF:=(ck (eO 4 (oY (tV (e2 jr (aj 1) (eC .aC))) (e2 jz (aj 0) (eC (.int 1))) (aj 1))) (ck (eO 5 (i0 [none,some 4] (gu (aj 2)) (gN 0) (tV (e2 oLt (aj 0) (aj 1))) (aj 0))) (ck (iT (tV (e2 oLt (e1 fX (aj 5)) (e2 yG (aj 3) (e2 jY (aj 4) (eC (.int 1)))))) (ck (eW (lR (tV (e2 jr (aj 1) (eC .aC))) (tV (e2 (jP true) (aj 0) (aj 5)))) (kM 5 (aj 0)) (kM 5 (cZ yb (au (e2 iw (e2 iw (iC (au (eC (.int 0)) aB)) (aj 5)) (iC (au (aj 4) aB))) aB)))) (eO 5 (e1 l_ (aj 5)))) 4000) (tQ 5))))
def Et:=λ(z:Z) (E:En L z/\ajU z)=>(by let#[E,p]:=E;exists 1,"/:>ÝÈ#+wT#&)#+0/!/øÓ¥ſBú%š;¨#>)/Ej}È#+w§ķ#&#B-ºB#&-ºBů««X$)*#BX$#>**-:B»%šB0-³B" (BY 5 (hN:=nd) (M:=["place","end"]) (js:=[none,some 4]) (iA rfl (by kernel_rfl)) rfl (fQ (ah 2)) (by decide) λs3 H3 fp=>#["ţ" 0,"~¥#&#+" 0,ah 0]):z.D 2 Str.empty (top 36) (bh · (bJ 4 6 Ip)))
abbrev Ew:=fF Et
def aaB:=wF Et
def IX:=λ(z:Z) (E:En L z/\aan z/\HU z/\aaB z/\A4 z)=>(by let#[E,p,q,u,v]:=E;exists 1,"/:+SŪ0/!-7!" (BY 2 (hN:=nd) (M:=["place","self"]) (js:=[none,some 0]) (iA rfl (by kernel_rfl)) rfl ("Ɔ#+)" 0) (by decide) λs3 H3 fp=>#["ţ" 0,"~ZQ,Ř#+$Q,řŭ*" 0,ah 0]) (jK (M:=["place","self"]) (js:=[none,some 0]) (iA rfl (by kernel_rfl)) rfl ("^8_(ÅÆ`ƍ$D,Ŧş3$Cŕ)*" 0) (by decide) λs3 H3 fp=>#["ţ" 0,mU,"Q,řŭ" 0]):z.D 4 "Gate" (inClass (top 47) 28) (bh · (bJ 1 3 _)))
abbrev Zp:=fF IX
def agD:=wG IX
def EN:=λ(z:Z) (E:En L z/\aee z/\Zu z/\agD z)=>(by let#[E,p,q,u]:=E;exists 2,"2ŽŘ24ĸÓûnZŕĹd&,ř-sd&,Ř<ŗD,Š#&" 0:z.D 12 "Gate" (inClass (top 47) 23) (dJ · (runM 1 1 _)))
abbrev sQ:=fO EN
def za:=wO EN
def J7:=λ(z:Z) (E:En L z/\aad z/\za z)=>(by let#[E,p,q]:=E;exists 2,"24Ñ>cĺ&,'.%WŘƍŻ;*02Žř<b#>" 0:z.D 13 "Gate" (inClass (top 47) 1) (dJ · (runM 4 5 _)))
abbrev Ay:=fO J7
def JX:=wO J7
def Gy:=λ(z:Z) (E:En L z/\Jr z/\za z)=>(by let#[E,p,q]:=E;exists 2,"2KnZQWŘŕƍ*ƀKj¤üŵ¬öRLŵƀKüŵ<ŗÎŕĻŕ#+J24ƌś+O$=*Ź<Žř" 0:z.D 13 "Gate" (inClass (top 47) 2) (dJ · (runM 2 2 _)))
abbrev xU:=fO Gy
def Pk:=wO Gy
def LO:=λ(z:Z) (E:En L z)=>(by exists 2,"2ŗļŕ¨ſ+SŪ2ŗaš+<4¸&,ś+" 0:z.D 1 "Gate" (inClass (top 47) 22) (dJ · (runM 2 2 _)))
abbrev uo:=fO LO
def acV:=wO LO
def JW:=λ(z:Z) (E:En L z/\U9 z/\L_ z/\acV z/\za z)=>(by let#[E,p,q,u,v]:=E;exists 2,"2Kð¹ŵ<vJĽRLÐ%,'.%fŘ!Ź2K¡#>=<4¸&,'.%Oƍ$#>*J2KG#>=<4scq&,Šƍ*J2ŽŦ<b#>0" (xJ (jc E).ns q.M q.G hr.m (E.m rfl) q.b (ao (bO (a_ (aE E) (E.n rfl) (ah 0)) ay) (ao (bO (a_ (aE E) (E.n rfl) (ah 0)) ay) az))):z.D 13 "Gate" (inClass (top 47) 3) (dJ · (runM 3 5 _)))
abbrev zK:=fO JW
def OA:=wO JW
def EC:=λ(z:Z) (E:En L z/\za z)=>(by let#[E,p]:=E;exists 2,"ƕYŹ<ŽŘ" 0:z.D 13 "Gate" (inClass (top 47) 4) (dJ · (runM 1 1 _)))
abbrev zI:=fO EC
def NQ:=wO EC
def KO:=λ(z:Z) (E:En L z/\za z)=>(by let#[E,p]:=E;exists 2,"2ŗY<ŽŘ" 0:z.D 13 "Gate" (inClass (top 47) 5) (dJ · (runM 1 1 _)))
abbrev zp:=fO KO
def Tt:=wO KO
def GZ:=λ(z:Z) (E:En L z/\JX z/\Pk z/\OA z/\NQ z/\Tt z)=>(by let#[E,p,q,u,v,y]:=E;exists 3,"Ɨ3Ţ0ŧŲŘ$ŢƓJŧŲř$Ţ*JŧŲŠƓJŧƙŦJŧƙťJ<v" 0:z.D 14 Str.empty (top 50) (lN · (runM 2 3 _)))
abbrev A0:=fP GZ
def Pp:=wP GZ
def Kw:=λ(z:Z) (E:En L z/\Ua z/\Pp z)=>(by let#[E,p,q]:=E;exists 2,"Ɨ3ƔƊÑ;cľƄŞ#3Ɗ¸&Pś3<b#;" 0:z.D 15 "Book" (inClass (top 49) 1) (dJ · (runM 2 4 _)))
abbrev IE:=fO Kw
def YE:=wO Kw
def Ho:=λ(z:Z) (E:En L z)=>(by exists 1,"-7S1%Ƌ" 0:z.D 1 "Book" (inClass (top 49) 3) (bh · (bJ 1 1 _)))
abbrev K3:=fF Ho
def A5:=wG Ho
def F0:=λ(z:Z) (E:En L z)=>(by exists 1,"-7ŕ" 0:z.D 1 "Gate" (inClass (top 47) 16) (bh · (bJ 1 1 _)))
abbrev Tq:=fF F0
def ahg:=wG F0
def IK:=λ(z:Z) (E:En L z/\xD z/\A5 z/\ahg z/\F6 z/\Pp z)=>(by let#[E,p,q,u,v,y]:=E;exists 1,"/EnZƔ$)$DPŷ*-ÍF/:3D,ŠƋų;!Ə^ÎƋ#+?>0-scÕ;x(ýþy$#>*-³;" (xJ (aE E).ns v.M v.G hr.m (E.m rfl) v.b (ao (bO (ah 2) ay) (ao (bO (ah 2) ay) (ao (bO (ah 2) ay) (ao (bO (ah 2) ay) az))))):z.D 15 "Book" (inClass (top 49) 4) (bh · (bJ 2 5 _)))
abbrev Ba:=fF IK
def Di:=wG IK
def Jj:=λ(z:Z) (E:En L z/\Di z/\A5 z)=>(by let#[E,p,q]:=E;exists 2,"24NƄQPŶ$¨DPŷ)*<4ĿƄ" 0:z.D 16 "Book" (inClass (top 49) 5) (dJ · (runM 1 1 _)))
abbrev Mn:=fO Jj
def aez:=wO Jj
def EE:=λ(z:Z) (E:En L z/\qy z/\ae5 z/\YE z/\Di z/\A5 z/\aez z)=>(by let#[E,p,q,u,v,y,g]:=E;apply Z.oJ [2] ["_law_book"] (by walk_at "s") rfl (by decide) fun _ _ _ _ _ _ _ hr nd=>by apply "ƗBű02ÖûGƉÿcÕ3H(opI*<bYJ2Kj¤GƉ¬GƉ24scq3PŠ$CX$Ɓ)$O*$O$O$)Ś**$O$=*$O$=**ű*24ŀQPŦ#3$DPť#3*<ÖŁd3Pũw<bYJJ2ÖłƂš><bYJ2KGƉ24sd3Pũ<rŃƂš>J<bY" 0:z.D 17 Str.empty (top 63) (nW [2] · (ng [2] 5 6 _)))
abbrev HS:=fJ EE
def ajs:=wJ EE
def ID:=λ(z:Z) (E:En L z/\JX z/\OA z/\Pk z/\NQ z/\Tt z)=>(by let#[E,p,q,u,v,y]:=E;exists 3,"2KGŢ=ŲŘ$Ţ$a1%Ţ$a1%źŲř$Ţ$źŲŠ$źƙŦJƙť" 0:z.D 14 Str.empty (top 61) (lN · (runM 2 2 _)))
abbrev CV:=fP ID
def WE:=wP ID
def GO:=λ(z:Z) (E:En L z)=>(by exists 1,"-7a1%Ƌ" 0:z.D 1 "Book" (inClass (top 49) 2) (bh · (bJ 1 1 _)))
abbrev ZG:=fF GO
def afE:=wG GO
def GX:=λ(z:Z) (E:En L z/\A5 z/\afE z/\Di z/\Uu z/\JX z)=>(by let#[E,p,q,u,v,y]:=E;exists 1,"/Ej¤¡ÁL1%DPŷÁLš+¬¡É1%DPŶÉ1%ſ+Ÿ/ńDPŷO$=*/:;QPŠ#&$ſ+*0/E¡ƘC#3ſ+Ÿ/scq;,ť$)$X*$X**-7Y" 0:z.D 16 Str.empty (top 64) (bh · (bJ 3 4 _)))
abbrev afa:=fF GX
def ad3:=wF GX
def o_law:=λ(z:Z) (E:En L z/\agV z/\ZE z/\F6 z/\Uu z/\aeF z/\vB z/\Lv z/\IL z/\N8 z/\ago z/\ajs z/\WE z/\qy z/\ad3 z/\Di z)=>(by let#[E,p,q,u,v,y,g,h,j,l,m,a0,a1,a2,a3,a4]:=E;exists 1,"/:+Ŝ)*ų3!ų;!ų>X*ųBÙųkËų]X$Ƙ*ųm)ƏÏ1%ú%1%)ſ&?ių­8x(ýþy$şi$D,'çè(é#;$D,'êë(ì#;$«D,ũ#;D,'àá(â#;*0/Â|î!!å(Ņņæu&uiu­u;ÄBÄkumïųmT#mŇ1%ù#­=0/ňÿŉŊ!!ã(ŋŌäu&uiÄ3u|ōcÕ;Ŏ(ŏŐő$#|*Ÿ/º>#|/º]Ƙ-Ej¤G±#i))¬GƚşiŚ)-EnZžŸF/e%Ï1%)?ių×ƚ#&$T)#i$)$Tſ>)*0-E¡ŝQP'Œœ(Ŕ#3$#×**C#]#×Ÿ-7ž" (xJ (eZ E).ns q.M q.G hr.m (E.m rfl) q.b (ao (bO (ah 1) ay) (ao (bO (ah 1) ay) (ao (bO (ah 1) ay) (ao (bO (ah 1) ay) az))))) (xJ (aE E).ns u.M u.G hr.m (E.m rfl) u.b (ao (bO (ah 1) ay) (ao (bO (ah 1) ay) (ao (bO (ah 1) ay) (ao (bO (ah 1) ay) az))))) [5,6] [none,none,none,none,some 5,some 6,none] [2] [none,none,some 2,none,none]:z.D 18 Str.empty (top 65) (bh · (bJ 1 13 _)))
abbrev yf:=fF o_law
end K93
namespace K93
open PySem L2 L2.Ev
abbrev sS(d:D):Slot:=some (d,.sh [])
abbrev sW(d:D):Slot:=some (d,.own)
def cI{Y:aL}{f:EF}{d:D}(h:f Y=sW d):l7 f Y=some (.rt d):=by rw[wD,h];rfl
def yY{v a b:Int}:mT [.int v,.int a,.int b]=some (.bl (decide (a<=v)&&decide (v<=b))):=by
 refine bY rfl (cI ?_);show(match some (D.bl (decide (a<=v))) with|some (.bl true)=>some (D.bl (decide (v<=b)),Tag.own)|some (.bl false)=>sW (.bl false)|_=>none)=_;cases decide (a<=v)<;>rfl
def iL(l:List Int):D:=.lst (l.map D.int)
abbrev Ed:=Int×Int×Int
def dT(p:Ed):D:=.tup [.int p.1,.int p.2.1,.int p.2.2]
def eL(E:List Ed):D:=.lst (E.map dT)
theorem AQ:∀E:List Ed,aK (E.map dT)=true
 |[]=>rfl
 |p::r=>by rw[aaG];unfold aK;rw[AQ r];rfl
theorem R_:∀bs:List Bool,ou (bs.map D.bl)=some bs
 |[]=>rfl
 |b::r=>by rw[aaG];unfold ou;rw[R_ r];rfl
def UT{bs:List Bool}:AY (.lst (bs.map D.bl))=some (.bl (bs.all id)):=by
 show(ou (bs.map D.bl)).map (λbs=>D.bl (bs.all id))=_;rw[R_];rfl
theorem pR{α β:Type}(f:α->β):∀l:List α,l.filterMap (λx=>some (f x))=l.map f
 |[]=>rfl
 |a::l=>by rw[adZ,aaG];show _::_=_;rw[pR f l]
abbrev g2:GF:=gT (fB (gN 0) (fB (gN 1) nZ))
def size_le{n:Nat}(h:n<=10000):n<sizeLine:=by unfold sizeLine;lia
def P7{k:Nat}(hk:k<=ds.length):cutD ds (some (k:Int)) none=ds.drop k:=by
 unfold cutD;rw[HT.Gp,HT.EZ,Nat.min_eq_left hk,List.take_of_length_le (by rw[List.length_drop];apply abD _)]
def KL{k:Nat}(hk:k<=ds.length):cutD ds none (some (k:Int))=ds.take k:=by
 unfold cutD;rw[HT.Gp,HT.EZ,Nat.min_eq_left hk];rfl
def afP{ds:List D}:cutD ds (some 1) none=ds.drop 1:=by
 cases ds with
 |nil=>rfl
 |cons a r=>apply P7 (by simp)
def qu:List Int->Bool
 |x::y::r=>decide (x<y)&&qu (y::r)
 |_=>true
theorem Mu:∀l:List Int,((l.zip (l.drop 1)).map λp=>decide (p.1<p.2)).all id=qu l
 |[]=>rfl
 |[_]=>rfl
 |x::y::r=>by
  have ih:=Mu (y::r);show(decide (x<y)&&(((y::r).zip ((y::r).drop 1)).map λp=>decide (p.1<p.2)).all id)=_;rw[ih];rfl
theorem G_:∀{l},l.Pairwise (· < ·)->qu l=true
 |[],_=>rfl
 |[_],_=>rfl
 |x::y::r,h=>by
  let#[h1,h2]:=agc.mp h;show(decide (x<y)&&qu (y::r))=true;rw[G_ h2,aaP (h1 y aav)];rfl
def Wf(w:List D->D):Prop:=w=.lst\/w=.tup
def Bj:Wf .lst:=.inl rfl
def KY:Wf .tup:=.inr rfl
def Wf.seq(hw:Wf w)(h:e Y=some (w ds,t)):gu e Y=some (ds,t):=by rcases hw with rfl|rfl<;>(unfold gu;rw[h])
def Wf.tup(hw:Wf w)(h:aK ds=true):nY (w ds)=some (.tup ds):=by rcases hw with rfl|rfl<;>apply if_pos h
def Wf.len(hw:Wf w):fX (w ds)=some (.int ds.length):=by rcases hw with rfl|rfl<;>rfl
def Wf.zip(hw:Wf w)(l:List Int):∃t,sA (aj 0) (e1 (oG (some 1) none) (aj 0)) [sS (w (l.map D.int))]=some (((l.zip (l.drop 1)).map λp=>D.tup [.int p.1,.int p.2]),t):=by
 have e:cutD (l.map D.int) (some 1) none=(l.drop 1).map D.int:=by rw[afP,List.map_drop]
 have q:∀w v:List D->D,oG (some 1) none (w (l.map D.int))=(if aK (l.map D.int)=true then some (v (cutD (l.map D.int) (some 1) none)) else none)->e1 (oG (some 1) none) (aj 0) [sS (w (l.map D.int))]=sW (v ((l.drop 1).map D.int)):=λw v h=>bB rfl (by rw[h,if_pos (dW l),e])
 have z:∀{α:Type} (x:α),(if(aK (l.map D.int)&&aK ((l.drop 1).map D.int))=true then some x else none)=some x:=λx=>if_pos (by rw[dW,dW];rfl)
 have m:((l.map D.int).zip ((l.drop 1).map D.int)).map (λp=>D.tup [p.1,p.2])=(l.zip (l.drop 1)).map λp=>D.tup [.int p.1,.int p.2]:=by rw[List.zip_map,adw];rfl
 unfold sA;rw[<- m];rcases hw with rfl|rfl
 .rw[q .lst .lst rfl];apply#[_,z _]
 .rw[q .tup .tup rfl];apply#[_,z _]
def OP{l:List Int}(hw:Wf w)(hl:l.length<=100):Z6 [w (l.map D.int)]=some (.bl (qu l)):=by
 let#[t,hz]:=hw.zip l;refine bY rfl (cI (bB (j_ (k:=λd=>match d with | .tup [.int a,.int b]=>some (.bl (decide (a < b))) | _=>none) hz (by rw[List.length_map,List.length_zip];apply size_le (by lia)) (λd m=>by
  let#[#[a,b],mi,rfl]:=ab8.mp m;apply sI rfl rfl (aM rfl rfl vV))) ?_))
 rw[aeC,<- Mu,<- UT,adw];apply congrArg (λz=>AY (.lst z)) (pR (λp:Int×Int=>D.bl (decide (p.1<p.2))) _)
def D9(hi:it Y=some (ds,.sh []))(h:dU g (.sh []) f ds Y=some (.nx Y')):jH it g f Y=some (.nx Y'):=yZ hi h
def YK(hi:it Y=some (ds,.sh []))(h:dU g (.sh []) f ds Y=some (.rt r)):jH it g f Y=some (.rt r):=VE hi h
def inR(v a b:Int):Bool:=decide (a<=v)&&decide (v<=b)
def qK(p:Ed):Bool:=inR p.1 0 999&&inR p.2.1 0 1000000000&&inR p.2.2 0 1000000000&&!(p.2.1==p.2.2)
def wC(E:List Ed):Bool:=E.all qK&&qu (E.map (·.1))
abbrev gE:GF:=gT (fB (gN 1) (fB (gN 2) (fB (gN 3) nZ)))
def bE:SF:=(ck (eW (lV (lR (tV (cZ mT (au (aj 1) (au (eC (.int 0)) (au (eC (.int 999)) aB))))) (tV (cZ mT (au (aj 2) (au (eC (.int 0)) (au (eC (.int 1000000000)) aB))))))) (l7 (eC (.bl false))) gm) (eW (sE (lV (tV (cZ mT (au (aj 3) (au (eC (.int 0)) (au (eC (.int 1000000000)) aB)))))) (tV (e2 oEq (aj 2) (aj 3)))) (l7 (eC (.bl false))) gm))
def zO(h:aj i Y=some (.int v,t)):tV (cZ mT (au (aj i) (au (eC (.int a)) (au (eC (.int b)) aB)))) Y=some (inR v a b):=
 cj (cP (ps:=[(.int v,t),(.int a,.own),(.int b,.own)]) (by rw[bq,h];rfl) yY)
def rE(L:D)(a b c:Int):aL:=[sS L,sW (.int a),sW (.int b),sW (.int c)]
def YT{L:D}{a b c:Int}:bE (rE L a b c)=some (if qK (a,b,c)=true then .nx (rE L a b c) else .rt (.bl false)):=by
 have w1:tV (cZ mT (au (aj 1) (au (eC (.int 0)) (au (eC (.int 999)) aB)))) (rE L a b c)=some (inR a 0 999):=zO rfl;have w2:tV (cZ mT (au (aj 2) (au (eC (.int 0)) (au (eC (.int 1000000000)) aB)))) (rE L a b c)=some (inR b 0 1000000000):=zO rfl;have w3:tV (cZ mT (au (aj 3) (au (eC (.int 0)) (au (eC (.int 1000000000)) aB)))) (rE L a b c)=some (inR c 0 1000000000):=zO rfl;have w4:tV (e2 oEq (aj 2) (aj 3)) (rE L a b c)=some (b==c):=rfl;have c1:=xq w1 w2;have c2:=vG (show lV (tV (cZ mT (au (aj 3) (au (eC (.int 0)) (au (eC (.int 1000000000)) aB))))) (rE L a b c)=some (!inR c 0 1000000000) by rw[Lx,w3];rfl) w4;unfold bE qK;rw[je,iH,Lx,c1];cases inR a 0 999<;>cases inR b 0 1000000000<;>try rfl
 show wg _ (gm _)=_;rw[Zo,pC,iH,c2];cases inR c 0 1000000000<;>cases(b==c)<;>rfl
theorem Np{L:D}:∀{E:List Ed} {s1 s2 s3},∃qN Hs yP,dU gE (.sh []) bE (E.map dT) [sS L,s1,s2,s3]=some (if E.all qK=true then .nx [sS L,qN,Hs,yP] else .rt (.bl false))
 |[],s1,s2,s3=>#[s1,s2,s3,rfl]
 |(a,b,c)::E,s1,s2,s3=>by
  let#[t1,t2,t3,ih]:=Np;refine#[t1,t2,t3,?_];rw[aaG];show(match bE (rE L a b c) with|some (.nx bA)=>dU gE (.sh []) bE (E.map dT) bA|some (.ct bA)=>dU gE (.sh []) bE (E.map dT) bA|some (.bk bA)=>some (.nx bA)|some (.rt r)=>some (.rt r)|some (.er raw cn bA)=>some (.er raw cn bA)|none=>none)=_;rw[YT,aj8];cases qK (a,b,c) with
  |true=>rw[if_pos rfl,Bool.true_and];apply ih
  |false=>rfl
def ja(h:sf Y=some (.rt d)):ck sf sg Y=some (.rt d):=by rw[je,h];rfl
def MH{js:List (Option Nat)}{it:IF}{g:GF}{te:EF}{Y:aL}{t:Tag}{l:List Int}{p:Int->Bool}(hi:it Y=some (l.map D.int,t))(hl:l.length<=10000)(h:∀x∈l,kQ g qp te (lI js Y) (.int x)=some (some (.bl (p x)))):
  e1 AY (i0 js it g qp te) Y=sW (.bl (l.all p)):=by
 have hc:=j_ (k:=λd=>match d with | .int x=>some (.bl (p x)) | _=>none) hi (by rw[List.length_map];apply size_le hl) (λd m=>by
  let#[x,mx,rfl]:=ab8.mp m;apply h x mx)
 rw[yQ,hc,Qp,aeC];have e:l.filterMap ((λd=>match d with|D.int x=>some (D.bl (p x))|_=>none) ∘ D.int)=(l.map p).map D.bl:=by
  rw[adw];apply pR (λx=>D.bl (p x)) _
 rw[e,UT,aj6];rfl
def f_are{E:List Ed}(hw:Wf w)(hl:E.length<=100):ad8 [w (E.map dT)]=some (.bl (wC E)):=by
 let#[t1,t2,t3,vm]:=Np;refine bY rfl ?_;unfold wC;cases ha:E.all qK with
 |false=>
  rw[ha] at vm;apply ja (YK (hw.seq rfl) vm)
 |true=>
  rw[ha] at vm;refine sq (D9 (hw.seq rfl) vm) (cI (cP (ps:=[(iL (E.map λp:Ed=>p.1),.own)]) ?_ (OP Bj (by rw[List.length_map];apply hl))));rw[bq,j_ (k:=λd=>match d with | .tup [.int a,.int _,.int _]=>some (.int a) | _=>none) (hw.seq rfl) (by rw[List.length_map];apply size_le (by lia)) (λd m=>by
   let#[#[a,b,c],mi,rfl]:=ab8.mp m;apply sI rfl rfl rfl),aeC]
  unfold iL;rw[adw,show E.filterMap ((λd=>match d with|D.tup [.int a,.int _,.int _]=>some (D.int a)|_=>none) ∘ dT)=E.map (D.int ∘ (·.1)) from pR (λp:Ed=>D.int p.1) _];rfl
abbrev Ch:=Int×List Int×List Ed
def ent(c:Ch):D:=.tup [.int c.1,.tup (c.2.1.map D.int),.tup (c.2.2.map dT)]
def obj(C:List Ch):D:=.ins "Changes" [("entries",.lst (C.map ent))]
def Eu(c:Ch):aA (ent c)=true:=by
 unfold ent;show aK [.int c.1,.tup (c.2.1.map D.int),.tup (c.2.2.map dT)]=true;unfold aK;unfold aK;unfold aK;unfold aK;show(aA (.int c.1)&&(aK (c.2.1.map D.int)&&(aK (c.2.2.map dT)&&true)))=true;rw[dW,AQ];rfl
theorem Ng:∀C:List Ch,aK (C.map ent)=true
 |[]=>rfl
 |c::r=>by rw[aaG];unfold aK;rw[Ng r,Eu];rfl
def mh{Y:aL}{cn m:Str}{F:List D->Option D}{fo:EF}{g:AF}{es:List (Str×D)}{t:Tag}{ps:List (D×Tag)}{d:D}(h:fo Y=some (.ins cn es,t))(hm:es.lookup m=none)(hg:g Y=some ps)(hF:F (.ins cn es::ps.map (·.1))=some d):
  bK cn m F fo g Y=sW d:=by
 unfold bK;rw[h];dsimp only;rw[if_pos #[rfl,hm],hg,acG,hF];rfl
def BI(h:(mm==("entries":Str))=false):([("entries",d)]:List (Str×D)).lookup mm=none:=by simp only[List.lookup,h]
def UI(C:List Ch):Kg [obj C]=some (.int C.length):=bY rfl (cI (bB rfl (by rw[qD,List.length_map])))
def Ij{C:List Ch}{Y:aL}{t:Tag}{i:Nat}(h:aj i Y=some (obj C,t)):bK "Changes" "many" Kg (aj i) aB Y=sW (.int C.length):=
 mh h (BI (by decide)) wZ (UI C)
def nV{C:List Ch}{Y:aL}{t t2:Tag}{i:Nat}{mm:Str}{F:List D->Option D}{fa:EF}{x d:D}(h:aj i Y=some (obj C,t))(ha:fa Y=some (x,t2))(hF:F [obj C,x]=some d)(hm:(mm==("entries":Str))=false:=by decide):
  bK "Changes" mm F (aj i) (au fa aB) Y=sW d:=
 mh (ps:=[(x,t2)]) h (BI hm) (by rw[bq,ha,wZ,A1]) hF
def FQ(C:List Ch)(m:Int):KA [obj C,.int m]=some (.bl (inR m 1 C.length)):=
 bY rfl (cI (cP (ps:=[(.int m,.sh []),(.int 1,.own),(.int C.length,.own)]) (by rw[bq,bq,bq,Ij rfl];rfl) yY))
def nM(n:Nat)(r:Int)(l:List Int)(E:List Ed):Bool:=inR r 0 9&&(l.all (λx=>inR x 1 n)&&qu l)&&(decide ((E.length:Int)<=20)&&wC E)
def zM{fa fb:EF}{Y:aL}{b c:Bool}{t:Tag}(h1:fa Y=some (.bl b,t))(h2:fb Y=sW (.bl c)):zE fa fb Y=sW (.bl (b&&c)):=by
 rw[ahZ,h1];ext b
 .rfl
 .exact h2
def ahX{w v:List D->D}(hw:Wf w)(hv:Wf v){C:List Ch}{r:Int}{l:List Int}{E:List Ed}(hl:l.length<=100)(hE:E.length<=100):X8 [obj C,.int r,w (l.map D.int),v (E.map dT)]=some (.bl (nM C.length r l E)):=by
 have q1:=kN (zO (Y:=[sS (obj C),sS (.int r),sS (w (l.map D.int)),sS (v (E.map dT))]) (i:=1) (a:=0) (b:=9) rfl);have q2:=vG (kN (cj (MH (js:=[none,some 0]) (it:=gu (aj 2)) (g:=gN 0) (te:=bK "Changes" "has" KA (aj 1) (au (aj 0) aB)) (Y:=[sS (obj C),sS (.int r),sS (w (l.map D.int)),sS (v (E.map dT))]) (hw.seq rfl) (by lia) (λx mx=>sI rfl rfl (nV rfl rfl (FQ C x)))))) (kN (cj (cP (g:=au (aj 2) aB) rfl (OP hw hl))));refine bY rfl ?_;unfold nM;cases h0:inR r 0 9 with
 |false=>rw[h0] at q1;apply pP q1 (ja rfl)
 |true=>
  rw[h0] at q1;refine b_ q1 ?_;cases h1:l.all λx=>inR x 1 C.length with
  |false=>rw[h1] at q2;apply pP q2 (ja rfl)
  |true=>
   cases h2:qu l with
   |false=>rw[h1,h2] at q2;apply pP q2 (ja rfl)
   |true=>
    rw[h1,h2] at q2;apply b_ q2 (cI (zM (c:=wC E) (aM (bB rfl (by rw[hv.len,List.length_map])) rfl afp) (cP rfl (f_are hv hE))))
def xW{i:Nat}{cn f:Str}{fv:EF}{Y:aL}{d:D}{t:Tag}{es:List (Str×D)}{ds:List D}(h1:fv Y=some (d,t))(h2:Y[i]? = some (sW (.ins cn es)))(hl:es.lookup f=some (.lst ds))(hc:(aA d&&aK ds&&decide (ds.length<sizeLine))=true):
  JU i cn f fv Y=some (.nx (bU Y i (.ins cn (eK f (.lst (ds++[d])) es)))):=by
 unfold JU;rw[h1,h2,acG];show((if cn=cn then some es else none).bind _)=_;rw[if_pos rfl,acG,hl];apply if_pos hc
def gQ(h:f Y=some (.nx Y')):jE f Y=some (.nx Y'):=by unfold jE;rw[h]
def jZ(hl:ds.length+1=n)(h:b (yc N d0 ds)=some (.rt (.tup [r,d1]))):runM n N b d0 ds=some (r,d1):=by unfold runM;rw[if_pos hl,h]
def WG{w v:List D->D}(hw:Wf w)(hv:Wf v){C:List Ch}{r:Int}{l:List Int}{E:List Ed}(hl:l.length<=100)(hE:E.length<=100)(hm:nM C.length r l E=true)(hC:C.length<60):Ef (obj C) [.int r,w (l.map D.int),v (E.map dT)]=some (.int (C.length+1),obj (C++[(r,l,E)])):=by
 refine jZ rfl ?_;refine b_ (kN (b:=true) (cj (mh rfl (BI (by decide)) rfl ((ahX hw hv hl hE).trans (by rw[hm]))))) ?_;refine b_ (cj (aM (Ij rfl) rfl (by rw[ajH,acp (by lia)]))) ?_;refine sq (Y':=[sW (obj (C++[(r,l,E)])),sS (.int r),sS (w (l.map D.int)),sS (v (E.map dT))]) ((gQ (xW (d:=ent (r,l,E)) (t:=.sh []) ?_ rfl rfl (by rw[Eu,Ng,aaP (by rw[List.length_map];apply size_le (by lia))];rfl))).trans ?_) ?_
 .rw[nS,bq,bq,bq,bB rfl (hw.tup (dW l)),bB (d:=eL E) (t:=.own) ?_ (if_pos (AQ E))]
  .rfl
  .refine(j_ (hv.seq rfl) (by rw[List.length_map];apply size_le (by lia)) (λd m=>by
    let#[#[a,b,c],mx,rfl]:=ab8.mp m;apply sI rfl rfl rfl)).trans ?_
   rw[pR (λd:D=>d),List.map_id'];rfl
 .unfold obj;rw[adk];rfl
 .show lZ _ _ _=_;unfold lZ;rw[Ij rfl,abV];rfl
def pZ{i:Int}(h1:-1000<=i)(h2:i<=1000):small i=true:=by
 unfold small;rw[aaP (show -(2 ^ 62)<=i by lia),aaP (show i<2 ^ 62 by lia)];rfl
def dH(a:Int)(n:Nat):List Int:=(List.range n).map λi:Nat=>a+(i:Int)
def gK{a x:Int}{n:Nat}:x∈dH a n↔a<=x/\x<a+n:=by
 unfold dH;rw[ab8];constructor
 .rintro⟨i,m,rfl⟩
  have:=akl.mp m
  lia
 .intro h;apply#[(x-a).toNat,akl.mpr (by lia),by lia]
def UP(a:Int)(n:Nat):(dH a n).Pairwise (· < ·):=by
 unfold dH;rw[ajw];apply List.pairwise_lt_range.imp (λh=>by lia)
def B3(h:f Y=some (.int i,t))(h2:g Y=some (.int j,t2))(hi:small i=true)(hj:small j=true):rO f g Y=some ((dH i (j-i).toNat).map D.int,.own):=by
 unfold rO;rw[h,h2];dsimp only;rw[if_pos (by rw[hi,hj];rfl)];unfold dH;rw[adw];rfl
theorem dR(p:Int->Bool)(f:Int->Int):∀l:List Int,l.filterMap (λx=>if p x=true then some (D.int (f x)) else none)=((l.filter p).map f).map D.int
 |[]=>rfl
 |a::r=>by
  rw[adZ]
  by_cases hp:p a=true
  .rw[aiB hp,if_pos hp,dR p f r];rfl
  .rw[aiH hp,abM hp,dR p f r]
def acD{js:List (Option Nat)}{it:IF}{g:GF}{tt:TF}{te:EF}{Y:aL}{t:Tag}{l:List Int}{p:Int->Bool}{f:Int->Int}(hi:it Y=some (l.map D.int,t))(hl:l.length<=10000)(h:∀x∈l,kQ g tt te (lI js Y) (.int x)=some (if p x=true then some (.int (f x)) else none)):
  i0 js it g tt te Y=sW (iL ((l.filter p).map f)):=by
 have hc:=j_ (k:=λd=>match d with | .int x=>if p x=true then some (.int (f x)) else none | _=>none) hi (by rw[List.length_map];apply size_le hl) (λd m=>by
  let#[x,mx,rfl]:=ab8.mp m;apply h x mx)
 rw[hc]
 congr 3
 clear hc h hi hl;rw[aeC];apply dR p f l
def lean(L:List (List Int))(m:Int):List Int:=if 1<=m then(L[(m-1).toNat]?).getD [] else[]
abbrev sec(C:List Ch):List (List Int):=C.map (·.2.1)
def ajQ{α:Type}{f:α->D}{L:List α}{m:Int}{l:α}(h1:1<=m)(h2:m<=L.length)(h:L[(m-1).toNat]? = some l):dM (L.map f) (m-1)=some (f l):=by
 unfold dM kh;rw[List.length_map];rw[if_pos (by omega),if_pos (by omega),acG,acy,h];rfl
def ch(L:List Ch)(m:Int):Ch:=(L[(m-1).toNat]?).getD (0,[],[])
def YM{L:List Ch}{m:Int}(h1:1<=m)(h2:m<=L.length):L[(m-1).toNat]? = some (ch L m):=by
 unfold ch;rw[aa1 (by lia)];rfl
def wY{L:List Ch}{m:Int}(h1:1<=m)(h2:m<=L.length):(ch L m).2.1=lean (sec L) m:=by
 unfold ch lean sec;rw[if_pos h1,acy,aa1 (by lia)];rfl
def IP{L:List Ch}{m:Int}(h1:1<=m)(h2:m<=L.length):X6 [obj L,.int m]=some (ent (ch L m)):=
 bY rfl (b_ (kN (b:=true) (cj (nV rfl rfl ((FQ L m).trans (by unfold inR;rw[aaP h1,aaP h2];rfl))))) (cI (aM rfl rfl (qT (ajQ h1 h2 (YM h1 h2)) (Eu _)))))
def Ou{L:List Ch}{m:Int}(h1:1<=m)(h2:m<=L.length):G9 [obj L,.int m]=some (iL (lean (sec L) m)):=
 bY rfl (cI (bB (aM (nV rfl rfl (IP h1 h2)) rfl (if_pos (show aA (D.tup _)=true by simp only[aA,dW]))) (by rw[U3,wY h1 h2];rfl)))
def cX(L:List Ch)(m:Int):List Ed:=(ch L m).2.2
def Dh{L:List Ch}{m:Int}(h1:1<=m)(h2:m<=L.length):BF [obj L,.int m]=some (eL (cX L m)):=
 bY rfl (cI (bB (aM (nV rfl rfl (IP h1 h2)) rfl (if_pos (show aA (D.tup _)=true from AQ _))) (if_pos (AQ _))))
def Lp{e:EF}{Y:aL}{n:Nat}{t:Tag}(h:e Y=some (.int n,t))(hs:n<=1000):Am e Y=some ((dH 0 n).map D.int,.own):=by
 rw[YZ h (pZ (by lia) (by lia)),akf];unfold dH;rw[adw];rfl
def LK{l:List Int}:l.any (· == m)=decide (m∈l):=by
 by_cases h:m∈l
 .rw[aaP h];apply adX.mpr #[m,h,by simp]
 .rw[acp h,agJ];intro e;let#[y,my,ey]:=adX.mp e;apply h (by rw[<- (ahb.mp ey)];apply my)
def xP:x∈dh l↔x∈l:=(tS l).mem_iff
structure HN(E:List Ed)(n:Nat):Prop where
 so:(E.map (·.1)).Pairwise (·<=·)
 ln:E.length<=n
def Fg(h:n<4096):n<sizeLine:=by unfold sizeLine;lia
theorem sL:∀ps:List (Int×Int×Int),aK (ps.map dT)=true
 |[]=>rfl
 |p::r=>by rw[aaG];unfold aK;rw[sL r];rfl
def rP(es:List (Int×Int))(p:Int×Int×Int):Bool:=!((bX es p.1).getD 0==p.2.1)
def bad(es:List (Int×Int))(E:List (Int×Int×Int)):List Int:=(E.filter (rP es)).map (·.1)
def t_:List Int->D
 |[]=>.aC
 |x::_=>.int x
def aaE:∀{x} {l},(x::l).Pairwise (·<=·)->kT (x::l)=x
 |x,l,h=>by
  let#[h1,h2]:=Eh (l:=x::l) (by simp);have h3:=h2 x aav;rcases aaO.mp h1 with e|m
  .exact e
  .have:=(agc.mp h).1 _ m;lia
def kW(es:List (Int×Int)):D->Option D
 |.tup [.int a,.int b,.int c]=>if rP es (a,b,c)=true then some (.int a) else none
 |_=>none
def V2:∀p,kW es (dT p)=if rP es p=true then some (D.int p.1) else none
 |(_,_,_)=>rfl
def Gn(hE:HN E n)(hn:n<64)(w:List D->D)(hw:gu (aj 1) [some (bS es,.sh []),some (w (E.map dT),.sh [])]=some (E.map dT,.sh [])):Gc [bS es,w (E.map dT)]=some (t_ (bad es E)):=by
 have hc:=j_ (js:=[none,none,none,some 0]) (g:=gT (fB (gN 0) (fB (gN 1) (fB (gN 2) nZ)))) (tt:=tV (e2 kY (e3 uP (aj 3) (aj 0) (eC (.int 0))) (aj 1))) (te:=aj 0) (k:=kW es) hw (by rw[List.length_map];apply Fg (by have:=hE.ln;lia)) (λd m=>by
  let#[#[a,b,c],mi,rfl]:=ab8.mp m;show _=some (if rP es (a,b,c)=true then some (D.int a) else none);have ht:(tV (e2 kY (e3 uP (aj 3) (aj 0) (eC (.int 0))) (aj 1))) [some (.int a,.own),some (.int b,.own),some (.int c,.own),some (bS es,.sh [])]=some (rP es (a,b,c)):=by
   rw[zG,kG,KC];show Ev.kV (k2 kY ((uP (bS es) (.int a) (.int 0)).map _) _)=_;rw[Sz];rfl
  by_cases h:rP es (a,b,c)=true
  .rw[if_pos h];apply uw (aO:=[some (.int a,.own),some (.int b,.own),some (.int c,.own),some (bS es,.sh [])]) rfl (by rw[ht,h]) rfl rfl
  .rw[abM h];apply C9 (aO:=[some (.int a,.own),some (.int b,.own),some (.int c,.own),some (bS es,.sh [])]) rfl (by rw[ht,agJ.mpr h]))
 have hb:(E.map dT).filterMap (kW es)=(bad es E).map D.int:=by
  clear hc hw hE;unfold bad
  induction E with
  |nil=>rfl
  |cons p r ih=>
   rw[aaG,adZ,ajW,V2]
   by_cases h:rP es p=true
   .rw[if_pos h,if_pos h];dsimp only;rw[ih];rfl
   .rw[abM h,abM h];apply ih
 rw[hb] at hc;have hs:(bad es E).Pairwise (·<=·):=by
  unfold bad;have:=hE.so;rw[ajw] at this ⊢;apply this.filter _
 refine bY rfl (cI (aM hc rfl ?_));show(match eV ((bad es E).map D.int) with|some []=>if aA .aC=true then some D.aC else none|some (n::r)=>some (D.int (kT (n::r)))|none=>none)=_;rw[xA];cases e:bad es E with
 |nil=>rfl
 |cons x l=>
  dsimp only;rw[aaE (by rw[<- e];apply hs)];rfl
def sF(es:List (Int×Int)):List Int:=(dh (es.map (·.1))).filter λk=>!((bX es k).getD 0==0)
def nz(es:List (Int×Int)):List (Int×Int):=(sF es).map λk=>(k,(bX es k).getD 0)
def kS(es:List (Int×Int)):D->Option D
 |.int i=>if(!((bX es i).getD 0==0))=true then some (dP (i,(bX es i).getD 0)) else none
 |_=>none
def adT(hl:es.length<64):Y9 [bS es]=some (.lst ((nz es).map dP)):=by
 have hs:(e1 l_ (aj 0)) [sS (bS es)]=sW (.lst ((dh (es.map (·.1))).map D.int)):=by
  rw[yQ];show(l_ (bS es)).map _=_;rw[afG (by omega)];rfl
 have hc:=j_ (js:=[none,some 0]) (g:=gN 0) (tt:=tV (e2 kY (e2 m5 (aj 1) (aj 0)) (eC (.int 0)))) (te:=gX (au (aj 0) (au (e2 m5 (aj 1) (aj 0)) aB))) (k:=kS es)
   (j8 hs) (by rw[List.length_map,uK,List.length_map];apply Fg (by omega)) (λd m=>by
  let#[i,mi,rfl]:=ab8.mp m;let#[w,hw]:=uu.mpr (xP.mp mi);have hg:=ajJ hw;show _=some (if(!((bX es i).getD 0==0))=true then some (dP (i,(bX es i).getD 0)) else none);have ht:(tV (e2 kY (e2 m5 (aj 1) (aj 0)) (eC (.int 0)))) [sS (.int i),sS (bS es)]=some (!((bX es i).getD 0==0)):=by
   rw[zG,kG,kG];show Ev.kV (k2 kY ((m5 (bS es) (.int i)).map _) _)=_;rw[hg,hw];rfl
  by_cases h:(!((bX es i).getD 0==0))=true
  .rw[if_pos h];refine uw (aO:=[sS (.int i),sS (bS es)]) (tg:=.sh []) rfl (by rw[ht,h]) ?_ rfl;rw[nS,bq,bq,kG];show Option.map _ (mW _ (mW ((m5 (bS es) (.int i)).map _) _))=_;rw[hg,hw];rfl
  .rw[abM h];apply C9 (aO:=[sS (.int i),sS (bS es)]) rfl (by rw[ht,agJ.mpr h]))
 refine(bY rfl (cI hc)).trans ?_
 congr 2
 unfold nz sF;generalize dh (es.map (·.1))=l;clear hs hc
 induction l with
 |nil=>rfl
 |cons x r ih=>
  rw[aaG,adZ,ajW]
  by_cases h:(!((bX es x).getD 0==0))=true
  .rw[if_pos h,show kS es (.int x)=some (dP (x,(bX es x).getD 0)) from if_pos h];dsimp only;rw[ih];rfl
  .rw[abM h,show kS es (.int x)=none from abM h];apply ih
def dZ(es:List (Int×Int))(E:List (Int×Int×Int)):List (Int×Int):=E.foldl (λm p=>g9 m p.1 p.2.2) es
theorem Nu:∀(E) (es),(es.map (·.1)).Nodup->((dZ es E).map (·.1)).Nodup
 |[],_,h=>h
 |p::r,es,h=>Nu r _ (OX h)
theorem yR:∀(E) (es) (k),(E.map (·.1)).Nodup->(∀p∈E,p.1=k->bX (dZ es E) k=some p.2.2)/\(k∉E.map (·.1)->bX (dZ es E) k=bX es k)
 |[],es,k,_=>#[λp m=>(nomatch m),λ_=>rfl]
 |q::r,es,k,h=>by
  let#[h1,h2]:=acw.mp h;let#[a,b]:=yR r (g9 es q.1 q.2.2) k h2;refine#[λp m e=>?_,λm=>?_]
  .rcases aaO.mp m with rfl|m
   .show bX (dZ (g9 es p.1 p.2.2) r) k=_;rw[b (by rw[<- e];apply h1),D5,if_pos e.symm]
   .exact a p m e
  .show bX (dZ (g9 es q.1 q.2.2) r) k=_;rw[aaG] at m;rw[b λx=>m (aar _ x),D5,abM λx=>m (by rw[x];apply aav)]
abbrev iX:=List (Int×Int)
theorem B8(S:iX->Slot->Slot->Slot->aL)(hg:∀v x y z (p:Ed),g (dT p) t (S v x y z)=some (S v (sW (.int p.1)) (sW (.int p.2.1)) (sW (.int p.2.2))))(hf:∀v (p:Ed),v.length<sizeLine->f (S v (sW (.int p.1)) (sW (.int p.2.1)) (sW (.int p.2.2)))=some (.nx (S (g9 v p.1 p.2.2) (sW (.int p.1)) (sW (.int p.2.1)) (sW (.int p.2.2))))):
  ∀{E} {v} {x y z},v.length+E.length<4096->∃x' y' z',dU g t f (E.map dT) (S v x y z)=some (.nx (S (dZ v E) x' y' z'))
 |[],_,x,y,z,_=>#[x,y,z,rfl]
 |p::E,v,x,y,z,hl=>by
  rw[acv] at hl;let#[x',y',z',ih]:=B8 S hg hf (E:=E) (v:=g9 v p.1 p.2.2) (by have:=Y0 (es:=v) (k:=p.1) (v:=p.2.2);lia);apply#[x',y',z',(nq (hg ..) (hf _ _ (Fg (by lia)))).trans ih]
def yW(S L:D)(es:List (Int×Int))(s3 s4 s5 s6 s7:Slot):aL:=[sS S,sS L,sW (bS es),s3,s4,s5,s6,s7]
abbrev Qu:GF:=gT (fB (gN 5) (fB (gN 6) (fB (gN 7) nZ)))
abbrev Vy:SF:=sM 2 (aj 5) (aj 7)
def TU:k∈sF es↔(bX es k).getD 0≠0:=by
 unfold sF;rw[adF];refine#[λh=>by simpa using h.2,λh=>#[xP.mpr (uu.mp ?_),by simpa using h]];cases e:bX es k with
 |none=>rw[e] at h;apply absurd rfl h
 |some v=>apply#[v,rfl]
def PZ(h:(es.map (·.1)).Nodup):(sF es).Nodup:=((tS _).nodup_iff.mpr h).sublist aiQ
def MB:(nz es).map (·.1)=sF es:=by
 unfold nz;rw[adw];apply List.map_id' _
theorem Ld(f:Int->Int)(k:Int):∀l:List Int,bX (l.map λk=>(k,f k)) k=if k∈l then some (f k) else none
 |[]=>rfl
 |x::r=>by
  have ih:=Ld f k r;rw[aaG];unfold bX at ih ⊢;rw[adx]
  by_cases hx:x=k
  .rw[aaP hx,if_pos (by rw[hx];apply aav),hx];rfl
  .rw[acp hx];dsimp only;rw[ih];have:(k∈x::r)↔k∈r:=#[λm=>(aaO.mp m).elim (λe=>absurd e.symm hx) id,aar _]
   simp only[this]
def ZI(k:Int):(bX (nz es) k).getD 0=(bX es k).getD 0:=by
 unfold nz;rw[Ld]
 by_cases h:k∈sF es
 .rw[if_pos h];rfl
 .rw[abM h];have:=mt TU.mpr h;simp only[ne_eq,Decidable.not_not] at this;rw[this];rfl
def Nb(h:(es.map (·.1)).Nodup)(k:Int):(bX (kc (nz es)) k).getD 0=(bX es k).getD 0:=by
 rw[UO (by rw[MB];apply PZ h),ZI]
def YY(ps:List (Int×Int)):((kc ps).map (·.1)).Nodup:=by
 have go:∀(ps m:List (Int×Int)),(m.map (·.1)).Nodup->((ps.foldl (λm p=>g9 m p.1 p.2) m).map (·.1)).Nodup:=by
  intro ps
  induction ps with
  |nil=>intro m h;apply h
  |cons p r ih=>intro m h;apply ih _ (OX h)
 apply go ps [] acE
def ait(es:List (Int×Int)):(nz es).length<=es.length:=by
 unfold nz sF;rw[List.length_map];apply ada (aeY _ _) (by rw[uK,List.length_map];apply abD _)
theorem sub_len[DecidableEq α]:∀{l m:List α},l.Nodup->(∀x∈l,x∈m)->l.length<=m.length
 |[],m,_,_=>acP _
 |a::l,m,h,s=>by
  let#[ha,hl]:=acw.mp h;have ma:=s a aav;have:=sub_len (m:=m.erase a) hl λx mx=>(List.mem_erase_of_ne λe=>ha (by rw[<- e];apply mx)).mpr (s x (aar _ mx))
  rw[List.length_erase_of_mem ma] at this;have:=List.length_pos_of_mem ma;rw[acv];omega
def afL(h:k∈(g9 es a c).map (·.1)):k=a\/k∈es.map (·.1):=by
 let#[w,e]:=uu.mpr h;rw[D5] at e
 split at e
 .rename_i q;apply .inl q
 .exact .inr (uu.mp #[w,e])
theorem Pr{S:List Int}:∀{E} {es},(∀p∈E,p.1∈S)->(∀k∈es.map (·.1),k∈S)->∀k∈(dZ es E).map (·.1),k∈S
 |[],es,_,h=>h
 |p::E,es,hE,h=>Pr (es:=g9 es p.1 p.2.2) (λq m=>hE q (aar _ m)) λk m=>(afL m).elim (λe=>by rw[e];apply hE p aav) (h k)
def fW:iX->List (List Ed)->Option iX
 |v,[]=>some v
 |v,E::r=>if bad v E=[] then fW (dZ v E) r else none
structure Kb(Sl:List Int)(v:iX):Prop where
 sl:Sl.length<=63
 nd:(v.map (·.1)).Nodup
 ks:∀k∈v.map (·.1),k∈Sl
def Kb.len{v:iX}(h:Kb Sl v):v.length<=63:=by
 have:=sub_len h.nd h.ks;rw[List.length_map] at this;apply ada this h.sl
def Kb.nil(h:Sl.length<=63):Kb Sl []:=#[h,.nil,λk m=>nomatch m]
structure Ee(Sl:List Int)(E:List Ed):Prop where
 ed:HN E 20
 nd:(E.map (·.1)).Nodup
 sl:∀p∈E,p.1∈Sl
theorem Kb.dZ{v:iX}(h:Kb Sl v)(e:Ee Sl E):Kb Sl (dZ v E):=#[h.sl,Nu E v h.nd,Pr e.sl h.ks]
abbrev QG(Z:SF):SF:=ck (eO 4 (cZ Gc (au (aj 2) (au (aj 3) aB)))) (ck (eW (tV (e2 AG (aj 4) (eC .aC))) Z gm) (jH (gu (aj 3)) Qu Vy))
def abx{Z:SF}{S L:D}(hE:HN E 20)(hb:bad v E=[])(hl:v.length<=3000):∃t5 t6 t7,QG Z (yW S L v (some (eL E,.sh [])) s4 s5 s6 s7)=some (.nx (yW S L (dZ v E) (some (eL E,.sh [])) (some (.aC,.own)) t5 t6 t7)):=by
 have hle:=hE.ln;let#[t5,t6,t7,lp]:=B8 (g:=Qu) (f:=Vy) (λv x y z=>yW S L v (some (eL E,.sh [])) (some (.aC,.own)) x y z) (λ_ _ _ _ _=>rfl) (λv p h=>GI rfl rfl rfl h) (E:=E) (v:=v) (by lia);apply#[t5,t6,t7,iO (d:=.aC) (cP rfl (by show Gc [bS v,.lst (E.map dT)]=_;rw[Gn hE (by lia) D.lst rfl,hb];rfl)) (sq rfl (D9 rfl lp))]
theorem U7{Z:SF}{S L:D}:∀{Es} {v v'} {s3 s4 s5 s6 s7},(∀E∈Es,Ee Sl E)->fW v Es=some v'->Kb Sl v->
  ∃t3 t4 t5 t6 t7,dU (gN 3) (.sh []) (QG Z) (Es.map eL) (yW S L v s3 s4 s5 s6 s7)=some (.nx (yW S L v' t3 t4 t5 t6 t7))/\Kb Sl v'
 |[],v,v',s3,s4,s5,s6,s7,_,h,k=>by
  ext h;apply#[s3,s4,s5,s6,s7,rfl,k]
 |E::Es,v,v',s3,s4,s5,s6,s7,hE,h,k=>by
  unfold fW at h
  by_cases hb:bad v E=[]
  .rw[if_pos hb] at h;have Nv:=hE E aav;let#[t5,t6,t7,hs]:=abx Nv.ed hb (by have:=k.len;lia);let#[u3,u4,u5,u6,u7,ih,k']:=U7 (λE' m=>hE E' (aar _ m)) h (k.dZ Nv);apply#[u3,u4,u5,u6,u7,(nq rfl hs).trans ih,k']
  .rw[abM hb] at h;ext h
def dS(ps:iX):D:=.lst (ps.map dP)
def fV(C:List Ch)(row:List Int):List (List Ed):=row.map (cX C)
abbrev Row(C:List Ch)(ns:List Int):Prop:=∀x∈ns,1<=x/\x<=(C.length:Int)
structure GoodC(Sl:List Int)(C:List Ch):Prop where
 ln:C.length<=60
 sl:Sl.length<=63
 ed:∀m,Ee Sl (cX C m)
 bd:∀m x,1<=m->m<=(C.length:Int)->x∈lean (sec C) m->1<=x/\x<m
 few:∀m,(lean (sec C) m).length<=60
def Cj{C:List Ch}{row:List Int}(g:GoodC Sl C)(hb:Row C row)(hl:row.length<=100)(h:fW [] (fV C row)=some v):abu [obj C,iL row]=some (dS (nz v))/\Kb Sl v:=by
 have hE:∀E∈fV C row,Ee Sl E:=λE m=>by
  let#[x,_,rfl]:=ab8.mp m;apply g.ed x
 let#[t3,t4,t5,t6,t7,vm,kv]:=U7 hE h (Kb.nil g.sl);have hc:=j_ (js:=[none,some 0]) (it:=gu (aj 1)) (Y:=[sS (obj C),sS (iL row)]) (g:=gN 0) (tt:=qp) (te:=bK "Changes" "edits_of" BF (aj 1) (au (aj 0) aB)) (k:=λd=>match d with | .int x=>some (eL (cX C x)) | _=>none) (j8 rfl) (by rw[List.length_map];apply size_le (by lia)) (λd m=>by
  let#[x,mx,rfl]:=ab8.mp m;let#[h1,h2]:=hb x mx;apply sI rfl rfl (nV rfl rfl (Dh h1 h2)))
 rw[aeC,show(row.filterMap ((λd=>match d with|D.int x=>some (eL (cX C x))|_=>none) ∘ D.int))=(fV C row).map eL from(pR _ _).trans (by unfold fV;rw[adw];rfl)] at hc;apply#[bY rfl (cI (cP (by rw[bq,bq];show mW _ (mW (i0 _ _ _ _ _ [sS (obj C),sS (iL row)]) _)=_;rw[hc];rfl) (bY rfl (iO rfl (sq (D9 rfl vm) (cI (cP (ps:=[(bS v,.sh [2])]) rfl (adT (by have:=kv.len;lia))))))))),kv]
abbrev gV(es:iX)(k:Int):Int:=(bX es k).getD 0
def lH(C:List Ch)(v:iX)(m:Int):Bool:=(bad v (cX C m)).isEmpty
def Xi:lH C v m=true↔bad v (cX C m)=[]:=List.isEmpty_iff
def aiy:jr (t_ l) .aC=some (.bl l.isEmpty):=by ext l<;>rfl
def zQ{l:List Int}(hi:it Y=some (l.map D.int,t))(hl:l.length<=10000)(hr:∀x,gN 0 (.int x) (.sh []) (lI js Y)=some (sS (.int x)::r))(h:∀x∈l,tt (sS (.int x)::r)=some (p x)):
  i0 js it (gN 0) tt (aj 0) Y=sW (iL (l.filter p)):=by
 have:=acD (tt:=tt) (te:=aj 0) hi hl (λx mx=>by
  by_cases hp:p x=true
  .rw[if_pos hp];apply uw (hr x) (by rw[h x mx,hp]) rfl rfl
  .rw[abM hp];apply C9 (hr x) (by rw[h x mx,agJ.mpr hp]))
 rw[List.map_id'] at this;apply this
def ajm(h1:fv Y=some (.int n,t))(h2:Y[i]? = some (sW (iL ns)))(hm:n∈ns):yT i fv Y=some (.nx (bU Y i (iL (ns.erase n)))):=by
 unfold yT;rw[h1,h2];unfold iL;dsimp only;rw[xA];dsimp only;rw[if_pos hm]
def kB(k:Int):Key×D:=(Sum.inl k,.bl true)
def dB(ks:List Int):D:=.cG (ks.map kB)
def add(ks:List Int)(k:Int):List Int:=if k∈ks then ks else ks++[k]
def ag9:x∈add ks k↔x∈ks\/x=k:=by
 unfold add
 by_cases h:k∈ks
 .rw[if_pos h];apply#[.inl,λe=>e.elim id λe=>by rw[e];apply h]
 .rw[abM h,abH,aa6]
def OT{ks:List Int}:((ks.map kB).any λkv=>decide (kv.1=(Sum.inl k:Key)))=decide (k∈ks):=by
 induction ks with
 |nil=>simp
 |cons a r ih=>
  rw[aaG,aiw,ih];have:decide ((kB a).1=(Sum.inl k:Key))=decide (a=k):=by
   apply ajY.mpr xT
  rw[this]
  by_cases h:a=k
  .subst h;simp
  .simp[h,afv h]
def Wr{ks:List Int}:qY false (.int x) (dB ks)=some (.bl (decide (x∈ks))):=by
 show some (D.bl (if false=true then _ else(bu (ks.map kB) (Sum.inl x:Key)).isSome))=_;rw[abM abm,<- OT];unfold bu;rw[ahA]
 congr 2
 rw[aj7,List.find?_isSome,adX]
def afb{ks:List Int}:putD (ks.map kB) (Sum.inl k:Key) (.bl true)=(add ks k).map kB:=by
 unfold putD add;rw[OT]
 by_cases h:k∈ks
 .rw[if_pos (aaP h),if_pos h,adw];refine agB λa _=>?_
  show(if(Sum.inl a:Key)=Sum.inl k then((Sum.inl a:Key),D.bl true) else kB a)=kB a
  split<;>rfl
 .rw[abM (by simpa using h),abM h,adk];rfl
def adds(m l:List Int):List Int:=l.foldl add m
theorem Nx:∀{l m} {x},x∈adds m l↔x∈m\/x∈l
 |[],m,x=>by simp[adds]
 |a::l,m,x=>by
  have:=Nx (l:=l) (m:=add m a) (x:=x);show x∈adds (add m a) l↔_;rw[this,ag9,aaO,or_assoc]
def sJ(x:Int):D:=.tup [.int x,.bl true]
theorem Tc:∀l:List Int,lP (l.map sJ)=some (l.map kB)
 |[]=>rfl
 |p::r=>by
  rw[aaG];show(match iZ (.int p),lP (r.map sJ) with|some k,some ps=>if aA (.bl true)=true then some ((k,D.bl true)::ps) else none|_,_=>none)=_;rw[Tc r];rfl
theorem QF:∀(l m),(l.map kB).foldl (λm p=>putD m p.1 p.2) (m.map kB)=(adds m l).map kB
 |[],_=>rfl
 |p::r,m=>by rw[aaG,aeu];show(r.map kB).foldl _ (putD (m.map kB) (Sum.inl p:Key) (.bl true))=_;rw[afb];apply QF r _
def Wi:DH (.lst (l.map sJ))=some (dB (adds [] l)):=by
 show(lP (l.map sJ)).map _=_;rw[Tc];show some (D.cG ((l.map kB).foldl (λm p=>putD m p.1 p.2) []))=_;rw[show([]:List (Key×D))=([]:List Int).map kB from rfl,QF];rfl
def xM(C:List Ch)(there:List Int)(m:Int):Bool:=(lean (sec C) m).all λx=>decide (x∈there)
def tw{g:SF}(Y':aL)(h:g Y'=r)(e:Y=Y':=by rfl):g Y=r:=by rw[e,h]
def Pq(h:f Y=some (iL a,t))(h2:g Y=some (iL b,t2))(hl:a.length+b.length<=1000):e2 iw (e1 pX f) (e1 pX g) Y=sW (iL (a++b)):=
 aM (bB h w_) (bB h2 w_) (v8 (by rw[afK];lia))
def ME(g:GoodC Sl C){a b wt:List Int}(hl:a.length+b.length<=1000)(hw:Row C wt)(DS:wt.length<=1000):CQ [obj C,iL a,iL b,iL wt]=some (iL (wt.filter (xM C (a++b)))):=by
 refine bY rfl (iO (bB (t:=.own) ?_ Wi) (tw [sS (obj C),sS (iL a),sS (iL b),sS (iL wt),sW (dB (adds [] (a++b)))] (cI (zQ (j8 rfl) (by lia) (λx=>rfl) (λx Ud=>?_)))))
 .refine(j_ (k:=λd=>match d with | .int x=>some (sJ x) | _=>none) (j8 (Pq rfl rfl hl)) (by rw[List.length_map,abV];apply size_le (by lia)) (λd m=>by
   let#[x,Ud,rfl]:=ab8.mp m;apply uw rfl rfl rfl rfl)).trans ?_
  rw[aeC,show((a++b).filterMap ((λd=>match d with|D.int x=>some (sJ x)|_=>none) ∘ D.int))=(a++b).map sJ from pR sJ _]
 .let#[h1,h2]:=hw x Ud;refine cj (MH (j8 (nV rfl rfl (Ou h1 h2))) (by have:=g.few x;lia) (λy my=>sI rfl rfl (aM rfl rfl ?_)));rw[Wr,show decide (y∈adds [] (a++b))=decide (y∈a++b) from ajY.mpr (by rw[Nx];simp)]
def Zn(g:GoodC Sl C)(hl:a.length+b.length<=100)(hb:Row C (a++b))(h:fW [] (fV C (a++b))=some v):agK [obj C,iL a,iL b]=some (bS (kc (nz v))):=
 bY rfl (cI (bB (cP (ps:=[(obj C,.sh []),(iL (a++b),.own)]) (by rw[bq,bq];show mW _ (mW (e2 iw _ _ [sS (obj C),sS (iL a),sS (iL b)]) _)=_;rw[Pq rfl rfl (by lia)];rfl) (Cj g hb (by rw[abV];lia) h).1) Pc))
def Pn(h:∀k,gV u k=gV v k)(E:List Ed):bad u E=bad v E:=by
 unfold bad
 congr 1
 refine List.filter_congr λp _=>?_
 unfold rP;have:=h p.1;unfold gV at this;rw[this]
def adi(g:GoodC Sl C)(h1:1<=m)(h2:m<=(C.length:Int)):G3 [obj C,bS v,.int m]=some (.bl (lH C v m)):=
 bY rfl (cI (aM (cP (ps:=[(bS v,.sh []),(eL (cX C m),.own)]) (by rw[bq,bq];show mW _ (mW (bK _ _ _ _ _ [sS (obj C),sS (bS v),sS (.int m)]) _)=_;rw[nV rfl rfl (Dh h1 h2)];rfl) (Gn (g.ed m).ed (by lia) D.lst rfl)) rfl aiy))
def YJ{L:List Ch}{m:Int}(h1:1<=m)(h2:m<=L.length):D3 [obj L,.int m]=some (.int (ch L m).1):=
 bY rfl (cI (aM (nV rfl rfl (IP h1 h2)) rfl rfl))
abbrev kf:EF:=gX (au (e1 Bq (bK "Changes" "rank_of" D3 (aj 1) (au (aj 0) aB))) (au (aj 0) aB))
abbrev pr(C:List Ch):Int->Int×Int:=zh kf (obj C)
def YS{C:List Ch}{x:Int}(h1:1<=x)(h2:x<=C.length):yo kf (obj C) x=some (-(ch C x).1,x):=by
 unfold yo;have e:e1 Bq (bK "Changes" "rank_of" D3 (aj 1) (au (aj 0) aB)) [sW (.int x),sS (obj C)]=sW (.int (-(ch C x).1)):=bB (nV rfl rfl (YJ h1 h2)) rfl;show(match gX _ _ with|some (.tup [.int a,.int b],_)=>some (a,b)|_=>none)=_;rw[nS,bq,e];rfl
def abd(h:Row C ns)(hn:ns.Nodup)(hl:ns.length<64):PJ [obj C,iL ns]=some (iL (lE (pr C) ns)):=by
 refine bY rfl (cI ?_);show(eV (ns.map D.int)).bind _=_;rw[xA];apply if_pos #[hl,λx m=>by rw[YS (h x m).1 (h x m).2];rfl]
def ML:Option Int->D
 |none=>.aC
 |some x=>.int x
def y9:SF:=eW (tV (cZ G3 (au (aj 0) (au (aj 1) (au (aj 3) aB))))) (tQ 3) gm
theorem Ti(g:GoodC Sl C):∀{l} {s3},Row C l->match l.find? (lH C v) with
  |some x=>dU (gN 3) (.sh []) y9 (l.map D.int) [sS (obj C),sS (bS v),sS N,s3]=some (.rt (.int x))
  |none=>∃t3,dU (gN 3) (.sh []) y9 (l.map D.int) [sS (obj C),sS (bS v),sS N,s3]=some (.nx [sS (obj C),sS (bS v),sS N,t3])
 |[],s3,_=>#[s3,rfl]
 |x::l,s3,h=>by
  let#[h1,h2]:=h x aav;have q:tV (cZ G3 (au (aj 0) (au (aj 1) (au (aj 3) aB)))) [sS (obj C),sS (bS v),sS N,sS (.int x)]=some (lH C v x):=cj (cP rfl (adi g h1 h2));have ih:=Ti g (v:=v) (N:=N) (s3:=sS (.int x)) λy m=>h y (aar _ m)
  rw[adx];cases hf:lH C v x with
  |true=>
   rw[hf] at q;apply MJ (aO:=[sS (obj C),sS (bS v),sS N,sS (.int x)]) rfl (by unfold y9;rw[iH,q];rfl)
  |false=>
   rw[hf] at q;have e:=nq (g:=gN 3) (t:=.sh []) (f:=y9) (ds:=l.map D.int) (Y:=[sS (obj C),sS (bS v),sS N,s3]) (aO:=[sS (obj C),sS (bS v),sS N,sS (.int x)]) rfl (by unfold y9;rw[iH,q];rfl);dsimp only;rw[aaG,e];apply ih
def adK(g:GoodC Sl C)(h:Row C ns)(hn:ns.Nodup)(hl:ns.length<64):BZ [obj C,bS v,iL ns]=some (ML ((lE (pr C) ns).find? (lH C v))):=by
 have hi:gu (cZ PJ (au (aj 0) (au (aj 2) aB))) [some (obj C,.sh []),some (bS v,.sh []),some (iL ns,.sh []),none]=some ((lE (pr C) ns).map D.int,.own):=j8 (cP rfl (abd h hn hl));have lp:=Ti g (v:=v) (N:=iL ns) (l:=lE (pr C) ns) (s3:=none) λx m=>h x ((RJ ns).mem_iff.mp m)
 refine bY rfl ?_;cases e:(lE (pr C) ns).find? (lH C v) with
 |none=>
  rw[e] at lp;let#[t3,lp]:=lp;apply sq (vO hi lp) rfl
 |some x=>
  rw[e] at lp;apply ja (TN hi lp)
theorem P9:∀{row} {v v'} {m},fW v (fV C row)=some v'->bad v' (cX C m)=[]->fW v (fV C (row++[m]))=some (dZ v' (cX C m))
 |[],v,v',m,h,hb=>by
  ext h;show(if bad v (cX C m)=[] then fW (dZ v (cX C m)) [] else none)=_;rw[if_pos hb];rfl
 |x::r,v,v',m,h,hb=>by
  have h:(if bad v (cX C x)=[] then fW (dZ v (cX C x)) (fV C r) else none)=some v':=h;show(if bad v (cX C x)=[] then fW (dZ v (cX C x)) (fV C (r++[m])) else none)=_
  by_cases Rr:bad v (cX C x)=[]
  .rw[if_pos Rr] at h ⊢;apply P9 h hb
  .rw[abM Rr] at h;ext h
def ajB(h1:c Y=some true)(h2:b Y=some (.nx Y')):iT c b (n+1) Y=iT c b n Y':=by rw[iT,h1];dsimp only;rw[h2]
def acH(h1:c Y=some false):iT c b (n+1) Y=some (.nx Y):=by rw[iT,h1]
def ahu(h1:c Y=some true)(h2:b Y=some (.rt d)):iT c b (n+1) Y=some (.rt d):=by rw[iT,h1];dsimp only;rw[h2]
abbrev cF:TF:=tV (e2 oLt (e1 fX (aj 5)) (aj 4))
abbrev bF:SF:=(ck (eO 8 (cZ BZ (au (aj 0) (au (aj 7) (au (cZ CQ (au (aj 0) (au (aj 1) (au (aj 5) (au (aj 6) aB))))) aB))))) (ck (eW (tV (e2 jr (aj 8) (eC .aC))) (tQ 5) gm) (ck (kM 5 (aj 8)) (ck (yT 6 (aj 8)) (jH (gu (bK "Changes" "edits_of" BF (aj 0) (au (aj 8) aB))) (gT (fB (gN 9) (fB (gN 10) (fB (gN 11) nZ)))) (sM 7 (aj 9) (aj 11)))))))
def rF(C:List Ch)(ln ld wt:List Int)(w:Int)(told left:List Int)(u:iX)(s8 s9 fL fC:Slot):aL:=[sS (obj C),sS (iL ln),sS (iL ld),sS (iL wt),sS (.int w),sW (iL told),sW (iL left),sW (bS u),s8,s9,fL,fC]
structure Fl(C:List Ch)(ln told left:List Int)(w:Int)(ex:List Int):Prop where
 nd:ex.Nodup
 sub:∀x∈ex,x∈left
 le:((told++ex).length:Int)<=w\/ex=[]
 run:∃v,fW [] (fV C (ln++(told++ex)))=some v
def agC(g:GoodC Sl C):∀{n} {told left} {u v} {s8 s9 fL fC},Row C left->left.Nodup->left.length<64->ln.length+told.length+left.length<=1000->fW [] (fV C (ln++told))=some v->(∀k,gV u k=gV v k)->Kb Sl u->left.length<n->
  ∃ex,ck (iT cF bF n) (tQ 5) (rF C ln ld wt w told left u s8 s9 fL fC)=some (.rt (iL (told++ex)))/\Fl C ln told left w ex:=by
 intro n
 induction n with
 |zero=>intros;omega
 |succ n ih=>
  intro told left u v s8 s9 fL fC hr nd hl hs hv hu ku hn;have c1:cF (rF C ln ld wt w told left u s8 s9 fL fC)=some (decide ((told.length:Int)<w)):=cj (aM (bB rfl (by show some (D.int (told.map D.int).length)=_;rw[List.length_map])) rfl rfl)
  by_cases hw:(told.length:Int)<w
  .rw[aaP hw] at c1;have ef:lH C u=lH C v:=funext λx=>by unfold lH;rw[Pn hu]
   have q1:cZ BZ (au (aj 0) (au (aj 7) (au (cZ CQ (au (aj 0) (au (aj 1) (au (aj 5) (au (aj 6) aB))))) aB))) (rF C ln ld wt w told left u s8 s9 fL fC)=sW (ML ((lE (pr C) (left.filter (xM C (ln++told)))).find? (lH C v))):=by
    refine cP (ps:=[(obj C,.sh []),(bS u,.sh [7]),(iL (left.filter (xM C (ln++told))),.own)]) ?_ ?_
    .rw[bq,bq,bq,cP rfl (ME g (by lia) hr (by lia))];rfl
    .show BZ [obj C,bS u,_]=_;rw[adK g (λx m=>hr x (adF.mp m).1) (nd.sublist aiQ) (ahm (aeY _ _) hl),ef]
   have pm:=λx=>(RJ (pr:=pr C) (left.filter (xM C (ln++told)))).mem_iff (a:=x)
   cases hb:(lE (pr C) (left.filter (xM C (ln++told)))).find? (lH C v) with
   |none=>
    rw[hb] at q1;refine#[[],ja ((ahu c1 (iO q1 (ja rfl))).trans (by rw[acL])),.nil,(λx m=>nomatch m),.inr rfl,v,by rw[acL];apply hv]
   |some x=>
    rw[hb] at q1;have mf:=(pm x).mp (afz hb);have m:=(adF.mp mf).1;have f:=Xi.mp (akc hb);let#[h1,h2]:=hr x m;have hE:=(g.ed x).ed.ln;have hel:=List.length_erase_of_mem m;have hp:=List.length_pos_of_mem m;let#[t9,Xv,t11,lp]:=B8 (g:=gT (fB (gN 9) (fB (gN 10) (fB (gN 11) nZ)))) (f:=sM 7 (aj 9) (aj 11)) (λv x' y z=>rF C ln ld wt w (told++[x]) (left.erase x) v (sW (.int x)) x' y z) (λ_ _ _ _ _=>rfl) (λv p h=>GI rfl rfl rfl h) (E:=cX C x) (v:=u) (by have:=ku.len;lia);have st:bF (rF C ln ld wt w told left u s8 s9 fL fC)=some (.nx (rF C ln ld wt w (told++[x]) (left.erase x) (dZ u (cX C x)) (sW (.int x)) t9 Xv t11)):=by
     refine iO q1 (b_ rfl ?_);refine sq ((JR rfl rfl (size_le (by lia))).trans rfl) ?_;refine sq ((ajm rfl rfl m).trans rfl) ?_;apply vO (j8 (nV rfl rfl (Dh h1 h2))) lp
    let#[ex,e,F]:=ih (told:=told++[x]) (λy my=>hr y (List.mem_of_mem_erase my)) (nd.erase x) (by lia) (by rw[abV,aes];lia) (by rw[<- afn];apply P9 hv f) (λk=>by
     let#[a1,a2]:=yR (cX C x) u k (g.ed x).nd;let#[b1,b2]:=yR (cX C x) v k (g.ed x).nd;unfold gV
     by_cases mk:k∈(cX C x).map (·.1)
     .let#[p,mp,rfl]:=ab8.mp mk;rw[a1 p mp rfl,b1 p mp rfl]
     .rw[a2 mk,b2 mk];apply hu k) (ku.dZ (g.ed x)) (by lia)
    have ea:told++x::ex=told++[x]++ex:=by rw[afn];rfl
    refine#[x::ex,?_,acw.mpr #[λmx=>(nd.mem_erase_iff.mp (F.sub x mx)).1 rfl,F.nd],λy my=>(aaO.mp my).elim (λe=>e ▸ m) λmy=>List.mem_of_mem_erase (F.sub y my),.inl ?_,?_]
    .rw[je,ajB c1 st,<- je,ea];apply e
    .rw[ea];rcases F.le with h|h
     .exact h
     .rw[h,acL,abV,aes];lia
    .rw[ea];apply F.run
  .rw[acp hw] at c1;apply#[[],(sq (acH c1) rfl).trans (by rw[acL];rfl),.nil,(λx m=>nomatch m),.inr rfl,v,by rw[acL];apply hv]
def aeS(g:GoodC Sl C)(hb:Row C (ln++ld))(hr:Row C wt)(nd:wt.Nodup)(hw:wt.length<64)(hl:ln.length+ld.length<=100)(hv:fW [] (fV C (ln++ld))=some v):∃ex,Fd [obj C,iL ln,iL ld,iL wt,.int w]=some (iL (ld++ex))/\Fl C ln ld wt w ex:=by
 have kv:=(Cj g hb (by rw[abV];lia) hv).2;have kd:Kb Sl (kc (nz v)):=#[g.sl,YY _,λk m=>kv.ks k (uu.mp (by
  let#[w,e]:=uu.mpr m;rw[UO (by rw[MB];apply PZ kv.nd)] at e;unfold nz at e;rw[Ld] at e
  split at e
  .rename_i mk;have:=TU.mp mk;cases h:bX v k with
   |none=>rw[h] at this;apply absurd rfl this
   |some y=>apply#[y,rfl]
  .cases e))]
 let#[ex,e,F]:=agC g (n:=4000) hr nd hw (by lia) hv (Nb kv.nd) kd (by lia);apply#[ex,bY rfl (iO (bB rfl w_) (iO (bB rfl w_) (iO (cP rfl (Zn g hl hb hv)) e))),F]
def best:Int×Int->List (Int×Int)->Int×Int
 |p,[]=>p
 |p,q::r=>best (if p.2-p.1<q.2-q.1 then q else p) r
def pairs(f:List Int):List (Int×Int):=f.zip f.tail
def mid(f:List Int):Int:=let p:=best (f.headD 0,f.headD 0) (pairs f);(p.1+p.2) / 2
theorem Kn:∀(l:List (Int×Int)) (p:Int×Int),best p l=p\/best p l∈l
 |[],p=>.inl rfl
 |q::r,p=>by
  unfold best
  by_cases h:p.2-p.1<q.2-q.1
  .rw[if_pos h];rcases Kn r q with e|e
   .rw[e];apply .inr aav
   .exact .inr (aar _ e)
  .rw[abM h];rcases Kn r p with e|e
   .exact .inl e
   .exact .inr (aar _ e)
theorem Hi:∀(l:List (Int×Int)) (p:Int×Int),p.2-p.1<=(best p l).2-(best p l).1/\∀q∈l,q.2-q.1<=(best p l).2-(best p l).1
 |[],p=>#[ajn _,λq m=>nomatch m]
 |x::r,p=>by
  unfold best
  by_cases h:p.2-p.1<x.2-x.1
  .rw[if_pos h];let#[h1,h2]:=Hi r x;refine#[by lia,λq m=>?_];rcases aaO.mp m with rfl|m
   .exact h1
   .exact h2 q m
  .rw[abM h];let#[h1,h2]:=Hi r p;refine#[h1,λq m=>?_];rcases aaO.mp m with rfl|m
   .lia
   .exact h2 q m
theorem MV:∀(r:List Int) (a:Int),(∀q∈pairs (a::r),q.2-q.1<=1)->(a::r).getLastD 0<=a+r.length
 |[],a,_=>by simp
 |b::r,a,h=>by
  have h1:b-a<=1:=h (a,b) (by unfold pairs;apply aav);have h2:=MV r b λq m=>h q (by unfold pairs at m ⊢;apply aar _ m)
  have e:(a::b::r).getLastD 0=(b::r).getLastD 0:=by simp[List.getLastD]
  rw[e,acv]
  lia
abbrev fence(ws:List Int)(e:Int):List Int:=0::(ws++[e])
def Vc(m:q∈pairs f):q.1∈f/\q.2∈f:=by
 unfold pairs at m;let#[h1,h2]:=List.of_mem_zip m;apply#[h1,List.mem_of_mem_tail h2]
def Bd(e:Int)(ws:List Int):Prop:=∀x∈ws,1<=x/\x<e
def aaN(h:Bd e ws)(hl:(ws.length:Int)<e-1):1<=mid (fence ws e)/\mid (fence ws e)<e:=by
 have hf:∀x∈fence ws e,0<=x/\x<=e:=λx m=>by
  rcases aaO.mp m with rfl|m
  .lia
  .rcases abH.mp m with m|m
   .have:=h x m;lia
   .cases aa6.mp m;lia
 obtain⟨q,m,hq⟩:∃q∈pairs (fence ws e),2<=q.2-q.1:=by
  refine Classical.byContradiction λhn=>?_
  have:=MV (ws++[e]) 0 λq m=>by
   refine Classical.byContradiction λh=>hn #[q,m,by lia]
  have q1:(0::(ws++[e])).getLastD 0=e:=by rw[show(0::(ws++[e]))=(0::ws)++[e] from rfl,List.getLastD_concat]
  rw[q1,abV,aes] at this
  lia
 have hb:=(Hi (pairs (fence ws e)) ((fence ws e).headD 0,(fence ws e).headD 0)).2 q m;unfold mid;dsimp only;rcases Kn (pairs (fence ws e)) ((fence ws e).headD 0,(fence ws e).headD 0) with h|h
 .rw[h] at hb;dsimp only at hb
  lia
 .have:=hf _ (Vc h).1;have:=hf _ (Vc h).2
  lia
def Si(p:Int×Int):D:=.tup [.int p.1,.int p.2]
def rM(f:List Int)(l h:Int)(t1 t2:Tag)(s3 s4:Slot):aL:=[sS (.lst (f.map D.int)),some (.int l,t1),some (.int h,t2),s3,s4]
abbrev bM:SF:=eW (tV (e2 Aj (e2 jY (aj 4) (aj 3)) (e2 jY (aj 2) (aj 1)))) (ck (eO 1 (aj 3)) (eO 2 (aj 4))) gm
abbrev gM:GF:=gT (fB (gN 3) (fB (gN 4) nZ))
theorem HK:∀(ps:List (Int×Int)) (p:Int×Int) (t1 t2:Tag) (s3 s4:Slot),∃Yp t2' yP v_,dU gM (.sh []) bM (ps.map Si) (rM f p.1 p.2 t1 t2 s3 s4)=some (.nx (rM f (best p ps).1 (best p ps).2 Yp t2' yP v_))
 |[],p,t1,t2,s3,s4=>#[t1,t2,s3,s4,rfl]
 |q::r,p,t1,t2,s3,s4=>by
  have hc:tV (e2 Aj (e2 jY (aj 4) (aj 3)) (e2 jY (aj 2) (aj 1))) (rM f p.1 p.2 t1 t2 (sW (.int q.1)) (sW (.int q.2)))=some (decide (p.2-p.1<q.2-q.1)):=rfl
  by_cases h:p.2-p.1<q.2-q.1
  .have hb:bM (rM f p.1 p.2 t1 t2 (sW (.int q.1)) (sW (.int q.2)))=some (.nx (rM f q.1 q.2 (.sh [3]) (.sh [4]) (sW (.int q.1)) (sW (.int q.2)))):=by
    unfold bM;rw[iH,hc,aaP h,PD];rfl
   let#[a,b,c,d,hh]:=HK r q (.sh [3]) (.sh [4]) (sW (.int q.1)) (sW (.int q.2));refine#[a,b,c,d,(nq rfl hb).trans ?_];unfold best;rw[if_pos h];apply hh
  .have hb:bM (rM f p.1 p.2 t1 t2 (sW (.int q.1)) (sW (.int q.2)))=some (.nx (rM f p.1 p.2 t1 t2 (sW (.int q.1)) (sW (.int q.2)))):=by
    unfold bM;rw[iH,hc,acp h,R1];rfl
   let#[a,b,c,d,hh]:=HK r p t1 t2 (sW (.int q.1)) (sW (.int q.2));refine#[a,b,c,d,(nq rfl hb).trans ?_];unfold best;rw[abM h];apply hh
def Xz(a:Int)(r:List Int):oG (some 1) none (.lst ((a::r).map D.int))=some (.lst (r.map D.int)):=by
 show(if aK ((a::r).map D.int)=true then some (D.lst (cutD ((a::r).map D.int) (some 1) none)) else none)=_;rw[if_pos (dW _)];have:cutD ((a::r).map D.int) (some 1) none=r.map D.int:=by
  unfold cutD;have e:HT.bG ((a::r).map D.int).length 0 (some 1)=1:=by
   have q:=HT.Gp ((a::r).map D.int).length 0 1;rw[show((1:Nat):Int)=1 from rfl] at q;rw[q,List.length_map,acv];lia
  rw[HT.EZ,e,aaG,List.drop_succ_cons,List.drop_zero,acv,Nat.add_sub_cancel,aiR]
 rw[this]
def YX(a:Int)(r:List Int):yb [.lst ((a::r).map D.int)]=some (.int (mid (a::r))):=by
 refine bY rfl ?_;show Ek [some (.lst ((a::r).map D.int),.sh []),none,none,none,none]=_;unfold Ek;have q1:eO 1 (e2 c9 (aj 0) (eC (.int 0))) [some (.lst ((a::r).map D.int),.sh []),none,none,none,none]=some (.nx [some (.lst ((a::r).map D.int),.sh []),some (.int a,.own),none,none,none]):=by
  have hx:c9 (.lst ((a::r).map D.int)) (.int 0)=some (.int a):=qT (by rw[Me (by lia) (by rw[acv];lia)];rfl) rfl;rw[oj,kG];show Bv 1 _ ((c9 (.lst ((a::r).map D.int)) (.int 0)).map _)=_;rw[hx];rfl
 have q2:eO 2 (aj 1) [some (.lst ((a::r).map D.int),.sh []),some (.int a,.own),none,none,none]=some (.nx (rM (a::r) a a .own (.sh [1]) none none)):=rfl;have hz:sA (aj 0) (e1 (oG (some 1) none) (aj 0)) (rM (a::r) a a .own (.sh [1]) none none)=some ((pairs (a::r)).map Si,.sh []):=by
  unfold sA;have v0:aj 0 (rM (a::r) a a .own (.sh [1]) none none)=some (.lst ((a::r).map D.int),.sh []):=rfl;have v1:e1 (oG (some 1) none) (aj 0) (rM (a::r) a a .own (.sh [1]) none none)=some (.lst (r.map D.int),.own):=by
   rw[yQ,v0];show(oG (some 1) none (.lst ((a::r).map D.int))).map _=_;rw[Xz];rfl
  rw[v0,v1];dsimp only;rw[if_pos (by rw[dW,dW];rfl)];refine congrArg some (Prod.ext ?_ rfl);rw[List.zip_map,adw];rfl
 let#[t1,t2,s3,s4,hl]:=HK (pairs (a::r)) (a,a) .own (.sh [1]) none none;have hf:jH (sA (aj 0) (e1 (oG (some 1) none) (aj 0))) gM bM (rM (a::r) a a .own (.sh [1]) none none)=some (.nx (rM (a::r) (best (a,a) (pairs (a::r))).1 (best (a,a) (pairs (a::r))).2 t1 t2 s3 s4)):=yZ hz hl;rw[je,q1,pC,je,q2,pC,je];rw[hf,pC];unfold mid;rw[show((a::r).headD 0,(a::r).headD 0)=(a,a) from rfl];generalize best (a,a) (pairs (a::r))=p;have v1:aj 1 (rM (a::r) p.1 p.2 t1 t2 s3 s4)=some (.int p.1,CO 1 t1):=rfl;have v2:aj 2 (rM (a::r) p.1 p.2 t1 t2 s3 s4)=some (.int p.2,CO 2 t2):=rfl;rw[wD,kG,kG,v1,v2,zg,kX,RQ,HE,zg,aci (by lia) (by lia)];rfl
def jQ:Option Int->D
 |none=>.aC
 |some b=>.int b
def endOf(size:Int):Option Int->Int
 |none=>size+1
 |some b=>b
def pick(size:Int)(bad:Option Int)(e:Int)(ws:List Int):Int:=if(bad.isNone&&!(ws.any (· == size)))=true then size else mid (fence ws e)
def vN(size:Int)(bad:Option Int)(e:Int)(ws:List Int):List Int:=dh (ws++[pick size bad e ws])
def lim(e bV:Int):Int:=if e-1<bV then e-1 else bV
def sR(size:Int)(bad:Option Int)(e bV:Int):Nat->List Int->List Int
 |0,ws=>ws
 |n+1,ws=>if(ws.length:Int)<lim e bV then sR size bad e bV n (vN size bad e ws) else ws
def MP{bad:Option Int}:(vN size bad e ws).length=ws.length+1:=by unfold vN;rw[uK,abV];rfl
def VB(b:Option Int):qg (jQ b)=b.isNone:=by ext b<;>rfl
abbrev cW:TF:=tV (e2 oLt (e1 fX (aj 5)) (e2 yG (aj 3) (e2 jY (aj 4) (eC (.int 1)))))
abbrev bW:SF:=ck (eW (lR (tV (e2 jr (aj 1) (eC .aC))) (tV (e2 (jP true) (aj 0) (aj 5)))) (kM 5 (aj 0)) (kM 5 (cZ yb (au (e2 iw (e2 iw (iC (au (eC (.int 0)) aB)) (aj 5)) (iC (au (aj 4) aB))) aB)))) (eO 5 (e1 l_ (aj 5)))
def Dn(t:Tag):Prop:=t=.own\/t=.sh []
def rW(size:Int)(bad:Option Int)(kd:D)(bV e:Int)(t4:Tag)(ws:List Int):aL:=[sS (.int size),sS (jQ bad),sS kd,sS (.int bV),some (.int e,t4),sW (.lst (ws.map D.int))]
section
variable{size bV e:Int}{bad:Option Int}
def Mx:cW (rW size bad kd bV e t4 ws)=some (decide ((ws.length:Int)<lim e bV)):=by
 show some (decide (((ws.map D.int).length:Int)<(if e-1<bV then e-1 else bV)))=_;rw[List.length_map];rfl
def acr:(tV (e2 (jP true) (aj 0) (aj 5))) (rW size bad kd bV e t4 ws)=some (!(ws.any (· == size))):=by
 rw[zG,kG];show Ev.kV ((jP true (.int size) (.lst (ws.map D.int))).map _)=_;rw[Dy];rfl
def aen:(lR (tV (e2 jr (aj 1) (eC .aC))) (tV (e2 (jP true) (aj 0) (aj 5)))) (rW size bad kd bV e t4 ws)=some (bad.isNone&&!(ws.any (· == size))):=by
 refine xq ?_ acr;show some (qg (jQ bad))=_;rw[VB]
def Vg(h:Dn t4)(x:Int):bU (rW size bad kd bV e t4 ws) 5 (.lst ((ws++[x]).map D.int))=rW size bad kd bV e t4 (ws++[x]):=by
 rcases h with rfl|rfl<;>rfl
def ZY(hl:ws.length<63):(e2 iw (e2 iw (iC (au (eC (.int 0)) aB)) (aj 5)) (iC (au (aj 4) aB))) (rW size bad kd bV e t4 ws)=sW (.lst ((fence ws e).map D.int)):=by
 have h1:iw (.lst (([0]:List Int).map D.int)) (.lst (ws.map D.int))=some (.lst (([0]++ws).map D.int)):=v8 (by unfold PySem.sizeLine;show 1+ws.length<=_;lia);have h2:iw (.lst (([0]++ws).map D.int)) (.lst (([e]:List Int).map D.int))=some (.lst (([0]++ws++[e]).map D.int)):=v8 (by unfold PySem.sizeLine;rw[abV];show 1+ws.length+1<=_;lia);rw[kG,kG];show k2 iw ((iw (.lst (([0]:List Int).map D.int)) (.lst (ws.map D.int))).map _) _=_;rw[h1,RQ];show(iw (.lst (([0]++ws).map D.int)) (.lst (([e]:List Int).map D.int))).map _=_;rw[h2];rfl
def agk(ht:Dn t4)(hl:ws.length<63):bW (rW size bad kd bV e t4 ws)=some (.nx (rW size bad kd bV e t4 (vN size bad e ws))):=by
 have hz:ws.length<PySem.sizeLine:=by unfold PySem.sizeLine;lia
 have h1:eW (lR (tV (e2 jr (aj 1) (eC .aC))) (tV (e2 (jP true) (aj 0) (aj 5)))) (kM 5 (aj 0)) (kM 5 (cZ yb (au (e2 iw (e2 iw (iC (au (eC (.int 0)) aB)) (aj 5)) (iC (au (aj 4) aB))) aB))) (rW size bad kd bV e t4 ws)=some (.nx (rW size bad kd bV e t4 (ws++[pick size bad e ws]))):=by
  rw[iH,aen];unfold pick
  by_cases hb:(bad.isNone&&!(ws.any (· == size)))=true
  .rw[hb,PD,if_pos rfl,JR rfl rfl hz,Vg ht]
  .have yN:(bad.isNone&&!(ws.any (· == size)))=false:=by simpa using hb
   have hm:cZ yb (au (e2 iw (e2 iw (iC (au (eC (.int 0)) aB)) (aj 5)) (iC (au (aj 4) aB))) aB) (rW size bad kd bV e t4 ws)=sW (.int (mid (fence ws e))):=by
    rw[s_call,bq,ZY hl,wZ,A1,Vd];simp only[aaG,akm];have:=YX 0 (ws++[e]);rw[aaG] at this;rw[this];rfl
   rw[yN,R1,abM abm,JR hm rfl hz,Vg ht]
 unfold bW;rw[je,h1,pC,oj,yQ];show Bv 5 _ ((l_ (.lst ((ws++[pick size bad e ws]).map D.int))).map _)=_;rw[Wz (by rw[abV];show ws.length+1<64;lia)];rfl
theorem QT(ht:Dn t4)(hh:bV<=60):∀(n:Nat) (ws:List Int) (m:Nat),bV-ws.length<=n->n<m->iT cW bW m (rW size bad kd bV e t4 ws)=some (.nx (rW size bad kd bV e t4 (sR size bad e bV n ws)))
 |_,_,0,_,h=>absurd h (Nat.not_lt_zero _)
 |0,ws,m+1,h,_=>by
  have:¬((ws.length:Int)<lim e bV):=by unfold lim;split<;>lia
  rw[iT,Mx,acp this];rfl
 |n+1,ws,m+1,h,hm=>by
  rw[iT,Mx];unfold sR
  by_cases hc:(ws.length:Int)<lim e bV
  .have h1:(ws.length:Int)<bV:=by unfold lim at hc;split at hc<;>lia
   rw[aaP hc,if_pos hc];dsimp only;rw[agk ht (by lia)];apply QT ht hh n (vN size bad e ws) m (by rw[MP];lia) (by lia)
  .rw[acp hc,abM hc]
end
def n5(e:Int)(ks:List Int):List Int:=ks.filter λk=>decide (k<e)
def kI(e:Int):D->Option D
 |.int i=>if decide (i<e)=true then some (.int i) else none
 |_=>none
theorem Jb(e:Int):∀ks:List Int,(ks.map D.int).filterMap (kI e)=(n5 e ks).map D.int
 |[]=>rfl
 |k::r=>by
  unfold n5;rw[aaG,adZ,ajW];have hk:kI e (D.int k)=if decide (k<e)=true then some (D.int k) else none:=rfl
  by_cases h:decide (k<e)=true
  .rw[hk,if_pos h,if_pos h,aaG];dsimp only;rw[Jb e r];rfl
  .rw[hk,abM h,abM h];apply Jb e r
def ab0{js:List (Option Nat)}(hi:it Y=some (ks.map D.int,t))(hj:lI js Y=[none,sS (.int e)])(hl:ks.length<64):
  i0 js it (gN 0) (tV (e2 oLt (aj 0) (aj 1))) (aj 0) Y=sW (.lst ((n5 e ks).map D.int)):=by
 have hc:=j_ (g:=gN 0) (tt:=tV (e2 oLt (aj 0) (aj 1))) (te:=aj 0) (k:=kI e) hi (by rw[List.length_map];unfold PySem.sizeLine;lia) (λd m=>by
  let#[i,mi,rfl]:=ab8.mp m;rw[hj];show _=some (if decide (i<e)=true then some (D.int i) else none)
  by_cases h:decide (i<e)=true
  .rw[if_pos h];refine uw rfl ?_ rfl rfl;show some (decide (i<e))=_;rw[h]
  .rw[abM h];refine C9 rfl ?_;show some (decide (i<e))=_;rw[agJ.mpr h])
 rw[hc,Jb]
def ac0{bad:Option Int}(h0:aj 0 Y=sS (.int size))(h1:aj 1 Y=sS (jQ bad)):∃t,Dn t/\oY (tV (e2 jr (aj 1) (eC .aC))) (e2 jz (aj 0) (eC (.int 1))) (aj 1) Y=some (.int (endOf size bad),t):=by
 have hc:tV (e2 jr (aj 1) (eC .aC)) Y=some bad.isNone:=by
  rw[zG,kG,h1,HE,zg,acg,VB];rfl
 cases bad with
 |none=>apply#[.own,.inl rfl,by rw[Qh (by rw[hc];rfl),kG,h0,HE,zg,kX];rfl]
 |some b=>apply#[.sh [],.inr rfl,by rw[UW (by rw[hc];rfl),h1];rfl]
def W(size:Int)(bad:Option Int)(ks:List Int)(bV:Int):List Int:=sR size bad (endOf size bad) bV 100 (n5 (endOf size bad) ks)
def agv{bad:Option Int}(hh:bV<=60)(hl:ks.length<64)(kd:D)(hk:gu (aj 2) [some (.int size,.sh []),some (jQ bad,.sh []),some (kd,.sh []),some (.int bV,.sh []),none,none]=some (ks.map D.int,.sh []))
  (hk2:∀t,gu (aj 2) [some (.int size,.sh []),some (jQ bad,.sh []),some (kd,.sh []),some (.int bV,.sh []),some (.int (endOf size bad),t),none]=some (ks.map D.int,.sh [])) :
  Ew [.int size,jQ bad,kd,.int bV]=some (.lst ((W size bad ks bV).map D.int)):=by
 refine bY rfl ?_;show Ip [some (.int size,.sh []),some (jQ bad,.sh []),some (kd,.sh []),some (.int bV,.sh []),none,none]=_;unfold Ip;let#[t4,ht,h1]:=ac0 (Y:=[some (.int size,.sh []),some (jQ bad,.sh []),some (kd,.sh []),some (.int bV,.sh []),none,none]) rfl rfl;have q1:eO 4 (oY (tV (e2 jr (aj 1) (eC .aC))) (e2 jz (aj 0) (eC (.int 1))) (aj 1)) [some (.int size,.sh []),some (jQ bad,.sh []),some (kd,.sh []),some (.int bV,.sh []),none,none]=some (.nx [some (.int size,.sh []),some (jQ bad,.sh []),some (kd,.sh []),some (.int bV,.sh []),some (.int (endOf size bad),t4),none]):=by
  rw[oj,h1];rcases ht with rfl|rfl<;>rfl
 have q2:eO 5 (i0 [none,some 4] (gu (aj 2)) (gN 0) (tV (e2 oLt (aj 0) (aj 1))) (aj 0)) [some (.int size,.sh []),some (jQ bad,.sh []),some (kd,.sh []),some (.int bV,.sh []),some (.int (endOf size bad),t4),none]=some (.nx (rW size bad kd bV (endOf size bad) t4 (n5 (endOf size bad) ks))):=by
  rw[oj,ab0 (hk2 t4) rfl hl];rfl
 have q3:=QT (size:=size) (bad:=bad) (kd:=kd) (e:=endOf size bad) ht hh 100 (n5 (endOf size bad) ks) 4000 (by lia) (by lia);rw[je,q1,pC,je,q2,pC,je,q3,pC];rfl
def adv{bad:Option Int}(hh:bV<=60)(hl:ks.length<64):Ew [.int size,jQ bad,.lst (ks.map D.int),.int bV]=some (.lst ((W size bad ks bV).map D.int)):=agv hh hl _ rfl λ_=>rfl
theorem QM{bad:Option Int}(hh:bV<=60):∀(n:Nat) (ws:List Int),ws.length<64->(sR size bad e bV n ws).length<64
 |0,ws,h=>h
 |n+1,ws,h=>by
  unfold sR
  split
  .rename_i hc;refine QM hh n _ ?_;rw[MP];unfold lim at hc
   split at hc<;>lia
  .exact h
def afr{bad:Option Int}(hh:bV<=60)(hl:ks.length<64):(W size bad ks bV).length<64:=QM hh _ _ (ahm (aeY _ _) hl)
section
variable{size bV e:Int}{bad:Option Int}
def ab7(h:Bd e ws)(he:e=endOf size bad)(hl:(ws.length:Int)<e-1):1<=pick size bad e ws/\pick size bad e ws<e:=by
 unfold pick
 split
 .rename_i hc;cases bad with
  |none=>
   have he:e=size+1:=he
   lia
  |some b=>ext hc
 .exact aaN h hl
theorem SN(he:e=endOf size bad):∀(n:Nat) (ws:List Int),Bd e ws->Bd e (sR size bad e bV n ws)
 |0,ws,h=>h
 |n+1,ws,h=>by
  unfold sR
  split
  .rename_i hc;refine SN he n (vN size bad e ws) λx m=>?_
   rcases abH.mp ((tS _).mem_iff.mp m) with m|m
   .exact h x m
   .rw[aa6.mp m];apply ab7 h he (by unfold lim at hc;split at hc<;>lia)
  .exact h
def Z_(h1:∀x∈ks,1<=x):Bd (endOf size bad) (W size bad ks bV):=SN rfl 100 _ λx m=>let q:=adF.mp m;#[h1 x q.1,abl q.2]
end
def m_(hl:ds.length+1=n)(h:b (yc N d0 ds)=some (.nx Y))(h0:Y[0]? = some (sW d1)):runM n N b d0 ds=some (.aC,d1):=by unfold runM;rw[if_pos hl,h];dsimp only;rw[h0]
def hs(h:List Str):D:=.lst (h.map D.str)
def tob(n t:Int)(h:List Str):D:=.ins "Tally" [("need",.int n),("tries",.int t),("heard",hs h)]
def T_(h:1<=n/\n<=t/\t<=20):afd [.int n,.int t]=some (.bl true):=
 bY rfl (cI (zM (b:=true) (cP rfl (yY.trans (by rw[aaP (show(1:Int)<=t by omega),aaP h.2.2];rfl))) (cP rfl (yY.trans (by rw[aaP h.1,aaP h.2.1];rfl)))))
def adP(h:1<=n/\n<=t/\t<=20):Cy (.ins "Tally" []) [.int n,.int t]=some (.aC,tob n t []):=
 m_ rfl (b_ (kN (cj (cP (ps:=[(.int n,.sh []),(.int t,.sh [])]) rfl (T_ h)))) rfl) rfl
def ai2:CA (hs h) (.str w)=some (.int (k8 w h)):=by
 show(kO (h.map D.str)).map (λys=>D.int (k8 w ys))=_;rw[PF];rfl
def Ys:fX (hs h)=some (.int h.length):=by unfold hs;rw[qD,List.length_map]
def word(n t:Int)(h:List Str):Str:=if(k8 "yes" h:Int) >= n then "yes" else if(k8 "no" h:Int) >= n then "no" else if(h.length:Int) >= t then "unsure" else "more"
def Qj:Qq [tob n t h]=some (.str (word n t h)):=by
 have c1:∀w:Str,tV (e2 CD (e2 CA (bH "Tally" "heard" (aj 0)) (eC (.str w))) (bH "Tally" "need" (aj 0))) [sS (tob n t h)]=some (decide ((k8 w h:Int) >= n)):=λw=>cj (aM (aM rfl rfl ai2) rfl rfl)
 have c2:tV (e2 CD (e1 fX (bH "Tally" "heard" (aj 0))) (bH "Tally" "tries" (aj 0))) [sS (tob n t h)]=some (decide ((h.length:Int) >= t)):=cj (aM (bB rfl Ys) rfl rfl);refine bY rfl ?_;unfold word
 by_cases a1:(k8 "yes" h:Int) >= n
 .rw[if_pos a1];apply pP ((c1 _).trans (by rw[aaP a1])) (ja rfl)
 .rw[abM a1];refine b_ ((c1 _).trans (by rw[acp a1])) ?_
  by_cases a2:(k8 "no" h:Int) >= n
  .rw[if_pos a2];apply pP ((c1 _).trans (by rw[aaP a2])) (ja rfl)
  .rw[abM a2];refine b_ ((c1 _).trans (by rw[acp a2])) ?_
   by_cases a3:(h.length:Int) >= t
   .rw[if_pos a3];apply pP (c2.trans (by rw[aaP a3])) (ja rfl)
   .rw[abM a3];apply b_ (c2.trans (by rw[acp a3])) rfl
theorem Mz:∀h:List Str,aK (h.map D.str)=true
 |[]=>rfl
 |x::h=>by rw[aaG];unfold aK;rw[Mz h];rfl
def adV(hw:w∈(["yes","no","unsure"]:List Str))(hm:word n t h="more")(hl:h.length<=100):Vk (tob n t h) [.str w]=some (.str (word n t (h++[w])),tob n t (h++[w])):=by
 have m1:∀h:List Str,bK "Tally" "word" Qq (aj 0) aB [sW (tob n t h),sS (.str w)]=sW (.str (word n t h)):=λh=>mh rfl rfl rfl Qj
 refine jZ rfl (b_ ?_ (b_ (cj (aM (m1 h) rfl (by rw[hm];rfl))) (sq (Y':=[sW (tob n t (h++[w])),sS (.str w)]) (gQ ?_) ?_)))
 .simp only[aaO,acK,aeE] at hw;rcases hw with rfl|rfl|rfl<;>rfl
 .refine(xW rfl rfl rfl (by rw[Mz,List.length_map,aaP (size_le (by lia))];rfl)).trans ?_;unfold tob hs;rw[adk];rfl
 .unfold lZ;rw[m1 (h++[w])];rfl
def aaW(hm:word n t h="more"):(h.length:Int)<t:=by
 unfold word at hm
 split at hm
 .exact absurd hm (by decide +kernel)
 .split at hm
  .exact absurd hm (by decide +kernel)
  .split at hm
   .exact absurd hm (by decide +kernel)
   .omega
abbrev Ta:=List (List Int×List Str)
structure G where
 w:Int
 h:Int
 n:Int
 t:Int
 C:List Ch
 ln:List Int
 ld:List Int
 gr:List (Key×D)
 ta:Ta
 lk:List (List Int)
 ht:Bool
 gw:List (List Int)
 en:List D
 an:Int
 br:Int
def tD(l:List Int):D:=.tup (l.map D.int)
def kL(l:List Int):List Key:=l.map Sum.inl
def oV(n t:Int)(ta:Ta):List (List Key×D):=ta.map λp=>(kL p.1,tob n t p.2)
def gF(g:G):List (Str×D):=[("numbers",.tup [.int g.w,.int g.h,.int g.n,.int g.t]),("known",obj g.C),("on_line",iL g.ln),("laid_ones",iL g.ld),("grounds",.cG g.gr),("tallies",.dN (oV g.n g.t g.ta)),("looks",.lst (cK g.lk)),("halted",.bl g.ht),("grown",.lst (cK g.gw)),("ended",.lst g.en),("answers",.int g.an),("breaks",.int g.br)]
def gD(g:G):D:=.ins "Gate" (gF g)
def GR(h:fo Y=some (obj C,t))(ha:fa Y=some (x,t2))(hF:F [obj C,x]=some d)(hm:(mm==("entries":Str))=false:=by decide):bK "Changes" mm F fo (au fa aB) Y=sW d:=
 mh (ps:=[(x,t2)]) h (BI hm) (by rw[bq,ha,wZ,A1]) hF
def fl(h:fo Y=some (gD g,t))(e:(gF g).lookup f=some d:=by rfl):bH "Gate" f fo Y=some (d,kC t):=by
 unfold bH;rw[h];show(if("Gate":Str)="Gate" then((gF g).lookup f).map _ else none)=_;rw[if_pos rfl,e];rfl
def jg(h:fo Y=some (gD g,t))(hF:F [gD g]=some d)(hm:(gF g).lookup mm=none:=by rfl):bK "Gate" mm F fo aB Y=sW d:=mh h hm rfl hF
def su(h:fo Y=some (gD g,t))(ha:fa Y=some (x,t2))(hF:F [gD g,x]=some d)(hm:(gF g).lookup mm=none:=by rfl):bK "Gate" mm F fo (au fa aB) Y=sW d:=
 mh (ps:=[(x,t2)]) h hm (by rw[bq,ha,wZ,A1]) hF
def eN(gr:List (Key×D))(x:Int):Bool:=(bu gr (Sum.inl x:Key)).isSome
abbrev qz(g:G)(x:Int):Bool:=eN g.gr x
def Dt(g:G)(x:Int):Bool:=!decide (x∈g.ln)&&(!decide (x∈g.ld)&&!qz g x)
def Ur(h:f Y=some (.int x,t))(h2:f2 Y=some (iL l,t2)):e2 (jP true) f f2 Y=sW (.bl (!decide (x∈l))):=
 aM h h2 (by rw[<- LK];apply Dy)
def X0:ae2 [gD g,.int x]=some (.bl (Dt g x)):=
 bY rfl (cI (zM (Ur rfl (fl rfl)) (zM (Ur rfl (fl rfl)) (aM rfl (fl rfl) rfl))))
def wl(g:G):List Int:=(dH 1 g.C.length).filter (Dt g)
def lU:(dH a n).length=n:=by unfold dH;rw[List.length_map,List.length_range]
def vR(hR:g.C.length<=100):AJ [gD g]=some (iL (wl g)):=by
 have hi:rO (eC (.int 1)) (e2 jz (bK "Changes" "many" Kg (bH "Gate" "known" (aj 0)) aB) (eC (.int 1))) [some (gD g,.sh [])]=some ((dH 1 g.C.length).map D.int,.own):=by
  rw[B3 rfl (aM (mh (fl rfl) rfl rfl (UI g.C)) rfl rfl) (pZ (by lia) (by lia)) (pZ (by lia) (by lia)),show((g.C.length:Int)+1-1).toNat=g.C.length by lia]
 apply bY rfl (cI (zQ hi (by rw[lU];lia) (λx=>rfl) (λx mx=>cj (su rfl rfl X0))))
def r_:x∈wl g↔(1<=x/\x<=(g.C.length:Int))/\x∉g.ln/\x∉g.ld/\qz g x=false:=by
 unfold wl;rw[adF,gK];unfold Dt;simp only[aaM,Bool.not_eq_true',decide_eq_false_iff_not];apply and_congr_left λ_=>by lia
def nO:Row g.C (wl g):=λx m=>(r_.mp m).1
def ZV:(wl g).Pairwise (· < ·):=(UP 1 _).sublist aiQ
def Dk:(wl g).Nodup:=ZV.imp (λh=>by lia)
def zU:(wl g).length<=g.C.length:=by
 have:=aeY (Dt g) (dH 1 g.C.length)
 rwa [lU] at this
def gv{κ α:Type}[DecidableEq κ](es:List (κ×α))(k:κ):Option α:=(es.find? λkv=>decide (kv.1=k)).map (·.2)
def gp{κ α:Type}[DecidableEq κ](es:List (κ×α))(k:κ)(d:α):List (κ×α):=if(es.any λkv=>decide (kv.1=k))=true then es.map (λkv=>if kv.1=k then(kv.1,d) else kv) else es++[(k,d)]
def Qg[DecidableEq κ]{es:List (κ×α)}:gv (gp es k d) k=some d:=by
 unfold gv gp
 by_cases h:(es.any λkv=>decide (kv.1=k))=true
 .rw[if_pos h]
  induction es with
  |nil=>ext h
  |cons a r ih=>
   rw[aaG]
   by_cases z:a.1=k
   .rw[if_pos z,ai4 (by simpa using z)];rfl
   .rw[abM z,aft (by simpa using z)];apply ih (by rw[aiw,acp z,Bool.false_or] at h;apply h)
 .rw[abM h,List.find?_append];have:es.find? (λkv=>decide (kv.1=k))=none:=by
   rw[aho];intro x m e;apply h (adX.mpr #[x,m,e])
  rw[this];simp
def QJ[DecidableEq κ]{es:List (κ×α)}(h:j≠k):gv (gp es k d) j=gv es j:=by
 unfold gv gp
 congr 1
 split
 .rename_i hh;clear hh
  induction es with
  |nil=>rfl
  |cons a r ih=>
   rw[aaG]
   by_cases z:a.1=k
   .rw[if_pos z];have:¬a.1=j:=λe=>h (e.symm.trans z)
    rw[aft (by simpa using this),aft (by simpa using this)];apply ih
   .rw[abM z]
    by_cases y:a.1=j
    .rw[ai4 (by simpa using y),ai4 (by simpa using y)]
    .rw[aft (by simpa using y),aft (by simpa using y)];apply ih
 .rw[List.find?_append,aft (by simpa using λe:k=j=>h e.symm)];simp
def XA{κ:Type}{k:κ}[DecidableEq κ]{es:List (κ×D)}:(bu (putD es k d) k)=some d:=Qg
def afj{κ:Type}{j k:κ}[DecidableEq κ]{es:List (κ×D)}(h:j≠k):bu (putD es k d) j=bu es j:=QJ h
def vf{gr:List (Key×D)}:eN (putD gr (Sum.inl x) d) y=(decide (y=x)||eN gr y):=by
 unfold eN
 by_cases h:y=x
 .rw[h,XA,aaP rfl];rfl
 .rw[afj (λe=>by injection e with e;apply h e),acp h];rfl
def sV:aK ds=true↔∀d∈ds,aA d=true:=by
 induction ds with
 |nil=>apply#[λ_ d m=>(nomatch m),λ_=>rfl]
 |cons a r ih=>
  unfold aK;rw[aaM,ih];apply#[λh d m=>(aaO.mp m).elim (λe=>e ▸ h.1) (h.2 d),λh=>#[h a aav,λd m=>h d (aar _ m)]]
def aaX[DecidableEq κ]{es:List (κ×D)}(h:aK (es.map (·.2))=true)(hd:aA d=true):aK ((putD es k d).map (·.2))=true:=by
 rw[sV] at h ⊢;intro y m;let#[kv,mk,rfl]:=ab8.mp m;unfold putD at mk
 split at mk
 .let#[x,mx,rfl]:=ab8.mp mk
  split
  .exact hd
  .exact h _ (ab8.mpr #[x,mx,rfl])
 .rcases abH.mp mk with mk|mk
  .exact h _ (ab8.mpr #[kv,mk,rfl])
  .cases aa6.mp mk;apply hd
def QY[DecidableEq κ]{es:List (κ×α)}:(gp es k d).map (·.1)=if k∈es.map (·.1) then es.map (·.1) else es.map (·.1)++[k]:=by
 unfold gp
 by_cases h:(es.any λkv=>decide (kv.1=k))=true
 .rw[if_pos h,if_pos (by let#[x,m,e]:=adX.mp h;apply ab8.mpr #[x,m,abl e]),adw];refine agB λa _=>?_
  show(if a.1=k then(a.1,d) else a).1=a.1
  split<;>rfl
 .rw[abM h,abM (λm=>by let#[x,m,e]:=ab8.mp m;apply h (adX.mpr #[x,m,aaP e])),adk];rfl
def Cb[DecidableEq κ]{es:List (κ×α)}(h:(es.map (·.1)).Nodup):((gp es k d).map (·.1)).Nodup:=by
 rw[QY]
 split
 .exact h
 .rename_i hk;apply acU.mpr #[h,by simp,λa ma b mb e=>by cases aa6.mp mb;apply hk (e ▸ ma)]
structure Gr(n:Nat)(gr:List (Key×D)):Prop where
 im:aK (gr.map (·.2))=true
 nd:(gr.map (·.1)).Nodup
 ks:∀k∈gr.map (·.1),∃x:Int,k=Sum.inl x/\x∈dH 1 n
 tp:∀p∈gr,(n9 p.2).isSome=true
def Cn[DecidableEq κ]{es:List (κ×α)}(m:q∈gp es k d):q∈es\/q=(k,d):=by
 unfold gp at m
 split at m
 .let#[p,mp,rfl]:=ab8.mp m
  split
  .rename_i e;apply .inr (by rw[e])
  .exact .inl mp
 .exact(abH.mp m).imp id aa6.mp
def Gr.put(h:Gr n gr)(hx:x∈dH 1 n)(hd:aA d=true)(ht:(n9 d).isSome=true:=by rfl):Gr n (putD gr (Sum.inl x) d):=#[aaX h.im hd,Cb h.nd,λk m=>by
 have m:k∈(gp gr (Sum.inl x) d).map (·.1):=m;rw[QY] at m
 split at m
 .exact h.ks k m
 .rcases abH.mp m with m|m
  .exact h.ks k m
  .exact#[x,aa6.mp m,hx],λp m=>(Cn m).elim (h.tp p) λe=>by rw[e];apply ht]
def G0(h:eN gr x=false):putD gr (Sum.inl x) d=gr++[(Sum.inl x,d)]:=by
 unfold putD;rw[abM];intro q;let#[kv,m,e]:=adX.mp q;unfold eN bu at h;rw[ahA] at h;have:=(List.find?_isSome (p:=λkv:Key×D=>decide (kv.1=Sum.inl x))).mpr #[kv,m,e];rw[h] at this;ext this
def cnt(gr:List (Key×D)):Nat:=(xC "look" gr).length
def abt:cnt a<=a.length:=by
 unfold cnt xC;rw[List.length_map];apply aeY _ _
def kg:List (Key×D)->List Int
 |[]=>[]
 |(.inl x,_)::r=>x::kg r
 |_::r=>kg r
theorem s_:∀{gr},(∀k∈gr.map (·.1),∃x:Int,k=Sum.inl x/\x∈dH 1 n)->gr.map (·.1)=(kg gr).map Sum.inl/\jt gr=some (kg gr)
 |[],_=>#[rfl,rfl]
 |(k,d)::r,h=>by
  let#[x,e,_]:=h k aav;let#[a,b]:=s_ λk m=>h k (aar _ m)
  have e:=e;subst e;refine#[by rw[aaG,a];rfl,?_];show(jt r).map _=_;rw[b];rfl
def abY{l:List Int}:(l.map (Sum.inl:Int->Key)).Nodup↔l.Nodup:=by
 unfold List.Nodup;rw[ajw];apply#[λh=>h.imp λq e=>q (by rw[e]),λh=>h.imp λq e=>q (ake e)]
def Gr.nK{gr:List (Key×D)}(h:Gr n gr):(kg gr).Nodup:=abY.mp ((s_ h.ks).1 ▸ h.nd)
def Gr.mem{gr:List (Key×D)}(h:Gr n gr):x∈kg gr↔eN gr x=true:=by
 have e:=(s_ h.ks).1;unfold eN bu;rw[ahA,List.find?_isSome];constructor
 .intro m;have:(Sum.inl x:Key)∈gr.map (·.1):=e ▸ ab8.mpr #[x,m,rfl];let#[kv,mk,q]:=ab8.mp this;apply#[kv,mk,aaP q]
 .rintro⟨kv,mk,q⟩
  have:(Sum.inl x:Key)∈gr.map (·.1):=ab8.mpr #[kv,mk,abl q];rw[e] at this;let#[y,my,q]:=ab8.mp this;apply ake q ▸ my
def Gr.bd{gr:List (Key×D)}(h:Gr n gr)(m:eN gr x=true):x∈dH 1 n:=by
 have:(Sum.inl x:Key)∈gr.map (·.1):=(s_ h.ks).1 ▸ ab8.mpr #[x,h.mem.mpr m,rfl];let#[y,e,q]:=h.ks _ this;apply ake e ▸ q
def Gr.len{gr:List (Key×D)}(h:Gr n gr):gr.length<=n:=by
 have:=sub_len h.nK λx m=>h.bd (h.mem.mp m)
 rw[lU] at this;have e:=congrArg List.length (s_ h.ks).1;rw[List.length_map,List.length_map] at e
 lia
abbrev qW(ta:Ta)(l:List Int):Option (List Str):=gv ta l
def wd(g:G)(l:List Int):Str:=match qW g.ta l with
 |none=>"more"
 |some h=>word g.n g.t h
theorem yd:∀l:List Int,jh (l.map D.int)=some (kL l)
 |[]=>rfl
 |x::l=>by
  rw[aaG];unfold jh;rw[yd l];rfl
theorem xG:∀{a b},kL a=kL b->a=b
 |[],[],_=>rfl
 |[],_::_,e=>by ext e
 |_::_,[],e=>by ext e
 |x::a,y::b,e=>by
  injection e with e1 e2;ext e1;rw[xG e2]
section
variable[DecidableEq κ][DecidableEq O1]{φ:κ->O1}{ψ:α->D}{k:κ}
theorem DY(yL:∀a b,φ a=φ b->a=b):∀es:List (κ×α),bu (es.map λp=>(φ p.1,ψ p.2)) (φ k)=(gv es k).map ψ
 |[]=>rfl
 |p::r=>by
  have ih:=DY yL r;unfold bu gv at ih ⊢;rw[aaG,adx,adx,show decide ((φ p.1,ψ p.2).1=φ k)=decide (p.1=k) from ajY.mpr #[yL _ _,λe=>by rw[<- e]]];cases decide (p.1=k) with
  |true=>rfl
  |false=>apply ih
def K5(yL:∀a b,φ a=φ b->a=b):putD (es.map λp=>(φ p.1,ψ p.2)) (φ k) (ψ d)=(gp es k d).map λp=>(φ p.1,ψ p.2):=by
 unfold putD gp;rw[aip,show es.any ((λkv:O1×D=>decide (kv.1=φ k)) ∘ λp=>(φ p.1,ψ p.2))=es.any λp=>decide (p.1=k) from congrArg es.any (funext λp=>ajY.mpr #[yL _ _,λe=>by rw[<- e]])]
 split
 .rw[adw,adw];refine agB λp _=>?_
  simp only[Function.comp]
  by_cases z:p.1=k
  .rw[if_pos (by rw[z]),if_pos z]
  .rw[abM λq=>z (yL _ _ q),abM z]
 .rw[adk];rfl
end
def RM(ta:Ta):bu (oV n t ta) (kL l)=(qW ta l).map (tob n t):=DY (λ_ _=>xG) ta
def Jw:C6 [gD g,tD l]=some (.str (wd g l)):=by
 have v:=RM (n:=g.n) (t:=g.t) (l:=l) g.ta;have xu:tV (e2 (Lm false) (aj 1) (bH "Gate" "tallies" (aj 0))) [sS (gD g),sS (tD l)]=some (bu (oV g.n g.t g.ta) (kL l)).isSome:=cj (aM rfl (fl rfl) (by
  show(jh (l.map D.int)).map _=_;rw[yd];rfl))
 refine bY rfl (cI ?_);unfold wd;rw[v] at xu;cases e:qW g.ta l with
 |none=>rw[e] at xu;apply UW xu
 |some h=>
  rw[e] at xu v;refine(Qh xu).trans (mh (t:=.sh []) ?_ rfl rfl Qj);unfold LY;rw[fl rfl,show aj 1 [sS (gD g),sS (tD l)]=sS (tD l) from rfl];show(jh (l.map D.int)).bind _=_;rw[yd,acG,v];rfl
def ic(g:G)(p:Nat):List Int:=g.ln++g.ld.take p
def f_look{p:Nat}(hp:p<=g.ld.length)(hl:g.ln.length+g.ld.length<=1000):yp [gD g,.int p]=some (tD (ic g p)):=by
 have hc:qJ (bH "Gate" "laid_ones" (aj 0)) (aj 1) [sS (gD g),sS (.int p)]=sW (iL (g.ld.take p)):=by
  unfold qJ;rw[fl rfl,show aj 1 [sS (gD g),sS (.int p)]=sS (.int p) from rfl];show(if aK (g.ld.map D.int)=true then some (D.lst (cutD (g.ld.map D.int) none (some (p:Int))),Tag.own) else none)=_;rw[if_pos (dW _),KL (by rw[List.length_map];apply hp),<- List.map_take];rfl
 have h1:=ahW (i:=p) (l:=g.ld);apply bY rfl (cI (bB (aM (fl rfl) hc (v8 (by rw[afK];lia))) Lz))
def bw(s:Str):Bool:=(["no","unsure"]:List Str).any (· == s)
def nI(g:G)(p:Nat):Bool:=bw (wd g (ic g p))
def f_(g:G):Option Nat:=((List.range g.ld.length).map (· + 1)).find? (nI g)
def bD:Option Nat->D
 |none=>.aC
 |some p=>.int p
theorem M6(hl:g.ln.length+g.ld.length<=1000):∀{ps:List Nat} {s1},(∀p∈ps,p<=g.ld.length)->∃qN,
  dU (gN 1) (.sh []) (eW (tV (e2 (vL false) (bK "Gate" "word_of" C6 (aj 0) (au (bK "Gate" "look_of" yp (aj 0) (au (aj 1) aB)) aB)) (eC (.tup ((["no","unsure"]:List Str).map D.str))))) (tQ 1) gm) (ps.map λp:Nat=>D.int p) [sS (gD g),s1]=some (match ps.find? (nI g) with|none=>.nx [sS (gD g),qN]|some p=>.rt (.int p))
 |[],s1,_=>#[s1,rfl]
 |p::ps,s1,h=>by
  let#[a,e]:=M6 hl (λq m=>h q (aar _ m));have ht:tV (e2 (vL false) (bK "Gate" "word_of" C6 (aj 0) (au (bK "Gate" "look_of" yp (aj 0) (au (aj 1) aB)) aB)) (eC (.tup ((["no","unsure"]:List Str).map D.str)))) [sS (gD g),sS (.int p)]=some (nI g p):=
   cj (aM (su rfl (su rfl rfl (f_look (h p aav) hl)) Jw) rfl rfl)
  refine#[a,?_];rw[adx];cases eb:nI g p with
  |true=>
   rw[eb] at ht;apply MJ (aO:=[sS (gD g),sS (.int p)]) rfl (by rw[iH,ht];rfl)
  |false=>
   rw[eb] at ht;apply(nq (aO:=[sS (gD g),sS (.int p)]) rfl (by rw[iH,ht];rfl)).trans e
def agE(n:Nat):(dH 1 n).map D.int=((List.range n).map (· + 1)).map λp:Nat=>D.int p:=by
 unfold dH;rw[adw,adw];refine agB λi _=>?_
 show D.int (1+(i:Int))=D.int ((i+1:Nat):Int);rw[show(1+(i:Int))=((i+1:Nat):Int) by lia]
def wo:p∈(List.range n).map (· + 1)↔1<=p/\p<=n:=by
 rw[ab8];apply#[λ⟨i,m,e⟩=>by have:=akl.mp m;lia,λh=>#[p-1,akl.mpr (by lia),by lia]]
def CC{g:G}(hl:g.ln.length+g.ld.length<=900):xZ [gD g]=some (bD (f_ g)):=by
 let#[a,e]:=M6 (by lia) (ps:=(List.range g.ld.length).map (· + 1)) (λp m=>(wo.mp m).2);have hi:rO (eC (.int 1)) (e2 jz (e1 fX (bH "Gate" "laid_ones" (aj 0))) (eC (.int 1))) [some (gD g,.sh []),none]=some (((List.range g.ld.length).map (· + 1)).map λp:Nat=>D.int p,.own):=by
  rw[B3 rfl (aM (bB (fl rfl) (by show some (D.int (g.ld.map D.int).length)=_;rw[List.length_map])) rfl rfl) (pZ (by lia) (by lia)) (pZ (by lia) (by lia)),show((g.ld.length:Int)+1-1).toNat=g.ld.length by lia,agE]
 refine bY rfl ?_;unfold f_;cases eb:((List.range g.ld.length).map (· + 1)).find? (nI g) with
 |none=>rw[eb] at e;apply sq (vO hi e) rfl
 |some p=>rw[eb] at e;apply ja (TN hi e)
def vU(h:f_ g=some p):1<=p/\p<=g.ld.length/\nI g p=true/\∀q,1<=q->q<p->nI g q=false:=by
 let#[h1,as,bs,e,h2]:=List.find?_eq_some_iff_append.mp h;have hp:=wo.mp (show p∈(List.range g.ld.length).map (· + 1) from e ▸ aaH _ aav);refine#[hp.1,hp.2,h1,λq q1 q2=>?_];have so:((List.range g.ld.length).map (· + 1)).Pairwise (· < ·):=ajw.mpr (List.pairwise_lt_range.imp λh=>by lia);have mq:q∈(List.range g.ld.length).map (· + 1):=wo.mpr (by lia);rw[e] at so mq;rcases abH.mp mq with m|m
 .simpa using h2 q m
 .rcases aaO.mp m with m|m
  .lia
  .have:=(agc.mp (List.pairwise_append.mp so).2.1).1 q m;lia
def VY:f_ g=none↔∀p,1<=p->p<=g.ld.length->nI g p=false:=by
 unfold f_;rw[aho];apply#[λh p h1 h2=>by simpa using h p (wo.mpr #[h1,h2]),λh p m=>by simpa using h p (wo.mp m).1 (wo.mp m).2]
theorem LC:∀a b:List Int,PyData.eqvAll (a.map PyData.int) (b.map PyData.int)=decide (a=b)
 |[],[]=>rfl
 |[],_::_=>rfl
 |_::_,[]=>rfl
 |x::a,y::b=>by
  simp only[aaG,PyData.eqvAll,PyData.eqv,LC a b]
  by_cases h:x=y<;>by_cases k:a=b<;>simp[h,k]
def TZ(l:List Int):py (tD l)=.tuple (l.map PyData.int):=by unfold tD;unfold py;rw[yU]
def ZS(l:List Int):eS (tD l)=true:=by
 unfold eS;have c1:fS (tD l)=true:=by unfold tD;unfold fS;apply Du _
 rw[c1,TZ];have c2:(PyData.tuple (l.map PyData.int)).canLay0=true:=by simp only[PyData.canLay0];apply Ea l
 have c3:(PyData.tuple (l.map PyData.int)).depth<=40:=by simp only[PyData.depth,depthAll_ints];lia
 rw[c2,aaP c3];rfl
def any_rows(l:List Int)(L:List (List Int)):((d_ (cK L)).any λy=>PyData.eqv y (py (tD l)))=decide (l∈L):=by
 rw[Ic,TZ,aip];have:((λy=>PyData.eqv y (PyData.tuple (l.map PyData.int))) ∘ jV)=λr=>decide (r=l):=funext λr=>by
  simp only[Function.comp,jV,PyData.eqv,LC]
 rw[this]
 by_cases h:l∈L
 .rw[aaP h];apply adX.mpr #[l,h,by simp]
 .rw[acp h,agJ];intro e;let#[y,my,ey]:=adX.mp e;apply h ((abl ey) ▸ my)
def Gi(neg:Bool)(l:List Int)(L:List (List Int)):AB neg (tD l) (.lst (cK L))=some (.bl (if neg=true then !decide (l∈L) else decide (l∈L))):=by
 show(if(eS (tD l)&&eS (.lst (cK L)))=true then some (D.bl (if neg=true then !(d_ (cK L)).any λy=>PyData.eqv y (py (tD l)) else(d_ (cK L)).any λy=>PyData.eqv y (py (tD l)))) else none)=_;rw[ZS,acF,any_rows];rfl
def kp(g:G)(l:List Int):Bool:=decide (l∈g.lk)&&(wd g l == "more")
def ag7:WA [gD g,tD l]=some (.bl (kp g l)):=
 bY rfl (cI (zM (aM rfl (fl rfl) (Gi false l g.lk)) (aM (su rfl rfl Jw) rfl rfl)))
def As(g:G):List Int:=(dH 1 g.ld.length).filter λx=>kp g (ic g x.toNat)
def yH(g:G):Option Int:=(f_ g).map λp:Nat=>(p:Int)
def v9(g:G):List Int:=W g.ld.length (yH g) (As g) g.h
def Ax(g:G):List (List Int):=(v9 g).map λp=>ic g p.toNat
def afX(o:Option Nat):bD o=jQ (o.map λp:Nat=>(p:Int)):=by ext o<;>rfl
def Iz:(∀x∈As g,1<=x/\x<=g.ld.length)/\(As g).length<=g.ld.length:=by
 refine#[λx m=>by have:=gK.mp (adF.mp m).1;lia,?_];have:=aeY (λx=>kp g (ic g x.toNat)) (dH 1 g.ld.length)
 rwa [lU] at this
def eo(g:G):Int:=endOf g.ld.length (yH g)
def OL:Bd (eo g) (v9 g):=Z_ λx m=>(Iz.1 x m).1
def Rj(hh:g.h<=60)(h6:g.ld.length<64):(v9 g).length<64:=afr hh (by have:=Iz (g:=g).2;lia)
def Vp:1<=eo g/\eo g<=g.ld.length+1:=by
 unfold eo yH;cases e:f_ g with
 |none=>show 1<=(g.ld.length:Int)+1/\(g.ld.length:Int)+1<=_;lia
 |some p=>have:=vU e;show 1<=(p:Int)/\(p:Int)<=_;lia
def Z5(hl:g.ln.length+g.ld.length<=900)(h6:g.ld.length<64)(hh:g.h<=60):Zp [gD g]=some (.lst (cK (Ax g))):=by
 have hi:rO (eC (.int 1)) (e2 jz (aj 1) (eC (.int 1))) [some (gD g,.sh []),some (.int g.ld.length,.own),none]=some ((dH 1 g.ld.length).map D.int,.own):=by
  rw[B3 rfl rfl (pZ (by lia) (by lia)) (pZ (by lia) (by lia)),show((g.ld.length:Int)+1-1).toNat=g.ld.length by lia]
 have look:∀{x:Int},1<=x->x<=g.ld.length->bK "Gate" "look_of" yp (aj 1) (au (aj 0) aB) [some (.int x,.sh []),some (gD g,.sh [])]=some (tD (ic g x.toNat),.own):=λ{x} h1 h2=>
  su rfl rfl (by
   have:=f_look (g:=g) (p:=x.toNat) (by lia) (by lia)
   rwa [show((x.toNat:Nat):Int)=x by lia] at this)
 refine bY rfl (iO (bB (fl rfl) (by show some (D.int (g.ld.map D.int).length)=_;rw[List.length_map])) (iO (zQ hi (by rw[lU];lia) (λx=>rfl) (λx mx=>by
  have hx:=gK.mp mx;apply cj (su rfl (look (by lia) (by lia)) ag7))) (cI ?_)))
 have hw:cZ Ew (au (aj 1) (au (bK "Gate" "bad" xZ (aj 0) aB) (au (aj 2) (au (e2 c9 (bH "Gate" "numbers" (aj 0)) (eC (.int 1))) aB)))) [some (gD g,.sh []),some (.int g.ld.length,.own),some (iL (As g),.own)]=some (iL (v9 g),.own):=
  cP (by
   rw[bq,bq,jg rfl (CC hl)];rfl) (by
   have:=adv (size:=g.ld.length) (bad:=yH g) (ks:=As g) hh (by have:=Iz (g:=g).2;lia);simp only[aaG,akm];rw[afX];apply this)
 have hc:=j_ (js:=[none,some 0]) (g:=gN 0) (tt:=qp) (k:=λd=>match d with | .int p=>some (tD (ic g p.toNat)) | _=>none) (j8 hw) (by rw[List.length_map];apply size_le (by have:=Rj hh h6;lia)) (λd m=>by
  let#[x,mx,rfl]:=ab8.mp m;have:=OL x mx;have:=Vp (g:=g);apply sI rfl rfl (look (by lia) (by lia)))
 rw[aeC] at hc;have e:(v9 g).filterMap ((λd=>match d with|.int p=>some (tD (ic g p.toNat))|_=>none) ∘ D.int)=cK (Ax g):=by
  unfold Ax cK;rw[adw];apply pR (λp:Int=>tD (ic g p.toNat)) _
 rw[e] at hc;apply hc
def o8(h:fv Y=some (d,t))(h0:Y[0]? = some (sW (gD g)))(ho:(k9 t||aA d)=true)(e:eK f d (gF g)=gF g'):jE (uM 0 "Gate" f fv) Y=some (.nx (bU Y 0 (gD g'))):=by
 refine gQ ?_;unfold uM;rw[h,h0];show(if("Gate":Str)="Gate"/\(gF g).length<1000/\(k9 t||aA d)=true then some (Out.nx (bU Y 0 (.ins "Gate" (eK f d (gF g))))) else none)=_;rw[if_pos #[rfl,by show 12<1000;decide,ho],e];rfl
def xo(h0:Y[0]? = some (sW (gD g)))(h:F (gD g) []=some (r,gD g'))(hm:(gF g).lookup m=none:=by rfl):xO 0 "Gate" m F aB Y=some (r,bU Y 0 (gD g')):=by
 unfold xO;rw[h0];show(if("Gate":Str)="Gate"/\(gF g).lookup m=none/\apart 0 []=true then(F (gD g) []).map _ else none)=_;rw[if_pos #[rfl,hm,rfl],h];rfl
def Bx(h:fv Y=some (d,t))(hk:fk Y=some (.int x,t2))(h0:Y[0]? = some (sW (gD g)))(hi:aA d=true)(hG:aK (g.gr.map (·.2))=true)(hl:g.gr.length<=100):Au 0 "Gate" "grounds" fk fv Y=some (.nx (bU Y 0 (gD { g with gr:=putD g.gr (Sum.inl x) d }))):=by
 unfold Au;rw[h,h0,hk];apply if_pos (by rw[hi];show(true&&aK (g.gr.map (·.2))&&decide (g.gr.length<sizeLine))=true;rw[hG,aaP (size_le (by lia))];rfl)
def n8(h:f Y=some (d,t)):jE (eO i f) Y=some (.nx (iE Y i d t)):=gQ (by unfold eO;rw[h])
def oO(h:tf Y=some true)(h2:sf Y=r):eW tf sf sg Y=r:=by rw[iH,h];apply h2
def K2(h:tf Y=some false)(h2:sg Y=r):eW tf sf sg Y=r:=by rw[iH,h];apply h2
def MW:dM ((x::r).map D.int) 0=some (.int x):=by
 unfold dM kh;rw[if_pos (by omega),if_pos (by rw[List.length_map,acv];omega)];rfl
def gone(C:List Ch)(gr:List (Key×D))(x:Int):List Int:=(lean (sec C) x).filter (eN gr)
def gP(C:List Ch)(gr:List (Key×D))(x:Int):List (Key×D):=match gone C gr x with
 |[]=>gr
 |y::_=>putD gr (Sum.inl x) (.tup [.str "leans",.int y])
theorem K4{g:G}(gc:GoodC Sl g.C):∀{l} {gr} {s1 s2},Row g.C l->Gr g.C.length gr->∃qN Hs,dU (gN 1) (.sh []) (ck (eO 2 (i0 [none,some 0] (gu (bK "Changes" "leans_of" G9 (bH "Gate" "known" (aj 0)) (au (aj 1) aB))) (gN 0) (tV (e2 (qY false) (aj 0) (bH "Gate" "grounds" (aj 1)))) (aj 0))) (eW (uz (aj 2)) (Au 0 "Gate" "grounds" (aj 1) (gX (au (eC (.str "leans")) (au (e2 c9 (aj 2) (eC (.int 0))) aB)))) gm)) (l.map D.int) [sW (gD { g with gr:=gr }),s1,s2]=some (.nx [sW (gD { g with gr:=l.foldl (gP g.C) gr }),qN,Hs])
 |[],gr,s1,s2,_,_=>#[s1,s2,rfl]
 |x::l,gr,s1,s2,h,k=>by
  have hx:=h x aav;have hc:i0 [none,some 0] (gu (bK "Changes" "leans_of" G9 (bH "Gate" "known" (aj 0)) (au (aj 1) aB))) (gN 0) (tV (e2 (qY false) (aj 0) (bH "Gate" "grounds" (aj 1)))) (aj 0) [sW (gD { g with gr:=gr }),sS (.int x),s2]=sW (iL (gone g.C gr x)):=
   zQ (j8 (GR (fl rfl) rfl (Ou hx.1 hx.2))) (by have:=gc.few x;lia) (λy=>rfl) (λy _=>cj (aM rfl (fl rfl) rfl))
  cases e:gone g.C gr x with
  |nil=>
   let#[a,b,ih]:=K4 gc (λy m=>h y (aar _ m)) k;refine#[a,b,(nq rfl (iO (e ▸ hc) rfl)).trans (ih.trans ?_)];rw[aeu,show gP g.C gr x=gr by unfold gP;rw[e]]
  |cons y r=>
   have k':Gr g.C.length (gP g.C gr x):=by unfold gP;rw[e];apply k.put (gK.mpr (by lia)) rfl
   let#[a,b,ih]:=K4 gc (λy m=>h y (aar _ m)) k';refine#[a,b,(nq rfl (iO (e ▸ hc) (oO rfl ((Bx (d:=.tup [.str "leans",.int y]) (t:=.own) ?_ rfl rfl rfl k.im (by have:=k.len;have:=gc.ln;show gr.length<=100;lia)).trans ?_)))).trans ih]
   .rw[nS,bq,bq,aM rfl rfl (qT MW rfl)];rfl
   .unfold gP;rw[e];rfl
def uc(g:G):G:={ g with gr:=(wl g).foldl (gP g.C) g.gr }
def ads(gc:GoodC Sl g.C)(k:Gr g.C.length g.gr):HQ (gD g) []=some (.aC,gD (uc g)):=by
 let#[a,b,e]:=K4 gc nO k;apply m_ rfl (gQ (vO (j8 (jg rfl (vR (by have:=gc.ln;lia)))) e)) rfl
theorem MC:∀{l:List Int} {gr},Gr n gr->(∀x∈l,x∈dH 1 n)->Gr n (l.foldl (gP C) gr)/\(∀x,eN gr x=true->eN (l.foldl (gP C) gr) x=true)/\(∀x,eN (l.foldl (gP C) gr) x=true->eN gr x=true\/x∈l)
 |[],gr,k,_=>#[k,λ_ h=>h,λ_ h=>.inl h]
 |x::l,gr,k,h=>by
  have k1:Gr n (gP C gr x)/\(∀y,eN gr y=true->eN (gP C gr x) y=true)/\∀y,eN (gP C gr x) y=true->eN gr y=true\/y=x:=by
   unfold gP
   split
   .exact#[k,λ_ h=>h,λ_ h=>.inl h]
   .refine#[k.put (h x aav) rfl,λy q=>by rw[vf,q,Bool.or_true],λy q=>?_];rw[vf,aji,ajo] at q;apply q.symm
  let#[a,b,c]:=MC k1.1 λy m=>h y (aar _ m)
  refine#[a,λy q=>b y (k1.2.1 y q),λy q=>?_];rcases c y q with q|q
  .exact(k1.2.2 y q).imp id λe=>by rw[e];apply aav
  .exact .inr (aar _ q)
theorem VI:∀{l:List Int} {gr},l.Nodup->(∀x∈l,eN gr x=false)->gr <+: l.foldl (gP C) gr
 |[],gr,_,_=>aj0 _
 |x::l,gr,nd,h=>by
  let#[n1,n2]:=acw.mp nd;have h1:gr <+: gP C gr x/\∀y∈l,eN (gP C gr x) y=false:=by
   unfold gP
   split
   .exact#[aj0 _,λy m=>h y (aar _ m)]
   .refine#[by rw[G0 (h x aav)];apply List.prefix_append _ _,λy m=>?_];rw[vf,h y (aar _ m),acp (show ¬y=x from λe=>n1 (e ▸ m))];rfl
  apply h1.1.trans (VI n2 h1.2)
def lay_ints(l:List Int):eS (iL l)=true:=by
 unfold eS;have c1:fS (iL l)=true:=by unfold iL;unfold fS;apply Du _
 have c0:py (iL l)=.list (l.map PyData.int):=by unfold iL;unfold py;rw[yU]
 rw[c1,c0];have c2:(PyData.list (l.map PyData.int)).canLay0=true:=by simp only[PyData.canLay0];apply Ea l
 have c3:(PyData.list (l.map PyData.int)).depth<=40:=by simp only[PyData.depth,depthAll_ints];lia
 rw[c2,aaP c3];rfl
def aek(a b:List Int):PyData.eqv (py (iL a)) (py (iL b))=decide (a=b):=by
 have c:∀l,py (iL l)=.list (l.map PyData.int):=λl=>by unfold iL;unfold py;rw[yU]
 rw[c,c];simp only[PyData.eqv,LC]
def neI(a b:List Int):pq (iL a) (iL b)=some (.bl (!decide (a=b))):=by
 unfold pq;rw[lay_ints,lay_ints,aek];rfl
abbrev S8:List Int:=dH 0 8
structure Gd(g:G):Prop where
 w1:1<=g.w/\g.w<=16
 h1:1<=g.h/\g.h<=8
 nt:1<=g.n/\g.n<=g.t/\g.t<=20
 gc:GoodC S8 g.C
 row:Row g.C (g.ln++g.ld)
 nd:(g.ln++g.ld).Nodup
 uD:(g.ld.length:Int)<=g.w
 mJ:∀x∈g.ln++g.ld,qz g x=false
 gr:Gr g.C.length g.gr
 run:∃v,fW [] (fV g.C (g.ln++g.ld))=some v
def Gd.len(k:Gd g):g.ln.length+g.ld.length<=60:=by
 have:=sub_len k.nd λx m=>gK.mpr (show 1<=x/\x<1+(g.C.length:Int) by have:=k.row x m;lia)
 rw[lU,abV] at this;have:=k.gc.ln
 lia
theorem Fo:∀{a b} {v},(∃w,fW v (fV C (a++b))=some w)->∃w,fW v (fV C a)=some w
 |[],b,v,_=>#[v,rfl]
 |x::a,b,v,#[w,h]=>by
  have h:(if bad v (cX C x)=[] then fW (dZ v (cX C x)) (fV C (a++b)) else none)=some w:=h;show ∃w,(if bad v (cX C x)=[] then fW (dZ v (cX C x)) (fV C a) else none)=some w
  by_cases hb:bad v (cX C x)=[]
  .rw[if_pos hb] at h ⊢;apply Fo #[w,h]
  .rw[abM hb] at h;ext h
def Gd.cut(k:Gd g){gr:List (Key×D)}(hp:ld <+: g.ld)(hg:Gr g.C.length gr)(hd:∀x∈g.ln++ld,eN gr x=false):Gd { g with ld:=ld,gr:=gr }:=by
 let#[r,e]:=hp;have ea:g.ln++g.ld=(g.ln++ld)++r:=by rw[<- e,afn]
 refine#[k.w1,k.h1,k.nt,k.gc,λx m=>k.row x (by rw[ea];apply abz _ m),?_,?_,hd,hg,Fo (by rw[<- ea];apply k.run)]
 .have:=k.nd;rw[ea] at this;apply(acU.mp this).1
 .have:=k.uD;rw[<- e,abV] at this
  lia
def ne1:pq (bD o) (.int 1)=some (.bl (!decide (o=some 1))):=by
 cases o with
 |none=>kernel_rfl
 |some p=>
  show(if(eS (.int p)&&eS (.int 1))=true then some (D.bl (!PyData.eqv (py (.int p)) (py (.int 1)))) else none)=_;have e:eS (.int (p:Int))=true:=by unfold eS;simp[fS,py,PyData.canLay0,PyData.depth]
  have e1:eS (.int 1)=true:=by unfold eS;simp[fS,py,PyData.canLay0,PyData.depth]
  rw[e,e1];simp only[py,PyData.eqv,ahw,if_true]
  by_cases h:p=1
  .subst h;rfl
  .rw[acp (λz=>h (acB z)),show(((p:Int)==1)=false) from adY.mpr (by lia)]
def N7(hl:g.ln.length+g.ld.length<=900):tV (e2 pq (bK "Gate" "bad" xZ (aj 0) aB) (eC (.int 1))) (sW (gD g)::s)=some (!decide (f_ g=some 1)):=
 cj (aM (jg rfl (CC hl)) rfl ne1)
def Vj(hl:g.ln.length+g.ld.length<=900)(h:f_ g≠some 1):OY (gD g) []=some (.bl false,gD g):=by
 have ht:=N7 hl (s:=[none]);rw[acp h] at ht;apply jZ rfl (pP ht (ja rfl))
def Ai(g:G):D:=.tup [.str "look",tD g.ln,tD (ic g 1),.str (wd g (ic g 1))]
def Pa:aA (Ai g)=true:=by
 unfold Ai tD;simp only[aA,aK,dW,ahw]
def yu(g:G)(x:Int):G:={ g with ld:=[],gr:=putD g.gr (Sum.inl x) (Ai g) }
def SY(k:Gd g)(h:f_ g=some 1)(hx:g.ld=x::r):OY (gD g) []=some (.bl true,gD (yu g x)):=by
 have hl:=k.len;have ht:=N7 (g:=g) (by lia) (s:=[none]);rw[aaP h] at ht;have h1:bK "Gate" "look_of" yp (aj 0) (au (eC (.int 1)) aB) [sW (gD g),none]=sW (tD (ic g 1)):=su rfl rfl (f_look (by rw[hx,acv];lia) (by lia));have e1:∃t,gX (au (eC (.str "look")) (au (e1 nY (bH "Gate" "on_line" (aj 0))) (au (aj 1) (au (bK "Gate" "word_of" C6 (aj 0) (au (aj 1) aB)) aB)))) [sW (gD g),sW (tD (ic g 1))]=some (Ai g,t):=by
  rw[nS,bq,bq,bq,bq,bB (fl rfl) Lz,su rfl rfl Jw];apply#[_,rfl]
 let#[t,e1]:=e1;apply jZ rfl (b_ ht (sq (n8 h1) (sq (gQ (Bx e1 (aM (fl rfl) rfl (qT (by rw[hx];apply MW) rfl)) rfl Pa k.gr.im (by have:=k.gr.len;have:=k.gc.ln;lia))) (sq (o8 rfl rfl rfl rfl) rfl))))
def Qf:Ev.uz (bH "Gate" "laid_ones" (aj 0)) (sW (gD g)::s)=some (!g.ld.isEmpty):=by
 unfold Ev.uz;rw[fl rfl];cases g.ld<;>rfl
def P0(h:g.ld≠[]):JG (gD g) []=some (.bl false,gD g):=by
 have ht:=Qf (g:=g) (s:=[none,none,none]);rw[show g.ld.isEmpty=false from List.isEmpty_eq_false_iff.mpr h] at ht;apply jZ rfl (pP ht (ja rfl))
def Ks(l:List Int):aA (t_ l)=true:=by ext l<;>rfl
def qV(C:List Ch)(u:iX)(gr:List (Key×D))(x:Int):List (Key×D):=putD gr (Sum.inl x) (.tup [.str "unfit",t_ (bad u (cX C x))])
def XT(g:GoodC Sl C)(x:Int):Rt [dS (nz v),eL (cX C x)]=some (t_ (bad (kc (nz v)) (cX C x))):=
 bY rfl (cI (cP (ps:=[(bS (kc (nz v)),.own),(eL (cX C x),.sh [])]) (by rw[bq,bq,bB rfl Pc];rfl) (Gn (g.ed x).ed (by lia) D.lst rfl)))
theorem Pe{g:G}(gc:GoodC Sl g.C):∀{l} {gr} {s3},Row g.C l->Gr g.C.length gr->∃yP,dU (gN 3) (.sh [1]) (Au 0 "Gate" "grounds" (aj 3) (gX (au (eC (.str "unfit")) (au (cZ Rt (au (aj 2) (au (bK "Changes" "edits_of" BF (bH "Gate" "known" (aj 0)) (au (aj 3) aB)) aB))) aB)))) (l.map D.int) [sW (gD { g with gr:=gr }),some (iL N,.lk),sW (dS (nz v)),s3]=some (.nx [sW (gD { g with gr:=l.foldl (qV g.C (kc (nz v))) gr }),some (iL N,.lk),sW (dS (nz v)),yP])
 |[],gr,s3,_,_=>#[s3,rfl]
 |x::l,gr,s3,h,k=>by
  have hx:=h x aav;let#[a,ih]:=Pe gc (gr:=qV g.C (kc (nz v)) gr x) (λy m=>h y (aar _ m)) (k.put (gK.mpr (by lia)) (by simp only[aA,aK,Ks,ahw]));refine#[a,(nq (aO:=[sW (gD { g with gr:=gr }),some (iL N,.lk),sW (dS (nz v)),some (.int x,.sh [1])]) rfl ((Bx (g:={ g with gr:=gr }) (t:=.own) ?_ rfl rfl (by simp only[aA,aK,Ks,ahw]) k.im (by have:=k.len;have:=gc.ln;show gr.length<=100;lia)).trans rfl)).trans ih];rw[nS,bq,bq,cP (by rw[bq,bq,GR (fl rfl) rfl (Dh hx.1 hx.2)];rfl) (XT gc x)];rfl
def bg(g:G):List Int:=(wl g).filter (xM g.C g.ln)
def aja(k:Gd g)(h:g.ld=[]):∃u v,fW [] (fV g.C g.ln)=some v/\(∀E,bad u E=bad v E)/\JG (gD g) []=some (.bl (!decide (bg g=[])),gD { g with gr:=(bg g).foldl (qV g.C u) g.gr }):=by
 have hl:=k.len;have gl:=k.gc.ln;have ht:=Qf (g:=g) (s:=[none,none,none]);rw[h] at ht;let#[v,hv]:=k.run;rw[h,acL] at hv;have hw:=zU (g:=g);have h1:cZ CQ (au (bH "Gate" "known" (aj 0)) (au (bH "Gate" "on_line" (aj 0)) (au (iC aB) (au (bK "Gate" "waiting" AJ (aj 0) aB) aB)))) [sW (gD g),none,none,none]=sW (iL (bg g)):=
  cP (by rw[bq,bq,bq,bq,jg rfl (vR (by lia))];rfl) (by
   have:=ME k.gc (a:=g.ln) (b:=[]) (by simp;lia) nO (by lia);rw[acL] at this;apply this)
 have hs:=Cj k.gc (λx m=>k.row x (abz _ m)) (by lia) hv;have h2:bK "Gate" "sheet" L5 (aj 0) aB [sW (gD g),sW (iL (bg g)),none,none]=sW (dS (nz v)):=jg rfl (bY rfl (cI (cP rfl hs.1)));let#[s3,lp]:=Pe k.gc (λx m=>nO x (adF.mp m).1) k.gr;refine#[kc (nz v),v,hv,λE=>Pn (Nb hs.2.nd) E,jZ rfl (b_ ht (sq (n8 h1) (sq (n8 h2) (sq (Y':=[sW (gD { g with gr:=(bg g).foldl (qV g.C (kc (nz v))) g.gr }),sW (iL (bg g)),sW (dS (nz v)),s3]) (gQ ((yZ (j8 rfl) lp).trans rfl)) ?_))))];unfold lZ;have:e2 pq (aj 1) (iC aB) [sW (gD { g with gr:=(bg g).foldl (qV g.C (kc (nz v))) g.gr }),sW (iL (bg g)),sW (dS (nz v)),s3]=sW (.bl (!decide (bg g=[]))):=aM (d2:=iL []) rfl rfl (neI _ _);rw[this];rfl
def Ey(hl:g.ln.length+g.ld.length<=900):tV (e2 jr (bK "Gate" "bad" xZ (aj 0) aB) (eC .aC)) (sW (gD g)::s)=some (f_ g).isNone:=
 cj (aM (jg rfl (CC hl)) rfl (by cases f_ g<;>rfl))
def DP(h:f Y=some (r,[sW (gD g')])):rG f [0] Y=some (.rt (.tup [r,gD g'])):=by
 unfold rG;rw[h];rfl
def Ui(h:f Y=some (.bl false,Y'))(h2:f2 Y'=some (.bl b,bA)):xw f f2 Y=some (.bl b,bA):=by
 unfold xw;rw[h];dsimp only;rw[h2]
def SW(h:f Y=some (.bl true,Y')):xw f f2 Y=some (.bl true,Y'):=by
 unfold xw;rw[h]
def mS(g:G)(ex:List Int):G:={ g with ld:=g.ld++ex }
def WM(k:Gd g)(F:Fl g.C g.ln g.ld (wl g) g.w ex):Gd (mS g ex):=by
 refine#[k.w1,k.h1,k.nt,k.gc,λx m=>?_,?_,?_,λx m=>?_,k.gr,F.run]
 .have m:x∈g.ln++(g.ld++ex):=m;rw[<- afn] at m;apply(abH.mp m).elim (k.row x) λm=>nO (g:=g) x (F.sub x m)
 .show(g.ln++(g.ld++ex)).Nodup;rw[<- afn];refine acU.mpr #[k.nd,F.nd,λa ma b mb e=>?_];have:=r_.mp (F.sub b mb);apply(abH.mp ma).elim (λm=>this.2.1 (e ▸ m)) λm=>this.2.2.1 (e ▸ m)
 .show(((g.ld++ex).length:Nat):Int)<=g.w;rcases F.le with q|q
  .exact q
  .rw[q,acL];apply k.uD
 .have m:x∈g.ln++(g.ld++ex):=m;rw[<- afn] at m;apply(abH.mp m).elim (k.mJ x) λm=>(r_.mp (F.sub x m)).2.2.2
def ael(k:Gd g)(hb:f_ g=some 1)(hx:g.ld=x::r):mG (gD g) []=some (.bl true,gD (yu g x)):=by
 have hl:=k.len;have ht:=Ey (g:=g) (by lia) (s:=[]);rw[hb] at ht;apply jZ rfl (b_ ht (DP (SW (xo rfl (SY k hb hx)))))
def ajc(k:Gd g)(hb:f_ g=some p)(hp:p≠1):mG (gD g) []=some (.bl false,gD g):=by
 have hl:=k.len;have ht:=Ey (g:=g) (by lia) (s:=[]);have hm:=vU hb;have kU:g.ld≠[]:=λe=>by rw[e] at hm;simp at hm;lia
 have hn:f_ g≠some 1:=by rw[hb];apply λz=>hp (acB z)
 rw[hb] at ht;apply jZ rfl (b_ ht (DP (Ui (xo rfl (Vj (by lia) hn)) (xo rfl (P0 kU)))))
def agw(k:Gd g)(hb:f_ g=none):∃ex,Fl g.C g.ln g.ld (wl g) g.w ex/\Gd (mS g ex)/\(f_ (mS g ex)≠some 1->(g.ld++ex≠[]->mG (gD g) []=some (.bl false,gD (mS g ex)))/\
  (g.ld++ex=[]->∃u v,fW [] (fV g.C g.ln)=some v/\(∀E,bad u E=bad v E)/\mG (gD g) []=some (.bl (!decide (bg g=[])),gD { g with gr:=(bg g).foldl (qV g.C u) g.gr })))/\(∀x r,g.ld++ex=x::r->f_ (mS g ex)=some 1->mG (gD g) []=some (.bl true,gD (yu (mS g ex) x))):=by
 have hl:=k.len;have gl:=k.gc.ln;have ht:=Ey (g:=g) (by lia) (s:=[]);rw[hb] at ht;let#[v,hv]:=k.run;have acZ:=zU (g:=g);let#[ex,hf,F]:=aeS k.gc k.row nO Dk (by lia) (by lia) hv;have hf:cZ Fd (au (bH "Gate" "known" (aj 0)) (au (bH "Gate" "on_line" (aj 0)) (au (bH "Gate" "laid_ones" (aj 0)) (au (bK "Gate" "waiting" AJ (aj 0) aB) (au (e2 c9 (bH "Gate" "numbers" (aj 0)) (eC (.int 0))) aB))))) [sW (gD g)]=sW (iL (g.ld++ex)):=
  cP (ps:=[(obj g.C,.sh [0]),(iL g.ln,.sh [0]),(iL g.ld,.sh [0]),(iL (wl g),.own),(.int g.w,.own)]) (by rw[bq,bq,bq,bq,jg rfl (vR (by lia))];rfl) hf
 have k1:=WM k F;have ze:=k1.len;have st:jE (uM 0 "Gate" "laid_ones" (cZ Fd (au (bH "Gate" "known" (aj 0)) (au (bH "Gate" "on_line" (aj 0)) (au (bH "Gate" "laid_ones" (aj 0)) (au (bK "Gate" "waiting" AJ (aj 0) aB) (au (e2 c9 (bH "Gate" "numbers" (aj 0)) (eC (.int 0))) aB))))))) [sW (gD g)]=some (.nx [sW (gD (mS g ex))]):=o8 hf rfl rfl rfl;refine#[ex,F,k1,λh1=>?_,λx r e h1=>jZ rfl (sq (oO ht st) (DP (SW (xo rfl (SY k1 h1 e)))))];have RH:∀b g',JG (gD (mS g ex)) []=some (.bl b,gD g')->mG (gD g) []=some (.bl b,gD g'):=λb g' h=>jZ rfl (sq (oO ht st) (DP (Ui (xo rfl (Vj (by lia) h1)) (xo rfl h))))
 refine#[λhe=>RH _ _ (P0 he),λhe=>?_];have e1:mS g ex=g:=by
  unfold mS;rw[he,<- (agh.mp he).1]
 let#[u,v1,a,b,h]:=aja k1 he;rw[e1] at a h;apply#[u,v1,a,b,RH _ _ (by rw[e1];apply h)]
def qU(g:G):G:={ g with lk:=Ax g }
abbrev cS:aL->Option (Bool×aL):=uQ (lV (tV (bH "Gate" "halted" (aj 0)))) (tZ (xO 0 "Gate" "put_out_more" mG aB))
def Td:lV (tV (bH "Gate" "halted" (aj 0))) [sW (gD g)]=some (!g.ht):=kN (cj (fl rfl))
def agn(h:g.ht=true):cS [sW (gD g)]=some (false,[sW (gD g)]):=by
 have:=Td (g:=g);rw[h] at this;unfold cS uQ;rw[this];rfl
def agN(h:f Y=some (.bl b,Y')):tZ f Y=some (b,Y'):=by unfold tZ;rw[h]
def QB(h:g.ht=false)(hm:mG (gD g) []=some (.bl b,gD g1)):cS [sW (gD g)]=some (b,[sW (gD g1)]):=by
 have:=Td (g:=g);rw[h] at this;refine Eq.trans ?_ (agN (xo (Y:=[sW (gD g)]) (m:="put_out_more") rfl hm));unfold cS uQ;rw[this];rfl
def VH(h:c Y=some (false,aO)):lQ c f (n+1) Y=some (.nx aO):=by rw[lQ,h]
def aam(h:c Y=some (true,aO))(h2:f aO=some (.nx bA)):lQ c f (n+1) Y=lQ c f n bA:=by
 rw[lQ,h];dsimp only;rw[h2]
def OB(k:Gd g):sZ (xO 0 "Gate" "put_out_leaning" HQ aB) [sW (gD g)]=some (.nx [sW (gD (uc g))]):=by
 unfold sZ;rw[xo rfl (ads k.gc k.gr)];rfl
inductive Ru:G->G->Nat->Prop
 |ht {g:G} (h:g.ht=true):Ru g g 0
 |no {g g1:G} (h:g.ht=false) (e:mG (gD g) []=some (.bl false,gD g1)):Ru g g1 0
 |yes {g g1 g2:G} (h:g.ht=false) (e:mG (gD g) []=some (.bl true,gD g1)) (k:Gd g1) (r:Ru (uc g1) g2 n):Ru g g2 (n+1)
theorem N2:∀{n:Nat}{g g1:G}{m:Nat},Ru g g1 n->n<m->lQ cS (sZ (xO 0 "Gate" "put_out_leaning" HQ aB)) m [sW (gD g)]=some (.nx [sW (gD g1)])
 |0,g,g1,m+1,r,_=>by
  cases r with
  |ht h=>apply VH (agn h)
  |no h e=>apply VH (QB h e)
 |n+1,g,g1,m+1,r,hm=>by
  cases r with
  |yes h e k r=>apply(aam (QB h e) (OB k)).trans (N2 r (by lia))
def aco(k:Gd g)(r:Ru (uc g) g1 n)(hn:n<4000)(k1:Gd g1):sQ (gD g) []=some (.aC,gD (qU g1)):=by
 have hl:=k1.len;have gl:=k1.gc.ln;apply m_ rfl (sq (gQ (OB k)) (sq (gQ (N2 r hn)) (o8 (jg rfl (Z5 (by lia) (by lia) (by have:=k1.h1;lia))) rfl rfl rfl))) rfl
structure Sh(w k:Nat)(d:D):Prop where
 ok:fS d=true
 sh:(py d).showable=true
 dp:(py d).depth<=k
 lv:(py d).leavesShort 13=true
 wt:(py d).weight<=w
def Sh.up{d:D}(h:Sh w k d){w' k':Nat}(a:w<=w')(b:k<=k'):Sh w' k' d:=#[h.ok,h.sh,ada h.dp b,h.lv,ada h.wt a]
def Sh.all(h:∀d∈ds,Sh w k d):l8 ds=true/\PyData.showableAll (d_ ds)=true/\PyData.depthAll (d_ ds)<=k/\PyData.leavesShortAll 13 (d_ ds)=true/\PyData.weightAll (d_ ds)<=(w+1)*ds.length:=by
 induction ds with
 |nil=>apply#[rfl,rfl,acP _,rfl,acP _]
 |cons d ds ih=>
  have a:=h d aav;let#[i1,i2,i3,i4,i5]:=ih λe m=>h e (aar _ m)
  unfold l8 d_;simp only[PyData.showableAll,PyData.depthAll,PyData.leavesShortAll,PyData.weightAll,a.ok,a.sh,a.lv,i1,i2,i4,ahw,acv,true_and];have h1:=a.dp;have h2:=a.wt;rw[Nat.mul_succ];omega
def Sh.lst(n:Nat)(h:∀d∈ds,Sh w k d)(hl:ds.length<=n):Sh ((w+1)*n) (k+1) (.lst ds):=by
 let#[i1,i2,i3,i4,i5]:=Sh.all h;have:=Nat.mul_le_mul_left (w+1) hl;refine#[by unfold fS;apply i1,?_,?_,?_,?_]<;>unfold py
 .simp only[PyData.showable];apply i2
 .simp only[PyData.depth];omega
 .simp only[PyData.leavesShort];apply i4
 .simp only[PyData.weight];omega
def Sh.tup(n:Nat)(h:∀d∈ds,Sh w k d)(hl:ds.length<=n):Sh ((w+1)*n) (k+1) (.tup ds):=by
 let#[i1,i2,i3,i4,i5]:=Sh.lst n h hl;unfold fS py at *;simp only[PyData.showable,PyData.depth,PyData.leavesShort,PyData.weight] at *;apply#[by unfold fS;apply i1,by unfold py;apply i2,by unfold py;apply i3,by unfold py;apply i4,by unfold py;apply i5]
def Sh.repr(h:Sh w k d)(hw:w<=500000)(hk:k<=40)(hd:dep d≠0:=by unfold dep;omega):∃s,xr d=some (.str s)/\s.length<=7500100:=by
 have sl:=PyData.shown_le 13 (by decide) (py d) h.lv;have Yt:=ada h.wt hw;refine#[_,aef ?_ hd,by omega];unfold vC;rw[h.ok,h.sh,aaP (ada h.dp hk),aaP (PyData.shown_fits (by decide) (by decide) h.lv (ada Yt (by decide)))];rfl
def Sh.int{i:Int}(h:-100<=i/\i<=100):Sh 7 0 (.int i):=by
 have l:i.natAbs.log2<7:=by
  by_cases z:i.natAbs=0
  .rw[z];decide
  .rw[Nat.log2_lt z];lia
 refine#[rfl,aaP (show i.natAbs.log2<1920 by lia),abD _,aaP (PyData.shown_int_le (show i.natAbs<10 ^ 12 by lia)),?_];show(if(i==0)=true then 0 else i.natAbs.log2+1)<=7
 split<;>lia
def i8(s:Str)(a:(PyData.str s).leavesShort 13=true:=by decide +kernel)(b:(PyData.str s).weight<=9:=by decide +kernel):Sh 9 0 (.str s):=#[rfl,rfl,abD _,a,b]
def Ly:Sh 9 0 .aC:=#[rfl,rfl,abD _,rfl,acP _]
def af0(b:Bool):Sh 9 0 (.bl b):=#[rfl,rfl,abD _,rfl,acP _]
def Lo(l:List Int):Prop:=l.length<=30/\∀x∈l,-100<=x/\x<=100
def Lo.is{l:List Int}(h:Lo l):∀d∈l.map D.int,Sh 7 0 d:=λd m=>by
 let#[x,mx,rfl]:=ab8.mp m;apply .int (h.2 x mx)
theorem Lo.tD{l:List Int}(h:Lo l):Sh 240 1 (tD l):=Sh.tup 30 h.is (by rw[List.length_map];apply h.1)
theorem Lo.iL{l:List Int}(h:Lo l):Sh 240 1 (iL l):=Sh.lst 30 h.is (by rw[List.length_map];apply h.1)
def Gd.lo{g:G}(k:Gd g)(hC:g.C.length<=30){l:List Int}(h:l <+: g.ln++g.ld):Lo l:=by
 have a:=sub_len k.nd λx m=>gK.mpr (show 1<=x/\x<1+(g.C.length:Int) by have:=k.row x m;lia)
 rw[lU] at a;have b:=h.length_le;refine#[by lia,λx m=>?_];have:=k.row x (h.subset m)
 lia
def xB{g:G}{p:Nat}:ic g p <+: g.ln++g.ld:=by
 unfold ic;apply(List.prefix_append_right_inj _).mpr (List.take_prefix _ _)
def Gv(h:fv Y=some (.int j,t))(h0:Y[0]? = some (sW (gD g)))(hl:(gF g).lookup f=some (.int i))(e:eK f (.int (i+j)) (gF g)=gF g'):jE (Gs 0 "Gate" f fv) Y=some (.nx (bU Y 0 (gD g'))):=by
 refine gQ ?_;unfold Gs;rw[h,h0];show(((gF g).lookup f).bind inD).bind _=_;rw[hl];apply(if_pos (e:=none) (show 12<1000 by decide)).trans (by rw[e];rfl)
def yi(h0:Y[0]? = some (sW (gD g)))(h:F (gD g) []=some (r,gD g'))(hm:(gF g).lookup m=none:=by rfl):jE (sZ (xO 0 "Gate" m F aB)) Y=some (.nx (bU Y 0 (gD g'))):=gQ (by
 unfold sZ;rw[xo h0 h hm];rfl)
def Zb(g:G):G:={ g with ld:=[],ht:=true,br:=g.br+1 }
def aaC(h:sQ (gD (Zb g)) []=some (.aC,gD g3)):zI (gD g) []=some (.aC,gD g3):=
 m_ rfl (sq (o8 rfl rfl rfl rfl) (sq (o8 (g:={ g with ld:=[] }) rfl rfl rfl rfl)
  (sq (Gv (g:={ g with ld:=[],ht:=true }) rfl rfl rfl rfl) (yi rfl h)))) rfl
def abR(h:sQ (gD { g with ht:=false }) []=some (.aC,gD g3)):zp (gD g) []=some (.aC,gD g3):=
 m_ rfl (sq (o8 rfl rfl rfl rfl) (yi rfl h)) rfl
def DT(g:G)(c:Ch):G:={ g with C:=g.C++[c] }
def aeX{w v:List D->D}(hw:Wf w)(hv:Wf v)(hl:l.length<=100)(hE:E.length<=100)(hm:nM g.C.length q l E=true)(hC:g.C.length<60)(h:sQ (gD (DT g (q,l,E))) []=some (.aC,gD g3)):Ay (gD g) [.int q,w (l.map D.int),v (E.map dT)]=some (.int (g.C.length+1),gD g3):=by
 have h1:C0 0 "Gate" "known" "Changes" "added" Ef (au (aj 1) (au (aj 2) (au (aj 3) aB))) [sW (gD g),sS (.int q),sS (w (l.map D.int)),sS (v (E.map dT)),none]=some (.int (g.C.length+1),[sW (gD (DT g (q,l,E))),sS (.int q),sS (w (l.map D.int)),sS (v (E.map dT)),none]):=by
  show(if("Gate":Str)="Gate"/\("Changes":Str)="Changes"/\([("entries",D.lst (g.C.map ent))]:List (Str×D)).lookup ("added":Str)=none/\apart 0 [(.int q,.sh []),(w (l.map D.int),.sh []),(v (E.map dT),.sh [])]=true then(Ef (obj g.C) [.int q,w (l.map D.int),v (E.map dT)]).map _ else none)=_;rw[if_pos #[rfl,rfl,rfl,rfl],WG hw hv hl hE hm hC];rfl
 refine jZ rfl (sq (Y':=[sW (gD (DT g (q,l,E))),sS (.int q),sS (w (l.map D.int)),sS (v (E.map dT)),sW (.int (g.C.length + 1))]) (gQ (by
  show(match C0 0 "Gate" "known" "Changes" "added" Ef (au (aj 1) (au (aj 2) (au (aj 3) aB))) [sW (gD g),sS (.int q),sS (w (l.map D.int)),sS (v (E.map dT)),none] with|some (d,Y')=>some (Out.nx (iE Y' 4 d .own))|none=>none)=_;rw[h1];rfl)) (sq (yi rfl h) rfl))
def pM(g:G)(x:Int):G:={ g with ld:=if x∈g.ld then g.ld.takeWhile (λy=>!(y==x)) else g.ld,gr:=putD g.gr (Sum.inl x) (.tup [.str "withdrawn"]),br:=g.br+1 }
theorem Q8:∀{l:List Int} {x},x∈l->l.findIdx? (· == x)=some (l.takeWhile λy=>!(y==x)).length
 |[],x,m=>nomatch m
 |a::l,x,m=>by
  rw[List.findIdx?_cons,List.takeWhile_cons];cases e:(a==x) with
  |true=>rfl
  |false=>
   rw[Q8 ((aaO.mp m).resolve_left λq=>by rw[q] at e;simp at e)];rfl
def DE{x:Int}:l.takeWhile (λy=>!(y==x)) <+: l:=List.takeWhile_prefix _
def afO{l:List Int}:l.take (l.takeWhile λy=>!(y==x)).length=l.takeWhile λy=>!(y==x):=by
 let#[r,e]:=DE (l:=l) (x:=x)
 conv=>lhs;rw[<- e]
 rw[e];apply(List.prefix_iff_eq_take.mp (DE)).symm
theorem QV:∀{l:List Int} {x},x∉l.takeWhile (λy=>!(y==x))
 |[],x,m=>nomatch m
 |a::l,x,m=>by
  rw[List.takeWhile_cons] at m;cases e:(a==x) with
  |true=>rw[e] at m;ext m
  |false=>
   rw[e] at m;rcases aaO.mp m with q|q
   .rw[<- q] at e;simp at e
   .exact QV q
def abJ(k:Gd g)(hx:1<=x/\x<=(g.C.length:Int))(nl:x∉g.ln)(no:qz g x=false)(h:sQ (gD (pM g x)) []=some (.aC,gD g3)):xU (gD g) [.int x]=some (.aC,gD g3):=by
 have t1:lV (tV (bK "Changes" "has" KA (bH "Gate" "known" (aj 0)) (au (aj 1) aB))) [sW (gD g),sS (.int x)]=some false:=kN (b:=true) (cj (GR (fl rfl) rfl ((FQ g.C x).trans (by unfold inR;rw[aaP hx.1,aaP hx.2];rfl))));have t2:sE (tV (e2 (jP false) (aj 1) (bH "Gate" "on_line" (aj 0)))) (tV (e2 (qY false) (aj 1) (bH "Gate" "grounds" (aj 0)))) [sW (gD g),sS (.int x)]=some false:=
  (Nc ((cj (aM rfl (fl rfl) (by unfold iL;rw[Dy,abM abm,LK]))).trans (by rw[acp nl]))).trans (cj (aM rfl (fl rfl) (by show some (D.bl (qz g x))=_;rw[no])))
 have t3:tV (e2 (jP false) (aj 1) (bH "Gate" "laid_ones" (aj 0))) [sW (gD g),sS (.int x)]=some (decide (x∈g.ld)):=cj (aM rfl (fl rfl) (by unfold iL;rw[Dy,abM abm,LK]));refine m_ rfl (b_ t1 (b_ t2 (sq (Y':=[sW (gD { g with ld:=(pM g x).ld }),sS (.int x)]) ?_ (sq (gQ (Bx rfl rfl rfl rfl k.gr.im (by have:=k.gr.len;have:=k.gc.ln;show g.gr.length<=100;lia)))
  (sq (Gv rfl rfl rfl rfl) (yi rfl h)))))) rfl
 by_cases mx:x∈g.ld
 .rw[aaP mx] at t3;have e1:e2 JO (bH "Gate" "laid_ones" (aj 0)) (aj 1) [sW (gD g),sS (.int x)]=sW (.int (g.ld.takeWhile λy=>!(y == x)).length):=aM (fl rfl) rfl (by
   show(match eV (g.ld.map D.int) with|some ts=>(ts.findIdx? (· == x)).map λj:Nat=>D.int j|none=>none)=_;rw[xA];dsimp only;rw[Q8 mx];rfl)
  have c:qJ (bH "Gate" "laid_ones" (aj 0)) (e2 JO (bH "Gate" "laid_ones" (aj 0)) (aj 1)) [sW (gD g),sS (.int x)]=sW (iL (pM g x).ld):=by
   unfold qJ;rw[fl rfl,e1];show(if aK (g.ld.map D.int)=true then some (D.lst (cutD (g.ld.map D.int) none (some ((g.ld.takeWhile λy=>!(y==x)).length:Int))),Tag.own) else none)=_;rw[if_pos (dW _),KL (by rw[List.length_map];apply List.IsPrefix.length_le DE),<- List.map_take,afO];unfold pM;rw[if_pos mx];rfl
  apply oO t3 (o8 c rfl rfl rfl)
 .rw[acp mx] at t3;refine K2 t3 ?_;unfold pM;rw[abM mx];rfl
abbrev hd(ta:Ta)(L:List Int):List Str:=(qW ta L).getD []
def ajM{L:List Int}:(bu (oV n t ta) (kL L)).getD (tob n t [])=tob n t (hd ta L):=by
 rw[RM];unfold hd;cases qW ta L<;>rfl
def ahR{L:List Int}:putD (oV n t ta) (kL L) (tob n t h)=oV n t (gp ta L h):=K5 (λ_ _=>xG)
def ajK{L:List Int}(hL:L≠[])(k:Gd g)(tn:(g.ta.map (·.1)).Nodup)(tl:g.ta.length<=5000)(hw:w∈(["yes","no","unsure"]:List Str))(hm:word g.n g.t (hd g.ta L)="more"):
  xR "Gate" "tallies" "Tally" "tell" (nv "Tally" Cy (au (e2 c9 (bH "Gate" "numbers" (aj 0)) (eC (.int 2))) (au (e2 c9 (bH "Gate" "numbers" (aj 0)) (eC (.int 3))) aB))) Vk [sW (gD g),sS (tD L),sS (.str w),none,none] =
   some (.nx [sW (gD { g with ta:=gp g.ta L (hd g.ta L++[w]) }),sS (tD L),sS (.str w),none,sW (.str (word g.n g.t (hd g.ta L++[w])))]):=by
 have e1:nv "Tally" Cy (au (e2 c9 (bH "Gate" "numbers" (aj 0)) (eC (.int 2))) (au (e2 c9 (bH "Gate" "numbers" (aj 0)) (eC (.int 3))) aB)) [sW (gD g),sS (tD L),sS (.str w),none,none]=sW (tob g.n g.t []):=by
  show(match Cy (.ins "Tally" []) [.int g.n,.int g.t] with|some (.aC,d)=>some (d,Tag.own)|_=>none)=_;rw[adP k.nt]
 have n1:((oV g.n g.t g.ta).map (·.1)).Nodup:=by
  unfold oV;rw[adw,show((λkv:List Key×D=>kv.1) ∘ λp:List Int×List Str=>(kL p.1,tob g.n g.t p.2))=kL ∘ (·.1) from rfl,<- adw];unfold List.Nodup at tn ⊢;rw[ajw];apply tn.imp λq e=>q (xG e)
 refine(adG rfl rfl rfl rfl rfl (yd _) e1 ajM (adV hw hm (by have:=aaW hm;have:=k.nt;lia)) #[rfl,by unfold kL;rw[aj6];apply ado.mpr λ_ _=>rfl,λz=>hL (List.map_eq_nil_iff.mp z),n1,size_le (by unfold oV;rw[List.length_map];lia),rfl]).trans ?_;rw[ahR];rfl
def jI(g:G)(L:List Int)(w:Str):G:={ g with ta:=gp g.ta L (hd g.ta L++[w]),an:=g.an+1,en:=if(word g.n g.t (hd g.ta L++[w]) == "more")=true then g.en else g.en++[.tup [tD L,.str (word g.n g.t (hd g.ta L++[w]))]] }
def C1(g:G)(L:List Int):G:={ g with ld:=g.ld.drop (L.length-g.ln.length),ln:=L,gw:=g.gw++[L] }
def Js(L:List (List Int)):aK (cK L)=true:=sV.mpr λd m=>by
 let#[l,_,rfl]:=ab8.mp m;apply dW l
def Zi{L:List Int}(h1:g.ln.length<=L.length)(h2:L.length<=g.ln.length+g.ld.length)(hg:g.gw.length<=5000):uo (gD g) [tD L]=some (.aC,gD (C1 g L)):=by
 have c:Bp (bH "Gate" "laid_ones" (aj 0)) (e2 jY (e1 fX (aj 1)) (e1 fX (bH "Gate" "on_line" (aj 0)))) [sW (gD g),sS (tD L)]=sW (iL (g.ld.drop (L.length-g.ln.length))):=by
  have e1:e2 jY (e1 fX (aj 1)) (e1 fX (bH "Gate" "on_line" (aj 0))) [sW (gD g),sS (tD L)]=sW (.int ((L.length-g.ln.length:Nat):Int)):=aM (bB rfl (by show some (D.int (L.map D.int).length)=_;rw[List.length_map])) (bB (fl rfl) (by show some (D.int (g.ln.map D.int).length)=_;rw[List.length_map])) (by show some (D.int (_-_))=_;rw[Int.natCast_sub h1]);unfold Bp;rw[fl rfl,e1];show(if aK (g.ld.map D.int)=true then some (D.lst (cutD (g.ld.map D.int) (some ((L.length-g.ln.length:Nat):Int)) none),Tag.own) else none)=_;rw[if_pos (dW _),P7 (by rw[List.length_map];lia),<- List.map_drop];rfl
 refine m_ rfl (sq (o8 c rfl rfl rfl) (sq (o8 (g:={ g with ld:=g.ld.drop (L.length - g.ln.length) }) (bB rfl U3) rfl rfl rfl) (gQ ((xW (es:=gF { g with ld:=g.ld.drop (L.length - g.ln.length),ln:=L }) rfl rfl rfl ?_).trans (by
  have:gD (C1 g L)=.ins "Gate" (eK "grown" (.lst (cK g.gw++[tD L])) (gF { g with ld:=g.ld.drop (L.length-g.ln.length),ln:=L })):=by
   unfold gD gF C1 cK;rw[adk];rfl
  rw[<- this]))))) rfl
 rw[Js,show aA (tD L)=true from dW L,aaP (size_le (by unfold cK;rw[List.length_map];lia))];rfl
def qM(g:G)(L:List Int)(w:Str):G:=if(word g.n g.t (hd g.ta L++[w]) == "yes")=true then C1 (jI g L w) L else jI g L w
def ahr{L:List Int}(hk:L∈g.lk)(hL:L≠[])(k:Gd g)(tn:(g.ta.map (·.1)).Nodup)(tl:g.ta.length<=5000)(hw:w∈(["yes","no","unsure"]:List Str))(hm:word g.n g.t (hd g.ta L)="more")(em:aK g.en=true)(el:g.en.length<=5000)(gl:g.gw.length<=5000)(h1:g.ln.length<=L.length)(h2:L.length<=g.ln.length+g.ld.length)
  (hs:sQ (gD (qM g L w)) []=some (.aC,gD g3)):zK (gD g) [tD L,.str w]=some (.str (word g.n g.t (hd g.ta L++[w])),gD g3):=by
 generalize ew:word g.n g.t (hd g.ta L++[w])=u;have ft:=ajK hL k tn tl hw hm;rw[ew] at ft;have hu:∀g':G,jE (sZ (xO 0 "Gate" "grow" uo (au (aj 1) aB))) [sW (gD g'),sS (tD L),sS (.str w),none,sW (.str u)]=(uo (gD g') [tD L]).map λv=>.nx [sW v.2,sS (tD L),sS (.str w),none,sW (.str u)]:=λg'=>by
  show jE (λY=>(xO 0 "Gate" "grow" uo (au (aj 1) aB) Y).map λw=>.nx w.2) _=_;have:xO 0 "Gate" "grow" uo (au (aj 1) aB) [sW (gD g'),sS (tD L),sS (.str w),none,sW (.str u)]=(uo (gD g') [tD L]).map λv=>(v.1,bU [sW (gD g'),sS (tD L),sS (.str w),none,sW (.str u)] 0 v.2):=by
   show(if("Gate":Str)="Gate"/\(gF g').lookup ("grow":Str)=none/\apart 0 [(tD L,.sh [])]=true then _ else none)=_;rw[if_pos #[rfl,rfl,rfl]];rfl
  unfold jE;dsimp only;rw[this];cases uo (gD g') [tD L]<;>rfl
 refine jZ rfl (b_ (cj (aM rfl (fl rfl) ((Gi true L g.lk).trans (by rw[aaP hk];rfl)))) (sq ft (sq (Y':=[sW (gD { g with ta:=gp g.ta L (hd g.ta L++[w]),an:=g.an+1 }),sS (tD L),sS (.str w),none,sW (.str u)]) (Gv rfl rfl rfl rfl) (sq (Y':=[sW (gD (jI g L w)),sS (tD L),sS (.str w),none,sW (.str u)]) ?_ (sq (Y':=[sW (gD (qM g L w)),sS (tD L),sS (.str w),none,sW (.str u)]) ?_ (sq (yi rfl hs) rfl))))))
 .have ht:tV (e2 kY (aj 4) (eC (.str "more"))) [sW (gD { g with ta:=gp g.ta L (hd g.ta L++[w]),an:=g.an+1 }),sS (tD L),sS (.str w),none,sW (.str u)]=some (!(u == "more")):=rfl;unfold jI;rw[ew];cases e:(u==("more":Str)) with
  |true=>rw[e] at ht;rw[iH,ht];rfl
  |false=>
   rw[e] at ht;refine oO ht (gQ ((xW (d:=.tup [tD L,.str u]) rfl rfl rfl ?_).trans ?_))
   .have:aA (.tup [tD L,.str u])=true:=by unfold tD;simp only[aA,aK,dW,ahw]
    rw[this,em,aaP (size_le (by lia))];rfl
   .rfl
 .have ht:tV (e2 oEq (aj 4) (eC (.str "yes"))) [sW (gD (jI g L w)),sS (tD L),sS (.str w),none,sW (.str u)]=some (u == "yes"):=rfl;unfold qM;rw[ew];cases e:(u==("yes":Str)) with
  |true=>
   rw[e] at ht;refine oO ht ((hu (jI g L w)).trans ?_);rw[Zi (g:=jI g L w) h1 h2 gl];rfl
  |false=>rw[e] at ht;rw[iH,ht];rfl
def Gd.re(k:Gd g)(ta:Ta)(lk:List (List Int))(ht:Bool)(gw:List (List Int))(en:List D)(an br:Int):Gd { g with ta:=ta,lk:=lk,ht:=ht,gw:=gw,en:=en,an:=an,br:=br }:=#[k.w1,k.h1,k.nt,k.gc,k.row,k.nd,k.uD,k.mJ,k.gr,k.run]
def ZP(k:Gd g):Gd (qU g):=k.re g.ta (Ax g) g.ht g.gw g.en g.an g.br
def Lr(gr:List (Key×D)):Prop:=∀p∈gr,Sh 964 2 p.2
def Lr.put(h:Lr gr)(hd:Sh 964 2 d):Lr (putD gr k d):=λp m=>(Cn m).elim (h p) λe=>by rw[e];apply hd
def N6(h:Sh 9 0 (.str s))(h2:Sh 9 0 d):Sh 964 2 (.tup [.str s,d]):=(Sh.tup 2 (λx m=>by
 rcases aaO.mp m with rfl|m
 .exact h
 .rw[aa6.mp m];apply h2) (abD _)).up (by decide) (by decide)
def NW:Sh 9 0 (.str (word n t h)):=by
 unfold word
 split
 .exact i8 "yes"
 .split
  .exact i8 "no"
  .split
   .exact i8 "unsure"
   .exact i8 "more"
def Yl:Sh 9 0 (.str (wd g l)):=by
 unfold wd
 split
 .exact i8 "more"
 .exact NW
def RO(k:Gd g)(hC:g.C.length<=30):Sh 964 2 (Ai g):=Sh.tup (w:=240) 4 (λd m=>by
 simp only[aaO,acK,aeE] at m;rcases m with rfl|rfl|rfl|rfl
 .exact(i8 "look").up (by decide) (by decide)
 .exact(k.lo hC (List.prefix_append _ _)).tD
 .exact(k.lo hC xB).tD
 .exact Yl.up (by decide) (by decide)) (abD _)
theorem HX(gc:GoodC Sl C)(hC:C.length<=30):∀{l:List Int} {gr},Row C l->Lr gr->Lr (l.foldl (gP C) gr)
 |[],_,_,h=>h
 |x::l,gr,r,h=>by
  rw[aeu];refine HX gc hC (gr:=gP C gr x) (λy m=>r y (aar _ m)) ?_;unfold gP
  split
  .exact h
  .rename_i y s e;have hx:=r x aav;have:=gc.bd x y hx.1 hx.2 (adF.mp (show y∈gone C gr x by rw[e];apply aav)).1;apply h.put (N6 (i8 "leans") ((Sh.int (by lia)).up (by decide) (by decide)))
def abL{l:List Int}(h:∀x∈l,0<=x/\x<=100):Sh 9 0 (t_ l):=by
 cases l with
 |nil=>apply Ly
 |cons x l=>apply(Sh.int (by have:=h x aav;lia)).up (by decide) (by decide)
def Wx(gc:GoodC S8 C):Sh 964 2 (.tup [.str "unfit",t_ (bad u (cX C x))]):=N6 (i8 "unfit") (abL λy m=>by
 let#[p,mp,rfl]:=ab8.mp m;have:=gK.mp ((gc.ed x).sl p (adF.mp mp).1)
 lia)
theorem RV{f:Int->D}(hf:∀x,aA (f x)=true/\(n9 (f x)).isSome=true/\Sh 964 2 (f x)):∀{l:List Int} {gr},l.Nodup->(∀x∈l,eN gr x=false/\x∈dH 1 n)->Gr n gr->Lr gr->Gr n (l.foldl (λgr x=>putD gr (Sum.inl x) (f x)) gr)/\Lr (l.foldl (λgr x=>putD gr (Sum.inl x) (f x)) gr)/\(l.foldl (λgr x=>putD gr (Sum.inl x) (f x)) gr).length=gr.length+l.length/\∀y,eN (l.foldl (λgr x=>putD gr (Sum.inl x) (f x)) gr) y=true->eN gr y=true\/y∈l
 |[],gr,_,_,k,h=>#[k,h,rfl,λy e=>.inl e]
 |x::l,gr,nd,hx,k,h=>by
  let#[n1,n2]:=acw.mp nd;let#[a,b]:=hx x aav;let#[c1,c2,c3,c4]:=RV hf n2 (λy m=>#[by rw[vf,(hx y (aar _ m)).1,acp (show ¬y=x from λe=>n1 (e ▸ m))];rfl,(hx y (aar _ m)).2]) (k.put b (hf x).1 (hf x).2.1) (h.put (hf x).2.2);refine#[c1,c2,by rw[aeu,c3,G0 a,abV];show gr.length+1+l.length=gr.length+(l.length+1);lia,λy e=>?_];rcases c4 y e with q|q
  .rw[vf,aji,ajo] at q;apply q.elim (λe=>.inr (e ▸ aav)) .inl
  .exact .inr (aar _ q)
def OO(k:Gd g):Gd (uc g):=by
 let#[a,_,c]:=MC (l:=wl g) k.gr λx m=>gK.mpr (by have:=nO x m;lia)
 refine k.cut (aj0 _) a λx m=>?_
 cases e:eN ((wl g).foldl (gP g.C) g.gr) x with
 |false=>rfl
 |true=>
  rcases c x e with q|q
  .rw[show eN g.gr x=false from k.mJ x m] at q;ext q
  .let#[_,n1,n2,_]:=r_.mp q;apply absurd m (by rw[abH];apply λz=>z.elim n1 n2)
def ajq:g.gr.length<=(uc g).gr.length:=(VI Dk λx m=>(r_.mp m).2.2.2).length_le
def Oi(k:Gd g)(hx:g.ld=x::r):Gd (yu g x)/\(yu g x).gr.length=g.gr.length+1:=by
 have mx:x∈g.ln++g.ld:=by rw[hx];apply aaH _ aav
 have hr:=k.row x mx;refine#[k.cut List.nil_prefix (k.gr.put (gK.mpr (by lia)) Pa) λy m=>?_,by show(putD g.gr _ _).length=_;rw[G0 (k.mJ x mx),abV];rfl];rw[acL] at m;rw[vf,show eN g.gr y=false from k.mJ y (abz _ m),acp (show ¬y=x from λe=>by
  have:=k.nd;rw[hx] at this;apply(acU.mp this).2.2 y m x aav e)];rfl
theorem UU:∀(n:Nat) {g:G},Gd g->g.C.length<=30->Lr g.gr->g.C.length<g.gr.length+n->∃ld gr m,Ru g { g with ld:=ld,gr:=gr } m/\m<=n/\Gd { g with ld:=ld,gr:=gr }/\Lr gr
 |0,g,k,_,_,h=>by
  have:=k.gr.len
  lia
 |n+1,g,k,hC,hz,h=>by
  by_cases ht:g.ht=true
  .exact#[g.ld,g.gr,0,.ht ht,acP _,k,hz]
  .have ht:g.ht=false:=by simpa using ht
   have yes:∀g1:G,mG (gD g) []=some (.bl true,gD g1)->(∃ld gr,g1={ g with ld:=ld,gr:=gr })->Gd g1->Lr g1.gr->g.gr.length<g1.gr.length->∃ld gr m,Ru g { g with ld:=ld,gr:=gr } m/\m<=n+1/\Gd { g with ld:=ld,gr:=gr }/\Lr gr:=by
    rintro _ e ⟨l1,r1,rfl⟩ k1 z1 hl
    have pl:=ajq (g:={ g with ld:=l1,gr:=r1 });let#[ld,gr,m,r,hm,k2,z2]:=UU n (OO k1) hC (HX k1.gc hC nO z1) (by
     have pl:r1.length<=(uc { g with ld:=l1,gr:=r1 }).gr.length:=pl;have hl:g.gr.length<r1.length:=hl;show g.C.length<_
     lia)
    apply#[ld,gr,m+1,.yes ht e k1 r,by lia,k2,z2]
   have hl:=k.len;cases hb:f_ g with
   |some p=>
    by_cases hp:p=1
    .subst hp;have hm:=vU hb;let#[x,r,hx]:=List.exists_cons_of_ne_nil (λe:g.ld=[]=>by rw[e] at hm;simp at hm);let#[ko,lo]:=Oi k hx;apply yes _ (ael k hb hx) #[_,_,rfl] ko (hz.put (RO k hC)) (by rw[lo];lia)
    .exact#[g.ld,g.gr,0,.no ht (ajc k hb hp),acP _,k,hz]
   |none=>
    let#[ex,F,k1,hA,hB]:=agw k hb
    by_cases h1:f_ (mS g ex)=some 1
    .have hm:=vU h1;let#[x,r,hx]:=List.exists_cons_of_ne_nil (λe:g.ld++ex=[]=>by
      have hm:1<=1/\1<=(g.ld++ex).length/\_:=hm;rw[e] at hm;simp at hm)
     let#[ko,lo]:=Oi k1 hx;apply yes _ (hB x r hx h1) #[_,_,rfl] ko (Lr.put hz (RO k1 hC)) (by rw[lo];apply ahO _)
    .let#[h2,h3]:=hA h1
     by_cases he:g.ld++ex=[]
     .let#[u,v,_,_,e]:=h3 he
      by_cases hf:bg g=[]
      .rw[hf] at e;apply#[g.ld,g.gr,0,.no ht e,acP _,k,hz]
      .have hd:g.ld=[]:=(agh.mp he).1;let#[c1,c2,c3,c4]:=RV (λx=>#[by simp only[aA,aK,Ks,ahw],rfl,Wx k.gc]) (l:=bg g) (Dk.sublist aiQ) (λx m=>by
        let#[a,_,_,b]:=r_.mp (adF.mp m).1;apply#[b,gK.mpr (by lia)]) k.gr hz
       rw[show decide (bg g=[])=false from acp hf] at e;refine yes _ e #[g.ld,_,rfl] (k.cut (aj0 _) c1 λx m=>?_) c2 (by
        have:=aj4.mpr hf;unfold qV
        lia)
       cases q:eN ((bg g).foldl (qV g.C u) g.gr) x with
       |false=>rfl
       |true=>
        rcases c4 x q with q|q
        .rw[show eN g.gr x=false from k.mJ x m] at q;ext q
        .let#[_,n1,n2,_]:=r_.mp (adF.mp q).1;apply absurd m (by rw[abH];apply λz=>z.elim n1 n2)
     .exact#[g.ld++ex,g.gr,0,.no ht (h2 he),acP _,k1,hz]
def Wa(k:Gd g)(hC:g.C.length<=30)(hz:Lr g.gr):∃ld gr,sQ (gD g) []=some (.aC,gD (qU { g with ld:=ld,gr:=gr }))/\Gd (qU { g with ld:=ld,gr:=gr })/\Lr gr:=by
 let#[ld,gr,m,r,hm,k1,z1]:=UU (g.C.length+1) (OO k) hC (HX k.gc hC nO hz) (by show g.C.length<_;lia);apply#[ld,gr,aco k r (by lia) k1,ZP k1,z1]
def HM[DecidableEq κ]{es:List (κ×α)}:(gp es q d).length<=es.length+1:=by
 unfold gp
 split
 .rw[List.length_map];lia
 .rw[abV];apply abD _
def aao(n t:Int)(h:List Str):word n t h="yes"\/bw (word n t h)=true\/word n t h="more":=by
 unfold word
 split
 .exact .inl rfl
 .split
  .exact .inr (.inl rfl)
  .split
   .exact .inr (.inl rfl)
   .exact .inr (.inr rfl)
def SQ(h:1<=n/\n<=t/\t<=20):word n t []="more":=by
 unfold word;rw[abM (by show ¬((0:Nat):Int) >= n;omega),abM (by show ¬((0:Nat):Int) >= n;omega),abM (by show ¬((0:Nat):Int) >= t;omega)]
def ai0(k:1<=g.n/\g.n<=g.t/\g.t<=20)(l:List Int):wd g l=word g.n g.t (hd g.ta l):=by
 unfold wd hd;cases qW g.ta l with
 |none=>apply(SQ k).symm
 |some h=>rfl
def Uq{L l:List Int}:hd (gp ta L h) l=if l=L then h else hd ta l:=by
 unfold hd qW
 by_cases e:l=L
 .rw[if_pos e,e,Qg];rfl
 .rw[abM e,QJ e]
def HZ(h:p<=g.ld.length):(ic g p).length=g.ln.length+p:=by
 unfold ic;rw[abV,ahW]
 lia
def Oe(E:List Ed):Prop:=E.length<=3/\∀p∈E,p.1∈S8/\0<=p.2.2/\p.2.2<=100
def Th(C:List Ch):Prop:=C.length<=30/\∀c∈C,Oe c.2.2
theorem S4:∀{l:List Int},qu l=true->l.Pairwise (· < ·)
 |[],_=>.nil
 |[x],_=>List.pairwise_singleton _ _
 |x::y::r,h=>by
  let#[a,b]:=(aaM _ _).mp h;have ih:=S4 b;have a:=abl a;refine agc.mpr #[λz m=>?_,ih];rcases aaO.mp m with rfl|m
  .exact a
  .have:=(agc.mp ih).1 z m;lia
def Nh(h1:1<=m)(h2:m<=(C.length:Int)):ch (C++[c]) m=ch C m:=by
 unfold ch;rw[adO (by omega)]
def Zq(h1:1<=m)(h2:m<=(C.length:Int)):lean (sec (C++[c])) m=lean (sec C) m:=by
 rw[<- wY h1 (by rw[abV,aes];lia),Nh h1 h2,wY h1 h2]
def aaf(o:Oe c.2.2)(g:GoodC S8 C)(k:nM C.length c.1 c.2.1 c.2.2=true)(kl:c.2.1.length<=60)(hl:C.length<30):GoodC S8 (C++[c]):=by
 unfold nM wC at k;simp only[aaM,ado,ajo] at k;let#[#[_,kb,_],k2,k3,k4]:=k;have at_:∀(Q:Ch->Prop),Q (0,[],[])->Q c->(∀m,Q (ch C m))->∀m,Q (ch (C++[c]) m):=λQ q0 qc h m=>by
  unfold ch;rw[List.getElem?_append]
  split
  .exact h m
  .cases e:([c]:List Ch)[(m-1).toNat-C.length]? with
   |none=>apply q0
   |some x=>
    have:=adW e;rw[aa6.mp this];apply qc
 have pw:=S4 k4;refine#[by rw[abV,aes];lia,g.sl,λm=>at_ (λc'=>Ee S8 c'.2.2) #[#[.nil,acP _],.nil,λp m=>nomatch m] #[#[pw.imp λh=>Int.le_of_lt h,by lia],pw.imp λh e=>by lia,λp m=>(o.2 p m).1] g.ed m,λm x h1 h2 mx=>?_,λm=>?_]
 .rw[abV,aes] at h2
  by_cases h3:m<=(C.length:Int)
  .rw[Zq h1 h3] at mx;apply g.bd m x h1 h3 mx
  .have e:(ch (C++[c]) m)=c:=by
    unfold ch;rw[show(m-1).toNat=C.length by lia,aeh (abD _),Nat.sub_self];rfl
   rw[<- wY h1 (by rw[abV,aes];lia),e] at mx;have:=kb x mx;unfold inR at this;simp only[aaM,ajo] at this
   lia
 .by_cases h1:1<=m
  .by_cases h2:m<=((C++[c]).length:Int)
   .rw[<- wY h1 h2];refine at_ (λc=>c.2.1.length<=60) (acP _) kl (λm=>?_) m;unfold ch;cases e:C[(m-1).toNat]? with
    |none=>apply acP _
    |some x=>
     have cM:=(abq.mp e).1;have:=g.few (((m-1).toNat:Int)+1);rw[<- wY (by lia) (by lia)] at this;unfold ch at this;rw[show((((m-1).toNat:Int)+1-1).toNat)=(m-1).toNat by lia,e] at this;apply this
   .unfold lean;rw[if_pos h1,ajb (by rw[List.length_map];lia)];apply acP _
  .unfold lean;rw[abM h1];apply acP _
def ab1(h:Row C row):fV (C++[c]) row=fV C row:=agB λx m=>by
 unfold cX;rw[Nh (h x m).1 (h x m).2]
abbrev P4:=Int×Int×Int×Int
structure Pv(m:Nat)(g:G):Prop where
 gd:Gd g
 lr:Lr g.gr
 th:Th g.C
 tn:(g.ta.map (·.1)).Nodup
 tl:g.ta.length<=m
 en:∀d∈g.en,Sh 482 2 d/\aA d=true
 el:g.en.length<=m
 gl:g.gw.length<=m
 gs:∀l∈g.gw,Lo l
 nb:(0<=g.an/\g.an<=m)/\0<=g.br/\g.br<=m
 yl:∀l,word g.n g.t (hd g.ta l)="yes"->l.length<=g.ln.length
structure Iv(m:Nat)(g:G):Prop extends Pv m g where
 lk:∀L∈g.lk,∃p,1<=p/\p<=g.ld.length/\L=ic g p/\word g.n g.t (hd g.ta L)="more"
 ll:g.lk.length<64
def nu(g:G):P4:=(g.w,g.h,g.n,g.t)
def Pv.settle(k:Pv m g):∃g3,sQ (gD g) []=some (.aC,gD g3)/\Iv m g3/\g3.C=g.C/\nu g3=nu g:=by
 let#[ld,gr,e,k1,z1]:=Wa k.gd k.th.1 k.lr;refine#[_,e,#[#[k1,z1,k.th,k.tn,k.tl,k.en,k.el,k.gl,k.gs,k.nb,k.yl],λL mL=>?_,?_],rfl,rfl]
 rotate_left
 .have a:(ld.length:Int)<=g.w:=k1.uD;have:=k.gd.w1;have:=k.gd.h1;show((v9 { g with ld:=ld,gr:=gr }).map _).length<64;rw[List.length_map];apply Rj (show g.h<=60 by lia) (show ld.length<64 by lia)
 let#[p,mp,rfl]:=ab8.mp mL;have b:=OL p mp;have e:=Vp (g:={ g with ld:=ld,gr:=gr });have e2:=e.2;have hp:p.toNat<=ld.length:=by lia
 refine#[p.toNat,by lia,hp,rfl,?_];have nb:nI { g with ld:=ld,gr:=gr } p.toNat=false:=by
  cases e:f_ { g with ld:=ld,gr:=gr } with
  |none=>apply VY.mp e _ (by lia) hp
  |some q=>
   refine(vU e).2.2.2 _ (by lia) ?_;unfold eo yH at b;rw[e] at b;have:p<(q:Int):=b.2
   lia
 unfold nI at nb;rw[ai0 (g:={ g with ld:=ld,gr:=gr }) k.gd.nt] at nb;rcases aao g.n g.t (hd g.ta (ic { g with ld:=ld,gr:=gr } p.toNat)) with h|h|h
 .have:=k.yl _ h;rw[HZ hp] at this;have:g.ln.length+p.toNat<=g.ln.length:=this
  lia
 .exact absurd nb (by show ¬bw (word g.n g.t (hd g.ta (ic { g with ld:=ld,gr:=gr } p.toNat)))=false;rw[h];decide)
 .exact h
def Pv.up(k:Pv m g)(h:m<=n):Pv n g:=#[k.gd,k.lr,k.th,k.tn,ada k.tl h,k.en,ada k.el h,ada k.gl h,k.gs,(by have:=k.nb;lia),k.yl]
def Iv.up(k:Iv m g)(h:m<=n):Iv n g:=#[k.toPv.up h,k.lk,k.ll]
def Iv.stop(k:Iv m g):∃g3,zI (gD g) []=some (.aC,gD g3)/\Iv (m+1) g3/\g3.C=g.C/\nu g3=nu g:=by
 have k1:=(k.gd.cut List.nil_prefix k.gd.gr λx m=>k.gd.mJ x (by rw[acL] at m;apply abz _ m)).re g.ta g.lk true g.gw g.en g.an (g.br+1);let#[g3,e,i,c]:=Pv.settle #[k1,k.lr,k.th,k.tn,agr k.tl,k.en,agr k.el,agr k.gl,k.gs,(by have:=k.nb;show(0<=g.an/\g.an<=_)/\0<=g.br+1/\g.br+1<=_;lia),k.yl];apply#[g3,aaC e,i,c]
def Iv.go(k:Iv m g):∃g3,zp (gD g) []=some (.aC,gD g3)/\Iv m g3/\g3.C=g.C/\nu g3=nu g:=by
 let#[g3,e,i,c]:=Pv.settle #[k.gd.re g.ta g.lk false g.gw g.en g.an g.br,k.lr,k.th,k.tn,k.tl,k.en,k.el,k.gl,k.gs,k.nb,k.yl];apply#[g3,abR e,i,c]
def Iv.ask(k:Iv m g)(hl:l.length<=60)(hE:Oe E)(hm:nM g.C.length q l E=true)(hC:g.C.length<30):∃g3,(∀w v:List D->D,Wf w->Wf v->Ay (gD g) [.int q,w (l.map D.int),v (E.map dT)]=some (.int (g.C.length+1),gD g3))/\Iv m g3/\g3.C.length=g.C.length+1/\nu g3=nu g:=by
 have lc:(g.C++[(q,l,E)]).length=g.C.length+1:=by rw[abV];rfl
 have th:Th (g.C++[(q,l,E)]):=#[by rw[lc];apply hC,λc m=>(abH.mp m).elim (k.th.2 c) λm=>by rw[aa6.mp m];apply hE]
 have v:=k.gd;have k1:Gd (DT g (q,l,E)):=by
  refine#[v.w1,v.h1,v.nt,aaf hE v.gc hm hl hC,λx mx=>?_,v.nd,v.uD,v.mJ,#[v.gr.im,v.gr.nd,(λy my=>?_),v.gr.tp],?_]
  .have:=v.row x mx;show 1<=x/\x<=(((g.C++[(q,l,E)]).length:Nat):Int);rw[lc];lia
  .let#[x,e,mx]:=v.gr.ks y my;have:=gK.mp mx;apply#[x,e,gK.mpr (show 1<=x/\x<1+(((g.C++[(q,l,E)]).length:Nat):Int) by rw[lc];lia)]
  .let#[w,e]:=v.run;apply#[w,(congrArg (fW []) (ab1 v.row)).trans e]
 let#[g3,e,i,c]:=Pv.settle #[k1,k.lr,th,k.tn,k.tl,k.en,k.el,k.gl,k.gs,k.nb,k.yl];apply#[g3,λw v hw hv=>aeX hw hv (by lia) (by have:=hE.1;lia) hm (by lia) e,i,by rw[c.1];apply lc,c.2]
def Iv.kF(k:Iv m g)(hx:1<=x/\x<=(g.C.length:Int))(nl:x∉g.ln)(no:qz g x=false):∃g3,xU (gD g) [.int x]=some (.aC,gD g3)/\Iv (m+1) g3/\g3.C=g.C/\nu g3=nu g:=by
 have v:=k.gd;have lw:Sh 964 2 (.tup [.str "withdrawn"]):=(Sh.tup 1 (λd m=>by rw[aa6.mp m];apply i8 "withdrawn") (abD _)).up (by decide) (by decide);have hp:(pM g x).ld <+: g.ld:=by
  unfold pM;dsimp only
  split
  .exact DE
  .exact aj0 _
 have k1:Gd (pM g x):=(v.cut hp (v.gr.put (gK.mpr (by lia)) rfl) λy my=>by
  have my':=(abH.mp my).elim (abz _) λh=>aaH _ (hp.subset h)
  rw[vf,show eN g.gr y=false from v.mJ y my',acp (show ¬y=x from λe=>by
   subst e;rcases abH.mp my with h|h
   .exact nl h
   .unfold pM at h;dsimp only at h
    split at h
    .exact QV h
    .rename_i q;apply q h)];rfl).re g.ta g.lk g.ht g.gw g.en g.an (g.br+1)
 let#[g3,e,i,c]:=Pv.settle #[k1,Lr.put k.lr lw,k.th,k.tn,agr k.tl,k.en,agr k.el,agr k.gl,k.gs,(by have:=k.nb;show(0<=g.an/\g.an<=_)/\0<=g.br+1/\g.br+1<=_;lia),k.yl];apply#[g3,abJ v hx nl no e,i,c]
def Iv.fu(k:Iv m g){L:List Int}(hL:L∈g.lk)(hw:w∈(["yes","no","unsure"]:List Str))(hm:word g.n g.t (hd g.ta L)="more")(m4:m<=4000):∃g3,zK (gD g) [tD L,.str w]=some (.str (word g.n g.t (hd g.ta L++[w])),gD g3)/\Iv (m+1) g3/\g3.C=g.C/\nu g3=nu g:=by
 let#[p,p1,p2,eL,_]:=k.lk L hL;have PV:L.length=g.ln.length+p:=by rw[eL,HZ p2]
 have nL:L≠[]:=λe=>by rw[e] at PV;simp at PV;lia
 have v:=k.gd;have em:=sV.mpr λd md=>(k.en d md).2
 have PU:(gp g.ta L (hd g.ta L++[w])).length<=m+1:=ada HM (by have:=k.tl;lia);have Cs:(∀d∈(jI g L w).en,Sh 482 2 d/\aA d=true)/\(jI g L w).en.length<=m+1:=by
  unfold jI;dsimp only
  split
  .exact#[k.en,by have:=k.el;lia]
  .refine#[λd md=>?_,by rw[abV];have:=k.el;simp;lia];rcases abH.mp md with md|md
   .exact k.en d md
   .rw[aa6.mp md];refine#[Sh.tup (w:=240) 2 (λd md=>?_) (abD _),by unfold tD;simp only[aA,aK,dW,ahw]];simp only[aaO,acK,aeE] at md;rcases md with rfl|rfl
    .exact(by rw[eL];apply v.lo k.th.1 xB:Lo L).tD
    .exact NW.up (by decide) (by decide)
 have v1:Gd (jI g L w):=v.re _ g.lk g.ht g.gw _ _ g.br;have nb:(0<=(jI g L w).an/\(jI g L w).an<=((m+1:Nat):Int))/\0<=(jI g L w).br/\(jI g L w).br<=((m+1:Nat):Int):=by have:=k.nb;show(0<=g.an+1/\g.an+1<=_)/\0<=g.br/\g.br<=_;lia
 have P:Pv (m+1) (qM g L w):=by
  unfold qM
  by_cases hy:(word g.n g.t (hd g.ta L++[w]) == "yes")=true
  .rw[if_pos hy];have dp:L.length-g.ln.length=p:=by lia
   have ea:L++g.ld.drop p=g.ln++g.ld:=by rw[eL];unfold ic;rw[afn,List.take_append_drop]
   refine#[#[v.w1,v.h1,v.nt,v.gc,?_,?_,?_,?_,v.gr,?_],k.lr,k.th,Cb k.tn,PU,Cs.1,Cs.2,(by show(g.gw++[L]).length<=m+1;rw[abV];have:=k.gl;simp;lia),(λl ml=>(abH.mp ml).elim (k.gs l) λml=>by rw[aa6.mp ml,eL];apply v.lo k.th.1 xB),nb,λl hl=>?_]
   rotate_right
   .have hl:word g.n g.t (hd (gp g.ta L (hd g.ta L++[w])) l)="yes":=hl;rw[Uq] at hl;show l.length<=L.length
    split at hl
    .rename_i q;rw[q];apply abD _
    .have:=k.yl l hl;lia
   .show Row g.C (L++g.ld.drop (L.length-g.ln.length));rw[dp,ea];apply v.row
   .show(L++g.ld.drop (L.length-g.ln.length)).Nodup;rw[dp,ea];apply v.nd
   .show((g.ld.drop (L.length-g.ln.length)).length:Int)<=g.w;rw[List.length_drop];have:=v.uD;lia
   .show ∀x∈L++g.ld.drop (L.length-g.ln.length),qz g x=false;rw[dp,ea];apply v.mJ
   .show ∃v,fW [] (fV g.C (L++g.ld.drop (L.length-g.ln.length)))=some v;rw[dp,ea];apply v.run
  .rw[abM hy];apply#[v1,k.lr,k.th,Cb k.tn,PU,Cs.1,Cs.2,(by have:=k.gl;show g.gw.length<=m + 1;lia),k.gs,nb,λl hl=>by
    have hl:word g.n g.t (hd (gp g.ta L (hd g.ta L++[w])) l)="yes":=hl;rw[Uq] at hl
    split at hl
    .exact absurd hl (by simpa using hy)
    .exact k.yl l hl]
 have c2:(qM g L w).C=g.C/\nu (qM g L w)=nu g:=by unfold qM;split<;>apply#[rfl,rfl]
 let#[g3,e,i,c]:=P.settle;apply#[g3,ahr hL nL v k.tn (ada k.tl (by lia)) hw hm em (ada k.el (by lia)) (ada k.gl (by lia)) (by lia) (by lia) e,i,c.1.trans c2.1,c.2.trans c2.2]
def UD{r:Bool}{c:XN}(h:sf Y=some (.er r c Y')):ck sf sg Y=some (.er r c Y'):=by rw[je,h];rfl
def Yx{r:Bool}{c:XN}(h:tf Y=some true)(h2:sf Y=some (.er r c Y')):ck (eW tf sf gm) sg Y=some (.er r c Y'):=UD (by rw[iH,h];apply h2)
def adm(h:g Y=some ps):Ck cn g Y=some (.er true (cn,none) Y):=by unfold Ck;rw[h]
def Wu{L:List Int}(h:L∉g.lk):Gx [gD g,tD L,.str w]=some (.er ("NoLook",none)):=by
 have t:∀{t1 t2} {s},tV (e2 (AB true) (aj 1) (bH "Gate" "looks" (aj 0))) (some (gD g,t1)::some (tD L,t2)::s)=some true:=λ{t1 t2 s}=>cj (aM rfl (fl rfl) ((Gi true L g.lk).trans (by rw[acp h];rfl)))
 apply Rp rfl (Yx t (adm rfl))
def Wq(Q:Out->Prop)(o:Option Out):Prop:=∃r,o=some r/\Q r
section
variable{sf sg:SF}
def mZ(h:sf Y=some (.nx Y'))(k:Wq Q (sg Y')):Wq Q (ck sf sg Y):=let#[x,e,p]:=k;#[x,sq h e,p]
def wn(h:sf Y=some (.nx Y'))(k:Wq Q (sg Y')):Wq Q (ck (jE sf) sg Y):=mZ (gQ h) k
def gU(h:f Y=some (d,t))(k:Wq Q (sg (iE Y i d t))):Wq Q (ck (eO i f) sg Y):=mZ (by rw[oj,h];rfl) k
def vZ(h:f Y=some (d,t))(k:Wq Q (sg (iE Y i d t))):Wq Q (ck (jE (eO i f)) sg Y):=wn (by rw[oj,h];rfl) k
def gG(Y':aL)(k:Wq Q (sg Y'))(e:Y=Y':=by rfl):Wq Q (sg Y):=e ▸ k
def tM(h:tf Y=some b)(h1:b=true->Wq Q (sf Y))(h2:b=false->Wq Q (sg Y)):Wq Q (eW tf sf sg Y):=by
 rw[iH,h];cases b with
 |true=>apply h1 rfl
 |false=>apply h2 rfl
def Q5(I:Nat->aL->Prop)(h0:I 0 Y)(st:∀j Y d,ds[j]? = some d->I j Y->∃aO,g d t Y=some aO/\Wq (λr=>∃bA,r=.nx bA/\I (j+1) bA) (sf aO)):∃Y',dU g t sf ds Y=some (.nx Y')/\I ds.length Y':=by
 let#[Y',lp,h]:=VL I h0 (λj Y d hd h=>by
  rw[ain] at h ⊢;let#[aO,e1,_,e2,bA,rfl,h2]:=st j Y d hd h;apply#[aO,bA,e1,.inl e2,h2])
 rw[ain] at h;apply#[Y',lp,h]
def Ka(I:Nat->aL->Prop)(hi:it Y=some ((dH a n).map D.int,.own))(h0:I 0 Y)(st:∀j Y,j<n->I j Y->∃aO,gN x (.int (a+j)) (.sh []) Y=some aO/\Wq (λr=>∃bA,r=.nx bA/\I (j+1) bA) (sf aO))(k:∀Y',I n Y'->Wq Q (sg Y')):Wq Q (ck (jH it (gN x) sf) sg Y):=by
 let#[Y',e,h]:=Q5 (ds:=(dH a n).map D.int) I h0 (λj Y d hd h=>by
  unfold dH at hd;rw[adw,acy] at hd;let#[y,hy,rfl]:=abX.mp hd;let#[hj,e]:=abq.mp hy;rw[List.length_range] at hj;rw[List.getElem_range] at e;subst e;apply st j Y hj h)
 rw[List.length_map,lU] at h;apply mZ (vO hi e) (k Y' h)
def zx{I:aL->Prop}(h:Wq (λr=>∃Y',r=.nx Y'/\I Y') (sf Y))(k:∀Y',I Y'->Wq Q (sg Y')):Wq Q (ck sf sg Y):=let#[_,e,Y',e2,p]:=h;mZ (e.trans (by rw[e2])) (k Y' p)
def acJ{I:aL->Prop}(h:Wq (λr=>∃Y',r=.nx Y'/\I Y') (sf Y))(k:∀Y',I Y'->Wq Q (sg Y')):Wq Q (ck (jE sf) sg Y):=let#[_,e,Y',e2,p]:=h;wn (e.trans (by rw[e2])) (k Y' p)
def vP{P:D->Prop}(hl:ds.length=n)(h:Wq (λr=>∃d,r=.rt d/\P d) (B (tu N ds))):∃d,bJ n N B ds=some d/\P d:=let#[_,e,d,h,p]:=h;#[d,bY hl (e.trans (by rw[h])),p]
def Li(h:f Y=some (.ok d Y')):Az i f Y=some (.nx (iE Y' i d .own)):=by unfold Az;rw[h]
end
def abi:Q0 [gD g]=some (iL g.ln):=bY rfl (cI (bB (fl rfl) w_))
def Fj:Vm [gD g]=some (iL g.ld):=bY rfl (cI (bB (fl rfl) w_))
def LX:O8 [gD g]=some (.lst (cK g.lk)):=bY rfl (cI (bB (fl (d:=.lst (cK g.lk)) rfl) (if_pos (Js _))))
def Uh:SV [gD g]=some (.bl g.ht):=bY rfl (by rw[wD,fl rfl];rfl)
def outD(gr:List (Key×D))(x:Int):D:=.tup [.int x,(bu gr (Sum.inl x:Key)).getD .aC]
def aaw(k:Gd g):QX [gD g]=some (.lst ((dh (kg g.gr)).map (outD g.gr))):=by
 have hl:=k.gr.len;have gl:=k.gc.ln;let#[ek,e]:=s_ k.gr.ks;have el:(kg g.gr).length=g.gr.length:=by have:=congrArg List.length ek;rw[List.length_map,List.length_map] at this;apply this.symm
 have hs:e1 l_ (bH "Gate" "grounds" (aj 0)) [sS (gD g)]=sW (iL (dh (kg g.gr))):=bB (fl rfl) (by
  show(match jt g.gr with|some ns=>if ns.length<64 then some (D.lst ((dh ns).map D.int)) else none|none=>none)=_;rw[e];dsimp only;rw[if_pos (by lia)];rfl)
 have hc:=j_ (js:=[none,some 0]) (g:=gN 0) (tt:=qp) (k:=λd=>match d with | .int x=>some (outD g.gr x) | _=>none) (j8 hs) (by rw[List.length_map,uK];apply size_le (by lia)) (λd m=>by
  let#[x,mx,rfl]:=ab8.mp m;have mi:=k.gr.mem.mp (xP.mp mx);unfold eN at mi;let#[v,hv]:=afW.mp mi;have iv:=sV.mp k.gr.im v (by
   unfold bu at hv;let#[kv,h1,rfl]:=abX.mp hv;apply ab8.mpr #[kv,afz h1,rfl])
  have hg:e2 m5 (bH "Gate" "grounds" (aj 1)) (aj 0) [sS (.int x),sS (gD g)]=sW v:=aM (fl rfl) rfl (by
   show(bu g.gr (Sum.inl x:Key)).bind _=_;rw[hv,acG,if_pos iv])
  have ho:∃t,gX (au (aj 0) (au (e2 m5 (bH "Gate" "grounds" (aj 1)) (aj 0)) aB)) [sS (.int x),sS (gD g)]=some (outD g.gr x,t):=by
   rw[nS,bq,bq,hg];unfold outD;rw[hv];apply#[_,rfl]
  let#[t,ho]:=ho;apply uw rfl rfl ho (by
   unfold outD;rw[hv];simp only[ajX,aA,aK,iv,ahw]))
 rw[aeC,show((dh (kg g.gr)).filterMap ((λd=>match d with|D.int x=>some (outD g.gr x)|_=>none) ∘ D.int))=(dh (kg g.gr)).map (outD g.gr) from pR (outD g.gr) _] at hc;apply bY rfl (cI hc)
def g0(w h n t:Int):G:=#[w,h,n,t,[],[],[],[],[],[],false,[],[],0,0]
def R4(hw:1<=w/\w<=16)(hh:1<=h/\h<=8)(nt:1<=n/\n<=t/\t<=20):AK (.ins "Gate" []) [.int w,.int h,.int n,.int t]=some (.aC,gD (g0 w h n t)):=by
 have q:∀{i} {v b},aj i [sW (.ins "Gate" []),sS (.int w),sS (.int h),sS (.int n),sS (.int t)]=sS (.int v)->1<=v/\v<=b->tV (cZ mT (au (aj i) (au (eC (.int 1)) (au (eC (.int b)) aB)))) [sW (.ins "Gate" []),sS (.int w),sS (.int h),sS (.int n),sS (.int t)]=some true:=λh hb=>(zO h).trans (by unfold inR;rw[aaP hb.1,aaP hb.2];rfl)
 refine m_ (Y:=[sW (gD (g0 w h n t)),sS (.int w),sS (.int h),sS (.int n),sS (.int t)]) rfl (b_ (kN ((U5 (q rfl hw)).trans ((U5 (q rfl hh)).trans (cj (cP (ps:=[(.int n,.sh []),(.int t,.sh [])]) rfl (T_ nt)))))) ?_) rfl
 kernel_rfl
def sU(h:tf Y=some b)(h1:b=true->Wq Q (ck sf sg Y))(h2:b=false->Wq Q (sg Y)):Wq Q (ck (eW tf sf gm) sg Y):=by
 cases b with
 |true=>let#[r,e,q]:=h1 rfl;apply#[r,pP h e,q]
 |false=>let#[r,e,q]:=h2 rfl;apply#[r,b_ h e,q]
def sG(h:Wq (λr=>∃x,r=.rt x/\Q r) (sf Y)):Wq Q (ck sf sg Y):=by
 let#[r,e,x,rfl,q]:=h;apply#[_,ja e,q]
def Nn(k:Gd g)(hv:fW [] (fV g.C g.ln)=some v):L5 [gD g]=some (dS (nz v))/\Kb S8 v:=by
 have h:=Cj k.gc (λx m=>k.row x (abz _ m)) (by have:=k.len;lia) hv;apply#[bY rfl (cI (cP rfl h.1)),h.2]
def KN{L:List (List Int)}:fX (.lst (cK L))=some (.int L.length):=by show some (D.int (cK L).length)=_;unfold cK;rw[List.length_map]
def cD(g:G):D:=.tup [.int g.gw.length,.int ((g.en.length:Int)-g.gw.length),.int g.an,.int (cnt g.gr),.int g.br]
def V0(k:Gd g):Tn [gD g]=some (cD g):=by
 have hl:=k.gr.len;have gl:=k.gc.ln;have h1:e1 fX (bH "Gate" "grown" (aj 0)) [sS (gD g),none,none]=sW (.int g.gw.length):=bB (fl rfl) KN;have h2:e1 fX (G2 0 "Gate" "grounds" "look") [sS (gD g),sW (.int g.gw.length),none]=sW (.int (cnt g.gr)):=bB (by
  show(if("Gate":Str)="Gate"/\(g.gr.map (·.1)).Nodup/\g.gr.length<sizeLine/\∀p∈g.gr,(n9 p.2).isSome=true then some (D.lst (xC "look" g.gr),Tag.own) else none)=_;rw[if_pos #[rfl,k.gr.nd,size_le (by lia),k.gr.tp]]) (by rw[qD];rfl)
 have h3:e2 jY (e1 fX (bH "Gate" "ended" (aj 0))) (aj 1) [sS (gD g),sW (.int g.gw.length),sW (.int (cnt g.gr))]=sW (.int ((g.en.length:Int)-g.gw.length)):=aM (bB (fl rfl) qD) rfl rfl;refine bY rfl (iO h1 (iO h2 ?_));show l7 (gX (au (aj 1) (au (e2 jY (e1 fX (bH "Gate" "ended" (aj 0))) (aj 1)) (au (bH "Gate" "answers" (aj 0)) (au (aj 2) (au (bH "Gate" "breaks" (aj 0)) aB)))))) [sS (gD g),sW (.int g.gw.length),sW (.int (cnt g.gr))]=some (.rt (cD g));rw[wD,nS,bq,bq,h3];rfl
def aeD:U6 [gD g]=some (.lst (cK g.gw)):=bY rfl (cI (bB (fl (d:=.lst (cK g.gw)) rfl) (if_pos (Js _))))
def aib(h:aK g.en=true):R8 [gD g]=some (.lst g.en):=bY rfl (cI (bB (fl (d:=.lst g.en) rfl) (if_pos h)))
def sD(g:G):D:=.tup [.int g.w,.int g.h,.int g.n,.int g.t]
def afH:Tq [gD g]=some (sD g):=bY rfl (by rw[wD,fl rfl];rfl)
def Sh.map{l:List α}(n:Nat)(h:∀x∈l,Sh w k (f x))(hl:l.length<=n):Sh ((w + 1) * n) (k + 1) (.lst (l.map f)):=.lst n (λd m=>by
 let#[x,mx,rfl]:=ab8.mp m;apply h x mx) (by rw[List.length_map];apply hl)
def U0{L:List (List Int)}(h:∀l∈L,Lo l)(hl:L.length<=64):Sh 15424 2 (.lst (cK L)):=Sh.map 64 (λl m=>(h l m).tD) hl
def Sg[DecidableEq κ]{es:List (κ×α)}(h:gv es k=some v):(k,v)∈es:=by
 unfold gv at h;let#[kv,h1,rfl]:=abX.mp h;have:kv.1=k:=abl (akc (p:=λkv:κ×α=>decide (kv.1=k)) h1);apply this ▸ afz h1
def VZ(h:Lr gr)(hx:-100<=x/\x<=100):Sh 1930 3 (outD gr x):=Sh.tup (w:=964) 2 (λd m=>by
 simp only[aaO,acK,aeE] at m;rcases m with rfl|rfl
 .exact(Sh.int hx).up (by decide) (by decide)
 .cases e:bu gr (Sum.inl x:Key) with
  |none=>apply Ly.up (by decide) (by decide)
  |some d=>apply h _ (Sg e)) (abD _)
def c_(h:f Y=some p)(h2:g Y=some ps):au f g Y=some (p::ps):=by rw[bq,h,h2];rfl
def wW(h:g Y=some ps):gX g Y=some (.tup (ps.map (·.1)),jG ps):=by rw[nS,h];rfl
def Vs(v:iX):Prop:=∀k,0<=(bX v k).getD 0/\(bX v k).getD 0<=100
def agg(h:Vs u)(o:Oe E)(nd:(E.map (·.1)).Nodup):Vs (dZ u E):=λk=>by
 let#[g1,g2]:=yR E u k nd
 by_cases mj:k∈E.map (·.1)
 .let#[p,mp,rfl]:=ab8.mp mj;rw[g1 p mp rfl];apply(o.2 p mp).2
 .rw[g2 mj];apply h k
def Zg(h:Th C):Oe (cX C x):=by
 unfold cX ch;cases e:C[(x-1).toNat]? with
 |none=>apply#[acP _,λp m=>nomatch m]
 |some c=>apply h.2 c (adW e)
theorem Sb(gc:GoodC Sl C)(th:Th C):∀{l:List Int}{u v:iX},Vs u->fW u (fV C l)=some v->Vs v
 |[],u,v,h,e=>by ext e;apply h
 |x::l,u,v,h,e=>by
  have e:(if bad u (cX C x)=[] then fW (dZ u (cX C x)) (fV C l) else none)=some v:=e
  by_cases hb:bad u (cX C x)=[]
  .rw[if_pos hb] at e;apply Sb gc th (agg h (Zg th) (gc.ed x).nd) e
  .rw[abM hb] at e;ext e
def TH(k:Iv m g)(hm:m<=30):∃s,S5 [gD g]=some (.str s):=by
 have v:=k.gd;have hC:=k.th.1;let#[u,hu]:=Fo v.run;have hl:=v.len;have gl:=v.gc.ln;have L:∀{m:Str}{F:List D->Option D}{d:D}{s1:Slot},F [gD g]=some d->(gF g).lookup m=none->bK "Gate" m F (aj 0) aB [sS (gD g),s1]=sW d:=λh hm=>jg rfl h hm
 have lw:=zU (g:=g);have e1:∀{s1},iC (au (bK "Gate" "line" Q0 (aj 0) aB) (au (bK "Gate" "laid" Vm (aj 0) aB) (au (bK "Gate" "waiting" AJ (aj 0) aB) (au (bK "Gate" "outs" QX (aj 0) aB) (au (bK "Gate" "wanted" O8 (aj 0) aB) (au (bK "Gate" "growths" U6 (aj 0) aB) (au (bK "Gate" "settled" R8 (aj 0) aB) aB))))))) [sS (gD g),s1]=sW (.lst [iL g.ln,iL g.ld,iL (wl g),.lst ((dh (kg g.gr)).map (outD g.gr)),.lst (cK g.lk),.lst (cK g.gw),.lst g.en]):=λ{s1}=>by
  unfold iC;rw[c_ (L abi rfl) (c_ (L Fj rfl) (c_ (L (vR (by lia)) rfl) (c_ (L (aaw v) rfl) (c_ (L LX rfl) (c_ (L aeD rfl) (c_ (L (aib (sV.mpr λd md=>(k.en d md).2)) rfl) (show aB _=some [] from rfl)))))))];rfl
 have e2:∀{s1},gX (au (bK "Gate" "bad" xZ (aj 0) aB) (au (bK "Gate" "stopped" SV (aj 0) aB) (au (bK "Gate" "sheet" L5 (aj 0) aB) (au (bK "Gate" "counts" Tn (aj 0) aB) aB)))) [sS (gD g),s1]=sW (.tup [bD (f_ g),.bl g.ht,dS (nz u),cD g]):=λ{s1}=>wW (c_ (L (CC (by lia)) rfl) (c_ (L Uh rfl) (c_ (L (Nn v hu).1 rfl) (c_ (L (V0 v) rfl) (show aB _=some [] from rfl)))))
 have vk:=(Nn v hu).2;have vs:Vs u:=Sb v.gc k.th (λk=>#[ajn _,by show(0:Int)<=100;decide]) hu;have gk:=v.gr.len;have lo:∀{l:List Int},l.Nodup->Row g.C l->Lo l:=λ{l} nd r=>by
  have a:=sub_len nd λx m=>gK.mpr (show 1<=x/\x<1+(g.C.length:Int) by have:=r x m;lia)
  rw[lU] at a;apply#[by lia,λx m=>by have:=r x m;lia]
 let#[a,ea,la]:=Sh.repr (d:=.lst [iL g.ln,iL g.ld,iL (wl g),.lst ((dh (kg g.gr)).map (outD g.gr)),.lst (cK g.lk),.lst (cK g.gw),.lst g.en]) (Sh.lst 7 (w:=57930) (k:=4) (λd md=>by
  simp only[aaO,acK,aeE] at md;rcases md with rfl|rfl|rfl|rfl|rfl|rfl|rfl
  .exact(v.lo hC (List.prefix_append _ _)).iL.up (by decide) (by decide)
  .exact(lo (acU.mp v.nd).2.1 λx m=>v.row x (aaH _ m)).iL.up (by decide) (by decide)
  .exact(lo Dk nO).iL.up (by decide) (by decide)
  .exact Sh.map 30 (λx m=>VZ k.lr (by
    have:=gK.mp (v.gr.bd (v.gr.mem.mp (xP.mp m)))
    lia)) (by rw[uK];have:=(s_ v.gr.ks).1;have:=congrArg List.length this;rw[List.length_map,List.length_map] at this;lia)
  .exact(U0 (λl m=>by let#[p,_,_,e,_]:=k.lk l m;rw[e];apply v.lo hC xB) (afR k.ll)).up (by decide) (by decide)
  .exact(U0 k.gs (by have:=k.gl;lia)).up (by decide) (by decide)
  .exact(Sh.lst 30 (λd m=>(k.en d m).1) (by have:=k.el;lia)).up (by decide) (by decide)) (abD _)) (by decide) (by decide)
 let#[b,eb,lb]:=Sh.repr (w:=400000) (k:=5) (d:=.tup [bD (f_ g),.bl g.ht,dS (nz u),cD g]) ((Sh.tup (w:=15183) (k:=2) 4 (λd md=>by
  simp only[aaO,acK,aeE] at md;rcases md with rfl|rfl|rfl|rfl
  .cases hb:f_ g with
   |none=>apply Ly.up (by decide) (by decide)
   |some p=>apply(Sh.int (by have:=(vU hb).2.1;have:=k.gd.uD;have:=k.gd.w1;lia)).up (by decide) (by decide)
  .exact(af0 _).up (by decide) (by decide)
  .refine Sh.map (w:=240) 63 (λp m=>?_) (ada (ait u) vk.len);let#[x,mx,rfl]:=ab8.mp m;have:=gK.mp (vk.ks x (xP.mp (adF.mp mx).1));have:=vs x;apply(show Lo [x,(bX u x).getD 0] from#[Nat.le_of_ble_eq_true rfl,λy my=>by
    simp only[aaO,acK,aeE] at my;rcases my with rfl|rfl<;>lia]).tD.up (by decide) (by decide)
  .exact(show Lo [_,_,_,_,_] from#[Nat.le_of_ble_eq_true rfl,λy my=>by
    have:=k.nb;have:=k.el;have:=k.gl;have:=abt (a:=g.gr);simp only[aaO,acK,aeE] at my;rcases my with rfl|rfl|rfl|rfl|rfl<;>lia]).tD.up (by decide) (by decide)) (abD _)).up (by decide) (by decide)) (by decide) (by decide)
 refine#[_,bY rfl (iO e1 (cI (aM (bB rfl ea) (bB e2 eb) (if_pos (by rw[afK];lia)))))]
inductive Rw
 |ask (q:Int) (l:List Int) (E:List Ed)
 |kF (x:Int)
 |fu (L:List Int) (w:Str)
 |stop
 |go
abbrev rk(w:List D->D)(q:Int)(l:List Int)(E:List Ed):D:=.tup [.str "ask",.int q,w (l.map D.int),w (E.map dT)]
def rD:Rw->D
 |.ask q l E=>rk .tup q l E
 |.kF x=>.tup [.str "withdraw",.int x]
 |.fu L w=>.tup [.str "answer",tD L,.str w]
 |.stop=>.tup [.str "stop"]
 |.go=>.tup [.str "go"]
def mX(o:Option (D×D)):Option Out:=o.map λw=>.rt (.tup [w.1,w.2])
def rX(Y:aL)(o:Option Rz):Option Out:=o.map λ| .ok d=>.rt d|.er c=>.er false c Y
def ny(h:b (yc N d0 ds)=mX o)(hl:ds.length+1=n:=by rfl):runM n N b d0 ds=o:=by
 unfold runM;rw[if_pos hl,h];ext o<;>rfl
def aeG{o:Option Rz}(h:b (tu N ds)=rX Y o)(hl:ds.length=n:=by rfl):lC n N b ds=o:=by
 unfold lC;rw[if_pos hl,h];cases o with
 |none=>rfl
 |some r=>ext r<;>rfl
def pJ(h:tf Y=some true)(h2:sf Y=mX o):ck (eW tf sf gm) sg Y=mX o:=by
 rw[je,iH,h];show wg _ (sf Y)=_;rw[h2];ext o<;>rfl
def aet{o:Option Rz}(h:tf Y=some true)(h2:sf Y=rX Y' o):ck (eW tf sf gm) sg Y=rX Y' o:=by
 rw[je,iH,h];show wg _ (sf Y)=_;rw[h2];cases o with
 |none=>rfl
 |some r=>ext r<;>rfl
def nh{s:aL}{A:AF}{F:MF}{ps:List (D×Tag)}(hg:A (sW (gD g)::s)=some ps)(hp:apart 0 ps=true:=by rfl)(hm:(gF g).lookup m=none:=by rfl):rG (xO 0 "Gate" m F A) [0] (sW (gD g)::s)=mX (F (gD g) (ps.map (·.1))):=by
 have:xO 0 "Gate" m F A (sW (gD g)::s)=(F (gD g) (ps.map (·.1))).map λw=>(w.1,bU (sW (gD g)::s) 0 w.2):=by
  unfold xO;rw[show((some (gD g,Tag.own)::s:aL))[0]? = some (sW (gD g)) from rfl,hg];apply if_pos #[rfl,hm,hp]
 unfold rG;rw[this];cases F (gD g) (ps.map (·.1))<;>rfl
def aeP{A:AF}{ps:List (D×Tag)}{R:List D->Option Rz}(h0:fo Y=some (gD g,t))(hg:A Y=some ps)(hm:(gF g).lookup m=none:=by rfl):D4 (wm "Gate" m R fo A) Y=rX Y (R (gD g::ps.map (·.1))):=by
 have:wm "Gate" m R fo A Y=(match R (gD g::ps.map (·.1)) with|some (.ok d)=>some (.ok d Y)|some (.er en)=>some (.er en Y)|none=>none):=by
  unfold wm;rw[h0,hg];apply if_pos #[rfl,hm]
 unfold D4;rw[this];cases R (gD g::ps.map (·.1)) with
 |none=>rfl
 |some r=>ext r<;>rfl
def mO(w:List D->D)(g:G):Rw->Option (D×D)
 |.ask q l E=>Ay (gD g) [.int q,w (l.map D.int),w (E.map dT)]
 |.kF x=>xU (gD g) [.int x]
 |.fu L u=>zK (gD g) [tD L,.str u]
 |.stop=>zI (gD g) []
 |.go=>zp (gD g) []
def ahY{q:Int}{l:List Int}{E:List Ed}{t t1}{s:aL}:au (e2 c9 (aj 1) (eC (.int 1))) (au (e2 c9 (aj 1) (eC (.int 2))) (au (e2 c9 (aj 1) (eC (.int 3))) aB)) (some (gD g,t)::some (rk .tup q l E,t1)::s)=some [(.int q,.own),(D.tup (l.map D.int),.own),(D.tup (E.map dT),.own)]:=
 c_ (aM rfl rfl rfl) (c_ (aM rfl rfl (tP rfl (dW l))) (c_ (aM rfl rfl (tP rfl (sL E))) rfl))
def JM{L:List Int}{w:Str}{t t1}{s:aL}:au (e2 c9 (aj 1) (eC (.int 1))) (au (e2 c9 (aj 1) (eC (.int 2))) aB) (some (gD g,t)::some (.tup [.str "answer",tD L,.str w],t1)::s)=some [(tD L,.own),(.str w,.own)]:=
 c_ (aM rfl rfl (tP rfl (dW L))) (c_ (aM rfl rfl rfl) rfl)
def M9:∀r:Rw,A0 (gD g) [rD r]=mO .tup g r
 |.ask q l E=>ny (sq (n8 rfl) (pJ rfl (nh (F:=Ay) ahY)))
 |.kF x=>ny (sq (n8 rfl) (b_ rfl (pJ rfl (nh (F:=xU) (ps:=[(.int x,.own)]) rfl))))
 |.fu L w=>ny (sq (n8 rfl) (b_ rfl (b_ rfl (pJ rfl (nh (F:=zK) JM)))))
 |.stop=>ny (sq (n8 rfl) (b_ rfl (b_ rfl (b_ rfl (pJ rfl (nh (F:=zI) (ps:=[]) rfl))))))
 |.go=>ny (sq (n8 rfl) (b_ rfl (b_ rfl (b_ rfl (b_ rfl (pJ rfl (nh (F:=zp) (ps:=[]) rfl)))))))
def agZ{L:List Int}{w:Str}:G4 [gD g,rD (.fu L w)]=Gx [gD g,tD L,.str w]:=aeG (sq rfl (b_ rfl (b_ rfl (aet rfl (aeP (R:=Gx) rfl JM)))))
def UQ(h:aK ds=true):pX (.tup ds)=some (.lst ds):=if_pos h
def aiD(q:Int)(l:List Int)(E:List Ed){t t1}{s:aL}:au (e2 c9 (aj 1) (eC (.int 1))) (au (e1 pX (e2 c9 (aj 1) (eC (.int 2)))) (au (e1 pX (e2 c9 (aj 1) (eC (.int 3)))) aB)) (some (gD g,t)::some (rk .tup q l E,t1)::s)=some [(.int q,.own),(.lst (l.map D.int),.own),(.lst (E.map dT),.own)]:=
 c_ (aM rfl rfl rfl) (c_ (bB (aM rfl rfl (tP rfl (dW l))) (UQ (dW l))) (c_ (bB (aM rfl rfl (tP rfl (sL E))) (UQ (sL E))) rfl))
def aay:∀r:Rw,CV (gD g) [rD r]=mO .lst g r
 |.ask q l E=>ny (pJ rfl (nh (F:=Ay) (aiD q l E)))
 |.kF x=>ny (b_ rfl (b_ rfl (pJ rfl (nh (F:=xU) (ps:=[(.int x,.own)]) rfl))))
 |.fu L w=>ny (b_ rfl (pJ rfl (nh (F:=zK) JM)))
 |.stop=>ny (b_ rfl (b_ rfl (b_ rfl (pJ rfl (nh (F:=zI) (ps:=[]) rfl)))))
 |.go=>ny (b_ rfl (b_ rfl (b_ rfl (b_ rfl (nh (F:=zp) (ps:=[]) rfl)))))
def WI(h:tf Y=some true)(h2:sf Y=some (.rt d)):ck (eW tf sf gm) sg Y=some (.rt d):=ja (oO h h2)
def Kf(g:G):Rw->Prop
 |.ask q l E=>nM g.C.length q l E=true/\Lo l/\Oe E
 |.kF x=>x∈wl g++g.ld
 |.fu L w=>L∈g.lk/\w∈(["yes","no","unsure"]:List Str)
 |_=>True
def Sw:Rw->Prop
 |.ask q l E=>(-100<=q/\q<=100)/\Lo l/\E.length<=3/\∀p∈E,Lo [p.1,p.2.1,p.2.2]
 |.kF x=>-100<=x/\x<=100
 |.fu L w=>Lo L/\w∈(["yes","no","unsure"]:List Str)
 |_=>True
def nR:Rw->Nat
 |.ask ..=>1
 |_=>0
def Vt(v:D):Prop:=v=.aC\/(∃i:Int,(0<=i/\i<=100)/\v=.int i)\/∃n t h,v=.str (word n t h)
theorem Vt.aA(h:Vt v):aA v=true:=by rcases h with rfl|⟨i,_,rfl⟩|⟨_,_,_,rfl⟩<;>rfl
def O6(k:Iv m g)(hm:m<=4000)(hC:g.C.length<30):∀r:Rw,Kf g r->∃v g3,(∀w,Wf w->mO w g r=some (v,gD g3))/\Iv (m+1) g3/\g3.C.length=g.C.length+nR r/\Vt v/\nu g3=nu g
 |.ask q l E,#[h,h1,h3]=>by
  let#[g3,e,i,c]:=k.ask (by have:=h1.1;lia) h3 h hC;apply#[_,g3,λw hw=>e w w hw hw,i.up (aj3 m),c.1,.inr (.inl #[_,by lia,rfl]),c.2]
 |.kF x,h1=>by
  have v:=k.gd;have:(1<=x/\x<=(g.C.length:Int))/\x∉g.ln/\qz g x=false:=(abH.mp h1).elim (λm=>let#[a,b,_,c]:=r_.mp m;#[a,b,c]) λm=>#[v.row x (aaH _ m),λq=>(acU.mp v.nd).2.2 x q x m rfl,v.mJ x (aaH _ m)]
  let#[g3,e,i,ec]:=k.kF this.1 this.2.1 this.2.2;apply#[_,g3,λw _=>e,i,by rw[ec.1];rfl,.inl rfl,ec.2]
 |.fu L w,#[hL,hw]=>by
  let#[_,_,_,_,h]:=k.lk L hL;let#[g3,e,i,ec]:=k.fu hL hw h hm;apply#[_,g3,λ_ _=>e,i,by rw[ec.1];rfl,.inr (.inr #[_,_,_,rfl]),ec.2]
 |.stop,_=>by
  let#[g3,e,i,ec]:=k.stop;apply#[_,g3,λ_ _=>e,i,by rw[ec.1];rfl,.inl rfl,ec.2]
 |.go,_=>by
  let#[g3,e,i,ec]:=k.go;apply#[_,g3,λ_ _=>e,i.up (aj3 m),by rw[ec.1];rfl,.inl rfl,ec.2]
def uJ:∀r:Rw,aA (rD r)=true
 |.ask q l E=>by
  show(true&&(true&&(aK (l.map D.int)&&(aK (E.map dT)&&true))))=true;rw[dW,sL];rfl
 |.kF x=>rfl
 |.fu L w=>by
  show(true&&(aK (L.map D.int)&&(true&&true)))=true;rw[dW];rfl
 |.stop=>rfl
 |.go=>rfl
theorem wN:∀rs:List Rw,aK (rs.map rD)=true
 |[]=>rfl
 |r::rs=>by rw[aaG];unfold aK;rw[wN rs,uJ];rfl
def fE:Rw->Nat
 |.ask _ _ E=>E.length
 |_=>0
def f_tup(h:fE r<=3):aiX [rD r]=some (rD r):=by
 cases r with
 |ask q l E=>
  have c:i0 [none] (gu (e2 c9 (aj 0) (eC (.int 3)))) (gN 0) qp (e1 nY (aj 0)) [sS (rk .tup q l E)]=sW (.lst (E.map dT)):=by
   have:=j_ (js:=[none]) (g:=gN 0) (tt:=qp) (te:=e1 nY (aj 0)) (Y:=[sS (rk .tup q l E)]) (it:=gu (e2 c9 (aj 0) (eC (.int 3)))) (by unfold gu;rw[aM (d:=.tup (E.map dT)) rfl rfl (tP rfl (sL E))]) (by rw[List.length_map];apply size_le (by have:E.length<=3:=h;lia)) (λd m=>by
    let#[x,_,rfl]:=ab8.mp m;apply uw rfl rfl (bB rfl rfl) rfl)
   rw[this];simp only[List.filterMap_some]
  refine bY rfl (WI rfl (cI (wW (c_ (p:=(.str "ask",.own)) rfl (c_ (aM rfl rfl rfl) (c_ (bB (aM rfl rfl (tP (d:=.tup (l.map D.int)) rfl (dW l))) (show nY (.tup (l.map D.int))=some (.tup (l.map D.int)) from if_pos (dW l))) (c_ (bB c (show nY (.lst (E.map dT))=some (.tup (E.map dT)) from if_pos (sL E))) (show aB _=some [] from rfl))))))))
 |kF x=>rfl
 |fu L w=>apply bY rfl (b_ rfl (cI (bB rfl (if_pos (uJ (.fu L w))))))
 |stop=>rfl
 |go=>rfl
def aeL(h:f Y=some (r,t))(hi:aA r=true)(h0:Y[0]? = some (sW d)):lZ f [0] Y=some (.rt (.tup [r,d])):=by
 unfold lZ iR;rw[h,h0];apply if_pos hi
def K9(h0:Y[i]? = some (sW dd))(hg:A Y=some ps)(ha:apart i ps=true)(h:F dd (ps.map (·.1))=some (r,d1))(hi:aA r=true):qd i F A Y=some (r,bU Y i d1):=by
 unfold qd;rw[h0,hg];dsimp only;rw[if_pos ha,h];apply if_pos hi
def SX(h:f Y=sW d)(h0:Y[0]? = some (sW (.ins c es)))(hl:es.length<1000):uM 0 c fd f Y=some (.nx (bU Y 0 (.ins c (eK fd d es)))):=by
 unfold uM;rw[h,h0];apply if_pos #[rfl,hl,rfl]
def oW(g:G)(rs:List Rw):List (Str×D):=[("gate",gD g),("written",.lst (rs.map rD))]
def bf(g:G)(rs:List Rw):D:=.ins "Book" (oW g rs)
def zy(h:fo Y=some (bf g rs,t))(e:(oW g rs).lookup f=some d:=by rfl):bH "Book" f fo Y=some (d,kC t):=by
 unfold bH;rw[h];show(if("Book":Str)="Book" then((oW g rs).lookup f).map _ else none)=_;rw[if_pos rfl,e];rfl
def vX(h:fo Y=some (bf g rs,t))(hF:F [bf g rs]=some d)(hm:(oW g rs).lookup mm=none:=by rfl):bK "Book" mm F fo aB Y=sW d:=mh h hm rfl hF
def CZ(h:fo Y=some (bf g rs,t))(ha:fa Y=some (x,t2))(hF:F [bf g rs,x]=some d)(hm:(oW g rs).lookup mm=none:=by rfl):bK "Book" mm F fo (au fa aB) Y=sW d:=
 mh (ps:=[(x,t2)]) h hm (by rw[bq,ha,wZ,A1]) hF
def CS:K3 [bf g rs]=some (.int rs.length):=bY rfl (cI (bB (zy rfl) (by rw[qD,List.length_map])))
def RL:ZG [bf g rs]=some (.lst (rs.map rD)):=bY rfl (cI (bB (zy rfl) (by show(if aK (rs.map rD)=true then _ else none)=_;rw[if_pos (wN rs)])))
def Z4{rs:List Rw}(hk:k<=rs.length)(h:fa Y=some (.lst (rs.map rD),t))(h2:fh Y=some (.int (k:Int),t2)):qJ fa fh Y=sW (.lst ((rs.take k).map rD)):=by
 unfold qJ;rw[h,h2];show(if aK (rs.map rD)=true then some (D.lst (cutD (rs.map rD) none (some (k:Int))),Tag.own) else none)=_;rw[if_pos (wN _),KL (by rw[List.length_map];apply hk),<- List.map_take]
def afB(h:AK (.ins "Gate" []) [.int a,.int b,.int c,.int d]=some (.aC,gD g)):Ej (.ins "Book" []) [.int a,.int b,.int c,.int d]=some (.aC,bf g []):=by
 have m:nv "Gate" AK (au (aj 1) (au (aj 2) (au (aj 3) (au (aj 4) aB)))) [sW (.ins "Book" []),sS (.int a),sS (.int b),sS (.int c),sS (.int d)]=sW (gD g):=by
  show(match AK (.ins "Gate" []) [.int a,.int b,.int c,.int d] with|some (.aC,d)=>some (d,Tag.own)|_=>none)=_;rw[h]
 refine m_ rfl (sq (gQ (SX m rfl (by decide))) rfl) rfl
def UC(h:mO .tup g r=some (v,gD g1))(hi:aA v=true)(o:fE r<=3)(hl:rs.length<=1000):IE (bf g rs) [rD r]=some (v,bf g1 (rs++[r])):=by
 have e:=(M9 r).trans h;refine jZ rfl (sq (n8 (cP rfl (f_tup o))) (sq (Y':=[sW (bf g1 rs),sS (rD r),sW (rD r),sW v]) (gQ ?_) (sq (Y':=[sW (bf g1 (rs++[r])),sS (rD r),sW (rD r),sW v]) ((gQ (xW rfl rfl rfl (by rw[uJ,wN,aaP (by rw[List.length_map];apply size_le (by lia))];rfl))).trans ?_) (aeL rfl hi rfl))))
 .have:HP 0 "Book" "gate" A0 (au (aj 2) aB) [sW (bf g rs),sS (rD r),sW (rD r),none]=some (v,[sW (bf g1 rs),sS (rD r),sW (rD r),none]):=by
   show(if("Book":Str)="Book"/\apart 0 [(rD r,Tag.sh [2])]=true then(A0 (gD g) [rD r]).bind _ else none)=_;rw[if_pos #[rfl,rfl],e];show(if aA v=true then _ else none)=_;rw[if_pos hi];rfl
  show(match HP 0 "Book" "gate" A0 (au (aj 2) aB) [sW (bf g rs),sS (rD r),sW (rD r),none] with|some (d,Y')=>some (Out.nx (iE Y' 3 d .own))|none=>none)=_;rw[this];rfl
 .unfold bf oW;rw[adk];rfl
def VU{L:List Int}(h:L∉g.lk):Lf [bf g rs,rD (.fu L w)]=some (.er ("NoLook",none)):=by
 have b:=Wu (w:=w) h;have e2:=(agZ).trans b;have o:fE (.fu L w)<=3:=acP _;refine Rp (raw:=false) (Y:=[sS (bf g rs),sS (rD (.fu L w)),sW (rD (.fu L w)),none]) rfl (iO (cP rfl (f_tup o)) (UD ?_));have a:au (bH "Book" "gate" (aj 0)) (au (aj 2) aB) [sS (bf g rs),sS (rD (.fu L w)),sW (rD (.fu L w)),none]=some [(gD g,.sh []),(rD (.fu L w),.sh [2])]:=c_ (zy (t:=.sh []) rfl) rfl;unfold Az;show(match Bk G4 (au (bH "Book" "gate" (aj 0)) (au (aj 2) aB)) [sS (bf g rs),sS (rD (.fu L w)),sW (rD (.fu L w)),none] with|some (.ok d Y')=>_|some (.er cn Y')=>some (Out.er false cn Y')|none=>none)=_;unfold Bk;rw[a];show(match(match G4 [gD g,rD (.fu L w)] with|some (.ok d)=>some (ER.ok d _)|some (.er cn)=>some (.er cn _)|none=>none) with|some (.ok d Y')=>_|some (.er cn Y')=>some (Out.er false cn Y')|none=>none)=_;rw[e2]
def aia(h:([61]:List Int)∉g.lk):Tg (bf g rs) []=some (.bl true,bf g rs):=by
 have x:wm "Book" "do" Lf (aj 0) (au (gX (au (eC (.str "answer")) (au (gX (au (eC (.int 61)) aB)) (au (eC (.str "yes")) aB)))) aB) [sW (bf g rs),sW (.bl false),none]=some (.er ("NoLook",none) [sW (bf g rs),sW (.bl false),none]):=by
  show(if("Book":Str)="Book"/\(oW g rs).lookup ("do":Str)=none then(match Lf [bf g rs,rD (.fu [61] "yes")] with|some (.ok d)=>some (ER.ok d _)|some (.er en)=>some (.er en _)|none=>none) else none)=_;rw[if_pos #[rfl,rfl],VU h]
 refine jZ rfl (sq (Y':=[sW (bf g rs),sW (.bl false),none]) (n8 (t:=.own) rfl) (sq (Y':=[sW (bf g rs),sW (.bl true),none]) (gQ ?_) rfl));unfold F9 Gm;rw[x];rfl
inductive Rn:Nat->G->List Rw->G->Prop
 |nil:Rn m g [] g
 |cons {m:Nat}{g:G}{r:Rw}{rs:List Rw}{gz:G}{v:D}{g1:G} (e:∀w,Wf w->mO w g r=some (v,gD g1)) (hi:aA v=true) (i:Iv (m+1) g1) (c:g1.C.length<=m+1) (u:nu g1=nu g) (t:Rn (m+1) g1 rs gz):Rn m g (r::rs) gz
def Rn.snoc(h:Rn m g rs gz)(e:∀w,Wf w->mO w gz r=some (v,gD g3))(hi:aA v=true)(i:Iv (m+rs.length+1) g3)(c:g3.C.length<=m+rs.length+1)(u:nu g3=nu gz):Rn m g (rs++[r]) g3:=by
 induction h with
 |nil=>apply .cons e hi i c u .nil
 | @cons m g r' rs gz v' g1 e' Aw i' c' u' t ih=>apply .cons e' Aw i' c' u' (ih e (by rw[show m+1+rs.length+1=m+(r'::rs).length+1 by rw[acv];lia];apply i) (by rw[acv] at c;lia) u)
def Rn.fin(h:Rn m g rs gz)(k:Iv m g)(c:g.C.length<=m):Iv (m+rs.length) gz/\gz.C.length<=m+rs.length/\nu gz=nu g:=by
 induction h with
 |nil=>apply#[k,c,rfl]
 | @cons m g r' rs gz v' g1 e' Aw i' c' u' t ih=>
  let#[a,b,d]:=ih i' c';have e:m+(r'::rs).length=m+1+rs.length:=by rw[acv];lia
  apply#[by rw[e];apply a,by lia,d.trans u']
def again(h:Rn m g rs gz):∀{s4},∃v_,dU (gN 4) (.sh []) (sZ (qd 3 A0 (au (aj 4) aB))) (rs.map rD) [sS B,sS (.int M),sW N,sW (gD g),s4]=some (.nx [sS B,sS (.int M),sW N,sW (gD gz),v_]):=by
 induction h with
 |nil=>apply λ{s4}=>#[s4,rfl]
 | @cons m g r rs gz v g1 e hi i c u t ih=>
  intro s4;let#[v_,e2]:=ih;refine#[v_,(nq rfl ?_).trans e2];unfold sZ;rw[K9 rfl rfl rfl ((M9 r).trans (e _ KY)) hi];rfl
def pD(p:P4):D:=.tup [.int p.1,.int p.2.1,.int p.2.2.1,.int p.2.2.2]
def kH(p:P4):G:=g0 p.1 p.2.1 p.2.2.1 p.2.2.2
def sX(p:P4):Prop:=(1<=p.1/\p.1<=16)/\(1<=p.2.1/\p.2.1<=8)/\1<=p.2.2.1/\p.2.2.1<=p.2.2.2/\p.2.2.2<=20
def N9(ho:sX p)(ha:ga Y=some ps)(hp:ps.map (·.1)=[.int p.1,.int p.2.1,.int p.2.2.1,.int p.2.2.2]):nv "Gate" AK ga Y=sW (gD (kH p)):=by
 unfold nv;rw[ha,acG,hp,R4 ho.1 ho.2.1 ho.2.2];rfl
def Br{j:Nat}(ho:sX p)(hj:j<=rs.length)(hu:nu g=p)(h:Rn 0 (kH p) (rs.take j) gz):Ba [bf g rs,.int j]=some (gD gz):=by
 have c:lV (tV (cZ mT (au (aj 1) (au (eC (.int 0)) (au (bK "Book" "many" K3 (aj 0) aB) aB))))) [sS (bf g rs),sS (.int j),none,none,none]=some false:=
  kN (b:=true) (cj (cP (ps:=[(.int j,.sh []),(.int 0,.own),(.int rs.length,.own)]) (by rw[bq,bq,bq,vX rfl CS];rfl) (yY.trans (by rw[aaP (show(0:Int)<=(j:Int) by lia),aaP (show(j:Int)<=(rs.length:Int) by lia)];rfl))))
 let#[v_,e]:=again h;have st:bK "Gate" "settings" Tq (bH "Book" "gate" (aj 0)) aB [sS (bf g rs),sS (.int j),none,none,none]=sW (pD p):=(jg (zy rfl) afH).trans (by rw[<- hu];rfl);apply bY rfl (b_ c (iO st (iO (N9 ho rfl rfl) (sq (vO (j8 (Z4 hj (zy rfl) rfl)) e) rfl))))
def abF(h:rs≠[]):(rs.map rD).dropLast=rs.dropLast.map rD:=(List.map_dropLast ..).symm
def aiY(ho:sX p)(hu:nu g=p)(h:Rn 0 (kH p) rs gz):Mn (bf g (rs++[r])) []=some (.aC,bf gz rs):=by
 have ll:(rs++[r]).length=rs.length+1:=by rw[abV];rfl
 have q:bK "Book" "gate_of" Ba (aj 0) (au (e2 jY (bK "Book" "many" K3 (aj 0) aB) (eC (.int 1))) aB) [sW (bf g (rs++[r]))]=sW (gD gz):=
  CZ rfl (aM (vX rfl CS) rfl (by rw[ll];show some (D.int (((rs.length+1:Nat):Int)-1))=_;rw[show(((rs.length+1:Nat):Int)-1)=rs.length by lia])) (Br ho (by lia) hu (by rw[List.take_left' rfl];apply h))
 refine m_ (Y:=[sW (bf gz rs)]) rfl (sq (gQ (SX q rfl (by show 2<1000;decide))) (gQ ?_)) rfl;apply(if_pos (e:=none) (show(aK ((rs++[r]).map rD)&&!((rs++[r]).map rD).isEmpty)=true by rw[wN,adk];simp)).trans (by rw[abF (by simp),List.dropLast_concat];rfl)
def JY{P:D->List D->Prop}(hl:ds.length=n)(h:Wq (λr=>(∃a es,r=.rt (.tup (a::es))/\P a es)\/∃Y es,r=.nx Y/\iR J Y=some es/\P .aC es) (B (ow J 0 ds++List.replicate (N-ds.length) none))):∃a es,ng J n N B ds=some (a,es)/\P a es:=by
 let#[r,e,h]:=h;unfold ng;rw[if_pos hl,e];rcases h with⟨a,es,rfl,p⟩|⟨Y,es,rfl,ho,p⟩
 .exact#[a,es,rfl,p]
 .dsimp only;rw[ho];apply#[.aC,es,rfl,p]
def mz(h0:aj i Y=some w)(h:g Y=some (ps,Y'))(h2:aj i Y'=some q):lM i g Y=some (q::ps,Y'):=by
 unfold lM;rw[h0,acG,h,acG];rw[h2];rfl
def Dw(h0:aj i Y=some w)(h:g Y=some (ps,Y'))(h2:Y'[i]? = some (sW d)):xx i g Y=some ((d,.sh [i])::ps,Y'):=by
 unfold xx;rw[h0,acG,h,acG];rw[h2];rfl
def O7(hg:g Y=some (ps,Y'))(hF:F (ps.map (·.1))=some (r,es))(ha:pV js sl ps=true:=by rfl):zo js sl F g Y=some (r,mQ Y' js es):=by
 unfold zo;rw[hg,acG,if_pos ha,hF];rfl
def Nq(hg:g Y=some (ps,Y'))(hF:F (ps.map (·.1))=some (r,es))(ha:pV js sl ps=true:=by rfl):A8 js sl F g Y=some (.ok r (mQ Y' js es)):=by
 unfold A8;rw[O7 hg hF ha];rfl
def dI(ns:List Int):D:=.kZ (ns.map D.int)
def yx(ns:List Int)(k:Int):Int:=if 0<ns.length then ns.getD (k % ns.length).toNat 0 else 0
def iU(ns:List Int)(k p m:Int):Int:=((yx ns k+k*k)*48271+11) % p % m
def l9(hm:0<m:=by decide):0<=iU ns k p m/\iU ns k p m<m:=#[Int.emod_nonneg _ (by lia),Int.emod_lt_of_pos _ hm]
def vF(h:-(2 ^ 64)<j/\j<2 ^ 64):uY i j=true:=by unfold uY;rw[aaP h.1,aaP h.2];simp
def K_:fX (dI ns)=some (.int ns.length):=by unfold dI;show some (D.int (ns.map D.int).length)=_;rw[List.length_map]
def ahP(hk:0<=k/\k<=100000)(hp:0<p)(hm:0<m):tN [dI ns,.int k,.int p,.int m]=some (.int (iU ns k p m)):=by
 have e:∃d,tN [dI ns,.int k,.int p,.int m]=some d/\d=.int (iU ns k p m):=by
  refine vP rfl (gU rfl (gG [sS (dI ns),sS (.int k),sS (.int p),sS (.int m),sW (.int 0)] ?_));refine zx (I:=λY=>Y=[sS (dI ns),sS (.int k),sS (.int p),sS (.int m),sW (.int (yx ns k))]) ?_ λY e=>?_
  .refine tM (cj (aM (bB rfl K_) rfl rfl)) (λh=>?_) λh=>?_
   .have h:=abl h;have h0:=Int.emod_nonneg k (show(ns.length:Int)≠0 by lia);have h1:=Int.emod_lt_of_pos k h;have hx:e2 c9 (aj 0) (e2 oMod (aj 1) (e1 fX (aj 0))) [sS (dI ns),sS (.int k),sS (.int p),sS (.int m),sW (.int 0)]=sW (.int (yx ns k)):=aM rfl (aM rfl (bB rfl K_) (vp h)) (YU (by
     unfold yx;rw[if_pos (by lia)];apply Me h0 (by lia)) rfl)
    apply#[_,by rw[oj,hx];rfl,_,rfl,rfl]
   .have h:=of_decide_eq_false h;refine#[_,rfl,_,rfl,?_];unfold yx;rw[abM (by lia)]
  .subst e;apply#[_,cI (aM (aM (aM (aM (aM rfl (aM rfl rfl (vH (vF (by lia)))) kX) rfl (vH (vF (by lia)))) rfl kX) rfl (vp hp)) rfl (vp hm)),_,rfl,rfl]
 let#[_,e,rfl]:=e;apply e
def dr(h0:fs Y=some (dI ns,t0))(h1:fk Y=some (.int k,t1))(h2:fp Y=some (.int p,t2))(h3:fm Y=some (.int m,t3))(hk:0<=k/\k<=100000)(hp:0<p:=by decide)(hm:0<m:=by decide):cZ tN (au fs (au fk (au fp (au fm aB)))) Y=sW (.int (iU ns k p m)):=
 cP (ps:=[(dI ns,t0),(.int k,t1),(.int p,t2),(.int m,t3)]) (by rw[bq,bq,bq,bq,h0,h1,h2,h3];rfl) (ahP hk hp hm)
def D_(h:f Y=some (.int x,t)):e2 jz (eC (.int a)) f Y=sW (.int (a+x)):=aM rfl h kX
def Sa(w h n t:Int):D:=.tup [.int w,.int h,.int n,.int t]
def Vl{x m:Int}(h:0<=x/\x<m):1<=1+x/\1+x<=m:=by lia
def Wl{x y:Int}(h:0<=x/\x<2)(g:0<=y/\y<3):1<=1+x/\1+x<=1+x+y/\1+x+y<=4:=by lia
def aij(hm:1<=m):∃d,Ri [dI ns,.int m]=some d/\∃w h n t,d=Sa w h n t/\(1<=w/\w<=m)/\(1<=h/\h<=8)/\1<=n/\n<=t/\t<=4:=by
 have b1:=l9 (ns:=ns) (k:=51) (p:=10499) (m:=m) (by lia);have b2:=l9 (ns:=ns) (k:=52) (p:=10501) (m:=8);have b4:=l9 (ns:=ns) (k:=54) (p:=10529) (m:=2);have b5:=l9 (ns:=ns) (k:=55) (p:=10531) (m:=3);refine vP rfl (gU (D_ (dr rfl rfl rfl rfl (by lia) (by lia) (by lia))) (gU (D_ (dr rfl rfl rfl rfl (by lia))) ?_));generalize iU ns 51 10499 m=x1 at b1 ⊢;generalize iU ns 52 10501 8=x2 at b2 ⊢;refine gG [sS (dI ns),sS (.int m),sW (.int (1+x1)),sW (.int (1+x2)),none] ?_;refine zx (I:=λY=>∃h,Y=[sS (dI ns),sS (.int m),sW (.int (1+x1)),sW (.int h),none]/\1<=h/\h<=8) (tM (cj (aM (dr rfl rfl rfl rfl (by lia)) rfl rfl)) (λ_=>#[_,rfl,_,rfl,1,rfl,by lia]) λ_=>#[_,rfl,_,rfl,1+x2,rfl,Vl b2]) λY ⟨h,e,hh⟩=>?_
 subst e;refine gU (D_ (dr rfl rfl rfl rfl (by lia))) ?_;generalize iU ns 54 10529 2=x4 at b4 ⊢;refine gG [sS (dI ns),sS (.int m),sW (.int (1+x1)),sW (.int h),sW (.int (1+x4))] ?_;have q:=dr (Y:=[sS (dI ns),sS (.int m),sW (.int (1+x1)),sW (.int h),sW (.int (1+x4))]) (fs:=aj 0) (fk:=eC (.int 55)) (fp:=eC (.int 10531)) (fm:=eC (.int 3)) rfl rfl rfl rfl (by lia);generalize iU ns 55 10531 3=x5 at b5 q;refine#[.rt (Sa (1+x1) h (1+x4) (1+x4+x5)),?_,_,rfl,_,_,_,_,rfl,Vl b1,hh,Wl b4 b5];have q2:e2 jz (aj 4) (cZ tN (au (aj 0) (au (eC (.int 55)) (au (eC (.int 10531)) (au (eC (.int 3)) aB))))) [sS (dI ns),sS (.int m),sW (.int (1+x1)),sW (.int h),sW (.int (1+x4))]=sW (.int (1+x4+x5)):=aM rfl q kX;rw[wD,nS,bq,bq,bq,bq,q2];rfl
abbrev N3:=List (Int×Ed)
def nD(N:N3):D:=.cG (N.map λp=>((Sum.inl p.1:Key),dT p.2))
structure Eo(p:Ed):Prop where
 s:0<=p.1/\p.1<=4
 o:0<=p.2.1/\p.2.1<=4
 n:0<=p.2.2/\p.2.2<=4
 d:p.2.1≠p.2.2
structure Nk(j:Nat)(N:N3):Prop where
 nd:(N.map (·.1)).Nodup
 ok:∀q∈N,q.2.1=q.1/\Eo q.2
 ln:N.length<=j
def Nk.put(h:Nk j N)(e:Eo p):Nk (j+1) (gp N p.1 p):=#[Cb h.nd,λq m=>(Cn m).elim (h.ok q) λz=>by rw[z];apply#[rfl,e],ada HM (by have:=h.ln;lia)]
structure Sv(es:iX):Prop where
 kb:Kb S8 es
 bd:∀k,0<=gV es k/\gV es k<=4
structure Eg(E:List Ed):Prop where
 inc:(E.map (·.1)).Pairwise (· < ·)
 ok:∀p∈E,Eo p
 few:E.length<=3
def Eg.ee(g:Eg E):Ee S8 E:=#[#[g.inc.imp λh=>by lia,by have:=g.few;lia],g.inc.imp λh=>by lia,λp m=>gK.mpr (by have:=(g.ok p m).s;lia)]
def YD(N:N3):aK ((N.map λp=>((Sum.inl p.1:Key),dT p.2)).map (·.2))=true:=sV.mpr λd m=>by
 rw[adw] at m;let#[q,_,rfl]:=ab8.mp m;rfl
theorem QL:∀N:N3,jt (N.map λp=>((Sum.inl p.1:Key),dT p.2))=some (N.map (·.1))
 |[]=>rfl
 |q::r=>by
  rw[aaG];show(jt (r.map λp=>((Sum.inl p.1:Key),dT p.2))).map _=_;rw[QL r];rfl
def YB{N:N3}(m:s∈N.map (·.1)):∃p,gv N s=some p/\(s,p)∈N:=by
 unfold gv;let#[q,mq,e]:=ab8.mp m;cases h:N.find? λkv=>decide (kv.1=s) with
 |none=>apply absurd (aaP e) (aho.mp h q mq)
 |some z=>
  have h1:=abl (akc (p:=λkv:Int×Ed=>decide (kv.1=s)) h);apply#[z.2,rfl,h1 ▸ afz h]
def JV(hk:0<=k/\k<=100000)(hp:0<p:=by decide)(hm:0<m:=by decide):∃v,(0<=v/\v<m)/\iU ns k p m=v:=#[_,l9 hm,rfl]
def m7(ns:List Int)(k:Int)(es:iX)(N:N3)(s4 s5 s6 s7:Slot):aL:=[sS (dI ns),sS (.int k),sS (bS es),sW (nD N),s4,s5,s6,s7]
def V3{j:Nat}(hk:0<=k/\k<=100)(hj:j<4):(0<=k+7*(j:Int)/\k+7*(j:Int)<=100000)/\(0<=k+j/\k+j<=100000)/\0<=k+3*(j:Int)/\k+3*(j:Int)<=100000:=by lia
def acz(hk:0<=k/\k<=100)(sv:Sv es):∃d,U4 [dI ns,.int k,bS es]=some d/\∃E,d=eL E/\Eg E:=by
 let#[c,bc,ec]:=JV (k:=k) (p:=10559) (m:=4) (by lia);have hc:=dr (Y:=m7 ns k es [] none none none none) (fs:=aj 0) (fk:=aj 1) (fp:=eC (.int 10559)) (fm:=eC (.int 4)) rfl rfl rfl rfl (by lia);rw[ec] at hc;obtain⟨n,rfl⟩:∃n:Nat,c=n:=#[c.toNat,by lia]
 refine vP rfl (gU rfl (gG (m7 ns k es [] none none none none) ?_));refine Ka (λj Y=>∃N s4 s5 s6 s7,Y=m7 ns k es N s4 s5 s6 s7/\Nk j N) (Lp hc (by lia)) #[[],_,_,_,_,rfl,.nil,(λq m=>nomatch m),abD _] (λj Y hj #[N,s4,s5,s6,s7,e,nk]=>?_) λY ⟨N,s4,s5,s6,s7,e,nk⟩=>?_
 .subst e;rw[Int.zero_add];have hj:j<4:=by lia
  let#[k7,k1,k3]:=V3 hk hj;refine#[m7 ns k es N (sS (.int j)) s5 s6 s7,rfl,?_];let#[s,bs,e]:=JV (k:=k+7*j) (p:=10567) (m:=5) k7;refine gU (dr rfl (aM rfl (aM rfl rfl (vH (vF (by lia)))) kX) rfl rfl k7) ?_;rw[e];refine gU (by rw[KC];show(uP (bS es) (.int s) (.int 0)).map _=_;rw[Sz];rfl) (gG (m7 ns k es N (sS (.int j)) (sW (.int s)) (sW (.int (gV es s))) s7) ?_);have kj:∀s6 s7,e2 jz (aj 1) (aj 4) (m7 ns k es N (sS (.int j)) (sW (.int s)) s6 s7)=sW (.int (k+j)):=λ_ _=>aM rfl rfl kX
  refine zx (I:=λY=>∃o,Y=m7 ns k es N (sS (.int j)) (sW (.int s)) (sW (.int o)) s7/\0<=o/\o<=4) (tM (cj (aM (dr rfl (kj _ _) rfl rfl k1) rfl rfl)) (λ_=>?_) λ_=>#[_,rfl,_,rfl,_,rfl,sv.bd s]) λY ⟨o,e,ho⟩=>?_
  .have b:=l9 (ns:=ns) (k:=k+j) (p:=10597) (m:=3);apply#[_,by rw[oj,dr rfl (kj _ _) rfl rfl k1];rfl,_,rfl,_,rfl,b.1,Int.le_trans (Int.le_of_lt b.2) (by decide)]
  subst e;let#[v,bv,e]:=JV (k:=k+3*j) (p:=10601) (m:=4) k3;refine gU (dr rfl (aM rfl (aM rfl rfl (vH (vF (by lia)))) kX) rfl rfl k3) ?_;rw[e];refine gG (m7 ns k es N (sS (.int j)) (sW (.int s)) (sW (.int o)) (sW (.int v))) ?_;refine zx (I:=λY=>∃z,Y=m7 ns k es N (sS (.int j)) (sW (.int s)) (sW (.int o)) (sW (.int z))/\(0<=z/\z<=4)/\o≠z) (tM rfl (λh=>#[_,rfl,_,rfl,o+1,rfl,by have:=eq_of_beq h;lia,by lia]) λh=>#[_,rfl,_,rfl,v,rfl,#[bv.1,Int.le_of_lt bv.2],λq=>by rw[q] at h;simp at h]) λY ⟨z,e,hz,ne⟩=>?_
  subst e;have nk':=nk.put (p:=(s,o,z)) #[#[bs.1,Int.le_of_lt_add_one bs.2],ho,hz,ne];refine#[.nx (m7 ns k es (gp N s (s,o,z)) (sS (.int j)) (sW (.int s)) (sW (.int o)) (sW (.int z))),?_,_,rfl,_,_,_,_,_,rfl,nk'];show(if(aA (dT (s,o,z))&&aK ((N.map λp=>((Sum.inl p.1:Key),dT p.2)).map (·.2))&&decide ((N.map λp=>((Sum.inl p.1:Key),dT p.2)).length<sizeLine))=true then some (Out.nx (bU _ 3 (.cG (putD (N.map λp=>((Sum.inl p.1:Key),dT p.2)) (Sum.inl s:Key) (dT (s,o,z)))))) else none)=_;rw[if_pos (by rw[YD,List.length_map,aaP (size_le (by have:=nk.ln;lia))];rfl),K5 (φ:=(Sum.inl:Int->Key)) (ψ:=dT) λa b=>ake];rfl
 .subst e;have hn:=nk.ln;have hs:e1 l_ (aj 3) (m7 ns k es N s4 s5 s6 s7)=some (iL (dh (N.map (·.1))),.own):=bB rfl (by
   show(match jt (N.map λp=>((Sum.inl p.1:Key),dT p.2)) with|some ns=>if ns.length<64 then some (D.lst ((dh ns).map D.int)) else none|none=>none)=_;rw[QL];dsimp only;rw[if_pos (by rw[List.length_map];lia)];rfl)
  have hv:∀x∈dh (N.map (·.1)),∃p,gv N x=some p/\p.1=x/\Eo p:=λx mx=>by
   let#[p,h1,h2]:=YB (xP.mp mx);apply#[p,h1,nk.ok _ h2]
  have hc:=j_ (js:=[none,some 3]) (g:=gN 0) (tt:=qp) (te:=e2 m5 (aj 1) (aj 0)) (k:=λd=>match d with | .int x=>(gv N x).map dT | _=>none) (j8 hs) (by rw[List.length_map,uK,List.length_map];apply size_le (by lia)) (λd m=>by
   let#[x,mx,rfl]:=ab8.mp m;let#[p,h1,_]:=hv x mx;show _=some ((gv N x).map dT);rw[h1];apply sI rfl rfl (aM rfl rfl (by
    show(bu (N.map λp=>((Sum.inl p.1:Key),dT p.2)) (Sum.inl x:Key)).bind _=_;rw[DY (φ:=(Sum.inl:Int->Key)) (ψ:=dT) λa b=>ake,h1];rfl)))
  have he:((dh (N.map (·.1))).map D.int).filterMap (λd=>match d with|.int x=>(gv N x).map dT|_=>none)=((dh (N.map (·.1))).filterMap λx=>gv N x).map dT:=by
   rw[aeC,List.map_filterMap];rfl
  rw[he] at hc;refine#[_,cI hc,_,rfl,_,rfl,?_,λp m=>?_,?_]
  .have e1:((dh (N.map (·.1))).filterMap λx=>gv N x).map (·.1)=dh (N.map (·.1)):=by
    have:∀l:List Int,(∀x∈l,∃p,gv N x=some p/\p.1=x/\Eo p)->(l.filterMap λx=>gv N x).map (·.1)=l:=λl=>by
     induction l with
     |nil=>intro _;rfl
     |cons x r ih=>
      intro h;let#[p,h1,h2,_]:=h x aav;rw[adZ,h1];dsimp only;rw[aaG,h2,ih λy m=>h y (aar _ m)]
    apply this _ hv
   rw[e1];apply Xp nk.nd
  .let#[x,mx,e]:=ag4.mp m;let#[q,h1,_,h3]:=hv x mx;rw[h1] at e;ext e;apply h3
  .have:=List.length_filterMap_le (λx=>gv N x) (dh (N.map (·.1)));rw[uK,List.length_map] at this
   lia
def rS(ns:List Int)(k:Int)(es:iX)(m:Int)(s4 s5 s6 s7 s8:Slot):aL:=[sS (dI ns),sS (.int k),sW (bS es),sS (.int m),s4,s5,s6,s7,s8]
def qB(c:Ch):D:=.tup [.int c.1,iL c.2.1,eL c.2.2]
theorem Sv.dZ(s:Sv es)(g:Eg E):Sv (dZ es E):=by
 refine#[s.kb.dZ g.ee,λk=>?_];let#[g1,g2]:=yR E es k g.ee.nd
 by_cases mj:k∈E.map (·.1)
 .let#[p,mp,rfl]:=ab8.mp mj;unfold gV;rw[g1 p mp rfl];apply(g.ok p mp).n
 .unfold gV;rw[g2 mj];apply s.bd k
def Zz(h:Eo p):qK p=true:=by
 have h1:=h.s;have h2:=h.o;have h3:=h.n;unfold qK inR;rw[aaP h1.1,aaP (show p.1<=999 by lia),aaP h2.1,aaP (show p.2.1<=1000000000 by lia),aaP h3.1,aaP (show p.2.2<=1000000000 by lia),show(p.2.1==p.2.2)=false from by simpa using h.d];rfl
def aeK{m:Nat}(hk:0<=k/\k<=100)(sv:Sv es)(hm:m<=29):∃a e,QW [dI ns,.int k,bS es,.int m]=some (a,e)/\∃c,a=qB c/\e=[bS (dZ es c.2.2)]/\nM m c.1 c.2.1 c.2.2=true/\Eg c.2.2/\Lo c.2.1/\0<=c.1/\c.1<=9:=by
 refine JY rfl (vZ rfl (gG (rS ns k es m (sW (iL [])) none none none none) ?_));refine acJ (I:=λY=>∃l:List Int,Y=rS ns k es m (sW (iL l)) none none none none/\l.Pairwise (· < ·)/\(∀x∈l,1<=x/\x<=(m:Int))/\l.length<=30) (tM (cj (aM (dr rfl rfl rfl rfl (by lia)) rfl rfl)) (λ_=>?_) λ_=>#[_,rfl,_,rfl,[],rfl,.nil,(λx m=>nomatch m),by simp]) λY ⟨l,e,l1,l2,l3⟩=>?_
 .have hi:rO (eC (.int 1)) (e2 jz (aj 3) (eC (.int 1))) (rS ns k es m (sW (iL [])) none none none none)=some ((dH 1 m).map D.int,.own):=by
   rw[B3 rfl rfl (pZ (by lia) (by lia)) (pZ (by lia) (by lia)),show((m:Int)+1-1).toNat=m by lia]
  have hc:=zQ (js:=[none,some 0,some 1]) (tt:=tV (e2 oEq (cZ tN (au (aj 1) (au (e2 jz (aj 2) (e2 yw (eC (.int 5)) (aj 0))) (au (eC (.int 10613)) (au (eC (.int 4)) aB))))) (eC (.int 0)))) hi (by rw[lU];lia) (λx=>rfl) (λx mx=>by
   have:=gK.mp mx;apply cj (aM (dr rfl (aM rfl (aM rfl rfl (vH (vF (by lia)))) kX) rfl rfl (by lia)) rfl rfl))
  refine#[_,by rw[oj,hc];rfl,_,rfl,_,rfl,(UP 1 m).sublist aiQ,λx mx=>by have:=gK.mp (adF.mp mx).1;lia,?_];have:=aeY (λx=>iU ns (k+5*x) 10613 4==0) (dH 1 m);rw[lU] at this
  lia
 subst e;let#[_,fE,E,rfl,gE]:=acz hk sv;have b:=l9 (ns:=ns) (k:=k) (p:=10627) (m:=10);have hd:=dr (Y:=rS ns k es m (sW (iL l)) none none none none) (fs:=aj 0) (fk:=aj 1) (fp:=eC (.int 10627)) (fm:=eC (.int 10)) rfl rfl rfl rfl (by lia);generalize iU ns k 10627 10=r at b hd;have ht:DQ (cZ tN (au (aj 0) (au (aj 1) (au (eC (.int 10627)) (au (eC (.int 10)) aB))))) 4 (cZ U4 (au (aj 0) (au (aj 1) (au (aj 2) aB)))) (rS ns k es m (sW (iL l)) none none none none)=some (.ok (qB (r,l,E)) (rS ns k es m none none none none none)):=by
  unfold DQ;rw[hd,cP rfl fE];rfl
 refine wn (Li ht) (gG (rS ns k es m none (sW (qB (r,l,E))) none none none) ?_);have kl:=sv.kb.len;have el:=gE.few;let#[t6,t7,t8,lp]:=B8 (g:=gT (fB (gN 6) (fB (gN 7) (fB (gN 8) nZ)))) (f:=sM 2 (aj 6) (aj 8)) (λv x y z=>rS ns k v m none (some (qB (r,l,E),.lk)) x y z) (λ_ _ _ _ _=>rfl) (λv p h=>GI rfl rfl rfl h) (E:=E) (v:=es) (by lia);refine wn (yZ rfl lp) (gG (rS ns k (dZ es E) m none (sW (qB (r,l,E))) t6 t7 t8) ?_);refine#[_,rfl,.inl #[_,_,rfl,(r,l,E),rfl,rfl,?_,gE,#[l3,λx m=>by have:=l2 x m;lia],by show 0<=r/\r<=9;lia]];unfold nM wC inR;rw[aaP b.1,aaP (show r<=9 by lia),G_ l1,G_ gE.inc,ado.mpr (λp mp=>Zz (gE.ok p mp)),aaP (show(E.length:Int)<=20 by lia),ado.mpr (λx mx=>by rw[aaP (l2 x mx).1,aaP (l2 x mx).2];rfl)];rfl
def WX(ht:0<=t/\t<=100000):∃d,adl [dI ns,tD l,.int t]=some d/\∃w:Str,d=.str w/\w∈(["yes","no","unsure"]:List Str):=by
 refine vP rfl (gU rfl ?_);let#[Y',lp,x,tg,s4,e,hx]:=Q5 (g:=gN 4) (t:=.sh []) (ds:=l.map D.int) (sf:=eO 3 (e2 oMod (e2 jz (e2 yw (aj 3) (eC (.int 67))) (aj 4)) (eC (.int 1000003)))) (λ_ Y=>∃x tg s4,Y=[sS (dI ns),sS (tD l),sS (.int t),some (.int x,tg),s4,none]/\0<=x) #[t,_,_,rfl,ht.1] (λj Y d hd #[x,tg,s4,e,hx]=>by
  subst e;rw[acy] at hd;let#[y,hy,rfl]:=abX.mp hd;have hm:e2 oMod (e2 jz (e2 yw (aj 3) (eC (.int 67))) (aj 4)) (eC (.int 1000003)) [sS (dI ns),sS (tD l),sS (.int t),some (.int x,tg),sS (.int y),none]=some (.int ((x*67+y) % 1000003),.own):=aM (aM (aM rfl rfl (vH (vF (by lia)))) rfl kX) rfl (vp (by decide));apply#[[sS (dI ns),sS (tD l),sS (.int t),some (.int x,tg),sS (.int y),none],rfl,.nx [sS (dI ns),sS (tD l),sS (.int t),some (.int ((x*67+y) % 1000003),.own),sS (.int y),none],by rw[oj,hm];rfl,_,rfl,_,_,_,rfl,Int.emod_nonneg _ (by lia)])
 subst e;refine mZ (D9 (age rfl) lp) ?_;have h0:=Int.emod_nonneg x (show(4001:Int)≠0 by lia);have h1:=Int.emod_lt_of_pos x (show(0:Int)<4001 by lia);refine gU (dr rfl (aM rfl rfl (vp (by decide))) rfl rfl (by lia)) ?_;generalize iU ns (x % 4001) 100057 12=v;refine gG [sS (dI ns),sS (tD l),sS (.int t),some (.int x,tg),s4,sW (.int v)] ?_;have q:=D_ (a:=5) (dr (Y:=[sS (dI ns),sS (tD l),sS (.int t),some (.int x,tg),s4,sW (.int v)]) (fs:=aj 0) (fk:=eC (.int 56)) (fp:=eC (.int 10631)) (fm:=eC (.int 6)) rfl rfl rfl rfl (by lia));have q1:=cj (aM (f:=aj 5) rfl q vV);have q2:tV (e2 oEq (aj 5) (eC (.int 11))) [sS (dI ns),sS (tD l),sS (.int t),some (.int x,tg),s4,sW (.int v)]=some (v==11):=rfl;have fin:∀w:Str,w∈(["yes","no","unsure"]:List Str)->∃d,Out.rt (D.str w)=.rt d/\∃w:Str,d=.str w/\w∈(["yes","no","unsure"]:List Str):=λw m=>#[_,rfl,w,rfl,m]
 cases b1:decide (v<5+iU ns 56 10631 6) with
 |true=>rw[b1] at q1;apply#[_,ja (oO q1 rfl),fin "yes" (by decide +kernel)]
 |false=>
  rw[b1] at q1;cases b2:v==11 with
  |true=>rw[b2] at q2;apply#[_,b_ q1 (ja (oO q2 rfl)),fin "unsure" (by decide +kernel)]
  |false=>rw[b2] at q2;apply#[_,b_ q1 (b_ q2 rfl),fin "no" (by decide +kernel)]
def Rf(h:l≠[]):se (tD l)=some (kL l):=by
 unfold se tD;dsimp only;rw[yd];dsimp only;rw[if_pos #[by unfold kL;rw[aj6];apply ado.mpr λ_ _=>rfl,λz=>h (List.map_eq_nil_iff.mp z)]]
def ZM{L:List (List Int)}{v:Int}(h:0<=v/\v<L.length):∃l∈L,c9 (.lst (cK L)) (.int v)=some (tD l):=by
 have cM:v.toNat<L.length:=by lia
 refine#[L[v.toNat],List.getElem_mem cM,qT ?_ (dW _)];unfold dM kh cK;rw[List.length_map,if_pos (by lia),if_pos (by lia),acG,acy,aa1 cM];rfl
def WU(h:0<=i/\i<l.length):∃x∈l,c9 (iL l) (.int i)=some (.int x):=by
 have cM:i.toNat<l.length:=by lia
 refine#[l[i.toNat],List.getElem_mem cM,qT ?_ rfl];unfold dM kh;rw[List.length_map,if_pos (by lia),if_pos (by lia),acG,acy,aa1 cM];rfl
def So:fX (iL l)=some (.int l.length):=by unfold iL;rw[qD,List.length_map]
def rY(ns:List Int)(q:Int)(b:Bool)(L:List (List Int))(O:List Int)(v:Int):aL:=[sS (dI ns),sS (.int q),sS (.bl b),sS (.lst (cK L)),sS (iL O),sW (.int v)]
def ajE{L:List (List Int)}(hq:0<=q/\q<=100000):∃d,ahl [dI ns,.int q,.bl b,.lst (cK L),iL O]=some d/\∃s:Str,d=.str s/\(s="answer"->L≠[])/\(s="withdraw"->O≠[])/\(s="go"\/s="ask"\/s="answer"\/s="withdraw"\/s="stop"):=by
 refine vP rfl (gU (dr rfl rfl rfl rfl hq (by lia) (by lia)) ?_);generalize iU ns q 100069 10=v;refine gG (rY ns q b L O v) ?_;have no:∀{x y:Str}{p:Prop} (_:(x==y)=false:=by decide +kernel),x=y->p:=λ{x y p} h e=>by rw[e,agf] at h;ext h
 have fin:∀s:Str,(s="answer"->L≠[])->(s="withdraw"->O≠[])->(s="go"\/s="ask"\/s="answer"\/s="withdraw"\/s="stop")->Wq (λr=>∃x,r=.rt x/\∃d,r=.rt d/\∃s:Str,d=.str s/\(s="answer"->L≠[])/\(s="withdraw"->O≠[])/\(s="go"\/s="ask"\/s="answer"\/s="withdraw"\/s="stop")) (l7 (eC (.str s)) (rY ns q b L O v)):=λs h1 h2 h3=>#[_,rfl,_,rfl,_,rfl,s,rfl,h1,h2,h3]
 refine sU (b:=b&&decide (2<v)) (xq rfl (cj (aM rfl rfl abO))) (λ_=>sG (fin "go" no no (.inl rfl))) λ_=>sU (vG (xq (cj (aM rfl rfl vV)) (cj (aM rfl rfl vV))) (vG (xq (cj (aM rfl rfl vV)) (cj (aM (bB rfl KN) rfl rfl))) (xq rfl (cj (aM (bB rfl So) rfl rfl))))) (λ_=>sG (fin "ask" no no (.inr (.inl rfl)))) λc2=>?_
 let#[c3,c4]:=Bool.or_eq_false_iff.mp (Bool.or_eq_false_iff.mp c2).2;refine sU (b:=decide (v<8)) (cj (aM rfl rfl vV)) (λc=>sG (fin "answer" (λ_ e=>?_) no (.inr (.inr (.inl rfl))))) λ_=>sU (b:=v==8) rfl (λc=>sG (fin "withdraw" no (λ_ e=>?_) (.inr (.inr (.inr (.inl rfl)))))) λ_=>?_
 .rw[c,e] at c3;ext c3
 .rw[c,e] at c4;ext c4
 .let#[r,e,_,_,h]:=fin "stop" no no (.inr (.inr (.inr (.inr rfl))));apply#[r,e,h]
abbrev Rc:=List (List Int×Int)
def lA(R:Rc):List (List Key×D):=R.map λp=>(kL p.1,D.int p.2)
def uB(R:Rc):D:=.dN (lA R)
structure Rk(j:Nat)(R:Rc):Prop where
 ln:R.length<=j
 bd:∀p∈R,0<=p.2/\p.2<=(j:Int)
def Rk.at_(h:Rk j R)(l:List Int):0<=(gv R l).getD 0/\(gv R l).getD 0<=(j:Int):=by
 cases e:gv R l with
 |none=>apply#[ajn _,Int.natCast_nonneg j]
 |some v=>apply h.bd _ (Sg e)
def Rk.put(h:Rk j R)(hx:0<=x/\x<=(j:Int)+1):Rk (j+1) (gp R l x):=#[ada HM (Nat.succ_le_succ h.ln),λp m=>(Cn m).elim (λm=>by have:=h.bd p m;lia) λe=>by rw[e];show 0<=x/\x<=_;lia]
def Rk.up(h:Rk j R):Rk (j+1) R:=#[agr h.ln,λp m=>by have:=h.bd p m;lia]
def agi(hl:l≠[]):yV (uB R) (tD l) (.int 0)=some (.int ((gv R l).getD 0)):=by
 have v:bu (lA R) (kL l)=(gv R l).map D.int:=DY (φ:=kL) (ψ:=D.int) (λ_ _=>xG) R;unfold yV;rw[Rf hl];show(if aA ((bu (lA R) (kL l)).getD (.int 0))=true then some ((bu (lA R) (kL l)).getD (.int 0)) else none)=_;rw[v];cases gv R l<;>rfl
def acA(R:Rc):aK ((lA R).map λq:List Key×D=>q.2)=true:=sV.mpr λd m=>by
 unfold lA at m;rw[adw] at m;let#[p,_,rfl]:=ab8.mp m;rfl
def zA(h:f Y=some (r,t))(hi:aA r=true)(h0:iR J Y=some es):lZ f J Y=some (.rt (.tup (r::es))):=by
 unfold lZ;rw[h,h0];apply if_pos hi
def lG(ns:List Int)(k:Int)(w:Str)(g:G)(R:Rc)(es:iX)(s7 s8 s9 fL fC:Slot):aL:=[sS (dI ns),sS (.int k),sS (.str w),sS (gD g),sW (uB R),sW (bS es),sS (.int g.C.length),s7,s8,s9,fL,fC]
def Dr(j:Nat)(w:Str)(g:G)(a:D)(e:List D):Prop:=∃r R' gA,a=rD r/\e=[uB R',bS gA]/\Kf g r/\Sw r/\fE r<=3/\nR r=(if(w == "ask")=true then 1 else 0)/\Sv gA/\Rk (j+1) R'
def aaj(g:Eg E):Oe E:=#[g.few,λp m=>by
 have:=g.ok p m;have h1:=this.s;have h2:=this.n;apply#[gK.mpr (by lia),by lia]]
def Iv.lo(i:Iv m g){L:List Int}(h:L∈g.lk):Lo L/\L≠[]:=by
 let#[p,p1,p2,e,_]:=i.lk L h;refine#[by rw[e];apply i.gd.lo i.th.1 xB,λq=>?_];have:=HZ p2;rw[<- e,q] at this;simp at this
 lia
def ahe{w:Str}(hk:0<=k/\k<=100)(i:Iv m g)(sv:Sv es)(rk:Rk j R)(hj:j<=1000)(hC:g.C.length<=29)(wa:w="answer"->g.lk≠[])(ww:w="withdraw"->wl g++g.ld≠[])(wc:w="go"\/w="ask"\/w="answer"\/w="withdraw"\/w="stop"):
  ∃a e,Zw [dI ns,.int k,.str w,gD g,uB R,bS es,.int g.C.length]=some (a,e)/\Dr j w g a e:=by
 refine JY rfl (gG (lG ns k w g R es none none none none none) ?_);have t (v:Str):tV (e2 oEq (aj 2) (eC (.str v))) (lG ns k w g R es none none none none none)=some (w==v):=rfl;refine sU (t "ask") (λha=>sG ?_) λha=>sU (t "answer") (λh1=>sG ?_) λh1=>sU (t "withdraw") (λh2=>sG ?_) λh2=>?_
 .let#[a,e,fsp,ch,rfl,rfl,hm,eg,lo,c1,c2]:=aeK hk sv hC;have st:A8 [5] [none,none,some 5,none] QW (lM 0 (lM 1 (xx 5 (lM 6 Qt)))) (lG ns k w g R es none none none none none)=some (.ok (qB ch) (lG ns k w g R (dZ es ch.2.2) none none none none none)):=
   Nq (Y':=lG ns k w g R es none none none none none) (ps:=[(dI ns,.sh []),(.int k,.sh []),(bS es,.sh [5]),(.int g.C.length,.sh [])]) (mz rfl (mz rfl (Dw rfl (mz rfl rfl rfl) rfl) rfl) rfl) fsp
  refine wn (Li st) (gG (lG ns k w g R (dZ es ch.2.2) (sW (qB ch)) none none none none) ?_);have hx:∀{j:Int} {d},dM [.int ch.1,iL ch.2.1,eL ch.2.2] j=some d->Je (aj 7) (eC (.int j)) (lG ns k w g R (dZ es ch.2.2) (sW (qB ch)) none none none none)=some (d,.sh [7]):=λ{j d} h=>by
   show(dM [.int ch.1,iL ch.2.1,eL ch.2.2] j).map _=_;rw[h];rfl
  apply#[_,zA (wW (c_ rfl (c_ (hx rfl) (c_ (bB (hx rfl) Lz) (c_ (bB (hx rfl) (show nY (eL ch.2.2)=some (.tup (ch.2.2.map dT)) from if_pos (sL _))) (show aB _=some [] from rfl)))))) (uJ (.ask ch.1 ch.2.1 ch.2.2)) rfl,_,rfl,.inl #[_,_,rfl,.ask ch.1 ch.2.1 ch.2.2,R,dZ es ch.2.2,rfl,rfl,#[hm,lo,aaj eg],#[by lia,lo,eg.few,λp mp=>#[Nat.le_of_ble_eq_true rfl,λy my=>by
   have:=eg.ok p mp;have e1:=this.s;have e2:=this.o;have e3:=this.n;simp only[aaO,acK,aeE] at my;rcases my with rfl|rfl|rfl<;>lia]],eg.few,by rw[ha];rfl,sv.dZ eg,rk.up]]
 .have hs:=eq_of_beq h1;subst hs;have ll:=aj4.mpr (wa rfl);have b:=l9 (ns:=ns) (k:=k) (p:=100103) (m:=(g.lk.length:Int)) (by lia);let#[l,ml,hx]:=ZM b;let#[lo,nl]:=i.lo ml;have bR:=rk.at_ l;refine vZ (jg rfl LX) (gG (lG ns k "answer" g R es none (sW (.lst (cK g.lk))) none none none) ?_);refine vZ (aM rfl (dr rfl rfl rfl (bB rfl KN) (by lia) (by lia) (by lia)) hx) (gG (lG ns k "answer" g R es none (sW (.lst (cK g.lk))) (sW (tD l)) none none) ?_);refine vZ (by rw[KC];show(yV (uB R) (tD l) (.int 0)).map _=_;rw[agi nl];rfl) (gG (lG ns k "answer" g R es none (sW (.lst (cK g.lk))) (sW (tD l)) (sW (.int ((gv R l).getD 0))) none) ?_);refine wn (Y':=lG ns k "answer" g (gp R l ((gv R l).getD 0+1)) es none (sW (.lst (cK g.lk))) (sW (tD l)) (sW (.int ((gv R l).getD 0))) none) ?_ ?_
  .show(match se (tD l) with|some (k:List Key)=>if(aA (.int ((gv R l).getD 0+1))&&aK ((lA R).map λq:List Key×D=>q.2)&&decide ((lA R).length<sizeLine))=true then some (Out.nx (bU _ 4 (.dN (putD (lA R) k (.int ((gv R l).getD 0+1)))))) else none|none=>none)=_;rw[Rf nl];dsimp only;rw[if_pos (by rw[acA,aaP (size_le (by unfold lA;rw[List.length_map];have:=rk.ln;lia))];rfl),show putD (lA R) (kL l) (.int ((gv R l).getD 0+1))=lA (gp R l ((gv R l).getD 0+1)) from K5 (φ:=kL) (ψ:=D.int) λ_ _=>xG];rfl
  let#[_,fw,u,rfl,mw]:=WX (t:=(gv R l).getD 0) (by lia);apply#[_,zA (wW (c_ rfl (c_ rfl (c_ (cP rfl fw) (show aB _=some [] from rfl))))) (uJ (.fu l u)) rfl,_,rfl,.inl #[_,_,rfl,.fu l u,_,es,rfl,rfl,#[ml,mw],#[lo,mw],acP _,by rw[ha];rfl,sv,rk.put (by lia)]]
 .have hs:=eq_of_beq h2;subst hs;have h:(0:Int)<(wl g++g.ld).length:=by
   have:=aj4.mpr (ww rfl)
   lia
  have lw:=zU (g:=g);have ll:=i.gd.len;let#[x,mx,hx]:=WU (l9 h);have bx:=(abH.mp mx).elim (nO x) λm=>i.gd.row x (aaH _ m)
  refine vZ (aM (jg rfl (vR (by lia))) (jg rfl Fj) (v8 (by rw[afK];lia))) (gG (lG ns k "withdraw" g R es none none none none (sW (iL (wl g++g.ld)))) ?_);apply#[_,zA (wW (c_ rfl (c_ (aM rfl (dr rfl rfl rfl (bB rfl So) (by lia) (by lia) h) hx) (show aB _=some [] from rfl)))) rfl rfl,_,rfl,.inl #[_,_,rfl,.kF x,R,es,rfl,rfl,mx,(by show -100<=x/\x<=100;lia),acP _,by rw[ha];rfl,sv,rk.up]]
 .have hs:w="stop"\/w="go":=by
   rcases wc with h|h|h|h|h
   .exact .inr h
   .rw[h] at ha;apply absurd ha (by decide +kernel)
   .rw[h] at h1;apply absurd h1 (by decide +kernel)
   .rw[h] at h2;apply absurd h2 (by decide +kernel)
   .exact .inl h
  refine#[_,zA (wW (c_ rfl (show aB _=some [] from rfl))) rfl rfl,.inl #[_,_,rfl,?_]];rcases hs with rfl|rfl
  .exact#[.stop,R,es,rfl,rfl,trivial,trivial,acP _,by rw[ha];rfl,sv,rk.up]
  .exact#[.go,R,es,rfl,rfl,trivial,trivial,acP _,by rw[ha];rfl,sv,rk.up]
def YF{x:Str}(h:x="yes"\/x="no"\/x="unsure"\/x="more"):∃s,pK (.str x)=some (.str s):=by
 rcases h with rfl|rfl|rfl|rfl<;>apply#[_,congrArg (Option.map D.str) (if_pos (by decide +kernel))]
def YR(n t:Int)(h:List Str):word n t h="yes"\/word n t h="no"\/word n t h="unsure"\/word n t h="more":=by
 unfold word
 split
 .exact .inl rfl
 .split
  .exact .inr (.inl rfl)
  .split
   .exact .inr (.inr (.inl rfl))
   .exact .inr (.inr (.inr rfl))
def RK{i:Int}(h:0<=i/\i<=100):∃s,pK (.int i)=some (.str s):=#[_,congrArg (Option.map D.str) (if_pos (log2_small (by lia)))]
def Vt.rep(h:Vt v):∃s,pK v=some (.str s):=by
 rcases h with rfl|⟨i,hi,rfl⟩|⟨n,t,h,rfl⟩
 .exact#[_,rfl]
 .exact RK hi
 .exact YF (YR n t h)
def ne_self{s:Str}:kY (.str s) (.str s)=some (.bl false):=by
 show some (D.bl (!(s==s)))=_;rw[agf];rfl
def Hz{F:MF}{A:AF}{ps:List (D×Tag)}(h0:Y[i]? = some (sW (bf g rs)))(hg:A Y=some ps)(ha:apart i ps=true)(h:F (bf g rs) (ps.map (·.1))=some (v,d1))(hm:(oW g rs).lookup mm=none:=by rfl):xO i "Book" mm F A Y=some (v,bU Y i d1):=by
 unfold xO;rw[h0,hg];show(if("Book":Str)="Book"/\(oW g rs).lookup mm=none/\apart i ps=true then(F (bf g rs) (ps.map (·.1))).map _ else none)=_;rw[if_pos #[rfl,hm,ha],h];rfl
section
variable{f fx:XF}{fb:EF}
def LG(h:f Y=some (d,Y')):sZ f Y=some (.nx Y'):=by unfold sZ;rw[h];rfl
def afe{f:EF}(h:f Y=some w):BR f Y=some (.nx Y):=by unfold BR;rw[h];rfl
def Cv{c:aL->Option (Bool×aL)}{f g:SF}(h:c Y=some (false,Y'))(h2:g Y'=o):w6 c f g Y=o:=by unfold w6;rw[h];apply h2
def ad0(h:fx Y=some (d,Y'))(h2:oo d=some d2)(hi:aA d2=true):Aq oo fx Y=some (d2,Y'):=by unfold Aq;rw[h];dsimp only;rw[h2];apply if_pos hi
def abv(h:fx Y=some (d1,Y'))(h2:fb Y'=some (d2,t))(h3:kY d1 d2=some (.bl b)):Bs fx fb Y=some (b,Y'):=by unfold Bs;rw[h];dsimp only;rw[h2];dsimp only;rw[h3]
def adM(h:fx Y=some (d1,Y'))(h2:fb Y'=some (d2,t))(h3:oEq d1 d2=some d):BW fx fb Y=some (d,Y'):=by unfold BW;rw[h];dsimp only;rw[h2];show(oEq d1 d2).map _=_;rw[h3];rfl
def aa3(h:fx Y=some (.aC,Y')):Ib fx (eC .aC) Y=some (false,Y'):=by unfold Ib;rw[h];rfl
def Vv(h:fx Y=some (.bl b,Y')):yO fx Y=some (!b,Y'):=by unfold yO;rw[h]
def ahn{J:List Nat}(h:f Y=some (r,Y'))(h2:iR J Y'=some es):rG f J Y=some (.rt (.tup (r::es))):=by unfold rG;rw[h];show(iR J Y').map _=_;rw[h2];rfl
end
def Tw(r:Rw):nR r<=1:=by ext r<;>first|exact abD _|exact acP _
def Af:List Rw:=[.ask 9 [] [(7,0,5)],.stop,.go]
def abn{g:G}{r:Rw}(m:r∈Af):Kf g r/\fE r<=3:=by
 simp only[Af,aaO,acK,aeE] at m;rcases m with rfl|rfl|rfl
 .refine#[#[rfl,#[acP _,λx m=>nomatch m],by decide,λp m=>?_],by decide];rw[aa6.mp m];apply#[gK.mpr (by decide),by decide,by decide]
 .exact#[trivial,acP _]
 .exact#[trivial,acP _]
def rK(ns:List Int)(k:Int)(b:D)(r:Rw)(v:D)(s5:Slot):aL:=[sS (dI ns),sS (.int k),sW b,sS (rD r),sS v,s5]
def aa7(ho:sX p)(hk:0<=k/\k<=100)(rn:Rn 0 (kH p) rs g)(i:Iv m g)(hm:m<=100)(hC:g.C.length<=rs.length)(hl:rs.length<30)(hu:nu g=p)(m0:rs.length=m)
  (e:∀w,Wf w->mO w g r=some (v,gD g3)) (vt:Vt v) (o:fE r<=3) (hL:([61]:List Int)∉g.lk) (u3:nu g3=nu g):HS [dI ns,.int k,bf g rs,rD r,v]=some (.bl true,[bf g3 (rs++[r])]):=by
 let#[vs,er]:=vt.rep;have key:∃a es,HS [dI ns,.int k,bf g rs,rD r,v]=some (a,es)/\(a=.bl true/\es=[bf g3 (rs++[r])]):=by
  refine JY rfl (vZ (dr rfl rfl rfl rfl (by lia)) ?_);generalize iU ns k 100151 9=tn;refine gG (rK ns k (bf g rs) r v (sW (.int tn))) ?_;have fin:∀{Y:aL} {es},iR [2] Y=some es->es=[bf g3 (rs++[r])]->Wq (λx=>(∃a es,x=.rt (.tup (a::es))/\(a=.bl true/\es=[bf g3 (rs++[r])]))\/∃Y es,x=.nx Y/\iR [2] Y=some es/\(D.aC=.bl true/\es=[bf g3 (rs++[r])])) (lZ (eC (.bl true)) [2] Y):=λh e=>#[_,zA rfl rfl h,.inl #[_,_,rfl,rfl,e]]
  refine mZ (Y':=rK ns k (bf g rs) r v (sW (.int tn))) ?_ ?_
  .have z:uQ (tV (e2 oEq (aj 5) (eC (.int 0)))) (yO (qd 2 Tg aB)) (rK ns k (bf g rs) r v (sW (.int tn)))=some (false,rK ns k (bf g rs) r v (sW (.int tn))):=by
    have t:tV (e2 oEq (aj 5) (eC (.int 0))) (rK ns k (bf g rs) r v (sW (.int tn)))=some (tn==0):=rfl;unfold uQ;rw[t];cases tn==0 with
    |false=>rfl
    |true=>
     apply Vv (K9 (ps:=[]) rfl rfl rfl (aia hL) rfl)
   apply Cv z rfl
  have tk:∀{gx:G}{x:Rw}{s5:Slot},nu gx=p->Ah 2 s5=s5->xO 2 "Book" "take_back" Mn aB (rK ns k (bf gx (rs++[x])) r v s5)=some (.aC,rK ns k (bf g rs) r v s5):=λ{gx x s5} hx h5=>by
   refine(Hz rfl rfl rfl (aiY ho hx rn)).trans ?_;show some (D.aC,[sS (dI ns),sS (.int k),sW (bf g rs),sS (rD r),sS v,Ah 2 s5])=_;rw[h5];rfl
  refine zx (tM (vG rfl rfl) (λ_=>?_) λ_=>#[_,rfl,_,rfl,rfl]) λY e1=>?_
  .have b:=l9 (ns:=ns) (k:=k) (p:=100189) (m:=3);have hd:=dr (Y:=rK ns k (bf g rs) r v (sW (.int tn))) (fs:=aj 0) (fk:=aj 1) (fp:=eC (.int 100189)) (fm:=eC (.int 3)) rfl rfl rfl rfl (by lia);generalize iU ns k 100189 3=y at b hd;obtain⟨x,mx,ex⟩:∃x,x∈Af/\dM (Af.map rD) y=some (rD x):=by
    obtain rfl|rfl|rfl:y=0\/y=1\/y=2:=by lia
    .exact#[.ask 9 [] [(7,0,5)],.head _,rfl]
    .exact#[.stop,.tail _ (.head _),rfl]
    .exact#[.go,.tail _ (.tail _ (.head _)),rfl]
   let#[ok,fx]:=abn mx;let#[vx,gx,ee,ix,cx,tx,ux]:=O6 i (by lia) (by lia) x ok;have hix:e2 c9 (iC (au (gX (au (eC (.str "ask")) (au (eC (.int 9)) (au (gX aB) (au (gX (au (gX (au (eC (.int 7)) (au (eC (.int 0)) (au (eC (.int 5)) aB)))) aB)) aB))))) (au (gX (au (eC (.str "stop")) aB)) (au (gX (au (eC (.str "go")) aB)) aB)))) (cZ tN (au (aj 0) (au (aj 1) (au (eC (.int 100189)) (au (eC (.int 3)) aB))))) (rK ns k (bf g rs) r v (sW (.int tn)))=sW (rD x):=aM (d1:=.lst (Af.map rD)) rfl hd (qT ex (uJ x));refine wn (Y':=rK ns k (bf gx (rs++[x])) r v (sW (.int tn))) ?_ ?_
   .exact LG (Hz rfl (c_ hix (show aB _=some [] from rfl)) rfl (UC (ee _ KY) tx.aA fx (by lia)))
   have lx:(rs++[x]).length=rs.length+1:=by rw[abV];rfl
   refine wn (Y':=rK ns k (bf gx (rs++[x])) r v (sW (.int tn))) ?_ ?_
   .exact afe (CZ (g:=gx) (rs:=rs++[x]) (x:=.int (rs++[x]).length) (t:=.sh [2]) rfl (vX (t:=.sh [2]) rfl CS) (Br ho (abD _) (ux.trans hu) (by rw[aiR];apply rn.snoc (ee) tx.aA (by rw[m0,ain];apply ix) (by rw[cx];have:=Tw x;lia) ux)))
   .refine#[_,?_,_,rfl,rfl];apply Cv (aa3 (tk (ux.trans hu) rfl)) rfl
  subst e1;have d:=Hz (mm:="do") (F:=IE) (Y:=rK ns k (bf g rs) r v (sW (.int tn))) (i:=2) (A:=au (aj 3) aB) (ps:=[(rD r,.sh [])]) rfl rfl rfl (UC (g:=g) (rs:=rs) (e _ KY) vt.aA o (by lia));have rp:Aq pK (xO 2 "Book" "do" IE (au (aj 3) aB)) (rK ns k (bf g rs) r v (sW (.int tn)))=some (.str vs,rK ns k (bf g3 (rs++[r])) r v (sW (.int tn))):=ad0 d er rfl;have du:∀{b s5},e1 pK (aj 4) (rK ns k b r v s5)=sW (.str vs):=bB rfl er;refine mZ (Y':=rK ns k (bf g3 (rs++[r])) r v (sW (.int tn))) ?_ ?_
  .exact Cv (abv rp du ne_self) rfl
  refine sU (b:=tn==1) rfl (λ_=>sG ?_) λ_=>fin rfl rfl
  refine wn (Y':=rK ns k (bf g rs) r v (sW (.int tn))) ?_ ?_
  .exact LG (tk (u3.trans hu) rfl)
  .exact#[_,ahn (adM rp du (d:=.bl true) (by show some (D.bl (vs==vs))=_;rw[agf])) rfl,_,rfl,.inl #[_,_,rfl,rfl,rfl]]
 let#[_,_,e,rfl,rfl]:=key;apply e
def ad4:∀r:Rw,Sw r->Sh 2896 3 (rD r)
 | .ask q l E,#[hq,hl,hE,he]=>Sh.tup (w:=723) 4 (λd m=>by
   simp only[aaO,acK,aeE] at m;rcases m with rfl|rfl|rfl|rfl
   .exact(i8 "ask").up (by decide) (by decide)
   .exact(Sh.int hq).up (by decide) (by decide)
   .exact hl.tD.up (by decide) (by decide)
   .exact Sh.tup 3 (λd m=>by let#[p,mp,rfl]:=ab8.mp m;apply(he p mp).tD) (by rw[List.length_map];apply hE)) (abD _)
 | .kF x,h=>(Sh.tup 2 (λd m=>by
   simp only[aaO,acK,aeE] at m;rcases m with rfl|rfl
   .exact i8 "withdraw"
   .exact(Sh.int h).up (by decide) (by decide)) (abD _)).up (by decide) (by decide)
 | .fu L w,#[h1,h2]=>(Sh.tup (w:=240) (k:=1) 3 (λd m=>by
   simp only[aaO,acK,aeE] at m h2;rcases m with rfl|rfl|rfl
   .exact(i8 "answer").up (by decide) (by decide)
   .exact h1.tD
   .rcases h2 with rfl|rfl|rfl
    .exact(i8 "yes").up (by decide) (by decide)
    .exact(i8 "no").up (by decide) (by decide)
    .exact(i8 "unsure").up (by decide) (by decide)) (abD _)).up (by decide) (by decide)
 |.stop,_=>(Sh.tup 1 (λd m=>by rw[aa6.mp m];apply i8 "stop") (abD _)).up (by decide) (by decide)
 |.go,_=>(Sh.tup 1 (λd m=>by rw[aa6.mp m];apply i8 "go") (abD _)).up (by decide) (by decide)
def Ad(ho:sX p):Iv 0 (kH p):=by
 let#[hw,hh,nt]:=ho;refine#[#[#[hw,hh,nt,#[acP _,by decide,λm=>#[#[.nil,acP _],.nil,λp m=>nomatch m],λm x h1 h2=>?_,λm=>?_],(λx m=>nomatch m),.nil,?_,(λx m=>nomatch m),#[rfl,.nil,(λk m=>nomatch m),λp m=>nomatch m],[],rfl],(λp m=>nomatch m),#[acP _,λc m=>nomatch m],.nil,abD _,(λd m=>nomatch m),abD _,abD _,(λl m=>nomatch m),#[#[ajn _,ajn _],ajn _,ajn _],λl h=>?_],(λL m=>nomatch m),by show 0<64;decide]
 .have h2:m<=((0:Nat):Int):=h2
  lia
 .unfold lean;split<;>apply acP _
 .show((0:Nat):Int)<=p.1;lia
 .have h:word p.2.2.1 p.2.2.2 []="yes":=h;rw[SQ nt] at h;apply absurd h (by decide)
structure St(p:P4)(rs:List Rw)(T:List Str)(g:G):Prop where
 rn:Rn 0 (kH p) rs g
 len:rs.length<=28
 sw:∀r∈rs,Sw r
 tl:T.length=rs.length+1
 tt:∀i,i<=rs.length->∃gi s,Rn 0 (kH p) (rs.take i) gi/\T[i]? = some s/\S5 [gD gi]=some (.str s)
def SO{T:List Str}{i:Nat}(h:T[i]? = some s):c9 (.lst (T.map D.str)) (.int (i:Int))=some (.str s):=by
 have cM:=(abq.mp h).1;refine qT ?_ rfl;unfold dM kh;rw[List.length_map,if_pos (by lia),if_pos (by lia),acG,acy,show((i:Int)).toNat=i by lia,h];rfl
def ZW(h0:Y[i]? = some (sW (gD g)))(ha:ga Y=some ps)(h:F (gD g) (ps.map (·.1))=some (r,gD g'))(hp:apart i ps=true:=by rfl)(hm:(gF g).lookup m=none:=by rfl):xO i "Gate" m F ga Y=some (r,bU Y i (gD g')):=by
 unfold xO;rw[h0,ha];show(if("Gate":Str)="Gate"/\(gF g).lookup m=none/\apart i ps=true then(F (gD g) (ps.map (·.1))).map _ else none)=_;rw[if_pos #[rfl,hm,hp],h];rfl
def MK(ho:sX p)(s:St p rs T g):afa [bf g rs,.lst (rs.map rD),.lst (T.map D.str)]=some (.bl true):=by
 let#[_,_,u]:=s.rn.fin (Ad ho) (abD _);have hl:=s.len;let#[gz,t,rz,et,ft]:=s.tt rs.length (abD _);rw[aiR] at rz;let#[kz,cz,_]:=rz.fin (Ad ho) (abD _);let#[g2,i_,_]:=kz.ask (l:=[]) (E:=[]) (q:=9) (acP _) #[acP _,λp m=>nomatch m] rfl (by lia);let#[a,ea,_]:=(Sh.map 30 (λr m=>ad4 r (s.sw r m)) (by lia)).repr (by decide) (by decide);let#[b,eb]:=RK (i:=(rs.length:Int)) (by lia);have ln:fX (.lst (rs.map rD))=some (.int rs.length):=by rw[qD,List.length_map]
 have go:bK "Book" "gate_of" Ba (aj 0) (au (e1 fX (aj 1)) aB) [sS (bf g rs),sS (.lst (rs.map rD)),sS (.lst (T.map D.str)),none]=sW (gD gz):=CZ rfl (bB rfl ln) (Br ho (abD _) u (by rw[aiR];apply rz));refine bY rfl (b_ ((Nc (cj (aM (bB (vX rfl RL) ea) (bB rfl ea) ne_self))).trans (cj (aM (bB (vX rfl CS) eb) (bB (bB rfl ln) eb) ne_self))) (sq ?_ (iO go (b_ (cj (aM (cP rfl ft) (aM rfl (bB rfl ln) (SO et)) ne_self)) (sq (LG (ZW rfl rfl (i_ .lst .lst Bj Bj))) rfl)))));unfold El;rw[vX rfl RL];apply if_pos (size_le (by rw[List.length_map];lia))
def adf(h:g Y=some ps):iC g Y=some (.lst (ps.map (·.1)),jG ps):=by unfold iC;rw[h];rfl
def Sy(h:fv Y=some (d,t))(h2:Y[i]? = some (sW (.lst ds)))(h3:aA d=true)(h4:aK ds=true)(h5:ds.length<=1000)(he:bU Y i (.lst (ds++[d]))=Y'):kM i fv Y=some (.nx Y'):=by
 subst he;unfold kM;rw[h,h2];apply if_pos (by rw[h3,h4,aaP (size_le (by lia))];rfl)
def min2{a n:Nat}:yG (.int a) (.int n)=some (.int (min a n:Nat)):=by
 show some (D.int (if(n:Int)<a then(n:Int) else a))=_;rw[show(if(n:Int)<a then(n:Int) else a)=((min a n:Nat):Int) by split<;>lia]
def af4(h:f Y=some (d,Y'))(hi:aA d=true):xI f Y=some (d,Y'):=by
 unfold xI;rw[h];apply if_pos hi
def rL(ns:List Int)(p:P4)(g gb:G)(rs rb:List Rw)(R:Rc)(es:iX)(T:List Str)(mn:Int)(s9 fL fC pG:Slot):aL:=[sS (dI ns),sW (pD p),sW (bf gb rb),sW (gD g),sW (.lst (rs.map rD)),sW (uB R),sW (bS es),sW (.lst (T.map D.str)),sW (.int mn),s9,fL,fC,pG]
def ahz(hl:ns.length<=63):yf [dI ns]=some (.bl true):=by
 have e:∃d,yf [dI ns]=some d/\d=.bl true:=by
  let#[_,fs,w,h,n,t,rfl,hw,hh,h1,h2,h3]:=aij (m:=16) (by decide);obtain⟨p,rfl,rfl,rfl,rfl⟩:∃p:P4,p.1=w/\p.2.1=h/\p.2.2.1=n/\p.2.2.2=t:=#[(w,h,n,t),rfl,rfl,rfl,rfl]
  have ho:sX p:=#[hw,hh,h1,h2,by lia]
  have fs:Ri [dI ns,.int 16]=some (pD p):=fs;have bk:∀{s2 s3 s4 s5 s6 s7 s8 s9 fL fC pG:Slot},nv "Book" Ej (au (e2 c9 (aj 1) (eC (.int 0))) (au (e2 c9 (aj 1) (eC (.int 1))) (au (e2 c9 (aj 1) (eC (.int 2))) (au (e2 c9 (aj 1) (eC (.int 3))) aB)))) [sS (dI ns),sW (pD p),s2,s3,s4,s5,s6,s7,s8,s9,fL,fC,pG]=sW (bf (kH p) []):=λ{s2 s3 s4 s5 s6 s7 s8 s9 fL fC pG}=>by
   show(match Ej (.ins "Book" []) [.int p.1,.int p.2.1,.int p.2.2.1,.int p.2.2.2] with|some (.aC,d)=>some (d,Tag.own)|_=>none)=_;rw[afB (R4 ho.1 ho.2.1 ho.2.2)];rfl
  let#[s0,e0]:=TH (Ad ho) (by decide);refine vP rfl (gU (cP rfl fs) (gU bk (gU (N9 ho rfl rfl) (gU rfl (gU rfl (gU rfl (gU (t:=.own) ?_ (gU rfl (gG (rL ns p (kH p) (kH p) [] [] [] [] [s0] 0 none none none none) ?_)))))))))
  .exact adf (c_ (cP (ps:=[(gD (kH p),.sh [3])]) rfl e0) (show aB _=some [] from rfl))
  refine Ka (λj Y=>∃g rs R es T s9 fL fC,Y=rL ns p g g rs rs R es T g.C.length s9 fL fC none/\St p rs T g/\rs.length=j/\Sv es/\Rk j R) (Lp (aM rfl (bB rfl K_) min2) (by lia)) #[kH p,[],[],[],[s0],none,none,none,rfl,#[.nil,acP _,(λr m=>nomatch m),rfl,λi hi=>#[kH p,s0,by rw[List.take_nil];apply .nil,by rw[Nat.le_zero.mp hi];rfl,e0]],rfl,#[Kb.nil (by decide),λk=>by show(0:Int)<=0/\(0:Int)<=4;omega],#[abD _,λp m=>nomatch m]] (λj Y hj hI=>?_) λY hI=>?_
  .let#[g,rs,R,es,T,s9,fL,fC,e,s,lr,sv,rk]:=hI;subst e;rw[Int.zero_add];have akj:j<28:=by lia
   let#[iv,cl,u]:=s.rn.fin (Ad ho) (abD _);rw[ain] at iv cl;have v:=iv.gd;have ll:=v.len;have acZ:=zU (g:=g);refine#[rL ns p g g rs rs R es T g.C.length (sS (.int j)) fL fC none,rfl,?_];let#[_,fw,w,rfl,wa,ww,wc]:=ajE (O:=wl g++g.ld) (q:=(j:Int)) (by lia);refine gU (cP (ps:=[(dI ns,.sh []),(.int j,.sh []),(.bl g.ht,.own),(.lst (cK g.lk),.own),(iL (wl g++g.ld),.own)]) (by
    rw[bq,bq,bq,bq,bq,jg rfl Uh,jg rfl LX,aM (jg rfl (vR (by lia))) (jg rfl Fj) (v8 (by rw[afK];omega))];rfl) fw) (gG (rL ns p g g rs rs R es T g.C.length (sS (.int j)) (sW (.str w)) fC none) ?_)
   let#[_,_,fr,r,R',gA,rfl,rfl,ok,sw,fe,nr,sv',rk']:=ahe (ns:=ns) (k:=(j:Int)) (by lia) iv sv rk (by lia) (by lia) wa ww wc;let#[v,g3,e3,i3,c3,t3,u3]:=O6 iv (by lia) (by lia) r ok;refine mZ ((Li (Nq (js:=[5,6]) (sl:=[none,none,none,none,some 5,some 6,none]) (ps:=[(dI ns,.sh []),(.int j,.sh []),(.str w,.sh [10]),(gD g,.sh [3]),(uB R,.sh [5]),(bS es,.sh [6]),(.int g.C.length,.sh [8])]) (mz rfl (mz rfl (mz rfl (mz rfl (Dw rfl (Dw rfl (mz rfl rfl rfl) rfl) rfl) rfl) rfl) rfl) rfl) fr))) (gG (rL ns p g g rs rs R' gA T g.C.length (sS (.int j)) (sW (.str w)) (sW (rD r)) none) ?_);refine gU (d:=.int g3.C.length) (t:=.own) (aM (d2:=.int (if(w == "ask")=true then 1 else 0)) rfl (bB rfl rfl) (by
    show some (D.int ((g.C.length:Int)+(if(w == "ask")=true then 1 else 0)))=_;rw[c3,nr]
    split<;>rfl)) (gG (rL ns p g g rs rs R' gA T g3.C.length (sS (.int j)) (sW (.str w)) (sW (rD r)) none) ?_)
   have hL:([61]:List Int)∉g.lk:=λm=>by
    let#[q,_,_,e,_]:=iv.lk _ m;have:=iv.gd.row 61 (xB.subset (e ▸ aa6.mpr rfl))
    lia
   have fb:=aa7 (ns:=ns) (k:=(j:Int)) ho (by lia) s.rn iv (by lia) (by lia) (by lia) u rfl e3 t3 fe hL u3;have cp:qd 3 CV (au (aj 11) aB) (rL ns p g g rs rs R' gA T g3.C.length (sS (.int j)) (sW (.str w)) (sW (rD r)) none)=some (v,rL ns p g3 g rs rs R' gA T g3.C.length (sS (.int j)) (sW (.str w)) (sW (rD r)) none):=K9 (ps:=[(rD r,.sh [11])]) rfl rfl rfl ((aay r).trans (e3 _ Bj)) t3.aA;have jx:zo [2] [none,none,some 2,none,none] HS (lM 0 (lM 9 (xx 2 (lM 11 (Bt (qd 3 CV (au (aj 11) aB))))))) (rL ns p g g rs rs R' gA T g3.C.length (sS (.int j)) (sW (.str w)) (sW (rD r)) none)=some (.bl true,rL ns p g3 g3 rs (rs++[r]) R' gA T g3.C.length (sS (.int j)) (sW (.str w)) (sW (rD r)) none):=by
    have bx:lM 0 (lM 9 (xx 2 (lM 11 (Bt (qd 3 CV (au (aj 11) aB)))))) (rL ns p g g rs rs R' gA T g3.C.length (sS (.int j)) (sW (.str w)) (sW (rD r)) none)=some ([(dI ns,.sh []),(.int j,.sh []),(bf g rs,.sh [2]),(rD r,.sh [11]),(v,.own)],rL ns p g3 g rs rs R' gA T g3.C.length (sS (.int j)) (sW (.str w)) (sW (rD r)) none):=
     mz rfl (mz rfl (Dw rfl (mz rfl (by unfold Bt;rw[cp];rfl) rfl) rfl) rfl) rfl
    apply O7 bx fb
   have Ce:(rs++[r]).length=rs.length+1:=by rw[abV];rfl
   refine mZ (Cv (Vv (b:=true) (af4 jx rfl)) rfl) ?_;refine mZ (Y':=rL ns p g3 g3 (rs++[r]) (rs++[r]) R' gA T g3.C.length (sS (.int j)) (sW (.str w)) (sW (rD r)) none) ?_ ?_
   .exact Sy (d:=rD r) (t:=.sh [11]) rfl rfl (uJ r) (wN rs) (by rw[List.length_map];lia) (by unfold rL;rw[adk];rfl)
   have Uv:=s.rn.snoc e3 t3.aA (by rw[ain];apply i3) (by rw[c3];have:=Tw r;lia) u3;let#[s3,Ml]:=TH i3 (by lia);have tl:=s.tl;have st:St p (rs++[r]) (T++[s3]) g3:=#[Uv,by rw[Ce];lia,λx m=>(abH.mp m).elim (s.sw x) λm=>by rw[aa6.mp m];apply sw,by rw[abV,Ce,tl];rfl,λi hi=>by
    by_cases QA:i<=rs.length
    .let#[gi,si,a,b,c]:=s.tt i QA;apply#[gi,si,by rw[List.take_append_of_le_length QA];apply a,by rw[adO (by lia)];apply b,c]
    .have ei:i=(rs++[r]).length:=by lia
     apply#[g3,s3,by rw[ei,aiR];apply Uv,by rw[ei,Ce,<- tl,aeh (abD _),Nat.sub_self];rfl,Ml]]
   refine mZ (Y':=rL ns p g3 g3 (rs++[r]) (rs++[r]) R' gA (T++[s3]) g3.C.length (sS (.int j)) (sW (.str w)) (sW (rD r)) none) ?_ ?_
   .exact Sy (cP (ps:=[(gD g3,.sh [3])]) rfl Ml) rfl rfl (sV.mpr λd m=>by let#[x,_,rfl]:=ab8.mp m;rfl) (by rw[List.length_map];lia) (by unfold rL;rw[show(T++[s3]).map D.str=T.map D.str++[D.str s3] from adk];rfl)
   have fin:∃bA,Out.nx (rL ns p g3 g3 (rs++[r]) (rs++[r]) R' gA (T++[s3]) g3.C.length (sS (.int j)) (sW (.str w)) (sW (rD r)) none)=.nx bA/\∃g rs R es T s9 fL fC,bA=rL ns p g g rs rs R es T g.C.length s9 fL fC none/\St p rs T g/\rs.length=j+1/\Sv es/\Rk (j+1) R:=#[_,rfl,_,_,_,_,_,_,_,_,rfl,st,by rw[Ce,lr],sv',rk']
   refine tM (vG (cj (aM (aM rfl rfl (vp (by decide))) rfl rfl)) (cj (aM (dr rfl rfl rfl rfl (by lia)) rfl rfl))) (λ_=>#[_,K2 (kN (b:=true) (cj (cP (ps:=[(bf g3 (rs++[r]),.sh [2]),(.lst ((rs++[r]).map rD),.sh [4]),(.lst ((T++[s3]).map D.str),.sh [7])]) rfl (MK ho st)))) rfl,fin]) λ_=>#[_,rfl,fin]
  .let#[g,rs,R,es,T,s9,fL,fC,e,s,lr,sv,rk]:=hI;subst e;let#[iv,cl,u]:=s.rn.fin (Ad ho) (abD _);have hlen:=s.len;refine Ka (λj Y=>∃s9 pG,Y=rL ns p g g rs rs R es T g.C.length s9 fL fC pG) (Lp (n:=3) rfl (by decide)) #[_,_,rfl] (λj Y hj #[s9,pG,e]=>?_) λY ⟨s9,pG,e⟩=>?_
   .subst e;rw[Int.zero_add];refine#[rL ns p g g rs rs R es T g.C.length (sS (.int j)) fL fC pG,rfl,?_];have b:=l9 (ns:=ns) (k:=57+(j:Int)) (p:=100153) (m:=(rs.length:Int)+1) (by lia);refine gU (dr rfl (aM rfl rfl kX) rfl (aM (bB rfl (show fX (.lst (rs.map rD))=some (.int rs.length) by rw[qD,List.length_map])) rfl kX) (by lia) (by lia) (by lia)) ?_;obtain⟨x,ex⟩:∃x:Nat,iU ns (57+(j:Int)) 100153 ((rs.length:Int)+1)=x:=#[_,(Int.toNat_of_nonneg b.1).symm]
    rw[ex] at b ⊢;refine gG (rL ns p g g rs rs R es T g.C.length (sS (.int j)) fL fC (sW (.int x))) ?_;let#[gi,t,rz,et,ft]:=s.tt x (by lia);have go:bK "Book" "gate_of" Ba (aj 2) (au (aj 12) aB) (rL ns p g g rs rs R es T g.C.length (sS (.int j)) fL fC (sW (.int x)))=sW (gD gi):=CZ (t:=.sh [2]) (t2:=.sh [12]) rfl rfl (Br ho (by lia) u rz);apply#[_,K2 (cj (aM (cP (ps:=[(gD gi,.own)]) (c_ go (show aB _=some [] from rfl)) ft) (aM rfl rfl (SO et)) ne_self)) rfl,_,rfl,_,_,rfl]
   .subst e;apply#[_,cI (cP (ps:=[(bf g rs,.sh [2]),(.lst (rs.map rD),.sh [4]),(.lst (T.map D.str),.sh [7])]) rfl (MK ho s)),_,rfl,rfl]
 let#[_,e,rfl]:=e;apply e
end K93
namespace HT
open PySem PySem.W PyProof.Rows
section
variable{K:Params->Frag}
end
end HT
namespace K93
open PySem L2 L2.Ev
local macro_rules|`(tactic|walk_at "ba")=>`(tactic|exact ba_n _ rfl fun _ _ _ _ _ _ _=>rfl)
set_option maxHeartbeats 0 in
def all_mk{l:PySem.W.OpenLaw}{w:World}{K:Fr}{h:Heap}{mg:Str->Option Value}{fa:Addr}(X:K.In h)(G:h.Ns mainGlobals mg)(Gh:mg "law"=some (.ref fa))(q:vj L K=true)(t:tab.map (look K)=tab.map want):
  ∃fd:FuncData,(∀(s:Shared) (v:Value),BindsTo s fd #[[v],[]] [("_law_script",v)])/\∀base:Heap,K.In base->base.Ns mainGlobals mg->cg l.prog w K mg base dw 18 fa fd ["_law_script"] (bh K yf):=by
 refine abg (sp:=λ_=>bh K yf) X G Gh (GK (s:=top 65) 32 t rfl) (λ_ _ _ _ _ _ _ _=>.of_eq rfl) λbase _ _ _ _ F=>?_
 have E:En L #[l.prog,w,K,mg,base]:=aiI X G q;have W0:=eF X G t 0 (HH _ E);have W1:=eF X G t 1 (GW _ #[E,W0]);have W2:=eF X G t 2 (Em _ E);have W3:=eF X G t 3 (Lj _ #[E,W2]);have W40:=Df t q 40 (RX _ E);have EM:=Df t q 49 (FH _ #[E,W3,W2,W40]);have W33:=Df t q 33 (E1 _ #[E,EM]);have ZZ:=cH t 50 (Ig _ E);have W51:=cH t 51 (Ep _ E);have HL:=cH t 52 (LS _ E);have W53:=cH t 53 (Lk _ E);have Le:=cH t 41 (Gg _ E);have W54:=cH t 54 (Hh _ E);have wz:=cH t 55 (IG _ #[E,Le,W54]);have KU:=cH t 56 (GP _ E);have XU:=cH t 57 (JH _ E);have W58:=cH t 58 (Ky _ E);have W4:=eF X G t 4 (LL _ E);have W5:=eF X G t 5 (HR _ E);have W6:=eF X G t 6 (T7 _ #[E,W4,W5]);have E6:=cH t 42 (IQ _ #[E,W2,Le]);have J9:=cH t 43 (Il _ #[E,E6]);have C8:=cH t 44 (IM _ #[E,J9]);have W7:=eF X G t 7 (IV _ #[E,W6,C8]);have NG:=cH t 59 (JE _ #[E,W7]);have Vx:=cH t 60 (IJ _ E);have Ot:=cH t 79 (Fv _ E);have Gq:=cH t 61 (Ez _ #[E,Ot]);have GN:=cH t 62 (JK _ E);have BV:=cH t 63 (KJ _ #[E,Gq,GN]);have W8:=eF X G t 8 (Ja _ #[E,ZZ,W51,HL,W53,wz,KU,XU,W58,NG,Vx,BV]);have W9:=eF X G t 9 (HJ _ #[E,W0]);have W10:=eF X G t 10 (Ga _ #[E,W0]);have W11:=eF X G t 11 (KG _ #[E,W0,W10]);have W12:=eF X G t 12 (GQ _ #[E,W0]);have W13:=eF X G t 13 (LQ _ #[E,W11,HL,W0,W12,wz,KU]);have R7:=eF X G t 14 (EB _ E);have Q2:=Df t q 80 (GA _ #[E,W3]);have Px:=cH t 81 (E9 _ #[E,Ot]);have W64:=UN t 64 (Fy _ #[E,Q2,Px]);have W15:=ajv X G t 15 (IZ _ #[E,W64]);have Wd:=UN t 34 (EI _ #[E,R7,W15]);have W16:=eF X G t 16 (Gb _ #[E,Wd]);have Vr:=eF X G t 17 (Ie _ E);have W18:=eF X G t 18 (HV _ #[E,W2,Vr]);have Za:=cH t 45 (Ia _ #[E,W2,Vr,E6,W18]);have W46:=cH t 46 (JQ _ #[E,Za,Le]);have TL:=cH t 47 (HB _ #[E,J9]);have WY:=cH t 65 (FL _ #[E,wz,TL]);have W19:=eF X G t 19 (Lb _ #[E,W7]);have W48:=cH t 48 (F8 _ #[E,J9]);have W20:=eF X G t 20 (Hr _ #[E,W48]);have W21:=eF X G t 21 (I_ _ #[E,W4,C8]);have W22:=eF X G t 22 (KD _ #[E,W20,W21]);have SK:=eF X G t 23 (LN _ #[E,TL]);have W24:=eF X G t 24 (ED _ #[E,W19,W22,SK,C8]);have W66:=cH t 66 (G7 _ #[E,BV,GN,Gq]);have W25:=eF X G t 25 (JA _ #[E,W4]);have W67:=cH t 67 (FO _ #[E,SK,wz,NG,W25,C8]);have Xb:=cH t 68 (K7 _ #[E,BV,W24,wz,W66,W67]);have W69:=cH t 69 (GH _ #[E,Gq]);have W26:=eF X G t 26 (E5 _ E);have W27:=eF X G t 27 (Et _ #[E,W26]);have Xu:=cH t 70 (IX _ #[E,W69,GN,W27,BV]);have yI:=cH t 71 (EN _ #[E,WY,Xb,Xu]);have LU:=cH t 72 (J7 _ #[E,W46,yI]);have M_:=cH t 73 (Gy _ #[E,E6,yI]);have W74:=cH t 74 (LO _ E);have TY:=cH t 75 (JW _ #[E,Px,Q2,W74,yI]);have Mt:=cH t 76 (EC _ #[E,yI]);have Rm:=cH t 77 (KO _ #[E,yI]);have Sk:=eF X G t 28 (GZ _ #[E,LU,M_,TY,Mt,Rm]);have W35:=cH t 35 (Kw _ #[E,R7,Sk]);have Dv:=cH t 36 (Ho _ E);have W78:=cH t 78 (F0 _ E);have Dq:=cH t 37 (IK _ #[E,W2,Dv,W78,EM,Sk]);have W38:=cH t 38 (Jj _ #[E,Dq,Dv]);have W29:=eF X G t 29 (EE _ #[E,W0,W16,W35,Dq,Dv,W38]);have W30:=eF X G t 30 (ID _ #[E,LU,TY,M_,Mt,Rm]);have W39:=cH t 39 (GO _ E);have W31:=eF X G t 31 (GX _ #[E,Dv,W39,Dq,W8,LU]);apply o_law _ #[E,W1,W33,EM,W8,W9,wz,KU,HL,Vx,W13,W29,W30,W0,W31,Dq] _ _ F
def wk:Wk:=λhY hT hL hq ht z_ hdn=>
 L2.aeo (n:=63) (k:=18) (x:="_law_script") (CX:=λ_=>dw) (sp:=λw=>bh (_:Fr) yf) rfl (by decide) z_ #[λ_=>rfl,by decide,by decide,rfl] hY hT hL (λw mg fa h KX G Av=>all_mk KX G (hdn ▸ Av) (hq w) (ht w)) (λw H a ns hl hz=>by
  refine#[[dI ns],[]++[],.bl true,.cons (.Ec hz (zZ ns)) .nil,ahz hl,λH' v gC _ r _ _=>?_];ext r;rfl) λ_ _ _ _ _ z=>z
open PySem PySem.W PyProof.Rows L2 L2.Ev
end K93
theorem PySem.Challenge.cw_linegate_k93_whole_done_again_holds : PySem.Challenge.rw_linegate_k93_whole_done_again.Holds := by
 apply K93.early K93.wk
