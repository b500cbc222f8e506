import PyProof.Rows.All
import Wide.All
import OpenK.AllK
import Wide.FinOn
import PySem.Challenge.RW_linegate_k90_whole_line_looked_at
set_option Elab.async false
set_option linter.all false
set_option maxRecDepth 100000
set_option hygiene false
local macro_rules|`(tactic|exists 20,$p)=>`(tactic|refine ⟨_,$p,@fun H0 S z aq ρ σ H Q d tg ok e q=>?_⟩)
local macro_rules|`(tactic|exists 21,$p)=>`(tactic|refine ⟨_,$p,@fun H0 S z aq ρ σ H Q d tg ok e k=>?_⟩)
local macro_rules|`(tactic|exists 22,$p)=>`(tactic|refine ⟨_,$p,@fun H0 S z aq ρ σ H Q c ok e k=>?_⟩)
local macro_rules|`(tactic|exists 23,$p)=>`(tactic|refine ⟨_,$p,@fun H0 S z aq ρ σ H E o ok e k=>?_⟩)
local macro_rules|`(tactic|exists 24,$p)=>`(tactic|refine ⟨_,$p,@fun H0 S z aq ρ σ H R ds tg ok e k=>?_⟩)
local macro_rules|`(tactic|exists 25,$p)=>`(tactic|refine ⟨_,$p,@fun H0 S z aq ρ σ H E o ok e q=>?_⟩)
local macro_rules|`(tactic|exists 26,$p)=>`(tactic|refine ⟨_,$p,@fun H0 S z aq ρ σ H Q c ρ' ok e k=>?_⟩)
local macro_rules|`(tactic|exists 27,$p)=>`(tactic|refine ⟨_,$p,@fun H0 S z aq ρ σ H Q d ρ' ok e k=>?_⟩)
local macro_rules|`(tactic|exists 40)=>`(tactic|intro X hP hw hK hc i af s σ H E I hf st hg)
local macro_rules|`(tactic|exists 41)=>`(tactic|intro H x y d1 d2 f1 f2 d Q r1 r2 e k)
local macro_rules|`(tactic|exists 42)=>`(tactic|intro af s σ H x y v u Q I rx ry h)
local macro_rules|`(tactic|exists 43)=>`(tactic|intro af s σ H xs us Q I r h)
local macro_rules|`(tactic|exists 44)=>`(tactic|intro af s σ H Q I h)
local macro_rules|`(tactic|exists 45)=>`(tactic|intro af s σ H D I h)
local macro_rules|`(tactic|exists 46)=>`(tactic|(obtain ⟨ta,pa,sa⟩:=ha;obtain ⟨tb,pb,sb⟩:=hb))
local macro_rules|`(tactic|exists 47)=>`(tactic|exact⟨λb o q=>PySem.W.of_hideAll _ q,PySem.W.hideAll_none _ (by simp),hF,oe,vs,T,oT,ts,h1,⟨h2,h0⟩,h3,t1,PySem.W.hideAll_none _ (by simp),t2,t5,t6,t7⟩)
local macro_rules|`(tactic|exists 48)=>`(tactic|exact k H _ (aG.refl H) (.bl _))
local macro_rules|`(tactic|exists 49)=>`(tactic|refine sb (ok.same s1) jx λH2 y f2 s2 r2 _=>?_)
local macro_rules|`(tactic|exists 50)=>`(tactic|have L0:Looks (model prog w) hh (typeOf (.ref x)) (.ref C):=hc ▸ (Looks.ld hx).andThen .now)
local macro_rules|`(tactic|exists 51)=>`(tactic|obtain⟨f0,f1,f2,f3,f4,f5⟩:=hf it (by simp))
local macro_rules|`(tactic|exists 52)=>`(tactic|refine q ok h λH1 v fp s1 r1 g1=>?_)
local macro_rules|`(tactic|exists 53)=>`(tactic|rw[show au.toArray.any (iS x)=au.any (iS x) by simp,zf r fs])
local macro_rules|`(tactic|exists 54)=>`(tactic|rw[show fB f v ((k,x)::r)=(if k=f then(k,v)::r else(k,x)::fB f v r) from rfl])
local macro_rules|`(tactic|exists 55)=>`(tactic|obtain rfl:u=Value.ref a:=rx)
local macro_rules|`(tactic|exists 56)=>`(tactic|obtain⟨o',e1⟩:=I.base.there b o e hx)
local macro_rules|`(tactic|exists 57)=>`(tactic|refine A _ _ _ (bq.lt P (by lia)) (bq.lt P (by lia)) ?_)
local macro_rules|`(tactic|exists 58)=>`(tactic|obtain⟨t,p,q⟩:=ha)
local macro_rules|`(tactic|exists 59)=>`(tactic|dsimp only at e)
local macro_rules|`(tactic|exists 60)=>`(tactic|rcases g with⟨ak,k,e,ey,l⟩|⟨ak,k,b,e,ey,eb,l⟩)
local macro_rules|`(tactic|exists 61)=>`(tactic|simp only[PyData.hasDict])
local macro_rules|`(tactic|exists 62)=>`(tactic|obtain⟨sl,e1⟩:=I.base.slot b o e n hb hx)
local macro_rules|`(tactic|exists 63)=>`(tactic|obtain⟨t,rfl⟩:=rx)
local macro_rules|`(tactic|exists 64)=>`(tactic|obtain⟨z,hd,vs,rel,dd⟩:=o9 I.aF e)
local macro_rules|`(tactic|exists 65)=>`(tactic|obtain⟨x,mx,rfl⟩:=ab1.mp m)
local macro_rules|`(tactic|exists 66)=>`(tactic|obtain⟨a,xs,f,rfl,hq,rs,_⟩:=r.dZ)
local macro_rules|`(tactic|exists 67)=>`(tactic|obtain⟨u,rfl,ru⟩:=vals1 r)
set_option hygiene true
noncomputable section
abbrev aaf:=@List.mem_cons_of_mem
abbrev aak:=@List.mem_cons_self
abbrev aan:=@List.map_cons
abbrev aap:=@PySem.Heap.get?_push_of_some
abbrev aaw:=@List.mem_append_right
abbrev aaA:=@decide_eq_true
abbrev aaB:=@List.mem_singleton
abbrev aaO:=@PySem.wpAny_bind
abbrev aaQ:=@List.mem_cons
abbrev aa9:=@of_decide_eq_true
abbrev abe:=@Bool.and_eq_true
abbrev abl:=@List.getElem?_eq_getElem
abbrev abp:=@List.mem_append_left
abbrev abu:=@Bool.false_ne_true
abbrev abB:=@List.mem_append
abbrev abD:=@List.getElem?_eq_some_iff
abbrev abQ:=@PySem.Heap.lt_size
abbrev abR:=@List.length_append
abbrev abV:=@decide_eq_false
abbrev abW:=@Nat.le_refl
abbrev abZ:=@List.nodup_cons
abbrev ab1:=@List.mem_map
abbrev ab4:=@Option.some.inj
abbrev ab6:=@List.size_toArray
abbrev ab8:=@PySem.Heap.get?_push_size
abbrev acj:=@List.length_cons
abbrev acm:=@List.nodup_nil
abbrev acn:=@List.getElem?_map
abbrev acy:=@Option.map_eq_some_iff
abbrev acA:=@PySem.wpAny_pure
abbrev acI:=@List.append_nil
abbrev acL:=@Nat.ne_of_lt
abbrev acX:=@List.mem_filter
abbrev acY:=@List.getElem?_set_ne
abbrev ac3:=@List.nodup_append
abbrev ac5:=@Nat.lt_of_lt_of_le
abbrev adb:=@Option.bind_some
abbrev ade:=@List.map_map
abbrev adf:=@List.all_eq_true
abbrev adh:=@List.map_append
abbrev adu:=@beq_eq_false_iff_ne
abbrev adM:=@List.getD_eq_getElem?_getD
abbrev adN:=@List.find?_cons
abbrev adO:=@List.contains_iff_mem
abbrev adR:=@Nat.le_trans
abbrev adV:=@List.pairwise_cons
abbrev adW:=@PySem.wpAny_mono
abbrev ad9:=@List.any_eq_true
abbrev aea:=@List.getElem?_append_left
abbrev aek:=@List.length_singleton
abbrev ael:=@List.filterMap_cons
abbrev aen:=@PySem.Heap.get?_update_other
abbrev aer:=@List.getElem?_set_self
abbrev aeC:=@Nat.zero_le
abbrev aeJ:=@List.lookup_cons
abbrev aeK:=@List.not_mem_nil
abbrev aeL:=@List.getElem?_append_right
abbrev aeN:=@Option.bind_eq_some_iff
abbrev aeP:=@List.foldl_cons
abbrev aeT:=@List.mem_of_getElem?
abbrev aeX:=@Nat.lt_irrefl
abbrev aeY:=@List.filterMap_map
abbrev ae0:=@Array.length_toList
abbrev ae7:=@PySem.sizeLine_eq
abbrev ae8:=@Array.getD_eq_getD_getElem?
abbrev afa:=@List.filter_sublist
abbrev afb:=@List.length_filter_le
abbrev afd:=@PySem.wpAny_truthy_bool
abbrev afi:=@List.append_assoc
abbrev afk:=@Nat.le_of_lt
abbrev afA:=@beq_self_eq_true
abbrev afC:=@List.pairwise_map
abbrev afG:=@PySem.wpAny_holding
abbrev afH:=@Ne.symm
abbrev afJ:=@PySem.wpAny_Call_Name_kw
abbrev afK:=@List.any_cons
abbrev afP:=@List.cons.injEq
abbrev afU:=@List.find?_eq_none
abbrev agc:=@Bool.and_self
abbrev agg:=@beq_iff_eq
abbrev agj:=@PySem.Around.under_plainId
abbrev agl:=@List.find?_cons_of_neg
abbrev agm:=@List.map_congr_left
abbrev agn:=@Bool.eq_false_iff
abbrev ago:=@Classical.byContradiction
abbrev agp:=@PySem.codeAny_builtin
abbrev ags:=@List.length_set
abbrev agt:=@List.mem_filterMap
abbrev agv:=@Option.isSome_iff_exists
abbrev agw:=@PySem.tupleKind_room_in1
abbrev agx:=@List.prefix_refl
abbrev agy:=@Nat.ne_of_gt
abbrev agA:=@Option.isSome_map
abbrev agC:=@PyProof.Rows.callWith_type1
abbrev agD:=@PySem.Heap.get?_update_ne
abbrev agE:=@Array.perm_iff_toList_perm
abbrev agF:=@List.filter_cons
abbrev agG:=@PySem.F.plain_min_loop
abbrev agH:=@PySem.Heap.get?_update_self
abbrev agI:=@Nat.lt_of_le_of_lt
abbrev agK:=@Bool.false_eq_true
abbrev agL:=@List.mem_of_find?_eq_some
abbrev agN:=@PySem.wpAny_passesOwn
abbrev agO:=@List.any_map
abbrev agQ:=@List.getElem?_replicate
abbrev agR:=@PySem.plainId_quiet
abbrev agS:=@Nat.lt_succ_self
abbrev agT:=@List.length_take
abbrev agU:=@Bool.not_eq_true
abbrev agV:=@List.eq_nil_of_length_eq_zero
abbrev agW:=@decide_eq_decide
abbrev agX:=@PySem.Heap.size_push
abbrev agY:=@List.append_eq_nil_iff
abbrev agZ:=@List.prefix_append
abbrev ag0:=@Bool.eq_iff_iff
abbrev ag1:=@PySem.wpAny_newObj_type
abbrev ag2:=@List.exists_cons_of_ne_nil
abbrev ag3:=@Bool.and_eq_true_iff
abbrev ag4:=@PySem.Heap.get?_none_of_le
abbrev ag5:=@List.getElem?_of_mem
abbrev ag6:=@Classical.not_forall
abbrev ag7:=@PySem.wpAny_tryCatch
abbrev ag8:=@List.drop_eq_getElem_cons
abbrev ag9:=@List.pairwise_iff_getElem
abbrev aha:=@Option.getD_some
abbrev ahb:=@or_false
abbrev ahc:=@List.map_nil
abbrev ahd:=@Nat.zero_add
abbrev ahe:=@List.all_map
abbrev ahf:=@PySem.wpAny_execs_nil
abbrev ahg:=@List.all_cons
abbrev ahh:=@PySem.wpAny_updateSeq
abbrev ahi:=@Bool.or_eq_true
abbrev ahj:=@List.find?_some
abbrev ahk:=@Sum.inl.inj
abbrev ahl:=@Nat.le_succ
abbrev ahm:=@Nat.lt_succ_of_lt
abbrev ahn:=@List.length_range
abbrev aho:=@decide_eq_true_eq
abbrev ahp:=@List.mem_range
namespace L2
open PySem PySem.Spec
open PySem PySem.Spec PyProof.Rows
noncomputable def vp(o:Obj):Option (Value×Str×Pos):=match o.data with
 |.func fd=>match fd.body with
  |.stmts [.Return (some (.Call _ _ [⟨_,.Lambda _ _ _ pos,_⟩] _)) _]=>some (fd.code,fd.qualname++".<locals>."++"<lambda>",pos)
  |_=>none
 |_=>none
def Ao(K:PySem.W.Frag)(p:Addr×Obj):Option (Addr×Addr×Str×Pos):=match vp p.2 with
 |some (.ref c,q,pos)=>match K.lookup c with
  |some ⟨_,_,.fields vs,_⟩=>match(vs[11]? : Option Value) with
   |some (.ref P)=>some (c,P,q,pos)
   |_=>none
  |_=>none
 |_=>none
def iX(K:PySem.W.Frag):List (Addr×Addr×Str×Pos):=K.filterMap (Ao K)
noncomputable def pW(K:PySem.W.Frag):Bool:=K.all λp=>match p.2.data with
 |.seq au _=>au.size==0||au.toList.any λv=>match v with|.int _ _=>false|_=>true
 |_=>true
def yX(K:PySem.W.Frag):Bool:=(pW K&&K.all λp=>(vp p.2).isNone||(Ao K p).isSome)&&match iX K with
 |[]=>true
 |[r]=>PySem.W.codeHdIn K r.1 r.2.1&&(K.lookup r.2.1).isNone
 |_=>false
end L2
namespace L2
open PySem PySem.Spec PyProof.Rows
noncomputable def inClass(s:Stmt)(j:Nat):Stmt:=match s with
 |.ClassDef _ _ _ body _ _ _ _ _ _ _=>body.getD j (.Pass ⟨0,0,0,0⟩)
 |_=>.Pass ⟨0,0,0,0⟩
noncomputable def lP(s:Stmt):Arguments:=match s with
 |.FunctionDef _ a _ _ _ _ _ _ _ _=>a
 |_=>{ posonlyargs:=[],args:=[],vararg:=none,kwonlyargs:=[],kw_defaults:=[],kwarg:=none,defaults:=[] }
noncomputable def gI(s:Stmt):List Stmt:=match s with
 |.FunctionDef _ _ b _ _ _ _ _ _ _=>b
 |_=>[]
noncomputable def ck(s:Stmt):Scope:=match s with
 |.FunctionDef _ _ _ _ _ _ sc _ _ _=>sc
 |_=>{ kind:=.function,names:=[],isGenerator:=false,isCoroutine:=false }
end L2
namespace L2.Ev
open PySem PySem.W
noncomputable abbrev Qx:List Value:=[.type "ValueError",.type "Exception",.type "BaseException",.type "object"]
def w6(K:Frag)(C:Addr):Bool:=match K.lookup C with
 |some ⟨c,_,.cls cd,⟨sl⟩⟩=>c == .type "type"&&cd.mro == .ref C::cd.mro.tail&&sl==[sl.getD 0 none,sl.getD 1 none,sl.getD 2 none,sl.getD 3 none,some (.builtin "ValueError.__new__"),sl.getD 5 none]&&cd.hasDel==false&&tailIn K Qx cd.mro.tail&&nsOkIn K cd.ns&&nsIn K cd.ns "__init__" == some none
 |_=>false
end L2.Ev
namespace L2
open PySem PySem.Spec PyProof.Rows
theorem tabs_ok{K:Params->PySem.W.Frag}{e:∀P,as=(K P).map (·.1)}(h:∀w:World,(iX (K w.params)).map (·.2.1)=ts)(w:World)(hp:Heap)(Y:(PySem.W.kmHook K as e ts).says w hp):∀r∈iX (K w.params),hp.get? r.2.1=some (PySem.W.tabObj #[]):=
 λr m=>PySem.W.km_tabs_of Y _ (by rw[<- h w];exact List.mem_map_of_mem m)
end L2
namespace L2.Ev
open PySem PySem.Spec PySem.W PyProof.Rows
structure Ls where
 bt:List Str
 gi:List (Str×Int)
 tp:List (Str×List Str)
 cl:List Str
 na:List (Str×Str)
 ni:Bool
 ex:List Str
 xc:List Str
 ct:List (Str×List Str)
 kt:List (Str×List (Str×Bool))
noncomputable def cA(K:Frag)(c:Str):Addr:=match nsIn K mainGlobals c with
 |some (some (.ref a))=>a
 |_=>0
def kv(K:Frag)(c:Str):Value:=if c == "ValueError" then .type "ValueError" else .ref (cA K c)
noncomputable def iI:Stmt->Str
 |.FunctionDef x ..=>x
 |_=>Str.empty
def iu(c:Str)(s:Stmt):Str:=if c==Str.empty then iI s else c++"."++iI s
noncomputable def strOf:Value->Option Str
 |.str s _=>some s
 |_=>none
def Jp(K:Frag)(x:Str)(l:List Str):Bool:=match nsIn K mainGlobals x with
 | some (some (.ref a))=>(match K.lookup a with
  |some ⟨c,none,.seq au _,_⟩=>c == .type "tuple"&&decide (au.size<=sizeLine)&&au.toList.map strOf==l.map some
  |_=>false)
 |_=>false
noncomputable def Lz(K:Frag)(x:Str)(n:Int):Bool:=match nsIn K mainGlobals x with
 |some (some (.int m _))=>m==n
 |_=>false
def yu(K:Frag)(c:Str):Bool:=nsIn K mainGlobals c==some (some (.ref (cA K c)))&&plainGet K (cA K c) Str.empty&&hasDictIn K (cA K c)&&plainOver K (cA K c)&&findIn K (.ref (cA K c)) "__setattr__" == some (some (.builtin "object.__setattr__"))&&makesIn K (cA K c)&&keepIn K (.ref (cA K c))
def ek(K:Frag)(r:Str):Bool:=findIn K (.ref (cA K r)) "__getattribute__" == some (some (.builtin "BaseException.__getattribute__"))&&findIn K (.ref (cA K r)) "__getattr__" == some none&&findIn K (.ref (cA K r)) "__class__" == some (some (.builtin "object.__class__"))&&specialIn K (.builtin "object.__class__") "__get__" == some (some (.builtin "getset_descriptor.__get__"))&&takesIn K (.builtin "object.__class__")==some true&&mroIn K (cA K r) (.type "object")==some true&&mroIn K (cA K r) (.type "BaseException")==some true
def OA(L:Ls)(K:Frag):Bool:=L.ex.all (λc=>nsIn K mainGlobals c==some (some (.ref (cA K c))))&&L.xc.all (λc=>w6 K (cA K c))&&L.ct.all (λp=>L.xc.contains p.1&&mroIn K (cA K p.1) (.type "BaseException")==some true&&p.2.all λr=>L.xc.contains r&&L.ex.contains r&&mroIn K (cA K r) (.ref (cA K p.1))==some true)&&L.kt.all (λp=>p.2.all λr=>L.ex.contains r.1&&ek K r.1&&kitOne K (.ref (cA K r.1)) (kv K p.1)==some r.2)
def tP(L:Ls)(K:Frag):Bool:=(!L.ni||pW K)&&OA L K&&L.bt.all (λx=>nsIn K mainGlobals x==some none)&&L.gi.all (λp=>Lz K p.1 p.2)&&L.tp.all (λp=>Jp K p.1 p.2)&&L.cl.all (yu K)&&L.na.all (λp=>findIn K (.ref (cA K p.1)) p.2==some none)
noncomputable def NN(fd:FuncData):FuncData:={ fd with kwdefaults:=.none,doc:=.none,pyModule:=.none,annotations:=none,code:=.none,closureTuple:=.none }
def Hi(K:Frag)(q:Str):Option (Option Value)->Option FuncData
 | some (some (.ref a))=>(match K.lookup a with
  |some ⟨_,_,.func fd,_⟩=>if(codeIn K fd.code q&&keepIn K (.ref a)&&isFn K (.ref a))=true then some (NN fd) else none
  |_=>none)
 |_=>none
def look(K:Frag)(p:Str×Stmt):Option FuncData:=Hi K (iu p.1 p.2) (if p.1==Str.empty then nsIn K mainGlobals (iI p.2) else findIn K (.ref (cA K p.1)) (iI p.2))
def want(p:Str×Stmt):Option FuncData:=some (fnOf (iI p.2) (iu p.1 p.2) (lP p.2) (gI p.2) (ck p.2) .none .none .none .none none .none .none)
end L2.Ev
namespace K90
open PySem L2 L2.Ev
noncomputable def top(i:Nat):Stmt:=PySem.Challenge.pw_linegate_k90_whole_line_looked_at.main.body.getD i (.Pass ⟨0,0,0,0⟩)
noncomputable def L:Ls:=⟨["all","bool","dict","int","isinstance","len","list","max","min","range","repr","sorted","tuple","zip"],[("GREATEST_RANK",9),("GREATEST_SLOT",999),("GREATEST_VALUE",1000000000),("MOST_CHANGES",60),("MOST_EDITS",20),("MOST_HANDS",8),("MOST_TRIES",20),("MOST_WIDTH",16)],[("BAD_WORDS",["no","unsure"]),("WORDS",["yes","no","unsure"])],["Changes","Gate","Tally"],[("Changes","entries"),("Gate","answers"),("Gate","breaks"),("Gate","ended"),("Gate","grounds"),("Gate","grown"),("Gate","halted"),("Gate","known"),("Gate","laid_ones"),("Gate","looks"),("Gate","numbers"),("Gate","on_line"),("Gate","tallies"),("Tally","heard"),("Tally","need"),("Tally","tries")],true,["LinegateError","NoLook"],["LinegateError","NoLook"],[("LinegateError",["NoLook"])],[("NoLook",[("NoLook",true)])]⟩
end K90
namespace HT
open PySem PySem.W PyProof.Rows
noncomputable def HG:List Obj->List Obj
 |[]=>[]
 |[a]=>[a]
 |a::_::l=>a::HG l
def De:Nat->List Obj->BT
 |0,_=>.nil
 |_+1,[]=>.nil
 |k+1,o::l=>.node o (De k (HG l)) (De k (HG l.tail))
noncomputable def nS(tb:String->Option Builtin)(p:Program)(w:World)(yU:Nat)(ann:Option Value):Nat->SharedT->Thread->Option SharedT
 |0,_,_=>none
 |k+1,s,t=>match through t with
  |true=>some s
  |false=>match stepOk yU ann t with
   |false=>none
   |true=>match stepT (denote tb) p w s t with
    |none=>none
    |some (s',t')=>nS tb p w yU ann k s' t'
theorem LB:∀{k} {s s'} {t},nS tb p w yU ann k s t=some s'->topRun tb p w yU ann k s.abs t=some s'.abs
 |0,_,_,_,h=>by cases h
 |k+1,s,s',t,h=>by
  unfold nS at h;unfold topRun;cases e:through t with
  |true=>rw[e] at h;cases h;rfl
  |false=>
   rw[e] at h;cases o:stepOk yU ann t with
   |false=>rw[o] at h;cases h
   |true=>
    rw[o] at h;cases g:stepT (denote tb) p w s t with
    |none=>rw[g] at h;cases h
    |some r=>obtain⟨s2,t2⟩:=r;rw[g] at h;rw[stepT_spec g];exact LB h
def Js(P:Params):BT:=De 12 (boot_heap P).objs.toList
noncomputable def mV:Nat:=11
theorem afV(P:Params):(boot_heap P).objs.size=mV:=by kernel_rfl
theorem boot_abs(P:Params):absHeap (Js P) mV (boot_heap P).life=boot_heap P:=by kernel_rfl
def sE(P:Params)(os:OsState):SharedT:=⟨Js P,mV,(boot_heap P).life,Array.mk [],boot_drawn,boot_toks,os⟩
theorem af6
  (he:opening p=plainProg p.main.scope.names) (hf:∀s,fenceModules? p s=some s) (hN:Nat.ble 600 N=true)
  (hz:∀P:Params,((boot_heap P).isNs mainGlobals,(boot_heap P).nsMap mainGlobals "__annotations__")=(true,ann))
  (h:∀(w) (os),(nS treeTable p w mV ann N (sE w.params os) (topStub p)).map (λsT=>
    ((staticsOk (importedModules p.main.body) (boot_heap w.params) sT.abs.heap&&namesBound p sT.abs.heap&&gensDone sT.abs&&laidKept (boot_heap w.params) sT.abs.heap),openSeen q loose (importedModules p.main.body) Xt true sT.abs,Yf sT.abs))=some (true,openGood q loose,Ya w)) :
  LeftO p q loose Xt Yf Ya N:=λw=>by
 obtain⟨⟨hh,gs,d,k,os⟩,e,e'⟩:=acy.mp (boot_open he hN hf w);obtain⟨rfl,rfl,rfl,rfl⟩:hh=boot_heap w.params/\gs=Array.mk []/\d=boot_drawn/\k=boot_toks:=by simpa using e'
 obtain⟨z1,z2⟩:_/\_:=by simpa only[Prod.mk.injEq] using hz w.params
 obtain⟨sT,r,l⟩:=acy.mp (h w os);obtain⟨l1,l2,l3⟩:_/\_/\_:=by simpa only[Prod.mk.injEq] using l
 have r':=LB r;have ab:(sE w.params os).abs=⟨boot_heap w.params,Array.mk [],boot_drawn,boot_toks,os⟩:=by
  show Shared.mk (absHeap (Js w.params) mV (boot_heap w.params).life) _ _ _ _=_;rw[boot_abs];rfl
 rw[ab] at r';have t:topFrom treeTable p w N ⟨boot_heap w.params,Array.mk [],boot_drawn,boot_toks,os⟩=some sT.abs:=by
  unfold topFrom;dsimp only;rw[z1,z2,afV,r'];show(match staticsOk (importedModules p.main.body) (boot_heap w.params) sT.abs.heap&&namesBound p sT.abs.heap&&gensDone sT.abs&&laidKept (boot_heap w.params) sT.abs.heap with|true=>_|false=>_)=_;rw[l1]
 unfold openEnds;rw[e];show(topFrom treeTable p w N _).map _=_;rw[t];exact congrArg some (Prod.ext l2 l3)
theorem aai
  (he:opening p=plainProg p.main.scope.names) (hf:∀s,fenceModules? p s=some s) (hN:Nat.ble 600 N=true)
  (hz:∀P:Params,((boot_heap P).isNs mainGlobals,(boot_heap P).nsMap mainGlobals "__annotations__")=(true,ann))
  (h1:∀(w) (os),(nS treeTable p w mV ann N (sE w.params os) (topStub p)).map (λsT=>((staticsOk (importedModules p.main.body) (boot_heap w.params) sT.abs.heap&&namesBound p sT.abs.heap&&gensDone sT.abs&&laidKept (boot_heap w.params) sT.abs.heap),openSeen q loose (importedModules p.main.body) Xt true sT.abs))=some (true,openGood q loose))
  (h3:∀(w) (os),(nS treeTable p w mV ann N (sE w.params os) (topStub p)).map (λsT=>Yf sT.abs)=some (Ya w)) :
  LeftO p q loose Xt Yf Ya N:=af6 he hf hN hz λw os=>by
 obtain⟨sT,r,e1⟩:=acy.mp (h1 w os);have e3:=h3 w os;rw[r] at e3 ⊢;have e3:=ab4 e3;obtain⟨e1,e2⟩:_/\_:=by simpa only[Prod.mk.injEq] using e1
 show some (_,_,_)=some (true,openGood q loose,Ya w);rw[e1,<- e2,<- e3]
noncomputable def tg(s:SharedT)(a:Nat):Option Obj:=match Nat.blt a s.n with
 |true=>match s.tree.get a with
  |some o=>alive o
  |none=>none
 |false=>none
theorem acQ(h:tg s a=some o):s.abs.heap.get? a=some o:=by
 unfold tg at h;cases e:Nat.blt a s.n with
 |false=>rw[e] at h;cases h
 |true=>
  rw[e] at h;dsimp only at h;cases g:s.tree.get a with
  |none=>rw[g] at h;cases h
  |some o'=>
   rw[g] at h;have cR:a<s.n:=by simpa using e
   exact(abs_get cR g).trans h
theorem D8:∀{as:List Addr}{os:List Obj},as.map (tg s)=os.map some->as.map s.abs.heap.get? = os.map some
 |[],[],_=>rfl
 |[],_::_,h=>by cases h
 |_::_,[],h=>by cases h
 |a::as,o::os,h=>by
  rw[aan,aan] at h;injection h with h1 h2;rw[aan,aan,acQ h1,D8 h2]
end HT
namespace HT
open PySem PySem.W PyProof.Rows
variable{K:Params->Frag}
theorem left_Tkm(he:opening p=plainProg p.main.scope.names)(hf:∀s,fenceModules? p s=some s)(hN:Nat.ble 600 N=true)
  (hz:∀P:Params,((boot_heap P).isNs mainGlobals,(boot_heap P).nsMap mainGlobals "__annotations__")=(true,ann))
  (h1:∀(w:World) (os),(nS treeTable p w mV ann N (sE w.params os) (topStub p)).map (λsT=>((staticsOk (importedModules p.main.body) (boot_heap w.params) sT.abs.heap&&namesBound p sT.abs.heap&&gensDone sT.abs&&laidKept (boot_heap w.params) sT.abs.heap),openSeen q loose (importedModules p.main.body) Xt true sT.abs))=some (true,openGood q loose))
  (h3:∀(w) (os),(nS treeTable p w mV ann N (sE w.params os) (topStub p)).map (λsT=>(as.map (tg sT),ts.map (tg sT)))=some (((K w.params).map (·.2)).map some,(ts.map λ_=>tabObj #[]).map some)) :
  LeftO p q loose Xt (Hook.obs (kmHook K as e ts)) (Hook.val (kmHook K as e ts)) N:=aai he hf hN hz h1 λw os=>by
 obtain⟨sT,r,e1⟩:=acy.mp (h3 w os);obtain⟨e1,e2⟩:_/\_:=by simpa only[Prod.mk.injEq] using e1
 rw[r];show some (as.map sT.abs.heap.get?,ts.map sT.abs.heap.get?)=some ((K w.params).map λp=>some p.2,ts.map λ_=>some (tabObj #[]));rw[D8 e1,D8 e2,ade,ade];rfl
end HT
namespace K90
open PySem L2 L2.Ev
def tab:List (Str×Stmt):=[48,49,11,41,54,52,53,19,20,17,26,32,31,33,30,28,29,16,36,35,58,50,51,12,18,59,55,56,57,60].map (λi=>(Str.empty,top i))++[0,2,9,10,4,5,3,11,1].map (λi=>(("Changes":Str),inClass (top 25) i))++[0,19,8,7,10,22,24,21,20,11,26,13,27,25,29,28,23,3,1,2,4,5,3,12,15,6,14].map (λi=>(("Gate":Str),inClass (top 46) i))++[3,1,0].map (λi=>(("Tally":Str),inClass (top 40) i))
noncomputable def isNm:Stmt->Bool
 |.FunctionDef x ..=>!(x == "law")
 |_=>true
noncomputable def lo:List Str:=(["_wall","LinegateError","NoFit","NoChange","TooMany","NoRule","NoAnswer","NoLook","TooLate","within","rising","GREATEST_SLOT","GREATEST_VALUE","unfit","edited_in_turn","are_edits","misfit","sheet_of_values","MOST_CHANGES","MOST_EDITS","GREATEST_RANK","Changes","sheet_of","free","filled","first_fitting","in_turn","values_behind","fits","wanted_places","middle_of_gap","WORDS","MOST_TRIES","Tally","makes_tally","MOST_WIDTH","MOST_HANDS","BAD_WORDS","Gate","_law_draw","_law_settings","_law_edits","_law_spec","_law_word","_law_told","_law_way","_law_refused","_law_wanted_right","_law_right","_law_answered","_law_done"]:List String).map Str.ofString
def vw:Program:={ PySem.Challenge.pw_linegate_k90_whole_line_looked_at with main:={ (PySem.Challenge.pw_linegate_k90_whole_line_looked_at).main with body:=(PySem.Challenge.pw_linegate_k90_whole_line_looked_at).main.body.filter λs=>!isNm s } }
def Wk:Prop:=∀{YP:World->Heap->Prop}{K:Params->PySem.W.Frag}{d:DefRec},(∀(w:World) (h:Heap),YP w h->(K w.params).In h)->(∀(w:World) (h:Heap),YP w h->∀r∈iX (K w.params),h.get? r.2.1=some (PySem.W.tabObj #[]))->(∀w:World,yX (K w.params)=true)->(∀w:World,tP L (K w.params)=true)->(∀w:World,tab.map (look (K w.params))=tab.map want)->d.params.defaults=[]->d.name="law"->PySem.W.WalkO vw lo (PySem.W.XL vw []) YP (PySem.W.OpenLaw.row PySem.Challenge.rw_linegate_k90_whole_line_looked_at).toRowW d [] (λf vs=>PySem.call f vs)
end K90
namespace K90
open PySem L2 L2.Ev
open PySem PySem.W PyProof.Rows L2 L2.Ev
def xt(s:Shared):Bool:=xlAt vw [] s&&recOk (RowW.records (OpenRow.toRowW (OpenLaw.row PySem.Challenge.rw_linegate_k90_whole_line_looked_at))) s
theorem xt1(s:Shared)(e:xt s=true):XL vw [] (s.heap.nsMap mainGlobals) s.heap:=xl_of s (ag3.mp e).1
theorem rn(w:World)(os:OsState):(HT.nS treeTable PySem.Challenge.pw_linegate_k90_whole_line_looked_at w HT.mV (some (.ref 6)) 20000 (HT.sE w.params os) (topStub PySem.Challenge.pw_linegate_k90_whole_line_looked_at)).map (λsT=>((staticsOk (importedModules (PySem.Challenge.pw_linegate_k90_whole_line_looked_at).main.body) (boot_heap w.params) sT.abs.heap&&namesBound PySem.Challenge.pw_linegate_k90_whole_line_looked_at sT.abs.heap&&gensDone sT.abs&&laidKept (boot_heap w.params) sT.abs.heap),openSeen vw lo (importedModules (PySem.Challenge.pw_linegate_k90_whole_line_looked_at).main.body) xt true sT.abs))=some (true,openGood vw lo):=by kernel_rfl
theorem xt2(s:Shared)(e:xt s=true):RecFacts (RowW.records (OpenRow.toRowW (OpenLaw.row PySem.Challenge.rw_linegate_k90_whole_line_looked_at))) s.heap:=recFacts_of (ag3.mp e).2
local macro_rules | `(tactic| o_head $H)=>`(tactic| (refine PySem.W.holds_open (q:=K90.vw) (loose:=K90.lo) (N:=20000) (Xt:=K90.xt) (XP:=XL K90.vw []) (Yf:=Hook.obs $H) (Ya:=Hook.val $H) (YP:=Hook.says $H) ?hl (Hook.of $H) (Hook.keeps $H) K90.xt1 XL.keeps (by rfl) (by rfl) (by rfl) K90.xt2 (by rfl) (by assumption) (by decide +kernel) ⟨rfl,rfl,rfl,rfl,rfl,by decide +kernel⟩ ?hw ?hc;(case hl=>exact HT.left_Tkm (ann:=some (.ref 6)) (by rfl) (fun _=>rfl) (by decide) (fun _=>by kernel_rfl) K90.rn fun w os=>by kernel_rfl);(case hw=>w_witness2)))
theorem wsd:OpenLaw.wellSaid PySem.Challenge.rw_linegate_k90_whole_line_looked_at=true:=by kernel_rfl
set_option maxHeartbeats 0 in
theorem early(H:Wk):PySem.Challenge.rw_linegate_k90_whole_line_looked_at.Holds:=by
 w_on;refine holds_law wsd λagz=>?_;k_head
 k_fill
 exact H (λw h Y=>PySem.W.km_in_of Y) (L2.tabs_ok λw=>by kernel_rfl) (λw=>by kernel_rfl) (λw=>by kernel_rfl) (λw=>by kernel_rfl) rfl rfl
end K90
local macro_rules | `(tactic| walk_at "va")=>`(tactic| exact ⟨rfl,by first | exact Or.inl rfl | exact Or.inr (Or.inl rfl) | exact Or.inr (Or.inr rfl),by decide,by decide⟩)
local macro_rules | `(tactic| exists $h:ident, $x, $w:ident, $e:ident) => `(tactic| (rcases $h:ident : $x:term with _ | $w:ident; (rw [$h:ident] at $e:ident; cases $e:ident); rw [$h:ident] at $e:ident))
local macro_rules | `(tactic| exists $h:ident, $x, $w:ident, $e:ident, 0) => `(tactic| (rcases $h:ident : $x:term with _ | $w:ident; (rw [$h:ident] at $e:ident; cases $e:ident)))
theorem ci{c:Prop}[Decidable c]{α:Type}{a:Option α}{y:α}(e:(if c then a else none)=some y):c/\a=some y:=by
 by_cases h:c
 .rw[if_pos h] at e;exact⟨h,e⟩
 .rw[if_neg h] at e;cases e
namespace L2
open PySem PySem.Spec
theorem afN:entryFor table "proto.unchain"=some Builtin.«proto.unchain»:=entryFor_of_tree (by kernel_rfl)
theorem aco{α:Type}{Q:α->Shared->Prop}(hh:A.handled=some (.ref h))(he:s.heap.get? e=some oe)(hd:oe.data=.fields ve)(h2:2<ve.size)
  (hx:s.heap.get? h=some oh) (D9:oh.data=.fields vh) (yW:vh[2]? = some .none) (ne:h≠e) (q:E (.ref e) { s with heap:=s.heap.update e (Obj.mapFields (·.setIfInBounds 2 (.ref h))) }):wpAny (model prog w) A (raiseNew (.ref e):Sem α) Q E s:=by
 unfold raiseNew;refine aaO (wpAny_handled ?_);rw[hh];dsimp only;rw[if_pos (by simpa using ne)];refine aaO (afG (wpAny_runValue (agp afN ?_)));unfold Builtin.«proto.unchain»;refine aaO (wpAny_field hx D9 yW ?_);rw[if_pos (by rfl)];refine acA ?_;refine aaO ?_;unfold updateField;refine aaO (wpAny_load he ?_);rw[hd];dsimp only;rw[if_pos h2];exact wpAny_update' he (wpAny_throw q)
theorem WX{prog:Program}{w:World}{A:Around}{E:Value->Shared->Prop}{s:Shared}{it h:Addr}{x left step:Int}{oh:Obj}{vh:Array Value}{Q:Option Value->Shared->Prop}(hh:A.handled=some (.ref h))(hx:s.heap.get? h=some oh)(D9:oh.data=.fields vh)(yW:vh[2]? = some .none)(hit:IsRangeIter s.heap it x left step)(ac4:left<=0)
  (hQ:∀h',Heap.ExtBut it s.heap h'->Q none { s with heap:=h' }):wpAny (model prog w) A (pyNext (.ref it)) Q E s:=by
 have hT:s.TypeIs (.ref it) "range_iterator":=⟨_,hit,rfl⟩
 unfold pyNext;refine aaO (wpAny_attempt (wpAny_callSpecial?_slot hT F.slot_range_iterator_next
  (wpAny_call_entry F.slot_range_iterator_next hT F.entry_range_iterator_next ?_ (F.args_range_iterator_next_1 _))))
 show wpAny _ _ (field (.ref it) 0 >>= _) _ _ s;refine aaO (wpAny_field hit rfl rfl ?_);refine aaO (wpAny_field hit rfl rfl ?_);refine aaO (wpAny_field hit rfl rfl ?_);show wpAny _ _ (if left<=0 then _ else _) _ _ s;rw[if_pos ac4];refine aaO (wpAny_rule ?_);refine aaO ?_;refine aaO ?_;simp only[newExc,newTuple];refine aaO (ag1 ?_ (by size_fits));refine aaO (wpAny_of_eq (by first|rfl|(simp only[firstArgMember];rfl)) ?_);refine ag1 ?_ (by size_fits);have hn:h≠(s.heap.push { cls:=.type "tuple",dict:=none,data:=.seq ([]:List Value).toArray }).objs.size:=acL (abQ (aap _ hx));refine aco (by first|exact hh|(show A.in1.handled=_;exact hh)) (ab8 _ rfl) rfl (by simp<;>lia) (aap _ (aap _ hx)) D9 yW hn ?_;refine aaO (wpAny_isInstance ⟨_,agH _ (ab8 _ rfl) rfl,rfl⟩ isSubtype_stop ?_);refine acA (hQ _ λb o hb e=>?_);rw[aen _ _ (afH (acL (abQ (aap _ e))))];exact aap _ (aap _ e)
open PySem PySem.Spec PyProof.Rows
noncomputable abbrev Key:=Sum Int Str
noncomputable def rZ:Key->Value->Bool
 |.inl k,v=>Value.isInt k v
 |.inr x,v=>Value.isStrOf x v
noncomputable def abO(w:World):Key->Int
 |.inl k=>hashInt k
 |.inr x=>hashStr w x
theorem m_:∀{k} {v},rZ k v=true->(∃i t,k=Sum.inl i/\v=Value.int i t)\/(∃x t,k=Sum.inr x/\v=Value.str x t)
 |.inl i,v,h=>by
  obtain⟨t,e⟩:=Value.isInt_shape h;exact .inl ⟨i,t,rfl,e⟩
 |.inr x,v,h=>by
  obtain⟨t,e⟩:=Value.isStrOf_shape h;exact .inr ⟨x,t,rfl,e⟩
theorem Ui(i:Int)(t:Tok):rZ (.inl i) (.int i t)=true:=by simp[rZ,Value.isInt]
theorem ad1(x:Str)(t:Tok):rZ (.inr x) (.str x t)=true:=by simp[rZ,Value.isStrOf]
theorem adv(a b:Int):decide ((Sum.inl a:Key)=Sum.inl b)=(a==b):=by
 by_cases e:a=b
 .subst e;simp
 .have h:¬(Sum.inl a:Key)=Sum.inl b:=λq=>e (ahk q)
  rw[abV h];exact(adu.mpr e).symm
theorem Y4(a b:Str):decide ((Sum.inr a:Key)=Sum.inr b)=decide (a=b):=by
 by_cases e:a=b
 .subst e;simp
 .have h:¬(Sum.inr a:Key)=Sum.inr b:=λq=>e (Sum.inr.inj q)
  rw[abV h,abV e]
theorem abH(a:Int)(b:Str):decide ((Sum.inl a:Key)=Sum.inr b)=false:=abV (λq=>nomatch q)
theorem VD(a:Str)(b:Int):decide ((Sum.inr a:Key)=Sum.inl b)=false:=abV (λq=>nomatch q)
def gY(prog:Program)(w:World):PySem.KeyKind prog w Key where
 is:=rZ
 hash:=abO w
 inj:=λv a b ha hb=>by
  rcases m_ ha with⟨i,t,rfl,rfl⟩|⟨x,t,rfl,rfl⟩
  .rcases m_ hb with⟨j,u,rfl,e⟩|⟨y,u,rfl,e⟩
   .injection e with e1 _;rw[e1]
   .exact nomatch e
  .rcases m_ hb with⟨j,u,rfl,e⟩|⟨y,u,rfl,e⟩
   .exact nomatch e
   .injection e with e1 _;rw[e1]
 byValue:=λk v h=>by
  rcases m_ h with⟨i,t,rfl,rfl⟩|⟨x,t,rfl,rfl⟩<;>rfl
 pyHash:=λhv h=>by
  rcases m_ hv with⟨i,t,rfl,rfl⟩|⟨x,t,rfl,rfl⟩
  .exact wpAny_pyHash_int h
  .exact wpAny_pyHash_str h
 eqBool:=λhu hv h=>by
  rcases m_ hu with⟨i,t,rfl,rfl⟩|⟨x,t,rfl,rfl⟩
  .rcases m_ hv with⟨j,u,rfl,rfl⟩|⟨y,u,rfl,rfl⟩
   .rw[adv] at h;exact wpAny_eqBool_int h
   .rw[abH] at h;exact SeqAt.EqAt.int_str i t y u _ _ _ _ h
  .rcases m_ hv with⟨j,u,rfl,rfl⟩|⟨y,u,rfl,rfl⟩
   .rw[VD] at h;exact SeqAt.EqAt.str_int x t j u _ _ _ _ h
   .rw[Y4] at h;exact wpAny_eqBool_str h
 «strs»:=λk x t v h=>by
  rcases m_ h with⟨i,u,rfl,e⟩|⟨y,u,rfl,e⟩
  .exact nomatch e
  .injection e with e1 _;subst e1;cases v<;>rfl
theorem abM(prog:Program)(w:World)(i:Int)(t:Tok):(gY prog w).is (.inl i) (.int i t)=true:=Ui i t
theorem aaI(prog:Program)(w:World)(x:Str)(t:Tok):(gY prog w).is (.inr x) (.str x t)=true:=ad1 x t
inductive V where
 |aA|bl (b:Bool)|int (i:Int)|str (x:Str)|jX (b:Array UInt8)|tu (b:UInt64)|ref (a:Addr)|ty (n:String)
 deriving DecidableEq
def RelV:V->Value->Prop
 |.aA,u=>u=Value.none
 |.bl b,u=>u=Value.bool b
 |.int i,u=>∃t,u=Value.int i t
 |.str x,u=>∃t,u=Value.str x t
 |.jX b,u=>∃t,u=Value.bytes b t
 |.tu b,u=>∃t,u=Value.float b t
 |.ref a,u=>u=Value.ref a
 |.ty n,u=>u=Value.type n
noncomputable abbrev aT:List V->List Value->Prop:=Paired RelV
theorem aT.length(r:aT xs us):xs.length=us.length:=Paired.length r
theorem aT.get:∀{xs} {us}{i:Nat} {x},aT xs us->xs[i]? = some x->∃u,us[i]? = some u/\RelV x u
 |_,_,_,_,.nil,e=>by simp at e
 |_,_,0,_,.cons r _,e=>by simp at e;subst e;exact⟨_,rfl,r⟩
 |_,_,i+1,x,.cons _ t,e=>by
  obtain⟨u,h1,h2⟩:=aT.get t (by simpa using e);exact⟨u,by simpa using h1,h2⟩
theorem aT.append:∀{xs ys} {us ws},aT xs us->aT ys ws->aT (xs++ys) (us++ws)
 |_,_,_,_,.nil,s=>s
 |_,_,_,_,.cons r t,s=>.cons r (aT.append t s)
theorem aT.take:∀{xs} {us} (n),aT xs us->aT (xs.take n) (us.take n)
 |_,_,0,_=>.nil
 |_,_,_+1,.nil=>.nil
 |_,_,n+1,.cons r t=>.cons r (aT.take n t)
theorem aT.drop:∀{xs} {us} (n),aT xs us->aT (xs.drop n) (us.drop n)
 |_,_,0,r=>r
 |_,_,_+1,.nil=>.nil
 |_,_,n+1,.cons _ t=>aT.drop n t
def ia:Option V->Option Value->Prop
 |some v,some u=>RelV v u
 |none,none=>True
 |_,_=>False
def KV{κ:Type}:List (κ×V)->List (κ×Value)->Prop:=Paired λ(p:κ×V) (q:κ×Value)=>p.1=q.1/\RelV p.2 q.2
noncomputable def kV:Key->V
 |.inl i=>.int i
 |.inr x=>.str x
def oq(h:Heap)(a:Addr)(items:Array Value):Prop:=∃o,h.get? a=some o/\o.cls=.type "tuple"/\o.dict=none/\∃n,o.data=.seq items n
theorem oq.isTup(x:oq h a items):IsTup h a items:=let⟨o,e,c,_,d⟩:=x;⟨o,e,c,d⟩
theorem oq.lt(x:oq h a items):a<h.objs.size:=let⟨_,e,_⟩:=x;abQ e
theorem oq.new(h:Heap)(items:Array Value):oq (h.push { cls:=.type "tuple",data:=.seq items }) h.objs.size items:=⟨_,ab8 _ rfl,rfl,rfl,_,rfl⟩
inductive HO where
 |lst (xs:List V)
 |tup (xs:List V)
 |dK (ak:List (Key×V))|dT (ak:List (List Key×V))
 |set (S:Int->Bool) (n:Nat)
 |ins (C dx:Addr) (fs:List (Str×V))
 |own (x:Addr)
 |xd (fs:List (Str×V))
 |met (f x:Addr)
 |bY (lo hi:Int)
 |eV (o:Obj) (u:HO)
 |qk (ps:Array Value)
 |iE (q:Str) (pos:Pos)|ja (q:Str)
 |ext (φ:Heap->Prop)
noncomputable abbrev Hp:=Addr->Option HO
inductive lX where
 |tup (xs:List V)|uN (o:Obj) (xs:List V)|iE (q:Str) (pos:Pos)|ja (q:Str)
noncomputable def lX.ho:lX->HO
 |.tup xs=>.tup xs
 |.uN o xs=>.eV o (.tup xs)
 |.iE q p=>.iE q p
 |.ja q=>.ja q
noncomputable def lX.tp:lX->Option (List V)
 |.tup xs=>some xs
 |.uN _ xs=>some xs
 |_=>none
def Tk(H:Hp)(b:Addr)(xs:List V):Prop:=∃t:lX,t.tp=some xs/\H b=some t.ho
noncomputable def upd(H:Hp)(a:Addr)(o:HO):Hp:=λb=>if b=a then some o else H b
theorem cz:upd H a o a=some o:=by unfold upd;rw[if_pos rfl]
theorem aO(h:b≠a):upd H a o b=H b:=by unfold upd;rw[if_neg h]
theorem agh{H:Hp}(h:H a=some o)(h':H b=some u)(d:o≠u):a≠b:=by
 intro e;subst e;rw[h] at h';exact d (ab4 h')
theorem cZ{H:Hp}(h:H a=some o)(h':H b=none):a≠b:=by
 intro e;subst e;rw[h] at h';cases h'
section
variable(P:Program)(w:World)
def dz(H:Hp)(h:Heap)(a:Addr):HO->Prop
 |.lst xs=>xs.length<=sizeLine/\∃(au:List Value) (n:Nat),aT xs au/\h.get? a=some { cls:=.type "list",data:=.seq au.toArray n }
 |.tup xs=>xs.length<=sizeLine/\∃au:List Value,aT xs au/\oq h a au.toArray
 |.dK ak=>ak.length<=sizeLine/\(a==sysModules)=false/\∃vs,KV ak vs/\h.DictOf (gY P w) a vs
 |.dT ak=>ak.length<=sizeLine/\(a==sysModules)=false/\∃xs:List (List Key×Addr×Value),
   Paired (λ(p:List Key×V) (q:List Key×Addr×Value)=>p.1=q.1/\Tk H q.2.1 (p.1.map kV)/\RelV p.2 q.2.2) ak xs/\
   ∃o es ep,h.get? a=some o/\o.ExactDict/\o.data=.dict es ep/\es.toList=xs.map (entryOfKey (tupleKind (gY P w)))/\(xs.map (·.1)).Nodup
 |.set S n=>h.SetOf (intKind P w) a S n
 |.ins C dx fs=>H dx=some (.own a)/\fs.length<=1000/\dx≠a/\h.get? a=some (PySem.W.instObj C dx)/\
   ∃mA,h.Ns1 dx mA/\(∀f,ia (fs.lookup f) (mA f))/\PySem.Within mA (fs.map (·.1))
 |.own _=>∃o,h.get? a=some o
 |.xd fs=>∃mA,h.Ns1 a mA/\∀f,ia (fs.lookup f) (mA f)
 |.bY lo hi=>∃t u v,h.get? a=some { cls:=.type "range",data:=.fields #[.int lo t,.int hi u,.int 1 v] }
 |.eV o u=>h.get? a=some o/\dz H h a u
 |.qk ps=>h.get? a=some { cls:=.none,data:=.fields ps }
 |.iE q pos=>∃ps:Array Value,h.get? a=some { cls:=.none,data:=.fields ps }/\(ps=#[]\/∃c,ps=#[rawInt pos.line,rawInt pos.col,.ref c]/\H c=some (.ja q))
 |.ja q=>h.CodeRec (.ref a) q
 |.met f x=>h.get? a=some (PySem.W.methodObj (.ref f) (.ref x))
 |.ext φ=>φ h/\(∃o,h.get? a=some o)/\∀h1 h2:Heap,φ h1->(∀o,h1.get? a=some o->h2.get? a=some o)->φ h2
def cN(H:Hp)(h:Heap):Prop:=∀a o,H a=some o->dz P w H h a o
end
theorem dz.lt(x:dz P w H h a o):a<h.objs.size:=by
 cases o with
 |lst xs=>obtain⟨_,_,_,_,e⟩:=x;exact abQ e
 |tup xs=>obtain⟨_,_,_,p⟩:=x;exact p.lt
 |dK ak=>obtain⟨_,_,_,_,o,_,_,e,_⟩:=x;exact abQ e
 |dT ak=>obtain⟨_,_,_,_,o,_,_,e,_⟩:=x;exact abQ e
 |set S n=>obtain⟨o,_,_,_,e,_⟩:=x;exact abQ e
 |ins C dx fs=>obtain⟨_,_,_,e,_⟩:=x;exact abQ e
 |own y=>obtain⟨_,e⟩:=x;exact abQ e
 |xd fs=>obtain⟨_,⟨_,_,_,e,_⟩,_⟩:=x;exact abQ e
 |bY lo hi=>obtain⟨_,_,_,e⟩:=x;exact abQ e
 |eV ob u=>obtain⟨e,_⟩:=x;exact abQ e
 |qk ps=>exact abQ (show h.get? a=some _ from x)
 |iE q pos=>obtain⟨_,e,_⟩:=x;exact abQ e
 |ja q=>obtain⟨_,_,_,_,e,g,_⟩:=x;cases e;exact abQ g
 |met f y=>exact abQ (show h.get? a=some _ from x)
 |ext φ=>obtain⟨_,⟨_,e⟩,_⟩:=x;exact abQ e
theorem Paired.Ac:∀{MC} {LG},Paired F MC LG->(∀a b,F a b->G a b)->Paired G MC LG
 |_,_,.nil,_=>.nil
 |_,_,.cons r t,f=>.cons (f _ _ r) (Paired.Ac t f)
theorem dz.gx(x:dz P w H h a o)(k:∀b u,(b=a\/H b=some (.own a))->h.get? b=some u->h'.get? b=some u)
  (ho:∀b,H b=some (.own a)->H' b=some (.own a)) (ht:∀b (t:lX),H b=some t.ho->H' b=some t.ho):dz P w H' h' a o:=by
 induction o with
 |lst xs=>obtain⟨z,au,n,r,e⟩:=x;exact⟨z,au,n,r,k _ _ (.inl rfl) e⟩
 |tup xs=>obtain⟨z,au,r,ob,e,c⟩:=x;exact⟨z,au,r,ob,k _ _ (.inl rfl) e,c⟩
 |dK ak=>obtain⟨z,y,vs,r,ob,es,ep,e,c⟩:=x;exact⟨z,y,vs,r,ob,es,ep,k _ _ (.inl rfl) e,c⟩
 |dT ak=>
  obtain⟨z,y,xs,r,ob,es,ep,e,c⟩:=x;exact⟨z,y,xs,Paired.Ac r λp q z=>⟨z.1,let⟨t,e,g⟩:=z.2.1;⟨t,e,ht _ t g⟩,z.2.2⟩,ob,es,ep,k _ _ (.inl rfl) e,c⟩
 |set S n=>obtain⟨ob,es,ep,t,e,c⟩:=x;exact⟨ob,es,ep,t,k _ _ (.inl rfl) e,c⟩
 |ins C dx fs=>
  obtain⟨d,z,ne,e,mA,⟨od,es,ep,e2,c⟩,r⟩:=x;exact⟨ho _ d,z,ne,k _ _ (.inl rfl) e,mA,⟨od,es,ep,k _ _ (.inr d) e2,c⟩,r⟩
 |own y=>obtain⟨ob,e⟩:=x;exact⟨ob,k _ _ (.inl rfl) e⟩
 |xd fs=>obtain⟨mA,⟨od,es,ep,e,c⟩,r⟩:=x;exact⟨mA,⟨od,es,ep,k _ _ (.inl rfl) e,c⟩,r⟩
 |bY lo hi=>obtain⟨t,u,v,e⟩:=x;exact⟨t,u,v,k _ _ (.inl rfl) e⟩
 |eV ob u ih=>obtain⟨e,q⟩:=x;exact⟨k _ _ (.inl rfl) e,ih q⟩
 |iE q pos=>obtain⟨ps,e,g⟩:=x;exact⟨ps,k _ _ (.inl rfl) e,g.imp id λ⟨c,e1,e2⟩=>⟨c,e1,ht c (.ja q) e2⟩⟩
 |ja q=>obtain⟨_,o,vs,t,e,g,r⟩:=x;cases e;exact⟨_,o,vs,t,rfl,k _ _ (.inl rfl) g,r⟩
 |qk ps=>
  have e:=x;exact k a _ (.inl rfl) e
 |met f y=>
  have e:=x;exact k a _ (.inl rfl) e
 |ext φ=>obtain⟨p,⟨o,e⟩,st⟩:=x;exact⟨st _ _ p λo q=>k _ _ (.inl rfl) q,⟨o,k _ _ (.inl rfl) e⟩,st⟩
theorem cN.lt(x:cN P w H h)(e:H a=some o):a<h.objs.size:=(x a o e).lt
theorem cN.fresh(x:cN P w H h)(e:h.objs.size<=a):H a=none:=by
 cases q:H a with
 |none=>rfl
 |some u=>exact absurd (ac5 (x.lt q) e) (aeX _)
theorem cN.kept(x:cN P w H h)(k:∀b u,h.get? b=some u->h'.get? b=some u):cN P w H h':=λa o e=>
 (x a o e).gx (λb u _ q=>k b u q) (λ_ q=>q) λ_ _ q=>q
theorem cN.laid(x:cN P w H h)(k:∀b u,h.get? b=some u->h'.get? b=some u)(hp:h.objs.size<=a)(new:dz P w (upd H a o) h' a o):cN P w (upd H a o) h':=λb u e=>by
 have hn:=x.fresh hp
 by_cases hb:b=a
 .subst hb;rw[cz] at e;cases e;exact new
 .rw[aO hb] at e;exact(x b u e).gx (λc v _ q=>k c v q) (λc q=>by rw[aO (cZ q hn)];exact q) λc xs q=>by rw[aO (cZ q hn)];exact q
def Rd(H:Hp)(a:Addr)(u:HO):Prop:=H a=some u\/∃o,H a=some (.eV o u)
theorem Rd.ok(r:Rd H a u)(x:cN P w H h):dz P w H h a u:=by
 rcases r with r|⟨o,r⟩
 .exact x a u r
 .obtain⟨_,q⟩:=x a _ r;exact q
def yI:Option HO->Prop
 |some (.lst _)=>True
 |some (.dK _)=>True
 |some (.dT _)=>True
 |some (.set _ _)=>True
 |some (.ins _ _ _)=>True
 |some (.ext _)=>True
 |_=>False
theorem cN.write(ok:cN P w H h)(mu:yI (H x))(he:e=x\/H e=some (.own x))(k:∀b u,b≠e->h.get? b=some u->h'.get? b=some u)(uL:∃u,h'.get? e=some u)
  (new:dz P w (upd H x o') h' x o'):cN P w (upd H x o') h':=λb u q=>by
 have LQ:∀c y,H c=some (.own y)->c≠x:=λc y r z=>by subst z;rw[r] at mu;exact mu
 have UN:∀c (t:lX),H c=some t.ho->c≠x:=λc t r z=>by subst z;rw[r] at mu;cases t<;>exact mu
 by_cases hb:b=x
 .subst hb;rw[cz] at q;cases q;exact new
 .rw[aO hb] at q
  by_cases rB:b=e
  .have q':H b=some (.own x):=by
    rcases he with z|z
    .exact absurd (rB.trans z) hb
    .rw[rB];exact z
   rw[q] at q';cases q';obtain⟨v,hv⟩:=uL;exact⟨v,by rw[rB];exact hv⟩
  .refine(ok b u q).gx (λc v hc r=>k c v ?_ r) (λc r=>by rw[aO (LQ c b r)];exact r) λc xs r=>by rw[aO (UN c xs r)];exact r
   rcases hc with rfl|hc
   .exact rB
   .rintro rfl
    rcases he with z|z
    .exact LQ c b hc z
    .rw[hc] at z;cases z;exact hb rfl
structure Un(fs ex:List Addr)(H H':Hp)(h h':Heap):Prop where
 keep:∀b o,h.get? b=some o->H b=none->b∉fs->b∉ex->h'.get? b=some o
 slot:∀b o,h.get? b=some o->H b=none->b∈fs->b∉ex->∃sl,h'.get? b=some { o with slots:=sl }
 free:∀b o,h.get? b=some o->H b=none->b∉ex->H' b=none
 there:∀b o,h.get? b=some o->b∉ex->∃o',h'.get? b=some o'
 jl:∀b (t:lX),H b=some t.ho->H' b=some t.ho
 jk:∀b o u,H b=some (.eV o u)->H' b=some (.eV o u)
 kK:∀b ps,H b=some (.qk ps)->∃more,H' b=some (.qk (ps++more))
theorem Un.any(u:Un fs ex H H1 h h1)(q:h.get? b=some ob)(n:H b=none)(hx:b∉ex):∃sl,h1.get? b=some { ob with slots:=sl }:=by
 by_cases hb:b∈fs
 .exact u.slot b ob q n hb hx
 .exact⟨ob.slots,u.keep b ob q n hb hx⟩
theorem Un.kept(k:∀b u,h.get? b=some u->h'.get? b=some u):Un fs ex H H h h':=
 ⟨λb ob q _ _ _=>k b ob q,λb ob q _ _ _=>⟨ob.slots,k b ob q⟩,λ_ _ _ n _=>n,λb ob q _=>⟨ob,k b ob q⟩,λ_ _ q=>q,λ_ _ _ q=>q,λ_ ps q=>⟨#[],by rw[q];simp⟩⟩
theorem Un.refl:Un fs ex H H h h:=Un.kept λ_ _ q=>q
theorem Un.laid(k:∀b u,h.get? b=some u->h'.get? b=some u)(hp:h.objs.size<=a)(hn:H a=none):Un fs ex H (upd H a o) h h' where
 keep:=λb u q _ _ _=>k b u q
 slot:=λb u q _ _ _=>⟨u.slots,k b u q⟩
 free:=λb u q n _=>by rw[aO (acL (ac5 (abQ q) hp))];exact n
 there:=λb u q _=>⟨u,k b u q⟩
 jl:=λb xs q=>by rw[aO (cZ q hn)];exact q
 jk:=λb u xs q=>by rw[aO (cZ q hn)];exact q
 kK:=λb ps q=>⟨#[],by rw[aO (cZ q hn),q];simp⟩
theorem Un.write(mu:yI (H x))(he:e=x\/H e=some (.own x))(k:∀b u,b≠e->h.get? b=some u->h'.get? b=some u)(uL:∃u,h'.get? e=some u):Un fs ex H (upd H x o) h h':=by
 have hx:∀b,H b=none->b≠x:=λb n z=>by subst z;rw[n] at mu;exact mu
 have hb:∀b,H b=none->b≠e:=λb n z=>by
  subst z;rcases he with r|r
  .exact hx b n r
  .rw[n] at r;cases r
 have hm:∀b u,H b=some u->¬yI (some u)->b≠x:=λb u q nm z=>by subst z;rw[q] at mu;exact nm mu
 refine⟨λb u q n _ _=>k b u (hb b n) q,λb u q n _ _=>⟨u.slots,k b u (hb b n) q⟩,λb u q n _=>by rw[aO (hx b n)];exact n,λb u q _=>?_,
  λb xs q=>by rw[aO (hm b _ q (by cases xs<;>exact λz=>z))];exact q,λb u xs q=>by rw[aO (hm b _ q λz=>z)];exact q,λb ps q=>⟨#[],by rw[aO (hm b _ q λz=>z),q];simp⟩⟩
 by_cases rB:b=e
 .subst rB;exact uL
 .exact⟨u,k b u rB q⟩
noncomputable def zQ(h:Heap)(H:Hp):List Addr:=(List.range h.objs.size).filter λa=>(H a).isSome
def p_(h:Heap)(H:Hp):Heap:=PySem.W.hideAll h (zQ h H)
theorem aej(h:Heap)(H:Hp):(p_ h H).objs.size=h.objs.size:=PySem.W.hideAll_size _ _
theorem GU(e:h.get? b=some o)(n:H b=none):(p_ h H).get? b=some o:=
 PySem.W.hideAll_get _ e λhm=>by
  have q:=(acX.mp hm).2;rw[n] at q;simp at q
theorem Yu(e:(p_ h H).get? b=some o):h.get? b=some o/\H b=none:=by
 have e':=PySem.W.of_hideAll (zQ h H) e;refine⟨e',?_⟩;cases q:H b with
 |none=>rfl
 |some x=>
  have hm:b∈zQ h H:=acX.mpr ⟨ahp.mpr (abQ e'),by simp[q]⟩;have z:(p_ h H).get? b=none:=PySem.W.hideAll_none (zQ h H) hm;rw[z] at e;cases e
structure Mod(K:PySem.W.Frag)(mg:Str->Option Value)(base:Heap):Prop where
 sO:K.In base
 glob:base.Ns mainGlobals mg
 blt:∃mb,base.Ns builtinsNs mb/\∀x:Str,x≠"__name__"->mb x=bootBuiltins x
 nolimit:base.NoLimit
 VJ:∃bm ob,mg "__builtins__"=some (.ref bm)/\bm≠builtinsNs/\base.get? bm=some ob/\ob.cls=.type "module"/\ob.dict=some builtinsNs/\ob.data=.plain
structure Cx where
 prog:Program
 w:World
 K:PySem.W.Frag
 mg:Str->Option Value
 base:Heap
 A:Around
 N:List Str
 cI:Shared
 vd:Hp
 env:Env
 outer:List Env
 stack:List Env
 ex:List Addr
 fn:Str->Bool
 calm:Bool
 pn:List (Addr×Obj)
 xe:Value->Shared->Prop
abbrev Z4{α:Type}(X:Cx)(A:Around)(t:Sem α):=wpAny (model X.prog X.w) A t
abbrev Y1(X:Cx)(a:Expr):Prop:=starEach [a] X.env=[(false,eval a X.env)]
abbrev z5(X:Cx)(x:Str):Prop:=X.fn x=true\/X.env.scope.names.lookup x=some .local
noncomputable def aY(l:List Env):List Addr:=l.filterMap (·.frame)
abbrev Cx.fs(X:Cx):List Addr:=aY X.outer
def ED(sc:Scope)(x:Str):Prop:=sc.names.lookup x=some .local\/sc.names.lookup x=some .cell\/sc.names.lookup x=some .free
def Loc(sc:Scope)(x:Str):Prop:=sc.names.lookup x=some .local\/sc.names.lookup x=some .cell
def Look(env:Env)(h:Heap)(m:Str->Option Value)(x:Str)(u:Value):Prop:=
 (env.kindOf x=some .local/\m x=some u)\/((env.kindOf x=some .cell\/env.kindOf x=some .free)/\∃c,env.cells.lookup x=some c/\h.IsCell c (some u))
structure Cx.Ok(X:Cx):Prop where
 mod:Mod X.K X.mg X.base
 kind:X.env.scope.kind=.function
 glob:X.env.globals=mainGlobals
 blt:X.env.builtins=builtinsNs
 above:X.cI.heap.objs.size<=X.env.locals
 inj:∀x y c,X.env.cells.lookup x=some c->X.env.cells.lookup y=some c->x=y
 has:∀x,(X.env.kindOf x=some .cell\/X.env.kindOf x=some .free)->∃c,X.env.cells.lookup x=some c
 oZ:∀x c,X.fn x=true->X.env.cells.lookup x=some c->X.cI.heap.objs.size<=c
 hd:X.calm=true->X.A.handled=none
 frames:X.A.frames=some X.stack
 qf:X.stack=X.outer\/(X.stack=X.env::X.outer/\X.env.frame=some X.env.locals)
 tN:∀b∈X.ex,b≠X.env.locals/\∀x c,X.env.cells.lookup x=some c->c≠b
 bs:∀b o,X.base.get? b=some o->X.cI.heap.get? b=some o/\X.vd b=none
 jb:X.base.objs.size<=X.cI.heap.objs.size
 pA:∀b o,X.base.get? b=some o->b∉X.ex
 nO:∀b∈X.ex,b∉X.fs
 jc:X.cI.heap.FunFrames X.base X.outer
 lD:∀b∈X.fs,X.vd b=none
def sI(A:Around)(H:Hp):Prop:=A.handled=none\/∃(a:Addr) (ob:Obj) (u:HO) (vs:Array Value),A.handled=some (.ref a)/\H a=some (.eV ob u)/\ob.data=.fields vs/\vs[2]? = some .none
theorem sI.mono(h:sI A H)(f:∀b o u,H b=some (.eV o u)->H' b=some (.eV o u)):sI A H':=h.elim .inl λ⟨a,ob,u,vs,h1,h2,h3⟩=>.inr ⟨a,ob,u,vs,h1,f _ _ _ h2,h3⟩
structure Hq(K:PySem.W.Frag)(A:Around)(H:Hp):Prop where
 hd:sI A H
 ok:yX K=true
 lm:∀r∈iX K,H r.2.1=some (.iE r.2.2.1 r.2.2.2)
theorem Hq.mono{K:PySem.W.Frag}(h:Hq K A H)(f:∀b o u,H b=some (.eV o u)->H' b=some (.eV o u))(g:∀b (t:lX),H b=some t.ho->H' b=some t.ho):Hq K A H':=
 ⟨h.hd.mono f,h.ok,λr m=>g _ (.iE _ _) (h.lm r m)⟩
structure Inv(X:Cx)(af:List (Addr×Obj))(σ:List (Option V))(H:Hp)(s:Shared):Prop where
 ok:X.Ok
 os:s.os=X.cI.os
 bare:AllBare s.gens
 base:Un X.fs X.ex X.vd H X.cI.heap s.heap
 loc:∃m,s.heap.Ns X.env.locals m/\∀(i:Nat) (x) (v),X.N[i]? = some x->σ[i]? = some (some v)->ED X.env.scope x->∃u,RelV v u/\Look X.env s.heap m x u
 cell:∀x c,X.env.cells.lookup x=some c->∃v,s.heap.IsCell c v
 free:H X.env.locals=none
 gW:∀x c,X.env.cells.lookup x=some c->H c=none
 pin:∀p∈X.pn++af,s.heap.get? p.1=some p.2/\H p.1=none/\p.1≠X.env.locals/\p.1∉X.fs/\∀v,p.2.data≠.cell v
 aF:cN X.prog X.w H s.heap
 len:σ.length=X.N.length
 hq:Hq X.K X.A H
section
variable{X:Cx}
theorem Cx.Ok.Yx(ok:X.Ok)(e:X.base.get? b=some o):b∉X.fs:=λhb=>by
 have:=(ok.jc.mem hb).1;rw[e] at this;cases this
theorem Inv.bs(I:Inv X af σ H s):∀b o,X.base.get? b=some o->s.heap.get? b=some o/\H b=none:=λb o e=>
 ⟨I.base.keep b o (I.ok.bs b o e).1 (I.ok.bs b o e).2 (I.ok.Yx e) (I.ok.pA b o e),I.base.free b o (I.ok.bs b o e).1 (I.ok.bs b o e).2 (I.ok.pA b o e)⟩
theorem Inv.bk(I:Inv X af σ H s):∀b o,X.base.get? b=some o->s.heap.get? b=some o:=λb o e=>(I.bs b o e).1
theorem Inv.mod(I:Inv X af σ H s):Mod X.K X.mg X.base:=I.ok.mod
theorem Inv.c8(I:Inv X af σ H s):X.K.In s.heap:=I.ok.mod.sO.keeps I.bk
theorem Inv.lt(I:Inv X af σ H s):X.env.locals<s.heap.objs.size:=let⟨_,hn,_⟩:=I.loc;hn.lt
theorem Inv.sz(I:Inv X af σ H s):X.cI.heap.objs.size<=s.heap.objs.size:=adR I.ok.above (afk I.lt)
theorem Inv.RP(I:Inv X af σ H s)(h:s.heap.objs.size<=a):a∉X.fs:=λhb=>by
 obtain⟨_,o,ho,_⟩:=I.ok.jc.mem hb;exact absurd (ac5 (abQ ho) (adR I.sz h)) (aeX _)
theorem Inv.jK(I:Inv X af σ H s):∀x c,X.env.cells.lookup x=some c->c≠X.env.locals:=λx c e z=>by
 obtain⟨v,o,ho,hd⟩:=I.cell x c e;obtain⟨m,⟨o',es,ep,lO,Gv,_⟩,_⟩:=I.loc;rw[z,lO] at ho;cases ho;rw[Gv] at hd;cases hd
theorem Inv.jc(I:Inv X af σ H s):s.heap.FunFrames X.base X.outer:=by
 have all:∀(l:List Env),(∀b∈aY l,b∈X.fs)->X.cI.heap.FunFrames X.base l->s.heap.FunFrames X.base l:=by
  intro l
  induction l with
  |nil=>intro _ _;trivial
  |cons env r ih=>
   intro hs hl;obtain⟨hk,⟨L,o,hf,hn,ho,hd⟩,hr⟩:=hl;have hL:=hs L (by unfold aY;rw[ael,hf];exact aak);obtain⟨sl,e⟩:=I.base.slot L o ho (I.ok.lD L hL) hL λz=>I.ok.nO L z hL
   exact⟨hk,⟨L,_,hf,hn,e,hd⟩,ih (λb hb=>hs b (by unfold aY;rw[ael,hf];exact aaf _ hb)) hr⟩
 exact all X.outer (λ_ hb=>hb) I.ok.jc
theorem Inv.stack(I:Inv X af σ H s):s.heap.FunFrames X.base X.stack:=by
 rcases I.ok.qf with e|⟨e,hf⟩
 .rw[e];exact I.jc
 .rw[e];obtain⟨m,hn,_⟩:=I.loc;refine .cons (by rw[I.ok.kind];decide) hf hn ?_ I.jc;exact ag4 (adR I.ok.jb I.ok.above)
theorem Inv.CG(I:Inv X af σ H s):∀b∈aY X.stack,b∈X.env.locals::X.fs:=λb hb=>by
 rcases I.ok.qf with e|⟨e,hf⟩
 .rw[e] at hb;exact aaf _ hb
 .rw[e] at hb;unfold aY at hb;rw[ael,hf] at hb;exact hb
theorem Inv.ug(I:Inv X af σ H s):∀b∈aY X.stack,H b=none:=λb hb=>by
 rcases aaQ.mp (I.CG b hb) with e|hb
 .rw[e];exact I.free
 .obtain⟨_,o,ho,_⟩:=I.ok.jc.mem hb;exact I.base.free b o ho (I.ok.lD b hb) λz=>I.ok.nO b z hb
theorem Inv.step{ch:List Addr}(I:Inv X af σ H s)
  (mS:∀b∈ch,(b∈X.ex\/X.cI.heap.objs.size<=b)/\b≠X.env.locals/\(∀x c,X.env.cells.lookup x=some c->c≠b)/\∀p∈X.pn++af,p.1≠b)
  (keep:∀b o,b≠X.env.locals->b∉X.fs->b∉ch->s.heap.get? b=some o->H b=none->h'.get? b=some o)
  (slot:∀b o,b≠X.env.locals->b∈X.fs->b∉ch->s.heap.get? b=some o->H b=none->∃sl,h'.get? b=some { o with slots:=sl }) (free:∀b o,b∉ch->s.heap.get? b=some o->H b=none->H' b=none)
  (there:∀b o,b∉ch->s.heap.get? b=some o->∃o',h'.get? b=some o')
  (jl:∀b (t:lX),H b=some t.ho->H' b=some t.ho) (jk:∀b o u,H b=some (.eV o u)->H' b=some (.eV o u)) (kK:∀b ps,H b=some (.qk ps)->∃more,H' b=some (.qk (ps++more)))
  (ns:∀m,s.heap.Ns X.env.locals m->h'.Ns X.env.locals m) (aF:cN X.prog X.w H' h') (hg:AllBare g') :
  Inv X af σ H' { s with heap:=h',gens:=g',drawn:=d',toks:=t' }:=by
 have BS:∀b o,X.cI.heap.get? b=some o->b≠X.env.locals:=λb o e=>acL (ac5 (abQ e) I.ok.above)
 have Br:∀b o,X.cI.heap.get? b=some o->b∉X.ex->b∉ch:=λb o e hx hb=>by
  rcases(mS b hb).1 with z|z
  .exact hx z
  .exact absurd (ac5 (abQ e) z) (aeX _)
 have cellK:∀x c,X.env.cells.lookup x=some c->∀v,s.heap.IsCell c v->h'.IsCell c v:=λx c e v ⟨o,ho,hd⟩=>by
  have lV:c∉ch:=λz=>(mS c z).2.2.1 x c e rfl
  by_cases hc:c∈X.fs
  .obtain⟨sl,q⟩:=slot c o (I.jK x c e) hc lV ho (I.gW x c e);exact⟨_,q,hd⟩
  .exact⟨o,keep c o (I.jK x c e) hc lV ho (I.gW x c e),hd⟩
 refine⟨I.ok,I.os,hg,⟨λb o e n hb hx=>?_,λb o e n hb hx=>?_,λb o e n hx=>?_,λb o e hx=>?_,λb xs e=>jl b xs (I.base.jl b xs e),λb o xs e=>jk b o xs (I.base.jk b o xs e),λb ps e=>?_⟩,?_,λx c e=>?_,?_,λx c e=>?_,λp hp=>?_,aF,I.len,I.hq.mono jk jl⟩
 .exact keep b o (BS b o e) hb (Br b o e hx) (I.base.keep b o e n hb hx) (I.base.free b o e n hx)
 .exists 62;obtain⟨pY,e2⟩:=slot b _ (BS b o e) hb (Br b o e hx) e1 (I.base.free b o e n hx);exact⟨pY,e2⟩
 .exists 56;exact free b o' (Br b o e hx) e1 (I.base.free b o e n hx)
 .exists 56;exact there b o' (Br b o e hx) e1
 .obtain⟨m1,e1⟩:=I.base.kK b ps e;obtain⟨m2,e2⟩:=kK b _ e1;exact⟨m1++m2,by rw[e2,Array.append_assoc]⟩
 .obtain⟨m,hn,hl⟩:=I.loc;refine⟨m,ns m hn,λi x v e1 e2 e3=>?_⟩;obtain⟨u,r,l⟩:=hl i x v e1 e2 e3;refine⟨u,r,?_⟩;rcases l with l|⟨k,c,e,z⟩
  .exact .inl l
  .exact .inr ⟨k,c,e,cellK x c e _ z⟩
 .obtain⟨v,z⟩:=I.cell x c e;exact⟨v,cellK x c e v z⟩
 .obtain⟨m,⟨o,_,_,ho,_⟩,_⟩:=I.loc;exact free _ o (λz=>(mS _ z).2.1 rfl) ho I.free
 .obtain⟨v,o,ho,hd⟩:=I.cell x c e;exact free c o (λz=>(mS c z).2.2.1 x c e rfl) ho (I.gW x c e)
 .obtain⟨e,n,ne,nf,d⟩:=I.pin p hp;have lV:p.1∉ch:=λz=>(mS p.1 z).2.2.2 p hp rfl
  exact⟨keep p.1 p.2 ne nf lV e n,free p.1 p.2 lV e n,ne,nf,d⟩
theorem Inv.un(I:Inv X af σ H s)(u:Un X.fs [] H H' s.heap h')(aF:cN X.prog X.w H' h'):Inv X af σ H' { s with heap:=h',toks:=t' }:=by
 obtain⟨m,⟨o,es,ep,ho,r⟩,_⟩:=id I.loc;obtain⟨sl,hL⟩:=u.any ho I.free (by simp);exact I.step (g':=s.gens) (d':=s.drawn) (ch:=[]) (λ_ z=>nomatch z) (λb o _ hb _ e n=>u.keep b o e n hb (by simp)) (λb o _ hb _ e n=>u.slot b o e n hb (by simp)) (λb o _ e n=>u.free b o e n (by simp)) (λb o _ e=>u.there b o e (by simp)) u.jl u.jk u.kK (λm' hm=>by
  obtain⟨o',d8,wW,lO,r'⟩:=hm;rw[ho] at lO;cases lO;exact⟨_,d8,wW,hL,r'⟩) aF I.bare
theorem Inv.call{ch:List Addr}(I:Inv X af σ H s)(u:Un (aY X.stack) ch H H' s.heap h')(aF:cN X.prog X.w H' h')(hg:AllBare g')
  (mS:∀b∈ch,(b∈X.ex\/X.cI.heap.objs.size<=b)/\b≠X.env.locals/\(∀x c,X.env.cells.lookup x=some c->c≠b)/\∀p∈X.pn++af,p.1≠b) :
  Inv X af σ H' { s with heap:=h',gens:=g',drawn:=d',toks:=t' }:=by
 obtain⟨m,⟨o,es,ep,ho,r⟩,_⟩:=id I.loc;obtain⟨sl,hL⟩:=u.any ho I.free λz=>(mS _ z).2.1 rfl
 exact I.step (ch:=ch) mS (λb o hL hb hc e n=>u.keep b o e n (λz=>(aaQ.mp (I.CG b z)).elim hL hb) hc) (λb o _ _ hc e n=>u.any e n hc) (λb o hc e n=>u.free b o e n hc) (λb o hc e=>u.there b o e hc) u.jl u.jk u.kK (λm' hm=>by
  obtain⟨o',d8,wW,lO,r'⟩:=hm;rw[ho] at lO;cases lO;exact⟨_,d8,wW,hL,r'⟩) aF hg
theorem Inv.turned{it:Addr}(I:Inv X af σ H s)(k:∀b o,b≠it->s.heap.get? b=some o->h'.get? b=some o)(hn:H it=none)(hL:it≠X.env.locals)
  (h1:it∈X.ex\/X.cI.heap.objs.size<=it) (h2:∀x c,X.env.cells.lookup x=some c->c≠it) (h3:∀p∈X.pn++af,p.1≠it):Inv X af σ H { s with heap:=h',toks:=t' }:=by
 have Me:∀b u,H b=some u->b≠it:=λb u e z=>by rw[z,hn] at e;cases e
 refine I.step (g':=s.gens) (d':=s.drawn) (ch:=[it]) (λb hb=>?_) (λb o _ _ hc e _=>k b o (λz=>hc (by simp[z])) e) (λb o _ _ hc e _=>⟨o.slots,k b o (λz=>hc (by simp[z])) e⟩) (λ_ _ _ _ n=>n)
  (λb o hc e=>⟨o,k b o (λz=>hc (by simp[z])) e⟩) (λ_ _ e=>e) (λ_ _ _ e=>e) (λb ps e=>⟨#[],by rw[e];simp⟩) (λm hm=>?_) (λb u e=>?_) I.bare
 .have e:b=it:=by simpa using hb
  subst e;exact⟨h1,hL,h2,h3⟩
 .obtain⟨o,es,ep,ho,r⟩:=hm;exact⟨o,es,ep,k _ o (afH hL) ho,r⟩
 .refine(I.aF b u e).gx (λc v hc q=>k c v ?_ q) (λ_ q=>q) λ_ _ q=>q
  rcases hc with z|z
  .rw[z];exact Me b u e
  .exact Me c _ z
theorem Inv.tok(I:Inv X af σ H s)(t:Nat):Inv X af σ H { s with toks:=t }:=I.un Un.refl I.aF
theorem Inv.kept(I:Inv X af σ H s)(k:∀b u,s.heap.get? b=some u->h'.get? b=some u):Inv X af σ H { s with heap:=h',toks:=t' }:=I.un (Un.kept k) (I.aF.kept k)
theorem Inv.laid(I:Inv X af σ H s)(k:∀b u,s.heap.get? b=some u->h'.get? b=some u)(hp:s.heap.objs.size<=a)(new:dz X.prog X.w (upd H a o) h' a o):
  Inv X af σ (upd H a o) { s with heap:=h',toks:=t' }:=I.un (Un.laid k hp (I.aF.fresh hp)) (I.aF.laid k hp new)
theorem Inv.write(I:Inv X af σ H s)(mu:yI (H x))(he:e=x\/H e=some (.own x))(k:∀b u,b≠e->s.heap.get? b=some u->h'.get? b=some u)(uL:∃u,h'.get? e=some u)
  (new:dz X.prog X.w (upd H x o) h' x o):Inv X af σ (upd H x o) { s with heap:=h',toks:=t' }:=I.un (Un.write mu he k uL) (I.aF.write mu he k uL new)
theorem Inv.tE(I:Inv X af σ H s)(h:∀p∈wC,s.heap.get? p.1=some p.2/\H p.1=none/\p.1≠X.env.locals/\p.1∉X.fs/\∀v,p.2.data≠.cell v):Inv X wC σ H s:=
 ⟨I.ok,I.os,I.bare,I.base,I.loc,I.cell,I.free,I.gW,λp hp=>(abB.mp hp).elim (λz=>I.pin p (abp _ z)) (h p),I.aF,I.len,I.hq⟩
theorem Gp{N:List Str}(hN:N.Nodup){i j:Nat}(a:N[i]? = some x)(b:N[j]? = some x):i=j:=by
 obtain⟨h1,e1⟩:=abD.mp a;obtain⟨h2,e2⟩:=abD.mp b;exact(List.getElem_inj hN).mp (e1.trans e2.symm)
theorem Mc{M:Model}(I:Inv X af σ H s)(hN:X.N.Nodup)(hi:X.N[i]? = some x)(hx:Loc X.env.scope x)(r:RelV v u)
  (h:∀s',Inv X af (σ.set i (some v)) H s'->(∃a,Heap.SameBut a s.heap s'.heap/\(a=X.env.locals\/X.env.cells.lookup x=some a))->Q () s') (hf:z5 X x:=by first|exact .inl rfl|exact .inr rfl|assumption):wpAny M A (storeName X.env x u) Q E s:=by
 obtain⟨m,hn,hl⟩:=id I.loc;have yo:(X.env.scope.kind == .class||(X.env.scope.kind == .module&&X.env.locals != X.env.globals))=false:=by rw[I.ok.kind];rfl
 have Lu:i<σ.length:=by rw[I.len];exact(abD.mp hi).1
 have jK:=I.jK;have tracked:∀{a:Addr} {h'},(∃o,s.heap.get? a=some o/\H a=none)->Heap.SameBut a s.heap h'->cN X.prog X.w H h':=λ{a h'} ha hs b ob e=>by
  obtain⟨_,_,NQ⟩:=ha;refine(I.aF b ob e).gx (λc w' hc q=>(hs.2 c ?_).trans q) (λ_ q=>q) λ_ _ q=>q
  rintro rfl
  rcases hc with rfl|hc
  .rw[NQ] at e;cases e
  .rw[NQ] at hc;cases hc
 rcases hx with hk|hk
 .refine wpAny_storeName_local hk hn (λh' Ep hs=>?_) yo;obtain⟨oL,_,_,Bx,_⟩:=id hn;refine h _ ⟨I.ok,I.os,I.bare,⟨λb o e n hb hx=>?_,λb o e n hb hx=>?_,I.base.free,λb o e hx=>?_,I.base.jl,I.base.jk,I.base.kK⟩,⟨_,Ep,λj y v' e1 e2 e3=>?_⟩,λy c e=>?_,I.free,I.gW,λp hp=>?_,tracked ⟨oL,Bx,I.free⟩ hs,by simpa using I.len,I.hq⟩ ⟨_,hs,.inl rfl⟩
  .exact(hs.2 b (acL (ac5 (abQ e) I.ok.above))).trans (I.base.keep b o e n hb hx)
  .exists 62;exact⟨sl,(hs.2 b (acL (ac5 (abQ e) I.ok.above))).trans e1⟩
  .exists 56;exact⟨o',(hs.2 b (acL (ac5 (abQ e) I.ok.above))).trans e1⟩
  .by_cases hj:j=i
   .subst hj;rw[hi] at e1;cases e1;rw[aer Lu] at e2;cases e2;exact⟨u,r,.inl ⟨hk,by simp⟩⟩
   .rw[acY (afH hj)] at e2;obtain⟨u',r',q⟩:=hl j y v' e1 e2 e3;refine⟨u',r',?_⟩;rcases q with⟨k,e⟩|⟨k,c,e,z⟩
    .refine .inl ⟨k,?_⟩;have:y≠x:=λe=>hj (Gp hN e1 (e ▸ hi))
     simp[this,e]
    .exact .inr ⟨k,c,e,z.sameBut hs (jK y c e)⟩
  .obtain⟨w',z⟩:=I.cell y c e;exact⟨w',z.sameBut hs (jK y c e)⟩
  .obtain⟨e,n,ne,nf,d⟩:=I.pin p hp;exact⟨(hs.2 p.1 ne).trans e,n,ne,nf,d⟩
 .have JQ:X.fn x=true:=by
   rcases hf with z|z
   .exact z
   .rw[z] at hk;cases hk
  obtain⟨c,hc⟩:=I.ok.has x (.inl hk);obtain⟨w',z⟩:=I.cell x c hc;refine wpAny_storeName_cell I.ok.kind hk hc z (λh' sD hs=>?_);obtain⟨oc,kQ,YS⟩:=id z;refine h { s with heap:=h' } ⟨I.ok,I.os,I.bare,⟨λb o e n hb hx=>?_,λb o e n hb hx=>?_,I.base.free,λb o e hx=>?_,I.base.jl,I.base.jk,I.base.kK⟩,⟨m,hn.sameBut hs (afH (jK x c hc)),λj y v' e1 e2 e3=>?_⟩,λy c' e=>?_,I.free,I.gW,λp hp=>?_,tracked ⟨oc,kQ,I.gW x c hc⟩ hs,by simpa using I.len,I.hq⟩ ⟨c,hs,.inr hc⟩
  .exact(hs.2 b (acL (ac5 (abQ e) (I.ok.oZ x c JQ hc)))).trans (I.base.keep b o e n hb hx)
  .exists 62;exact⟨sl,(hs.2 b (acL (ac5 (abQ e) (I.ok.oZ x c JQ hc)))).trans e1⟩
  .exists 56;exact⟨o',(hs.2 b (acL (ac5 (abQ e) (I.ok.oZ x c JQ hc)))).trans e1⟩
  .by_cases hj:j=i
   .subst hj;rw[hi] at e1;cases e1;rw[aer Lu] at e2;cases e2;exact⟨u,r,.inr ⟨.inl hk,c,hc,sD⟩⟩
   .rw[acY (afH hj)] at e2;obtain⟨u',r',q⟩:=hl j y v' e1 e2 e3;refine⟨u',r',?_⟩;rcases q with q|⟨k,c',e,z'⟩
    .exact .inl q
    .refine .inr ⟨k,c',e,z'.sameBut hs ?_⟩
     rintro rfl
     exact hj (Gp hN e1 (I.ok.inj _ _ _ e hc ▸ hi))
  .by_cases N_:c'=c
   .subst N_;exact⟨_,sD⟩
   .obtain⟨w2,z2⟩:=I.cell y c' e;exact⟨w2,z2.sameBut hs N_⟩
  .obtain⟨e,n,ne,nf,d⟩:=I.pin p hp;refine⟨(hs.2 p.1 ?_).trans e,n,ne,nf,d⟩;intro q;rw[q,kQ] at e;have q':=ab4 e;exact d w' (by rw[<- q'];exact YS)
theorem zI(I:Inv X af σ H s)(hN:X.N.Nodup)(hi:X.N[i]? = some x)(hx:Loc X.env.scope x)(r:RelV v u)
  (h:∀s',Inv X af (σ.set i (some v)) H s'->Q () s') (hf:z5 X x:=by first|exact .inl rfl|exact .inr rfl|assumption):wpAny M A (storeName X.env x u) Q E s:=
 Mc I hN hi hx r (λs' I' _=>h s' I') hf
theorem Inv.QC(I:Inv X af σ H s)(ho:s'.os=s.os)(u:Un (aY X.stack) ch H H' s.heap s'.heap)(aF:cN X.prog X.w H' s'.heap)(hg:AllBare s'.gens)
  (mS:∀b∈ch,(b∈X.ex\/X.cI.heap.objs.size<=b)/\b≠X.env.locals/\(∀x c,X.env.cells.lookup x=some c->c≠b)/\∀p∈X.pn++af,p.1≠b):Inv X af σ H' s':=by
 obtain⟨h',g',d',t',o'⟩:=s';have e:=ho;subst e;exact I.call (g':=g') (d':=d') u aF hg mS
end
abbrev XK:=Value->Option Addr->Hp->Prop
noncomputable abbrev St:=List (Option V)
abbrev VK:=V->Hp->Prop
abbrev TE:=St->Hp->VK->Prop
abbrev TT:=St->Hp->(Bool->Hp->Prop)->Prop
abbrev TA:=St->Hp->(List V->Hp->Prop)->Prop
structure Ends where
 nx:St->Hp->Prop
 rt:VK
 bk:St->Hp->Prop:=λ_ _=>False
 ct:St->Hp->Prop:=λ_ _=>False
abbrev TS:=Ends->St->Hp->Prop
def EP(X:Cx)(af:List (Addr×Obj))(σ:St)(Q:VK)(u:Value)(s':Shared):Prop:=∃v H',Inv X af σ H' s'/\RelV v u/\Q v H'
def TP(X:Cx)(af:List (Addr×Obj))(σ:St)(Q:Bool->Hp->Prop)(b:Bool)(s':Shared):Prop:=∃H',Inv X af σ H' s'/\Q b H'
def AP(X:Cx)(af:List (Addr×Obj))(σ:St)(Q:List V->Hp->Prop)(us:List Value)(s':Shared):Prop:=∃vs H',Inv X af σ H' s'/\aT vs us/\Q vs H'
def SP(X:Cx)(af:List (Addr×Obj))(D:Ends)(f:Flow)(s':Shared):Prop:=
 match f with
 |.next=>∃az H',Inv X af az H' s'/\D.nx az H'
 |.brk=>∃az H',Inv X af az H' s'/\D.bk az H'
 |.cont=>∃az H',Inv X af az H' s'/\D.ct az H'
 |.ret u=>∃v az H',Inv X af az H' s'/\RelV v u/\D.rt v H'
def PE(X:Cx)(e:Expr)(t:TE):Prop:=
 ∀(af) (s) (σ) (H) (Q),Inv X af σ H s->t σ H Q->Z4 X X.A (eval e X.env) (EP X af σ Q) X.xe s
def PT(X:Cx)(e:Expr)(t:TT):Prop:=
 ∀(af) (s) (σ) (H) (Q),Inv X af σ H s->t σ H Q->Z4 X X.A (isTrue e X.env (eval e X.env)) (TP X af σ Q) X.xe s
def PW(X:Cx)(e:Expr)(t:TT):Prop:=
 ∀(whole) (af) (s) (σ) (H) (Q),Inv X af σ H s->t σ H Q->Z4 X X.A (isTrue e X.env whole) (TP X af σ Q) X.xe s
theorem PW.pt(h:PW X e t):PT X e t:=h _
def PA(X:Cx)(es:List Expr)(t:TA):Prop:=
 ∀(pos) (af) (s) (σ) (H) (Q),Inv X af σ H s->t σ H Q->Z4 X X.A (spliced (backTo pos (starEach es X.env))) (AP X af σ Q) X.xe s
def PS(X:Cx)(st:Stmt)(t:TS):Prop:=
 ∀(af) (s) (σ) (H) (D),Inv X af σ H s->t D σ H->Z4 X X.A (exec st X.env) (SP X af D) X.xe s
def iK(X:Cx)(st:List Stmt)(t:TS):Prop:=
 ∀(af) (s) (σ) (H) (D),Inv X af σ H s->t D σ H->Z4 X X.A (execs st X.env) (SP X af D) X.xe s
theorem cD(h:wpAny M A t Q E s)(hQ:∀a s,Q a s->Q' a s):wpAny M A t Q' E s:=adW h hQ λ_ _ x=>x
theorem G_(h:wpAny M A t (EP X af σ Q) E s)(k:∀v s1 x H1,Inv X af σ H1 s1->RelV x v->Q x H1->Q' v s1):wpAny M A t Q' E s:=cD h λv s1 ⟨x,H1,I,r,q⟩=>k v s1 x H1 I r q
theorem Ca(h:wpAny M A t (AP X af σ Q) E s)(k:∀v s1 x H1,Inv X af σ H1 s1->aT x v->Q x H1->Q' v s1):wpAny M A t Q' E s:=cD h λv s1 ⟨x,H1,I,r,q⟩=>k v s1 x H1 I r q
theorem F5(h:wpAny M A t (TP X af σ Q) E s)(k:∀v s1 H1,Inv X af σ H1 s1->Q v H1->Q' v s1):wpAny M A t Q' E s:=cD h λv s1 ⟨H1,I,q⟩=>k v s1 H1 I q
theorem PE.n(a:PE X e t)(I:Inv X af σ H s)(h:t σ H Q)(k:∀v s1 x H1,Inv X af σ H1 s1->RelV x v->Q x H1->Q' v s1):Z4 X X.A (eval e X.env) Q' X.xe s:=G_ (a af s σ H Q I h) k
theorem PT.n(a:PT X e t)(I:Inv X af σ H s)(h:t σ H Q)(k:∀v s1 H1,Inv X af σ H1 s1->Q v H1->Q' v s1):Z4 X X.A (isTrue e X.env (eval e X.env)) Q' X.xe s:=F5 (a af s σ H Q I h) k
theorem PA.n(a:PA X e t)(I:Inv X af σ H s)(h:t σ H Q)(k:∀v s1 x H1,Inv X af σ H1 s1->aT x v->Q x H1->Q' v s1):Z4 X X.A (spliced (backTo pos (starEach e X.env))) Q' X.xe s:=Ca (a pos af s σ H Q I h) k
section
def F8(i:Nat):TE:=λσ H Q=>∃v,σ[i]? = some (some v)/\Q v H
def tC(v:V):TE:=λ_ H Q=>Q v H
theorem aeS(hN:X.N[i]? = some x)(hv:ED X.env.scope x)(hd:(x==("__debug__":Str))=false:=by decide)(ig:(x==("__classdict__":Str))=false:=by decide):PE X (.Name x pos) (F8 i):=by
 exists 44;obtain⟨v,e,h⟩:=h;obtain⟨m,hn,hl⟩:=I.loc;obtain⟨u,r,l⟩:=hl i x v hN e hv;have fin:EP X af σ Q u s:=⟨v,H,I,r,h⟩
 rcases l with⟨hk,hm⟩|⟨hk,c,hc,Lh⟩
 .exact wpAny_Name (wpAny_loadName_local I.ok.kind hk hn hm fin) hd
 .rcases hk with hk|hk
  .exact wpAny_Name (wpAny_loadName_cell I.ok.kind hk hc Lh fin) hd
  .exact wpAny_Name (wpAny_loadName_free I.ok.kind hk hc Lh fin ig) hd
theorem RV{i j pos}:PE X (.Constant (.int i) j pos) (tC (.int i)):=λ_ _ _ H _ I h=>wpAny_Constant_int ⟨.int i,H,I.tok _,⟨_,rfl⟩,h⟩
theorem Xj{b j pos}:PE X (.Constant (.bool b) j pos) (tC (.bl b)):=λ_ _ _ H _ I h=>Constant_bool ⟨.bl b,H,I,rfl,h⟩
theorem aa7{j pos}:PE X (.Constant .none j pos) (tC .aA):=λ_ _ _ H _ I h=>Constant_none ⟨.aA,H,I,rfl,h⟩
theorem ab0{x j pos}:PE X (.Constant (.str x) j pos) (tC (.str x)):=λ_ _ _ H _ I h=>Calls.Constant_str ⟨.str x,H,I.tok _,⟨_,rfl⟩,h⟩
def Gl(X:Cx)(x:Str):Prop:=X.env.kindOf x=some .globalImplicit
theorem sC(I:Inv X af σ H s)(hg:Gl X x)(hm:X.mg x=some u)(h:Q u s)
  (hd:(x==("__debug__":Str))=false:=by decide):Z4 X X.A (eval (.Name x pos) X.env) Q E s:=
 Calls.Name_function_global I.ok.kind hg (Calls.loadGlobal_global (by rw[I.ok.glob];exact I.mod.glob.keeps I.bk) hm h) hd
theorem qH(I:Inv X af σ H s)(hg:Gl X x)(hm:X.mg x=none)(hv:bootBuiltins x=some u)(h:Q u s)
  (hn:x≠"__name__":=by decide) (hd:(x==("__debug__":Str))=false:=by decide):Z4 X X.A (eval (.Name x pos) X.env) Q E s:=by
 obtain⟨mb,h1,h2⟩:=I.mod.blt;exact Calls.Name_function_global I.ok.kind hg (Calls.loadGlobal_builtin (by rw[I.ok.glob];exact I.mod.glob.keeps I.bk) hm (by rw[I.ok.blt];exact h1.keeps I.bk) ((h2 x hn).trans hv) h) hd
theorem N6(hg:Gl X x)(hm:X.mg x=some u)(r:RelV v u)(hd:(x==("__debug__":Str))=false:=by decide):PE X (.Name x pos) (tC v):=
 λ_ _ _ H _ I h=>sC I hg hm ⟨v,H,I,r,h⟩ hd
theorem LX(hg:Gl X x)(hm:X.mg x=none)(hv:bootBuiltins x=some u)(r:RelV v u)(hn:x≠"__name__":=by decide)(hd:(x==("__debug__":Str))=false:=by decide):PE X (.Name x pos) (tC v):=
 λ_ _ _ H _ I h=>qH I hg hm hv ⟨v,H,I,r,h⟩ hn hd
def PC(X:Cx)(op:CmpOp)(a b:Expr)(t:TE):Prop:=
 ∀(af) (s) (σ) (H) (Q),Inv X af σ H s->t σ H Q->
  Z4 X X.A (eval a X.env) (λv bN=>Z4 X X.A (eval b X.env) (λu pN=>Z4 X X.A (compareOp op v u) (EP X af σ Q) X.xe pN) X.xe bN) X.xe s
def tB(t:TE):TT:=λσ H Q=>t σ H λx H1=>∃c,x=.bl c/\Q c H1
theorem OY(h:PC X op a b t)(h1:behindInMarks op b=false:=by first|exact TH _ (by decide) (by decide)|rfl):PE X (.Compare a [op] [b] pos) t:=λaf s σ H Q I hw=>wpAny_Compare1 (h af s σ H Q I hw) h1
theorem afr(h:PC X op a b t)(h1:behindInMarks op b=false:=by first|exact TH _ (by decide) (by decide)|rfl):PT X (.Compare a [op] [b] pos) (tB t):=by
 intro af s σ H Q I hw;refine wpAny_isTrue_Compare1 (cD (h af s σ H _ I hw) λv s1 h1=>cD h1 λu s2 h2=>cD h2 λc s3 ⟨x,H1,I1,r1,q1⟩=>?_) h1;obtain⟨d,rfl,q⟩:=q1;cases r1;exact afd ⟨H1,I1,q⟩
theorem IY(h:PE X e t)(he:∀whole,isTrue e X.env whole=(do let v <- whole;standAt e.pos;holding [v] (truthy v)):=by intro _;rfl):PT X e (tB t):=by
 intro af s σ H Q I hw;refine isTrue_plain (h.n I hw λv s1 x H1 I1 r1 q1=>?_) (he _);obtain⟨d,rfl,q⟩:=q1;cases r1;exact afd ⟨H1,I1,q⟩
variable{rest:List Expr}
def abq(t u:TT):TT:=λσ H Q=>t σ H λc H1=>if c=true then u σ H1 Q else Q false H1
def Um(t u:TT):TT:=λσ H Q=>t σ H λc H1=>if c=true then Q true H1 else u σ H1 Q
def adD(t:TT):TT:=λσ H Q=>t σ H λc H1=>Q (!c) H1
theorem Ry(ha:PT X a tA):PW X (.BoolOp .And [a] pos) tA:=by
 intro wh af s σ H Q I h;refine isTrue_and (cD (ha af s σ H Q I h) λc s1 e=>?_);cases c with
 |true=>exact isTrue_and_nil e
 |false=>exact e
theorem aa4(ha:PT X a tA):PW X (.BoolOp .Or [a] pos) tA:=by
 intro wh af s σ H Q I h;refine isTrue_or (cD (ha af s σ H Q I h) λc s1 e=>?_);cases c with
 |false=>exact isTrue_or_nil e
 |true=>exact e
theorem Qa(ha:PT X a tA)(hb:PW X (.BoolOp .And (b::rest) pos) HJ):PW X (.BoolOp .And (a::b::rest) pos) (abq tA HJ):=by
 intro wh af s σ H Q I h;refine isTrue_and (ha.n I h λc s1 H1 I1 q1=>?_);cases c with
 |true=>exact hb wh af s1 σ H1 Q I1 q1
 |false=>exact⟨H1,I1,q1⟩
theorem U7(ha:PT X a tA)(hb:PW X (.BoolOp .Or (b::rest) pos) HJ):PW X (.BoolOp .Or (a::b::rest) pos) (Um tA HJ):=by
 intro wh af s σ H Q I h;refine isTrue_or (ha.n I h λc s1 H1 I1 q1=>?_);cases c with
 |true=>exact⟨H1,I1,q1⟩
 |false=>exact hb wh af s1 σ H1 Q I1 q1
theorem RU(ha:PT X a tA):PT X (.UnaryOp .Not a pos) (adD tA):=by
 exists 44;exact isTrue_not (ha af s σ H (λc H1=>Q (!c) H1) I h)
def aeA(ta tb:TE):TE:=λσ H Q=>ta σ H λx H1=>∃c,x=.bl c/\if c=true then tb σ H1 Q else Q (.bl false) H1
def adx(ta tb:TE):TE:=λσ H Q=>ta σ H λx H1=>∃c,x=.bl c/\if c=true then Q (.bl true) H1 else tb σ H1 Q
def X_(ta:TE):TE:=λσ H Q=>ta σ H λx H1=>∃c,x=.bl c/\Q (.bl (!c)) H1
theorem O0{op}(h:PE X a t):PE X (.BoolOp op [a] pos) t:=λaf s σ H Q I hw=>BoolOp_one (h af s σ H Q I hw)
theorem TL(ha:PE X a ta)(hb:PE X (.BoolOp .And (b::rest) pos) tb):PE X (.BoolOp .And (a::b::rest) pos) (aeA ta tb):=by
 exists 44;refine BoolOp_and (ha.n I h λv s1 x H1 I1 r1 q1=>?_);obtain⟨c,rfl,q1⟩:=q1;cases r1;refine afd ?_;cases c with
 |true=>exact hb af s1 σ H1 Q I1 q1
 |false=>exact⟨.bl false,H1,I1,rfl,q1⟩
theorem P_(ha:PE X a ta)(hb:PE X (.BoolOp .Or (b::rest) pos) tb):PE X (.BoolOp .Or (a::b::rest) pos) (adx ta tb):=by
 exists 44;refine BoolOp_or (ha.n I h λv s1 x H1 I1 r1 q1=>?_);obtain⟨c,rfl,q1⟩:=q1;cases r1;refine afd ?_;cases c with
 |false=>exact hb af s1 σ H1 Q I1 q1
 |true=>exact⟨.bl true,H1,I1,rfl,q1⟩
theorem Vw(ha:PE X a ta):PE X (.UnaryOp .Not a pos) (X_ ta):=by
 exists 44;refine UnaryOp_ (ha.n I h λv s1 x H1 I1 r1 q1=>?_);obtain⟨c,rfl,q1⟩:=q1;cases r1;exact not_of (afd ⟨.bl (!c),H1,I1,rfl,q1⟩)
def tIf(t:TT)(ta tb:TE):TE:=λσ H Q=>t σ H λc H1=>if c=true then ta σ H1 Q else tb σ H1 Q
theorem adG(hc:PT X c tA)(ha:PE X a ta)(hb:PE X b tb):PE X (.IfExp c a b pos) (tIf tA ta tb):=by
 exists 44;refine wpAny_IfExp (hc.n I h λd s1 H1 I1 q1=>?_);cases d with
 |true=>exact ha af s1 σ H1 Q I1 q1
 |false=>exact hb af s1 σ H1 Q I1 q1
end
def b7(K:PySem.W.Frag)(H:Hp)(a:Addr)(xs:List V):Prop:=
 Rd H a (.lst xs)\/
  ∃(o:Obj) (au:Array Value) (n:Nat),K.lookup a=some o/\o.cls=.type "list"/\o.dict=none/\o.data=.seq au n/\au.size<=sizeLine/\aT xs au.toList
def cj(K:PySem.W.Frag)(H:Hp)(a:Addr)(xs:List V):Prop:=
 Rd H a (.tup xs)\/
  ∃(o:Obj) (au:Array Value) (n:Nat),K.lookup a=some o/\o.cls=.type "tuple"/\o.dict=none/\o.data=.seq au n/\au.size<=sizeLine/\aT xs au.toList
noncomputable def Ub:Value->Option V
 |.none=>some .aA
 |.bool b=>some (.bl b)
 |.int i _=>some (.int i)
 |.str x _=>some (.str x)
 |.bytes b _=>some (.jX b)
 |.float b _=>some (.tu b)
 |.ref a=>some (.ref a)
 |.type n=>some (.ty n)
 |_=>none
theorem RelV.abs(r:RelV x u):Ub u=some x:=by
 cases x with
 |aA=>cases r;rfl
 |bl _=>cases r;rfl
 |int _=>obtain⟨t,rfl⟩:=r;rfl
 |str _=>obtain⟨t,rfl⟩:=r;rfl
 |jX _=>obtain⟨t,rfl⟩:=r;rfl
 |tu _=>obtain⟨t,rfl⟩:=r;rfl
 |ref _=>cases r;rfl
 |ty _=>cases r;rfl
theorem RelV.inj(r:RelV x u)(q:RelV y u):x=y:=ab4 (r.abs.symm.trans q.abs)
theorem aT.inj:∀{xs ys} {us},aT xs us->aT ys us->xs=ys
 |_,_,_,.nil,.nil=>rfl
 |_,_,_,.cons r t,.cons r' t'=>by rw[r.inj r',aT.inj t t']
theorem b7.of{K:PySem.W.Frag}(h:H a=some (.lst xs)):b7 K H a xs:=.inl (.inl h)
theorem cj.of{K:PySem.W.Frag}(h:H a=some (.tup xs)):cj K H a xs:=.inl (.inl h)
theorem Inv.list(I:Inv X af σ H s)(h:b7 X.K H a xs):∃au:List Value,aT xs au/\PlainL s.heap a au.toArray/\xs.length<=sizeLine:=by
 rcases h with h|⟨o,au,n,hk,hc,hd,hs,hz,r⟩
 .obtain⟨z,au,n,r,e⟩:=h.ok I.aF;exact⟨au,r,⟨_,n,e,rfl,rfl,rfl⟩,z⟩
 .refine⟨au.toList,r,⟨o,n,I.c8 a o hk,hc,hd,by simpa using hs⟩,?_⟩;have e:=r.length;simp only[ae0] at e;omega
theorem Inv.M4(I:Inv X af σ H s)(h:cj X.K H a xs):∃au:List Value,aT xs au/\oq s.heap a au.toArray/\xs.length<=sizeLine:=by
 rcases h with h|⟨o,au,n,hk,hc,hd,hs,hz,r⟩
 .obtain⟨z,au,r,p⟩:=h.ok I.aF;exact⟨au,r,p,z⟩
 .refine⟨au.toList,r,⟨o,I.c8 a o hk,hc,hd,n,by simpa using hs⟩,?_⟩;have e:=r.length;simp only[ae0] at e;omega
theorem Inv.tuple(I:Inv X af σ H s)(h:cj X.K H a xs):∃au:List Value,aT xs au/\IsTup s.heap a au.toArray/\xs.length<=sizeLine:=by
 rcases h with h|⟨o,au,n,hk,hc,hd,hs,hz,r⟩
 .obtain⟨z,au,r,p⟩:=h.ok I.aF;exact⟨au,r,p.isTup,z⟩
 .refine⟨au.toList,r,⟨o,I.c8 a o hk,hc,n,by simpa using hs⟩,?_⟩;have e:=r.length;simp only[ae0] at e;omega
theorem Inv.J5(I:Inv X af σ H s)(h:b7 X.K H a xs)(h':b7 X.K H a ys):xs=ys:=by
 obtain⟨au,r,⟨o,n,e,_,_,d⟩,_⟩:=I.list h;obtain⟨its',r',⟨o',n',e',_,_,d'⟩,_⟩:=I.list h';rw[e] at e';cases e';rw[d] at d';injection d' with d1 _;have:au=its':=by simpa using congrArg Array.toList d1
 subst this;exact r.inj r'
theorem Inv.ZW(I:Inv X af σ H s)(h:cj X.K H a xs)(h':cj X.K H a ys):xs=ys:=by
 obtain⟨au,r,⟨o,e,_,n,d⟩,_⟩:=I.tuple h;obtain⟨its',r',⟨o',e',_,n',d'⟩,_⟩:=I.tuple h';rw[e] at e';cases e';rw[d] at d';injection d' with d1 _;have:au=its':=by simpa using congrArg Array.toList d1
 subst this;exact r.inj r'
noncomputable abbrev Cx.j_(X:Cx)(E:Value->Shared->Prop):Cx:={ X with xe:=E }
abbrev Cx.eZ(X:Cx):Cx:=X.j_ λ_ _=>False
theorem Cx.Ok.j_{X:Cx}(ok:X.Ok)(E:Value->Shared->Prop):(X.j_ E).Ok:=
 ⟨ok.mod,ok.kind,ok.glob,ok.blt,ok.above,ok.inj,ok.has,ok.oZ,ok.hd,ok.frames,ok.qf,ok.tN,ok.bs,ok.jb,ok.pA,ok.nO,ok.jc,ok.lD⟩
theorem Cx.Ok.lU{X:Cx}(ok:(X.j_ E).Ok):X.Ok:=
 ⟨ok.mod,ok.kind,ok.glob,ok.blt,ok.above,ok.inj,ok.has,ok.oZ,ok.hd,ok.frames,ok.qf,ok.tN,ok.bs,ok.jb,ok.pA,ok.nO,ok.jc,ok.lD⟩
theorem Inv.j_(I:Inv X af σ H s)(E:Value->Shared->Prop):Inv (X.j_ E) af σ H s:=⟨I.ok.j_ E,I.os,I.bare,I.base,I.loc,I.cell,I.free,I.gW,I.pin,I.aF,I.len,I.hq⟩
theorem Inv.lU(I:Inv (X.j_ E) af σ H s):Inv X af σ H s:=⟨I.ok.lU,I.os,I.bare,I.base,I.loc,I.cell,I.free,I.gW,I.pin,I.aF,I.len,I.hq⟩
theorem SP.lU(h:SP (X.j_ E) af D f s'):SP X af D f s':=by
 cases f with
 |next=>obtain⟨az,H',I,q⟩:=h;exact⟨az,H',I.lU,q⟩
 |brk=>obtain⟨az,H',I,q⟩:=h;exact⟨az,H',I.lU,q⟩
 |cont=>obtain⟨az,H',I,q⟩:=h;exact⟨az,H',I.lU,q⟩
 |ret u=>obtain⟨v,az,H',I,r,q⟩:=h;exact⟨v,az,H',I.lU,r,q⟩
theorem iK.eZ{st:List Stmt}(h:iK X.eZ st t):iK X st t:=λaf s σ H D I hw=>
 adW (h af s σ H D (I.j_ _) hw) (λ_ _ q=>q.lU) λ_ _ z=>False.elim z
section
variable{st:Stmt}{rest:List Stmt}
def U1:TS:=λD σ H=>D.nx σ H
def adZ(t u:TS):TS:=λD σ H=>t { D with nx:=u D } σ H
theorem Qt:iK X [] U1:=λ_ _ σ H _ I h=>ahf ⟨σ,H,I,h⟩
theorem yF(h1:PS X st t)(h2:iK X rest u):iK X (st::rest) (adZ t u):=by
 exists 45;refine wpAny_execs_cons (cD (h1 af s σ H { D with nx:=u D } I h) λf s1 q=>?_);cases f with
 |next=>
  obtain⟨az,H',I',q⟩:=q;exact h2 af s1 az H' D I' q
 |ret v=>exact q
 |brk=>exact q
 |cont=>exact q
theorem P0(h1:PS X st t):iK X [st] t:=by
 exists 45;refine wpAny_execs_cons (cD (h1 af s σ H D I h) λf s1 q=>?_);cases f with
 |next=>exact ahf q
 |ret v=>exact q
 |brk=>exact q
 |cont=>exact q
theorem Inv.quiet(I:Inv X af σ H s):interactive X.env=false:=by simp[interactive,I.ok.kind]
def ZH(te:TE):TS:=λD σ H=>te σ H λ_ H1=>D.nx σ H1
theorem Ar(he:PE X e te)(hs:swapsWith e none pos.line X.env=pure false:=by rfl):PS X (.Expr e pos) (ZH te):=by
 exists 45;exact wpAny_Expr_any (he.n I h λv s1 x H1 I1 r1 q1=>⟨σ,H1,I1,q1⟩) I.quiet hs
def aaN(te:TE):TS:=λD σ H=>te σ H D.rt
theorem za(he:PE X e te):PS X (.Return (some e) pos) (aaN te):=by
 exists 45;exact wpAny_Return_some (he.n I h λv s1 x H1 I1 r1 q1=>⟨x,σ,H1,I1,r1,q1⟩)
def agb(c:TT)(t u:TS):TS:=λD σ H=>c σ H λb H1=>if b=true then t D σ H1 else u D σ H1
theorem zL(hc:PT X c tc)(ha:iK X a t)(hb:iK X b u):PS X (.If c a b pos) (agb tc t u):=by
 exists 45;refine wpAny_If (hc.n I h λd s1 H1 I1 q1=>?_);cases d with
 |true=>exact ha af s1 σ H1 D I1 q1
 |false=>exact hb af s1 σ H1 D I1 q1
def UT:TS:=λ_ _ _=>False
theorem MV:PS X st UT:=λ_ _ _ _ _ _ h=>h.elim
end
abbrev TG:=V->St->Hp->(St->Hp->Prop)->Prop
abbrev wB:=List V->St->Hp->(St->Hp->Prop)->Prop
def PG(X:Cx)(target:Expr)(t:TG):Prop:=
 ∀(af) (s) (σ) (H) (v) (u) (Q),Inv X af σ H s->RelV v u->t v σ H Q->
  Z4 X X.A (assign target X.env u) (λ_ s'=>∃az H',Inv X af az H' s'/\Q az H') X.xe s
def yP(X:Cx)(ts:List Expr)(t:wB):Prop:=
 ∀(af) (s) (σ) (H) (vs) (us) (Q),Inv X af σ H s->aT vs us->t vs σ H Q->
  Z4 X X.A (assignInOrder ((assignEach ts X.env).map (·.2)) us) (λ_ s'=>∃az H',Inv X af az H' s'/\Q az H') X.xe s
def zT(i:Nat):TG:=λv σ H Q=>Q (σ.set i (some v)) H
theorem UP(hN:X.N.Nodup)(hi:X.N[i]? = some x)(hx:Loc X.env.scope x)(hf:z5 X x:=by first|exact .inl rfl|exact .inr rfl|assumption):PG X (.Name x pos) (zT i):=by
 intro af s σ H v u Q I r h;exact wpAny_assign_Name (zI I hN hi hx r (λs' I'=>⟨_,H,I',h⟩) hf)
def afL:wB:=λvs σ H Q=>vs=[]/\Q σ H
def YH(t:TG)(u:wB):wB:=λvs σ H Q=>∃v r,vs=v::r/\t v σ H λaz H'=>u r az H' Q
theorem abn:yP X [] afL:=by
 intro af s σ H vs us Q I r h;obtain⟨e,h⟩:=h;subst e;cases r;exact assignInOrder_nil ⟨σ,H,I,h⟩
theorem ae5(h1:PG X e t)(h2:yP X es u)
  (hs:(assignEach (e::es) X.env).map (·.2)=assign e X.env::(assignEach es X.env).map (·.2):=by rfl):yP X (e::es) (YH t u):=by
 intro af s σ H vs us Q I r h;obtain⟨v,vr,e1,h⟩:=h;subst e1;cases r with
 |cons r rr=>
  rw[hs];refine assignInOrder_cons (cD (h1 af s σ H _ _ _ I r h) ?_)
  rintro _ s1 ⟨nZ,H1,I1,q1⟩
  exact h2 af s1 nZ H1 _ _ Q I1 rr q1
def UH(K:PySem.W.Frag)(n:Nat)(t:wB):TG:=λv σ H Q=>∃a xs,v=.ref a/\cj K H a xs/\xs.length=n/\t xs σ H Q
theorem ad4(hc:X.calm=true)(h:yP X es t)
  (hn:(assignEach es X.env).length=n:=by rfl) (cV:(assignEach es X.env).findIdx? (·.1)=none:=by rfl):PG X (.Tuple es k pos) (UH X.K n t):=by
 intro af s σ H v u Q I r hw;obtain⟨a,xs,e1,hq,hl,hw⟩:=hw;subst e1;cases r;obtain⟨au,rv,ht,hz⟩:=I.tuple hq;refine assign_Tuple_tuple (I.ok.hd hc) ht (by simp[hn,<- hl,rv.length]) cV λh' hx=>?_
 have I1:=I.kept (t':=s.toks) λb o e=>hx b o (acL (abQ e)) e
 exact h af _ σ H xs _ Q I1 (by simpa using rv) hw
def RK(te:TE)(g:TG):TS:=λD σ H=>te σ H λx H1=>g x σ H1 D.nx
theorem Cm(hN:X.N.Nodup)(hi:X.N[i]? = some x)(hx:Loc X.env.scope x)(he:PE X e te)(hs:swapsWith e (some (.Name x pos')) pos.line X.env=pure false:=by rfl)(hf:z5 X x:=by first|exact .inl rfl|exact .inr rfl|assumption):
  PS X (.Assign [.Name x pos'] e pos) (RK te (zT i)):=by
 exists 45;refine wpAny_Assign_Name (he.n I h λv s1 y H1 I1 r1 q1=>?_) hs;exact zI I1 hN hi hx r1 (λs2 I2=>⟨_,H1,I2,q1⟩) hf
def Uu(c:TT)(tb:TS):TS:=λD σ H=>∃W:Nat->St->Hp->Prop,(∃m,W m σ H)/\∀m σ H,W m σ H->
 c σ H λb H1=>if b=true then ∃N:St->Hp->Prop,(∀az H',N az H'->∃m',m'<m/\W m' az H')/\tb { D with nx:=N,ct:=N,bk:=D.nx } σ H1 else D.nx σ H1
theorem L7(hp:PassesOwn (model X.prog X.w) X.A X.env X.xe)(hc:PT X c tc)(hb:iK X body tb):PS X (.While c body [] pos) (Uu tc tb):=by
 exists 45;obtain⟨W,⟨m0,w0⟩,turn⟩:=h;refine wpAny_While (codeAny_whileLoop (λn s'=>∃az H',Inv X af az H' s'/\W n az H') ?_ m0 ⟨σ,H,I,w0⟩)
 rintro n s1 ⟨nZ,H1,I1,w1⟩
 refine agN hp (F5 (hc af s1 nZ H1 _ I1 (turn n nZ H1 w1)) λb s2 H2 I2 q2=>?_);cases b with
 |true=>
  obtain⟨N,hN,q2⟩:=q2;rw[if_pos rfl];refine agN hp (cD (hb af s2 nZ H2 _ I2 q2) λf s3 q3=>?_);cases f with
  |next=>
   obtain⟨cQ,H3,I3,n3⟩:=q3;obtain⟨m',hm,w3⟩:=hN cQ H3 n3;exact⟨m',hm,cQ,H3,I3,w3⟩
  |cont=>
   obtain⟨cQ,H3,I3,n3⟩:=q3;obtain⟨m',hm,w3⟩:=hN cQ H3 n3;exact⟨m',hm,cQ,H3,I3,w3⟩
  |brk=>exact q3
  |ret v=>exact q3
 |false=>
  rw[if_neg abu];exact ahf ⟨nZ,H2,I2,q2⟩
structure It where
 go:Nat->Hp->Prop
 xD:Nat->Hp->V->Hp->Prop
 stop:Nat->Hp->Prop
 rg:Bool
def iT(X:Cx)(af:List (Addr×Obj))(H:Hp)(b:Addr):Prop:=
 H b=none/\b≠X.env.locals/\b∉X.fs/\(b∈X.ex\/X.cI.heap.objs.size<=b)/\(∀x c,X.env.cells.lookup x=some c->c≠b)/\∀p∈X.pn++af,p.1≠b
theorem Inv.rP(I:Inv X af σ H s)(hb:s.heap.objs.size<=b)(hn:H' b=none):iT X af H' b:=by
 refine⟨hn,agy (ac5 I.lt hb),I.RP hb,.inr (adR I.sz hb),λx c e z=>?_,λp hp z=>?_⟩
 .obtain⟨v,q⟩:=I.cell x c e;exact absurd (ac5 q.lt (by rw[z];exact hb)) (aeX _)
 .exact absurd (ac5 (abQ (I.pin p hp).1) (by rw[z];exact hb)) (aeX _)
structure Turn(P:Program)(w:World)(K:PySem.W.Frag)(tg:Expr)(J:It)(fp:List Addr)(it:Addr)(tn:Nat->Heap->Prop):Prop where
 mem:it∈fp
 obj:∀i h,tn i h->∀b∈fp,∃o,h.get? b=some o/\∀v,o.data≠.cell v
 keep:∀i h h',tn i h->(∀b∈fp,∀o,h.get? b=some o->h'.get? b=some o)->tn i h'
 item:∀(X),X.prog=P->X.w=w->X.K=K->(X.calm=true\/J.rg=true)->∀(i) (af) (s) (σ) (H) (E),Inv X af σ H s->(∀b∈fp,iT X af H b)->tn i s.heap->J.go i H->
  wpAny (model P w) X.A (pyNext (.ref it)) (λr s1=>∃u,r=some u/\
   wpAny (model P w) X.A (letOwnedTupleGo tg (.ref it) u) (λ_ s2=>∃x H',Inv X af σ H' s2/\RelV x u/\J.xD i H x H'/\tn (i+1) s2.heap/\∀b∈fp,H' b=none) E s1) E s
 done:∀(X),X.prog=P->X.w=w->X.K=K->(X.calm=true\/J.rg=true)->∀(i) (af) (s) (σ) (H) (E),Inv X af σ H s->(∀b∈fp,iT X af H b)->tn i s.heap->J.stop i H->
  wpAny (model P w) X.A (pyNext (.ref it)) (λr s1=>r=none/\Inv X af σ H s1) E s
 self:∀(A) (i) (s) (Q) (E),tn i s.heap->Q (.ref it) s->wpAny (model P w) A (pyIter (.ref it)) Q E s
abbrev TI:=St->Hp->(It->Hp->Prop)->Prop
def RX(X:Cx)(af:List (Addr×Obj))(σ:St)(tg:Expr)(R:It->Hp->Prop)(AW:Value)(s2:Shared):Prop:=
 ∃(it:Addr) (fp:List Addr) (tn:Nat->Heap->Prop) (J:It) (H':Hp),AW=.ref it/\Inv X af σ H' s2/\Turn X.prog X.w X.K tg J fp it tn/\tn 0 s2.heap/\(∀b∈fp,iT X af H' b)/\R J H'
def PI(X:Cx)(tg iter:Expr)(wi:TI):Prop:=
 ∀(af) (s) (σ) (H) (R),Inv X af σ H s->wi σ H R->
  Z4 X X.A (eval iter X.env) (λv s1=>Z4 X X.A (pyIter v) (RX X af σ tg R) X.xe s1) X.xe s
theorem JC(ho:s.heap.get? it=some o)(hc:o.cls=.type n)(hd:o.data=.fields vs)
    (hn:["enumerate","zip","dict_itemiterator","dict_reverseitemiterator","odict_iterator","itertools.zip_longest","itertools.pairwise"].contains n=false) (hQ:Q () s):wpAny M A (letOwnedTupleGo tg (.ref it) u) Q E s:=by
  unfold letOwnedTupleGo;cases tg<;>first
    |exact acA hQ
    | (cases u <;> first
        |exact acA hQ
        | (refine aaO (wpAny_load ho ?_)
           rw[hc,hd];show wpAny M A (if(["enumerate","zip","dict_itemiterator","dict_reverseitemiterator","odict_iterator","itertools.zip_longest","itertools.pairwise"].contains n&&vs[0]?==some (rawInt _))=true then _ else _) Q E s;rw[if_neg (by intro h;rw[hn,Bool.false_and] at h;cases h)];exact acA hQ))
noncomputable def AR(K:PySem.W.Frag)(a:Addr):It:=
 ⟨λi H=>∃xs x,b7 K H a xs/\xs[i]? = some x,λi H x H'=>H'=H/\∀xs,b7 K H a xs->xs[i]? = some x,λi H=>∃xs,b7 K H a xs/\xs.length<=i,false⟩
noncomputable def Hg(K:PySem.W.Frag)(a:Addr):It:=
 ⟨λi H=>∃xs x,cj K H a xs/\xs[i]? = some x,λi H x H'=>H'=H/\∀xs,cj K H a xs->xs[i]? = some x,λi H=>∃xs,cj K H a xs/\xs.length<=i,false⟩
def xy(lo:Int)(n:Nat):It:=⟨λi _=>i<n,λi H x H'=>H'=H/\x=.int (lo+i),λi _=>n<=i,true⟩
theorem XX{K:PySem.W.Frag}(a it:Addr):Turn P w K tg (AR K a) [it] it (λi h=>h.IsListIter it a i) where
 mem:=by simp
 obj:=λi h st b hb=>by
  have e:b=it:=by simpa using hb
  subst e;obtain⟨o,e,c,d⟩:=st;exact⟨o,e,λv z=>by rw[d] at z;cases z⟩
 keep:=λi h h' st k=>st.at λo e=>k it (by simp) o e
 item:=by
  exists 40;subst hP hw hK;obtain⟨xs,x,hq,hx⟩:=hg;obtain⟨au,rv,p,hz⟩:=I.list hq;obtain⟨u,hu,ru⟩:=rv.get hx;exists 51;refine wpAny_pyNext_list_item st p.isList (by simpa using hu) λh' nF sb=>?_
  have I1:=I.turned (t':=s.toks) (λb o hb e=>(sb.2 b hb).trans e) f0 f1 f3 f4 f5;obtain⟨o,e,c,d⟩:=id nF;exact⟨u,rfl,JC e c d (by decide) ⟨x,H,I1,ru,⟨rfl,λys hy=>by rw[I.J5 hy hq];exact hx⟩,nF,λb hb=>(hf b hb).1⟩⟩
 done:=by
  exists 40;subst hP hw hK;obtain⟨xs,hq,hx⟩:=hg;obtain⟨au,rv,p,hz⟩:=I.list hq;exists 51;have hl:=rv.length;exact wpAny_pyNext_list_end (I.ok.hd (hc.resolve_right λz=>abu z)) st p.isList (by simp;omega) λh' eb=>⟨rfl,I.turned (λb o hb e=>eb b o hb e) f0 f1 f3 f4 f5⟩
 self:=λ_ _ _ _ _ st h=>wpAny_pyIter_listiter st h
theorem ZQ{K:PySem.W.Frag}(a it:Addr):Turn P w K tg (Hg K a) [it] it (λi h=>h.IsTupleIter it a i) where
 mem:=by simp
 obj:=λi h st b hb=>by
  have e:b=it:=by simpa using hb
  subst e;obtain⟨o,e,c,d⟩:=st;exact⟨o,e,λv z=>by rw[d] at z;cases z⟩
 keep:=λi h h' st k=>st.at λo e=>k it (by simp) o e
 item:=by
  exists 40;subst hP hw hK;obtain⟨xs,x,hq,hx⟩:=hg;obtain⟨au,rv,p,hz⟩:=I.tuple hq;obtain⟨u,hu,ru⟩:=rv.get hx;exists 51;refine wpAny_pyNext_tuple_item st (show s.heap.IsTuple a au.toArray from p) (by simpa using hu) λh' nF sb=>?_
  have I1:=I.turned (t':=s.toks) (λb o hb e=>(sb.2 b hb).trans e) f0 f1 f3 f4 f5;obtain⟨o,e,c,d⟩:=id nF;exact⟨u,rfl,JC e c d (by decide) ⟨x,H,I1,ru,⟨rfl,λys hy=>by rw[I.ZW hy hq];exact hx⟩,nF,λb hb=>(hf b hb).1⟩⟩
 done:=by
  exists 40;subst hP hw hK;obtain⟨xs,hq,hx⟩:=hg;obtain⟨au,rv,p,hz⟩:=I.tuple hq;exists 51;have hl:=rv.length;exact wpAny_pyNext_tuple_end (I.ok.hd (hc.resolve_right λz=>abu z)) st (show s.heap.IsTuple a au.toArray from p) (by simp;omega) λh' eb=>⟨rfl,I.turned (λb o hb e=>eb b o hb e) f0 f1 f3 f4 f5⟩
 self:=λ_ _ _ _ _ st h=>wpAny_pyIter_tupleiter st h
theorem aac{K:PySem.W.Frag}(it:Addr)(lo:Int)(n:Nat):Turn P w K tg (xy lo n) [it] it (λi h=>IsRangeIter h it (lo+(i:Nat)*1) ((n:Int)-(i:Nat)) 1) where
 mem:=by simp
 obj:=λi h st b hb=>by
  have e:b=it:=by simpa using hb
  subst e;exact⟨_,st,λv z=>by
   have z':=z;cases z'⟩
 keep:=λi h h' st k=>k it (by simp) _ st
 item:=by
  exists 40;subst hP hw hK;exists 51;refine wpAny_pyNext_range_item st (by have:i<n:=hg;omega) λh' nF sb=>?_
  have I1:Inv X af σ H { s with heap:=h',toks:=s.toks+1 }:=I.turned (λb o hb e=>(sb.2 b hb).trans e) f0 f1 f3 f4 f5;have e1:lo+((i+1:Nat):Int)*1=lo+(i:Int)*1+1:=by omega
  have e2:(n:Int)-((i+1:Nat):Int)=(n:Int)-(i:Int)-1:=by omega
  refine⟨_,rfl,JC nF rfl rfl (by decide) ⟨.int (lo+i),H,I1,⟨s.toks,?_⟩,⟨rfl,rfl⟩,by rw[e1,e2];exact nF,λb hb=>(hf b hb).1⟩⟩;rw[Int.mul_one]
 done:=by
  exists 40;subst hP hw hK;exists 51;rcases I.hq.hd with h0|⟨a',ob,u,vs,h0,h1,h2,h3⟩
  .exact wpAny_pyNext_range_end h0 st (by have:n<=i:=hg;omega) λh' eb=>⟨rfl,I.turned (λb o hb e=>eb b o hb e) f0 f1 f3 f4 f5⟩
  .exact WX h0 (I.aF a' _ h1).1 h2 h3 st (by have:n<=i:=hg;omega) λh' eb=>⟨rfl,I.turned (λb o hb e=>eb b o hb e) f0 f1 f3 f4 f5⟩
 self:=λ_ _ _ _ _ st h=>wpAny_pyIter_rangeiter st h
theorem MS{lo hi:Int}{tk:Nat}(I:Inv X af σ H s)(h1:-(2 ^ 62)<=lo)(h2:lo<2 ^ 62)(h3:-(2 ^ 62)<=hi)(h4:hi<2 ^ 62)
  (q:R (xy lo (hi-lo).toNat) H):Z4 X X.A (pyIter (.ref s.heap.objs.size)) (RX X af σ tg R) E { s with heap:=s.heap.push { cls:=.type "range",data:=.fields #[.int lo t,.int hi u,.int 1 v] },toks:=tk }:=by
 refine wpAny_pyIter_range (IsRange.new ..) (small_one h1 h2 h3 h4) ?_;have I1:Inv X af σ H { s with heap:=s.heap.push { cls:=.type "range",data:=.fields #[.int lo t,.int hi u,.int 1 v] },toks:=tk }:=I.kept λb o e=>aap _ e
 refine⟨(s.heap.push { cls:=.type "range",data:=.fields #[.int lo t,.int hi u,.int 1 v] }).objs.size,[(s.heap.push { cls:=.type "range",data:=.fields #[.int lo t,.int hi u,.int 1 v] }).objs.size],_,_,H,rfl,
  I1.kept λb o e=>aap _ e,aac _ lo (hi-lo).toNat,?_,λb hb=>?_,q⟩
 .have e1:lo+((0:Nat):Int)*1=lo:=by simp
  have e2:(((hi-lo).toNat:Nat):Int)-((0:Nat):Int)=Builtin.Range.rangeSize lo hi 1:=by rw[rangeSize_one];split<;>omega
  rw[e1,e2];exact ab8 _ rfl
 .have e:b=(s.heap.push { cls:=.type "range",data:=.fields #[.int lo t,.int hi u,.int 1 v] }).objs.size:=by simpa using hb
  subst e;exact I1.rP (abW _) (I1.aF.fresh (abW _))
def aat(ta:TA):TI:=λσ H R=>ta σ H λvs H1=>∃j:Int,vs=[.int j]/\-(2 ^ 62)<=j/\j<2 ^ 62/\R (xy 0 j.toNat) H1
def TJ(ta:TA):TI:=λσ H R=>ta σ H λvs H1=>∃i j:Int,vs=[.int i,.int j]/\(-(2 ^ 62)<=i/\i<2 ^ 62/\-(2 ^ 62)<=j/\j<2 ^ 62)/\R (xy i (j-i).toNat) H1
theorem T6{ta:TA}(hg:Gl X "range")(hm:X.mg "range"=none)(ha:PA X [a] ta)(hs:Y1 X a:=by rfl):PI X tg (.Call (.Name "range" p) [a] [] pos) (aat ta):=by
 intro af s σ H R I h;refine Call_ (qH I hg hm boot_range (agC (ha.n I h λus s1 vs H1 I1 r1 q1=>?_) hs rfl));obtain⟨j,e,q1,q2,q⟩:=q1;subst e;cases r1 with
 |cons r rr=>
  cases rr;obtain⟨t,rfl⟩:=r;exact call_range_1 (MS I1 (by omega) (by omega) q1 q2 (by simpa using q))
theorem Sn(hg:Gl X "range")(hm:X.mg "range"=none)(ha:PA X [a,b] ta)(hs:starEach [a,b] X.env=[(false,eval a X.env),(false,eval b X.env)]:=by rfl)(cG:Y1 X b:=by rfl):
  PI X tg (.Call (.Name "range" p) [a,b] [] pos) (TJ ta):=by
 intro af s σ H R I h;refine Call_ (qH I hg hm boot_range (agC (ha.n I h λus s1 vs H1 I1 r1 q1=>?_) (by rw[hs,cG]) (by rw[cG];rfl)));obtain⟨i,j,e,⟨q1,q2,q3,q4⟩,q⟩:=q1;subst e;cases r1 with
 |cons r rr=>
  cases rr with
  |cons r' rr=>
   cases rr;obtain⟨t,rfl⟩:=r;obtain⟨t',rfl⟩:=r';exact call_range_2 (MS I1 q1 q2 q3 q4 q)
def abv(wi:TI)(g:TG)(tb:TS):TS:=λD σ H=>wi σ H λJ H1=>∃W:Nat->Nat->St->Hp->Prop,(∃m,W 0 m σ H1)/\∀i m σ H,W i m σ H->
 (J.stop i H/\D.nx σ H)\/(J.go i H/\∃N:St->Hp->Prop,(∀az H',N az H'->∃m',m'<m/\W (i+1) m' az H')/\∀x H',J.xD i H x H'->g x σ H' λiw H2=>tb { D with nx:=N,ct:=N,bk:=D.nx } iw H2)
noncomputable def zo(fp:List Addr)(h:Heap):List (Addr×Obj):=fp.filterMap λb=>(h.get? b).map λo=>(b,o)
theorem z9(hb:b∈fp)(e:h.get? b=some o):(b,o)∈zo fp h:=agt.mpr ⟨b,hb,by rw[e];rfl⟩
theorem aep(hp:p∈zo fp h):p.1∈fp/\h.get? p.1=some p.2:=by
 obtain⟨b,hb,e⟩:=agt.mp hp;exists q,h.get? b,o,e;have e':=ab4 e;subst e';exact⟨hb,q⟩
theorem Inv.pinned(I:Inv X af σ H s)(hf:∀b∈fp,iT X af H b)(ho:∀b∈fp,∃o,s.heap.get? b=some o/\∀v,o.data≠.cell v):Inv X (af++zo fp s.heap) σ H s:=
 I.tE λp hp=>(abB.mp hp).elim (λz=>I.pin p (aaw _ z)) λz=>by
  obtain⟨hb,e⟩:=aep z;obtain⟨f0,f1,f2,_⟩:=hf p.1 hb;obtain⟨o,e',d⟩:=ho p.1 hb;rw[e] at e';cases e';exact⟨e,f0,f1,f2,d⟩
theorem Inv.w_(I:Inv X (af++pl) σ H s):Inv X af σ H s:=I.tE λp hp=>I.pin p (aaw _ (abp _ hp))
theorem Ye(hp:PassesOwn (model X.prog X.w) X.A X.env X.xe)(hc:X.calm=true)(hi:PI X tg iter wi)(hg:PG X tg g)(hb:iK X body tb)
  (hs:∀x,foldedSetIterable iter X.env x=pure x:=by intro _;rfl):PS X (.For tg iter body [] pos) (abv wi g tb):=by
 exists 45;refine wpAny_For (cD (hi af s σ H _ I h) λv s1 h1=>cD h1 λAW s2 h2=>?_) hs;obtain⟨it,fp,tn,J,H2,e,I2,T,qZ,f2,W,⟨m0,w0⟩,turn⟩:=h2;subst e;have qY:∀{H':Hp},(∀b∈fp,H' b=none)->∀b∈fp,iT X af H' b:=λhn b hb=>⟨hn b hb,(f2 b hb).2⟩
 refine codeAny_forLoop_any (λn s'=>∃i az H',Inv X af az H' s'/\tn i s'.heap/\(∀b∈fp,H' b=none)/\W i n az H') ?_ m0 ⟨0,σ,H2,I2,qZ,λb hb=>(f2 b hb).1,w0⟩
 rintro n s3 ⟨i,cQ,H3,I3,Q8,Pd,w3⟩
 rcases turn i n cQ H3 w3 with⟨stop,qn⟩|⟨go,N,hN,step⟩
 .refine agN hp (cD (T.done X rfl rfl rfl (.inl hc) i af s3 cQ H3 X.xe I3 (qY Pd) Q8 stop) ?_)
  rintro r s4 ⟨hr,I4⟩
  subst hr;exact ahf ⟨cQ,H3,I4,qn⟩
 .refine agN hp (cD (T.item X rfl rfl rfl (.inl hc) i af s3 cQ H3 X.xe I3 (qY Pd) Q8 go) ?_)
  rintro r s4 ⟨u,hr,h4⟩
  subst hr;refine agN hp (cD h4 ?_)
  rintro _ s5 ⟨x,H5,I5,r5,y5,vW,l5⟩
  have I5':=I5.pinned (qY l5) (T.obj _ _ vW);refine agN hp (cD (hg _ s5 cQ H5 x u _ I5' r5 (step x H5 y5)) ?_)
  rintro _ s6 ⟨jd,H6,I6,q6⟩
  refine agN hp (cD (hb _ s6 jd H6 _ I6 q6) λf s7 q7=>?_);have again:∀{lW:St}{H7:Hp},Inv X (af++zo fp s5.heap) lW H7 s7->N lW H7->∃m,m<n/\∃i az H',Inv X af az H' s7/\tn i s7.heap/\(∀b∈fp,H' b=none)/\W i m az H':=λ{lW H7} I7 n7=>by
   obtain⟨m',hm,w7⟩:=hN lW H7 n7;refine⟨m',hm,i+1,lW,H7,I7.w_,T.keep _ _ _ vW λb hb o e=>(I7.pin (b,o) (aaw _ (aaw _ (z9 hb e)))).1,λb hb=>?_,w7⟩;obtain⟨o,e,d⟩:=T.obj _ _ vW b hb;exact(I7.pin (b,o) (aaw _ (aaw _ (z9 hb e)))).2.1
  cases f with
  |next=>obtain⟨lW,H7,I7,n7⟩:=q7;exact again I7 n7
  |cont=>obtain⟨lW,H7,I7,n7⟩:=q7;exact again I7 n7
  |brk=>obtain⟨lW,H7,I7,q7⟩:=q7;exact⟨lW,H7,I7.w_,q7⟩
  |ret v=>obtain⟨x7,lW,H7,I7,r7,q7⟩:=q7;exact⟨x7,lW,H7,I7.w_,r7,q7⟩
abbrev R2:=V->V->Hp->VK->Prop
def dg(X:Cx)(f:Value->Value->Sem Value)(r:R2):Prop:=
 ∀(af:List (Addr×Obj)) (s:Shared) (σ:St) (H:Hp) (x y:V) (v u:Value) (Q:VK),Inv X af σ H s->RelV x v->RelV y u->r x y H Q->
  Z4 X X.A (f v u) (EP X af σ Q) X.xe s
def CT(X:Cx)(f:Value->Sem Value)(r:V->Hp->VK->Prop):Prop:=
 ∀(af:List (Addr×Obj)) (s:Shared) (σ:St) (H:Hp) (x:V) (v:Value) (Q:VK),Inv X af σ H s->RelV x v->r x H Q->
  Z4 X X.A (f v) (EP X af σ Q) X.xe s
def f7(X:Cx)(f:Value)(r:List V->Hp->VK->Prop):Prop:=
 ∀(af:List (Addr×Obj)) (s:Shared) (σ:St) (H:Hp) (xs:List V) (us:List Value) (Q:VK),Inv X af σ H s->aT xs us->r xs H Q->
  Z4 X X.A (call f us) (EP X af σ Q) X.xe s
def aaR(X:Cx)(r:V->Hp->(Bool->Hp->Prop)->Prop):Prop:=
 ∀(af:List (Addr×Obj)) (s:Shared) (σ:St) (H:Hp) (x:V) (v:Value) (Q:Bool->Hp->Prop),Inv X af σ H s->RelV x v->r x H Q->
  Z4 X X.A (truthy v) (TP X af σ Q) X.xe s
def tY(r:R2)(ta tb:TE):TE:=λσ H Q=>ta σ H λx H1=>tb σ H1 λy H2=>r x y H2 Q
def SX(r:V->Hp->VK->Prop)(ta:TE):TE:=λσ H Q=>ta σ H λx H1=>r x H1 Q
def rI(C:Int->Int->Prop)(g:Int->Int->V):R2:=λx y H Q=>∃i j,x=.int i/\y=.int j/\C i j/\Q (g i j) H
def nu(g:Int->Int->V):R2:=λx y H Q=>∃i j,x=.int i/\y=.int j/\Q (g i j) H
def rU(g:Int->V):V->Hp->VK->Prop:=λx H Q=>∃i,x=.int i/\Q (g i) H
theorem HQ(ha:PE X a ta)(hb:PE X b tb){R:V->V->Hp->Prop}(I:Inv X af σ H s)
  (h:ta σ H λx H1=>tb σ H1 λy H2=>R x y H2) {f:Value->Value->Sem Value}
  (hf:∀v u s2 x y H2,Inv X af σ H2 s2->RelV x v->RelV y u->R x y H2->Z4 X X.A (f v u) Q X.xe s2) :
  Z4 X X.A (eval a X.env) (λv bN=>Z4 X X.A (eval b X.env) (λu pN=>Z4 X X.A (f v u) Q X.xe pN) X.xe bN) X.xe s:=by
 refine ha.n I h λv s1 x H1 I1 r1 q1=>?_
 refine hb.n I1 q1 λu s2 y H2 I2 r2 q2=>?_
 exact hf v u s2 x y H2 I2 r1 r2 q2
theorem Nr{r:R2}(ho:dg X (binaryOp op) r)(ha:PE X a ta)(hb:PE X b tb):PE X (.BinOp a op b pos) (tY r ta tb):=by
 exists 44;exact wpAny_BinOp (HQ ha hb I h λv u s2 x y H2 I2 rx ry q=>ho af s2 σ H2 x y v u Q I2 rx ry q)
theorem ZT(ho:CT X (unaryOp op) r)(ha:PE X a ta):PE X (.UnaryOp op a pos) (SX r ta):=by
 exists 44;exact UnaryOp_ (ha.n I h λv s1 x H1 I1 r1 q1=>ho af s1 σ H1 x v Q I1 r1 q1)
theorem DT{g:Int->Int->Int}
  (rule:∀(i j:Int) (t u:Tok) (s:Shared) (Q:Value->Shared->Prop) (E:Value->Shared->Prop),C i j->Q (.int (g i j) s.toks) { s with toks:=s.toks+1 }->Z4 X X.A (f (.int i t) (.int j u)) Q E s) :
  dg X f (rI C λi j=>.int (g i j)):=by
 exists 42;obtain⟨i,j,rfl,rfl,hc,q⟩:=h;exists 63;obtain⟨t',rfl⟩:=ry;exact rule i j t t' s _ _ hc ⟨.int (g i j),H,I.tok _,⟨_,rfl⟩,q⟩
theorem Q6{g:Int->Int->Int}
  (rule:∀(i j:Int) (t u:Tok) (s:Shared) (Q:Value->Shared->Prop) (E:Value->Shared->Prop),Q (.int (g i j) s.toks) { s with toks:=s.toks+1 }->Z4 X X.A (f (.int i t) (.int j u)) Q E s) :
  dg X f (nu λi j=>.int (g i j)):=by
 exists 42;obtain⟨i,j,rfl,rfl,q⟩:=h;exists 63;obtain⟨t',rfl⟩:=ry;exact rule i j t t' s _ _ ⟨.int (g i j),H,I.tok _,⟨_,rfl⟩,q⟩
theorem Am{g:Int->Int->Bool}
  (rule:∀(i j:Int) (t u:Tok) (s:Shared) (Q:Value->Shared->Prop) (E:Value->Shared->Prop),Q (.bool (g i j)) s->Z4 X X.A (f (.int i t) (.int j u)) Q E s) :
  dg X f (nu λi j=>.bl (g i j)):=by
 exists 42;obtain⟨i,j,rfl,rfl,q⟩:=h;exists 63;obtain⟨t',rfl⟩:=ry;exact rule i j t t' s _ _ ⟨.bl (g i j),H,I,rfl,q⟩
def Zs(i j:Int):Prop:=0<j/\j<1073741824
def yQ(i j:Int):Prop:=(-(2 ^ 64)<i/\i<2 ^ 64)\/(-(2 ^ 64)<j/\j<2 ^ 64)
theorem yQ.ok(h:yQ i j):IntMulOk i j:=by
 rcases h with⟨h1,h2⟩|⟨h1,h2⟩
 .exact .of_left (intBits_le_64 h1 h2)
 .exact .of_right (intBits_le_64 h1 h2)
theorem VX:dg X (binaryOp .Add) (nu λi j=>.int (i+j)):=Q6 λ_ _ _ _ _ _ _ q=>add_int q
theorem af5:dg X (binaryOp .Sub) (nu λi j=>.int (i-j)):=Q6 λ_ _ _ _ _ _ _ q=>sub_int q
theorem Y0:dg X (binaryOp .Mult) (rI yQ λi j=>.int (i*j)):=DT λ_ _ _ _ _ _ _ hc q=>mul_int q hc.ok
theorem Y3:dg X (binaryOp .FloorDiv) (rI Zs λi j=>.int (i / j)):=DT λi j _ _ _ _ _ hc q=>by
 have h1:=hc.1;have h2:j<1073741824:=hc.2;exact floordiv_int (by omega) (by rw[Int.fdiv_eq_ediv_of_nonneg i (by omega)];exact q) (.inl (PyProof.noPylong_small (by omega)))
theorem aaL:dg X (binaryOp .Mod) (rI (λ_ j=>0<j) λi j=>.int (i % j)):=DT λi j _ _ _ _ _ hc q=>by
 have h1:=hc;exact mod_int' (by omega) (by rw[Int.fmod_eq_emod_of_nonneg i (by omega)];exact q)
theorem Vz{g:Int->Int}
  (rule:∀(i:Int) (t:Tok) (s:Shared) (Q:Value->Shared->Prop) (E:Value->Shared->Prop),Q (.int (g i) s.toks) { s with toks:=s.toks+1 }->Z4 X X.A (f (.int i t)) Q E s) :
  CT X f (rU λi=>.int (g i)):=by
 intro af s σ H x v Q I rx h;obtain⟨i,rfl,q⟩:=h;exists 63;exact rule i t s _ _ ⟨.int (g i),H,I.tok _,⟨_,rfl⟩,q⟩
theorem af2:CT X (unaryOp .USub) (rU λi=>.int (-i)):=Vz λ_ _ _ _ _ q=>neg_int q
noncomputable def Ms:V->V->Bool
 |.aA,.aA=>true|.aA,.int _=>true|.int _,.aA=>true|.aA,.bl _=>true|.bl _,.aA=>true|.aA,.str _=>true|.str _,.aA=>true
 |.int _,.int _=>true|.bl _,.bl _=>true|.str _,.str _=>true|.jX _,.jX _=>true
 |.int _,.str _=>true|.str _,.int _=>true|.bl _,.str _=>true|.str _,.bl _=>true
 |_,_=>false
def Lw:R2:=λx y H Q=>Ms x y=true/\Q (.bl (decide (x=y))) H
def KR:R2:=λx y H Q=>Ms x y=true/\Q (.bl (!decide (x=y))) H
theorem zH:decide (V.int i=V.int j)=(i==j):=by
 rw[ag0];simp
theorem Cr:decide (V.bl i=V.bl j)=(i==j):=by
 rw[ag0];simp
theorem Ae:decide (V.str i=V.str j)=(i==j):=by
 rw[ag0];simp
theorem QO:decide (V.jX i=V.jX j)=(i.toList==j.toList):=by
 rw[ag0];cases i;cases j;simp
theorem dH(I:Inv X af σ H s)(q:Q (.bl k) H)(e:k=k'):EP X af σ Q (.bool k') s:=by
 subst e;exact⟨.bl k,H,I,rfl,q⟩
theorem Ge:dg X (compareOp .Eq) Lw:=by
 exists 42;obtain⟨hs,q⟩:=h;cases x with
 |aA=>
  cases rx;cases y with
  |aA=>cases ry;exact PySem.EqNone.eq_none_none (dH I q (by simp))
  |bl j=>cases ry;exact PySem.EqNone.eq_none_bool (dH I q (by simp))
  |int j=>obtain⟨t',rfl⟩:=ry;exact PySem.EqNone.eq_none_int (dH I q (by simp))
  |str j=>obtain⟨t',rfl⟩:=ry;exact PySem.EqNone.eq_none_str (dH I q (by simp))
  |_=>exact absurd (show false=true from hs) abu
 |bl i=>
  cases rx;cases y with
  |aA=>cases ry;exact PySem.EqNone.eq_bool_none (dH I q (by simp))
  |bl j=>cases ry;exact eq_bool (dH I q Cr)
  |str j=>obtain⟨t',rfl⟩:=ry;exact PySem.EqMixed.eq_bool_str (dH I q (by simp))
  |_=>exact absurd (show false=true from hs) abu
 |int i=>
  exists 63;cases y with
  |aA=>cases ry;exact PySem.EqNone.eq_int_none (dH I q (by simp))
  |int j=>obtain⟨t',rfl⟩:=ry;exact eq_int (dH I q zH)
  |str j=>obtain⟨t',rfl⟩:=ry;exact PySem.EqMixed.eq_int_str (dH I q (by simp))
  |_=>exact absurd (show false=true from hs) abu
 |str i=>
  exists 63;cases y with
  |aA=>cases ry;exact PySem.EqNone.eq_str_none (dH I q (by simp))
  |bl j=>cases ry;exact PySem.EqMixed.eq_str_bool (dH I q (by simp))
  |int j=>obtain⟨t',rfl⟩:=ry;exact PySem.EqMixed.eq_str_int (dH I q (by simp))
  |str j=>obtain⟨t',rfl⟩:=ry;exact eq_str (dH I q Ae)
  |_=>exact absurd (show false=true from hs) abu
 |jX i=>
  exists 63;cases y with
  |jX j=>obtain⟨t',rfl⟩:=ry;exact PySem.W.eq_bytes (dH I q QO)
  |_=>exact absurd (show false=true from hs) abu
 |_=>cases y<;>exact absurd (show false=true from hs) abu
theorem MX:dg X (compareOp .NotEq) KR:=by
 exists 42;obtain⟨hs,q⟩:=h;cases x with
 |aA=>
  cases rx;cases y with
  |aA=>cases ry;exact PySem.EqNone.ne_none_none (dH I q (by simp))
  |bl j=>cases ry;exact PySem.EqNone.ne_none_bool (dH I q (by simp))
  |int j=>obtain⟨t',rfl⟩:=ry;exact PySem.EqNone.ne_none_int (dH I q (by simp))
  |str j=>obtain⟨t',rfl⟩:=ry;exact PySem.EqNone.ne_none_str (dH I q (by simp))
  |_=>exact absurd (show false=true from hs) abu
 |bl i=>
  cases rx;cases y with
  |aA=>cases ry;exact PySem.EqNone.ne_bool_none (dH I q (by simp))
  |bl j=>cases ry;exact ne_bool (dH I q (congrArg not Cr))
  |str j=>obtain⟨t',rfl⟩:=ry;exact PySem.EqMixed.ne_bool_str (dH I q (by simp))
  |_=>exact absurd (show false=true from hs) abu
 |int i=>
  exists 63;cases y with
  |aA=>cases ry;exact PySem.EqNone.ne_int_none (dH I q (by simp))
  |int j=>obtain⟨t',rfl⟩:=ry;exact ne_int (dH I q (congrArg not zH))
  |str j=>obtain⟨t',rfl⟩:=ry;exact PySem.EqMixed.ne_int_str (dH I q (by simp))
  |_=>exact absurd (show false=true from hs) abu
 |str i=>
  exists 63;cases y with
  |aA=>cases ry;exact PySem.EqNone.ne_str_none (dH I q (by simp))
  |bl j=>cases ry;exact PySem.EqMixed.ne_str_bool (dH I q (by simp))
  |int j=>obtain⟨t',rfl⟩:=ry;exact PySem.EqMixed.ne_str_int (dH I q (by simp))
  |str j=>obtain⟨t',rfl⟩:=ry;exact ne_str (dH I q (congrArg not Ae))
  |_=>exact absurd (show false=true from hs) abu
 |jX i=>
  exists 63;cases y with
  |jX j=>obtain⟨t',rfl⟩:=ry;exact PySem.W.ne_bytes (dH I q (congrArg not QO))
  |_=>exact absurd (show false=true from hs) abu
 |_=>cases y<;>exact absurd (show false=true from hs) abu
theorem Ph:dg X (compareOp .Lt) (nu λi j=>.bl (decide (i<j))):=Am λ_ _ _ _ _ _ _ q=>lt_int q
theorem zF:dg X (compareOp .LtE) (nu λi j=>.bl (decide (i<=j))):=Am λ_ _ _ _ _ _ _ q=>le_int q
theorem KA:dg X (compareOp .Gt) (nu λi j=>.bl (decide (j<i))):=Am λ_ _ _ _ _ _ _ q=>gt_int q
theorem adn:dg X (compareOp .GtE) (nu λi j=>.bl (decide (j<=i))):=Am λ_ _ _ _ _ _ _ q=>ge_int q
theorem JT:dg X (compareOp .Is) (λx y H Q=>y=.aA/\Q (.bl (decide (x=.aA))) H):=by
 exists 42;obtain⟨rfl,q⟩:=h;cases ry;refine is_none_gen (dH I q ?_);cases x<;>first
  |(cases rx;rfl)
  |(obtain⟨t,rfl⟩:=rx;rfl)
theorem afF:dg X (compareOp .IsNot) (λx y H Q=>y=.aA/\Q (.bl (!decide (x=.aA))) H):=by
 exists 42;obtain⟨rfl,q⟩:=h;cases ry;refine isnot_none_gen (dH I q ?_);cases x<;>first
  |(cases rx;rfl)
  |(obtain⟨t,rfl⟩:=rx;rfl)
theorem ie(b:Expr)(h:op≠.In:=by decide)(h2:op≠.NotIn:=by decide):behindInMarks op b=false:=by
 have e1:(op==CmpOp.In)=false:=by cases op<;>first|rfl|exact absurd rfl h
 have e2:(op==CmpOp.NotIn)=false:=by cases op<;>first|rfl|exact absurd rfl h2
 cases b<;>simp[behindInMarks,e1,e2]
theorem GK{r:R2}(ho:dg X (compareOp op) r)(ha:PE X a ta)(hb:PE X b tb)(hm:behindInMarks op b=false):PE X (.Compare a [op] [b] pos) (tY r ta tb):=by
 exists 44;exact wpAny_Compare1 (HQ ha hb I h λv u s2 x y H2 I2 rx ry q=>ho af s2 σ H2 x y v u Q I2 rx ry q) hm
def aaX(t:TE):TT:=λσ H Q=>t σ H λx H'=>∃k,x=.bl k/\Q k H'
theorem Nl(ho:dg X (compareOp op) r)(ha:PE X a ta)(hb:PE X b tb)(hm:behindInMarks op b=false):PT X (.Compare a [op] [b] pos) (aaX (tY r ta tb)):=by
 exists 44;refine wpAny_isTrue_Compare1 (ha.n I h λv s1 x H1 I1 r1 q1=>hb.n I1 q1 λu s2 y H2 I2 r2 q2=>
  cD (ho af s2 σ H2 x y v u _ I2 r1 r2 q2) λc s3 ⟨z,H3,I3,r3,k,e,q3⟩=>?_) hm
 subst e;cases r3;exact afd ⟨H3,I3,q3⟩
def aaW(r r':R2)(ta tb tc:TE):TE:=λσ H Q=>ta σ H λx H1=>tb σ H1 λy H2=>r x y H2 λz H3=>∃k,z=.bl k/\
 (if k=true then tc σ H3 λw' H4=>r' y w' H4 Q else Q (.bl false) H3)
theorem WV(ho:dg X (compareOp op) r)(lO:dg X (compareOp yq) r')(ha:PE X a ta)(hb:PE X b tb)(hc:PE X c tc)
  (hm:lastMarks [op,yq] [b,c]=false:=by with_unfolding_all rfl):PE X (.Compare a [op,yq] [b,c] pos) (aaW r r' ta tb tc):=by
 exists 44;refine Compare_chain (ha.n I h λv s1 x H1 I1 r1 q1=>chain_link (hb.n I1 q1 λu s2 y H2 I2 r2 q2=>
  cD (ho af s2 σ H2 x y v u _ I2 r1 r2 q2) λd s3 ⟨z,H3,I3,r3,k,e,q3⟩=>?_)) hm
 subst e;cases r3;refine afd ?_;cases k with
 |false=>exact ite_ff ⟨.bl false,H3,I3,rfl,q3⟩
 |true=>exact ite_tt (chain_last (hc.n I3 q3 λw' s4 z' H4 I4 r4 q4=>lO af s4 σ H4 y z' u w' Q I4 r2 r4 q4))
def N9(K:PySem.W.Frag)(x:V)(H:Hp)(k:Bool):Prop:=
 match x with
 |.aA=>k=false
 |.bl b=>k=b
 |.int i=>k=(i != 0)
 |.str y=>y.length<=sizeLine/\k=((y.length:Int) != 0)
 |.jX y=>y.size<=sizeLine/\k=((y.size:Int) != 0)
 |.ref p=>(∃xs,b7 K H p xs/\k=!xs.isEmpty)\/(∃xs,cj K H p xs/\k=!xs.isEmpty)\/∃ak,H p=some (.dK ak)/\k=!ak.isEmpty
 |_=>False
theorem SM(r:KV ak vs):(!vs.isEmpty)=!ak.isEmpty:=by
 cases r<;>rfl
theorem Kn(r:aT xs au):(!au.toArray.isEmpty)=!xs.isEmpty:=by
 cases r<;>simp
theorem xT:(sizeLine:Nat)<2 ^ 63:=by rw[ae7];decide
theorem afl:aaR X (λx H Q=>∃k,N9 X.K x H k/\Q k H):=by
 intro af s σ H x v Q I rx h;obtain⟨k,e,q⟩:=h;have hl:=xT;have hs:=ae7;cases x with
 |aA=>
  cases rx;have e':=e;subst e';exact truthy_none ⟨H,I,q⟩
 |bl b=>
  cases rx;have e':=e;subst e';exact afd ⟨H,I,q⟩
 |int i=>
  exists 63;have e':=e;subst e';exact PySem.P.truthy_int ⟨H,I,q⟩
 |str y=>
  exists 63;obtain⟨hy,e'⟩:y.length<=sizeLine/\k=((y.length:Int) != 0):=e;subst e';exact PySem.P.truthy_str (by omega) ⟨H,I.tok _,q⟩
 |jX y=>
  exists 63;obtain⟨hy,e'⟩:y.size<=sizeLine/\k=((y.size:Int) != 0):=e;subst e';exact PySem.W.truthy_bytes (by omega) ⟨H,I.tok _,q⟩
 |ref p=>
  cases rx;have e':=e;rcases e' with⟨xs,hx,e'⟩|⟨xs,hx,e'⟩|⟨ak,hx,e'⟩
  .subst e';obtain⟨au,r,pl,hz⟩:=I.list hx;have hlen:=r.length;exact wpAny_truthy_list pl.isList (by simp only[ab6];omega) ⟨H,I.tok _,by rw[Kn r];exact q⟩
  .subst e';obtain⟨au,r,pl,hz⟩:=I.tuple hx;have hlen:=r.length;exact truthy_tuple pl (by simp only[ab6];omega) ⟨H,I.tok _,by rw[Kn r];exact q⟩
  .subst e';obtain⟨hz,hS,vs,r,m⟩:ak.length<=sizeLine/\(p==sysModules)=false/\∃vs,KV ak vs/\s.heap.DictOf (gY X.prog X.w) p vs:=I.aF p _ hx;have hlen:=Paired.length r;exact wpAny_truthy_dict hS m (by omega) ⟨H,I.tok _,by rw[SM r];exact q⟩
 |_=>exact(show False from e).elim
theorem SS(ha:PE X a ta)(he:∀whole,isTrue a X.env whole=(do let v <- whole;standAt a.pos;holding [v] (truthy v))):
  PT X a (λσ H Q=>ta σ H λx H'=>∃k,N9 X.K x H' k/\Q k H'):=by
 exists 44;exact isTrue_plain (ha.n I h λv s1 x H1 I1 r1 q1=>afl af s1 σ H1 x v Q I1 r1 q1) (he _)
theorem vals1(r:aT [x] us):∃u,us=[u]/\RelV x u:=by
 cases r with
 |cons r1 r2=>cases r2;exact⟨_,rfl,r1⟩
theorem vals2(r:aT [x,y] us):∃u w',us=[u,w']/\RelV x u/\RelV y w':=by
 cases r with
 |cons r1 r2=>
  cases r2 with
  |cons r3 r4=>cases r4;exact⟨_,_,rfl,r1,r3⟩
theorem X4(hc:X.calm=true):f7 X (.builtin "max") (λxs H Q=>∃i j,xs=[.int i,.int j]/\Q (.int (if j > i then j else i)) H):=by
 exists 43;obtain⟨i,j,rfl,q⟩:=h;obtain⟨u,w',rfl,⟨t,rfl⟩,⟨t',rfl⟩⟩:=vals2 r;refine max_two_ints (I.ok.hd hc) λh' tk k=>⟨_,H,I.kept k,?_,q⟩
 by_cases hj:j > i
 .rw[if_pos hj,if_pos hj];exact⟨_,rfl⟩
 .rw[if_neg hj,if_neg hj];exact⟨_,rfl⟩
theorem Uw(hc:X.calm=true):f7 X (.builtin "min") (λxs H Q=>∃i j,xs=[.int i,.int j]/\Q (.int (if j<i then j else i)) H):=by
 exists 43;obtain⟨i,j,rfl,q⟩:=h;obtain⟨u,w',rfl,⟨t,rfl⟩,⟨t',rfl⟩⟩:=vals2 r;refine min_two_ints (I.ok.hd hc) λh' tk k=>⟨_,H,I.kept k,?_,q⟩
 by_cases hj:j<i
 .rw[if_pos hj,if_pos hj];exact⟨_,rfl⟩
 .rw[if_neg hj,if_neg hj];exact⟨_,rfl⟩
structure rV(h:Heap)(x dx C:Addr)(mA:Str->Option Value):Prop where
 obj:h.get? x=some (PySem.W.instObj C dx)
 ns:h.Ns1 dx mA
 ne:dx≠x
theorem aei{h:Heap}(n:h.Ns1 dx mA):∃od,h.get? dx=some od/\∀name,PySem.W.lookIn name od=some (mA name):=by
 obtain⟨o,es,ep,ho,hd,hk,_,hm⟩:=n;refine⟨o,ho,λname=>?_⟩;have e:=hm name;unfold nsFind findBy at e;rw[<- Array.find?_toList] at e;unfold PySem.W.lookIn;rw[hd];dsimp only
 split
 .rename_i y q;rw[q] at e;exact congrArg some e
 .rename_i q;rw[q] at e;have a:es.toList.any (·.refKey)=false:=by
   rw[List.any_eq_false];intro y hy;obtain⟨z,t,xQ⟩:=hk y (Array.mem_toList_iff.mp hy);simp[DictEntry.refKey,xQ]
  have a':¬es.toList.any (·.refKey)=true:=by rw[a];exact abu
  rw[if_neg a'];exact congrArg some e
theorem rV.look(I:rV h x dx C mA):∃od,PySem.W.InstAt h x (PySem.W.instObj C dx) C (some od)/\∀name,PySem.W.lookIn name od=some (mA name):=
 let⟨od,ho,hl⟩:=aei I.ns
 ⟨od,⟨I.obj,rfl,rfl,ho⟩,hl⟩
section
variable{K:PySem.W.Frag}
theorem get_map(X:K.In s.heap)(I:rV s.heap x dx C mA)(hg:PySem.W.plainGet K C name=true)(hh:PySem.W.hasDictIn K C=true)
  (ha:PySem.W.findIn K (.ref C) name=some none) (hv:mA name=some v) (jV:PySem.W.handedIn v=true) (h:Q v { s with toks:=s.toks+1 }) :
  wpAny (model prog w) A (getAttr (.ref x) name expr) Q E s:=by
 obtain⟨od,J,hl⟩:=I.look;exact PySem.W.get_value X J (PySem.W.plainGet_of hg).1 (PySem.W.findObj_own hh ha rfl (by rw[hl,hv])) jV h
theorem af3(X:K.In s.heap)(I:rV s.heap x dx C mA)(hg:PySem.W.plainGet K C name=true)
  (hf:PySem.W.findIn K (.ref C) name=some (some (.ref f))) (ht:PySem.W.isFn K (.ref f)=true) (hv:mA name=none) (h:Q (.ref f,[.ref x]) s) :
  wpAny (model prog w) A (getMethod (.ref x) name pl) Q E s:=by
 obtain⟨od,J,hl⟩:=I.look;exact PySem.W.method_fn X J (PySem.W.plainGet_of hg).1 (PySem.W.plainGet_of hg).2 hf (agg.mp ht) (by show(PySem.W.lookIn name od).map (·.isSome)=some false;rw[hl,hv];rfl) h
theorem afu(X:K.In s.heap)(I:rV s.heap x dx C mA)
  (hs:PySem.W.findIn K (.ref C) "__setattr__"=some (some (.builtin "object.__setattr__"))) (hp:PySem.W.plainOver K C=true) (ht:PySem.W.takerIn K C name=some none) (hh:PySem.W.hasDictIn K C=true)
  (hw:PySem.Within mA ns) (hsz:ns.length<=sizeLine)
  (h:∀h',rV h' x dx C (λy=>if y=name then some v else mA y)->Heap.SameBut dx s.heap h'->Q () { s with heap:=h',toks:=s.toks+2 }) :
  wpAny (model prog w) A (setAttr (.ref x) name v) Q E s:=by
 obtain⟨od,J,hl⟩:=I.look;refine PySem.W.set_plain X J hs (PySem.W.osa_open (r:=none) X J hp ht λb=>?_);obtain⟨cd,hc,Gv⟩:=PySem.W.any_some hh;have hx:=I.obj;refine aaO (acA (aaO (aaO (wpAny_loadPart hx (aaO (PySem.W.Looks.here (PySem.W.looks_clsIn X hc) ?_))))));rw[Gv];refine acA (aaO (acA (aaO ?_)));refine wpAny_nsSet1 I.ns λh' r_ cG=>?_
 obtain⟨oD,esD,epD,DB,hdD,Uh⟩:=r_.count (PySem.Within.cons name v hw);refine aaO (wpAny_lookBehind DB (by rw[hdD];exact pastItsLine_dict (adR Uh (by rw[acj];omega))) ?_);exact acA (h _ ⟨(cG.2 _ (afH I.ne)).trans I.obj,r_,I.ne⟩ cG)
theorem aal(X:K.In s.heap)(hm:PySem.W.makesIn K C=true)
  (hi:PySem.W.findIn K (.ref C) "__init__"=some (some (.ref f))) (hf:PySem.W.typeIn K (.ref f)=some (.type "function"))
  (h:codeAny (model prog w) (A.under (.builtin "type.__call__" ⟨.ref C::vs,kw⟩)) (.call (.ref f) ⟨.ref (s.heap.objs.size + 1)::vs,kw⟩) (PySem.W.InitBack (s.heap.objs.size + 1) R)
   { s with heap:=(s.heap.push PySem.W.emptyDict).push (PySem.W.instObj C s.heap.objs.size) }) :
  codeAny (model prog w) A (.call (.ref C) ⟨vs,kw⟩) R s:=by
 obtain⟨hh,g,d,t,os⟩:=s;exact PySem.W.make_core (PySem.W.makes_of X hm) (PySem.W.looks_findIn X hi) (λself=>PySem.W.bind_fn X self hf) (.inl rfl) h
end
noncomputable def fB(f:Str)(v:V):List (Str×V)->List (Str×V)
 |[]=>[(f,v)]
 |(g,x)::r=>if g=f then(g,v)::r else(g,x)::fB f v r
theorem Oo(f g:Str)(v:V):∀fs:List (Str×V),(fB f v fs).lookup g=if g=f then some v else fs.lookup g
 |[]=>by
  show List.lookup g [(f,v)]=_
  by_cases h:g=f
  .have hb:=agg.mpr h;simp only[List.lookup,hb,if_pos h]
  .have hb:=adu.mpr h;simp only[List.lookup,hb,if_neg h]
 |(k,x)::r=>by
  have ih:=Oo f g v r;exists 54
  by_cases hk:k=f
  .rw[if_pos hk]
   by_cases h:g=k
   .have hb:=agg.mpr h;simp only[List.lookup,hb,if_pos (h.trans hk)]
   .have hb:=adu.mpr h;simp only[List.lookup,hb,if_neg (λe:g=f=>h (e.trans hk.symm))]
  .rw[if_neg hk]
   by_cases h:g=k
   .have hb:=agg.mpr h;simp only[List.lookup,hb,if_neg (λe:g=f=>hk (h.symm.trans e))]
   .have hb:=adu.mpr h;simp only[List.lookup,hb];exact ih
theorem F4(f:Str)(v:V):∀fs:List (Str×V),f∈(fB f v fs).map (·.1)/\∀g,g∈fs.map (·.1)->g∈(fB f v fs).map (·.1)
 |[]=>⟨by simp[fB],λg h=>by simp at h⟩
 |(k,x)::r=>by
  obtain⟨i1,i2⟩:=F4 f v r;exists 54
  by_cases hk:k=f
  .rw[if_pos hk];subst hk;exact⟨by simp,λg h=>by simpa using h⟩
  .rw[if_neg hk];refine⟨?_,λg h=>?_⟩
   .rw[aan];exact aaf _ i1
   .rw[aan] at h ⊢;rcases aaQ.mp h with e|e
    .exact aaQ.mpr (.inl e)
    .exact aaf _ (i2 g e)
theorem R8(f:Str)(v:V):∀fs:List (Str×V),(fB f v fs).length<=fs.length+1
 |[]=>by simp[fB]
 |(k,x)::r=>by
  have ih:=R8 f v r;exists 54
  by_cases hk:k=f
  .rw[if_pos hk,acj,acj];omega
  .rw[if_neg hk,acj,acj];omega
theorem ia.some_of(r:ia (some v) o):∃u,o=some u/\RelV v u:=by
 cases o with
 |none=>exact(show False from r).elim
 |some u=>exact⟨u,rfl,r⟩
theorem ia.none_of(r:ia none o):o=none:=by
 cases o with
 |none=>rfl
 |some u=>exact(show False from r).elim
theorem Ur(r:RelV v u):PySem.W.handedIn u=true:=by
 cases v with
 |aA=>cases(show u=Value.none from r);rfl
 |bl b=>cases(show u=Value.bool b from r);rfl
 |int i=>obtain⟨t,e⟩:=(show ∃t,u=Value.int i t from r);cases e;rfl
 |str x=>obtain⟨t,e⟩:=(show ∃t,u=Value.str x t from r);cases e;rfl
 |jX b=>obtain⟨t,e⟩:=(show ∃t,u=Value.bytes b t from r);cases e;rfl
 |tu b=>obtain⟨t,e⟩:=(show ∃t,u=Value.float b t from r);cases e;rfl
 |ref a=>cases(show u=Value.ref a from r);rfl
 |ty n=>cases(show u=Value.type n from r);rfl
theorem B4(aF:cN P w H h)(e:H a=some (.ins C dx fs)):∃mA,rV h a dx C mA/\(∀f,ia (fs.lookup f) (mA f))/\PySem.Within mA (fs.map (·.1))/\fs.length<=1000/\H dx=some (.own a):=by
 obtain⟨d,z,ne,ob,mA,n,r,q⟩:=(show dz P w H h a (.ins C dx fs) from aF a _ e)
 exact⟨mA,⟨ob,n,ne⟩,r,q,z,d⟩
structure ko(K:PySem.W.Frag)(C:Addr):Prop where
 pg:PySem.W.plainGet K C Str.empty=true
 hd:PySem.W.hasDictIn K C=true
 po:PySem.W.plainOver K C=true
 sa:PySem.W.findIn K (.ref C) "__setattr__"=some (some (.builtin "object.__setattr__"))
theorem ko.get{K:PySem.W.Frag}(c:ko K C)(f:Str):PySem.W.plainGet K C f=true:=c.pg
def jj(K:PySem.W.Frag)(C:Addr)(f:Str):Prop:=PySem.W.findIn K (.ref C) f=some none
theorem jj.Z4{K:PySem.W.Frag}(n:jj K C f):PySem.W.takerIn K C f=some none:=by
 unfold PySem.W.takerIn;rw[show PySem.W.findIn K (.ref C) f=some none from n];rfl
structure kc(K:PySem.W.Frag)(C:Addr)(m:Str)(f:Addr):Prop where
 at_:PySem.W.findIn K (.ref C) m=some (some (.ref f))
 fn:PySem.W.isFn K (.ref f)=true
 kp:PySem.W.keepIn K (.ref f)=true
theorem Rx(I:Inv X af σ H s)(e:H a=some (.ins C dx fs))(c:ko X.K C)(n:jj X.K C f)(l:fs.lookup f=some v)
  (h:∀u s',Inv X af σ H s'->RelV v u->Q u s'):wpAny (model X.prog X.w) A (getAttr (.ref a) f b) Q E s:=by
 obtain⟨mA,O,r,_,_,_⟩:=B4 I.aF e;obtain⟨u,hu,ru⟩:=ia.some_of (by rw[<- l];exact r f);exact get_map I.c8 O (c.get f) c.hd n hu (Ur ru) (h u _ (I.tok _) ru)
theorem EJ(I:Inv X af σ H s)(e:H a=some (.ins C dx fs))(c:ko X.K C)(k:kc X.K C m g)(l:fs.lookup m=none)
  (h:Q (.ref g,[.ref a]) s):wpAny (model X.prog X.w) A (getMethod (.ref a) m pl) Q E s:=by
 obtain⟨mA,O,r,_,_,_⟩:=B4 I.aF e;have hn:=ia.none_of (by rw[<- l];exact r m);exact af3 I.c8 O (c.get m) k.at_ k.fn hn h
theorem RO(I:Inv X af σ H s)(e:H a=some (.ins C dx fs))(c:ko X.K C)(n:jj X.K C f)(hl:fs.length<1000)(ry:RelV y u)
  (h:∀s',Inv X af σ (upd H a (.ins C dx (fB f y fs))) s'->Q () s'):wpAny (model X.prog X.w) A (setAttr (.ref a) f u) Q E s:=by
 obtain⟨mA,O,r,wi,_,ho⟩:=B4 I.aF e;have hz:(fs.map (·.1)).length<=sizeLine:=by rw[List.length_map,ae7];omega
 refine afu I.c8 O c.sa c.po n.Z4 c.hd wi hz λh' O' sb=>h _ ?_
 have hd:∃o,h'.get? dx=some o:=let⟨o,_,_,e',_⟩:=O'.ns;⟨o,e'⟩
 refine I.write (by rw[e];exact True.intro) (.inr ho) (λb q hb z=>(sb.2 b hb).trans z) hd ?_;refine⟨by rw[aO O.ne];exact ho,?_,O.ne,O'.obj,_,O'.ns,λg=>?_,λg hg=>?_⟩
 .have:=R8 f y fs;omega
 .show ia ((fB f y fs).lookup g) (if g=f then some u else mA g);rw[Oo]
  by_cases q:g=f
  .rw[if_pos q,if_pos q];exact ry
  .rw[if_neg q,if_neg q];exact r g
 .by_cases q:g=f
  .rw[q];exact(F4 f y fs).1
  .refine(F4 f y fs).2 g (wi g λz=>hg ?_);show(if g=f then some u else mA g)=none;rw[if_neg q];exact z
theorem Inv.made(I:Inv X af σ H s):Inv X af σ (upd (upd H s.heap.objs.size (.own (s.heap.objs.size+1))) (s.heap.objs.size+1) (.ins C s.heap.objs.size []))
  { s with heap:=(s.heap.push PySem.W.emptyDict).push (PySem.W.instObj C s.heap.objs.size) }:=by
 have e1:(s.heap.push PySem.W.emptyDict).get? s.heap.objs.size=some PySem.W.emptyDict:=ab8 s.heap rfl;have e2:((s.heap.push PySem.W.emptyDict).push (PySem.W.instObj C s.heap.objs.size)).get? (s.heap.objs.size+1)=some (PySem.W.instObj C s.heap.objs.size):=by
  have:=ab8 (s.heap.push PySem.W.emptyDict) (o:=PySem.W.instObj C s.heap.objs.size) rfl
  rwa [agX] at this
 have e3:(s.heap.push PySem.W.emptyDict).Ns s.heap.objs.size (λ_=>none):=⟨PySem.W.emptyDict,#[],_,e1,rfl,(λe he=>absurd he (by simp)),λ_=>rfl⟩
 have I1:=I.laid (o:=.own (s.heap.objs.size+1)) (t':=s.toks) (λb u q=>aap _ q) (abW _) ⟨_,e1⟩;refine I1.laid (λb u q=>aap _ q) (Nat.le_of_eq (agX _ _)) ?_;have ne:s.heap.objs.size≠s.heap.objs.size+1:=acL (agS _);refine⟨by rw[aO ne,cz],aeC _,ne,e2,λ_=>none,(Heap.Ns1.of_empty e3).at λo q=>aap _ q,λ_=>True.intro,λy hy=>absurd rfl hy⟩
theorem aes(hb:attributeBase e f env (eval e env)=eval e env)
  (h:wpAny (model prog w) A (eval e env) (λo bN=>wpAny (model prog w) A (getAttr o f true) Q E bN) E s):wpAny (model prog w) A (eval (.Attribute e f pos) env) Q E s:=
 Attribute_any_ h (by rw[arm_eval_Attribute,hb])
def TZ(K:PySem.W.Frag)(ta:TE)(f:Str):TE:=λσ H Q=>ta σ H λx H1=>∃a C dx fs v,x=.ref a/\H1 a=some (.ins C dx fs)/\ko K C/\jj K C f/\fs.lookup f=some v/\Q v H1
def Te(K:PySem.W.Frag)(ta tv:TE)(f:Str):TS:=λD σ H=>tv σ H λy H1=>ta σ H1 λx H2=>∃a C dx fs,x=.ref a/\H2 a=some (.ins C dx fs)/\ko K C/\jj K C f/\fs.length<1000/\
 D.nx σ (upd H2 a (.ins C dx (fB f y fs)))
def KS(X:Cx)(op:Operator)(rd:V->V->Hp->VK->Prop):Prop:=
 ∀(af) (s) (σ) (H) (x y) (u v) (Q),Inv X af σ H s->RelV x u->RelV y v->rd x y H Q->Z4 X X.A (inplaceOp op u v) (EP X af σ Q) X.xe s
def YN(K:PySem.W.Frag)(ta tv:TE)(rd:V->V->Hp->VK->Prop)(f:Str):TS:=λD σ H=>ta σ H λx H1=>∃a C dx fs v,x=.ref a/\H1 a=some (.ins C dx fs)/\ko K C/\jj K C f/\fs.lookup f=some v/\
 tv σ H1 λy H2=>rd v y H2 λz H3=>∃xu uO,H3 a=some (.ins C xu uO)/\uO.length<1000/\D.nx σ (upd H3 a (.ins C xu (fB f z uO)))
theorem v7(he:PE X e ta)(hb:attributeBase e f X.env (eval e X.env)=eval e X.env):PE X (.Attribute e f pos) (TZ X.K ta f):=by
 exists 44;refine aes hb (he.n I h λu s1 x H1 I1 rx q=>?_);obtain⟨a,C,dx,fs,v,ex,ea,c,n,l,q⟩:=q;subst ex;exists 55;exact Rx I1 ea c n l λu' s2 I2 ru=>⟨v,H1,I2,ru,q⟩
theorem ac1(ha:PE X o ta)(hv:PE X value tv)(hs:swapsWith value (some (.Attribute o f pos')) pos.line X.env=pure false):PS X (.Assign [.Attribute o f pos'] value pos) (Te X.K ta tv f):=by
 exists 45;refine plainObj_wpAny_Assign_Attribute (hv.n I h λu s1 y H1 I1 ry q=>ha.n I1 q λov s2 x H2 I2 rx q=>?_) hs;obtain⟨a,C,dx,fs,ex,ea,c,n,l,q2⟩:=q;subst ex;obtain rfl:ov=Value.ref a:=rx;exact RO I2 ea c n l ry λs3 I3=>⟨σ,_,I3,q2⟩
theorem acp(ha:PE X o ta)(hv:PE X value tv)(hop:KS X op rd):PS X (.AugAssign (.Attribute o f agM) op value pos) (YN X.K ta tv rd f):=by
 exists 45;refine wpAny_AugAssign_AttributeAny (ha.n I h λov s1 x H1 I1 rx q=>?_);obtain⟨a,C,dx,fs,v,ex,ea,c,n,l,q⟩:=q;subst ex;obtain rfl:ov=Value.ref a:=rx;refine Rx I1 ea c n l λu s2 I2 ru=>hv.n I2 q λw3 s3 y H2 I3 ry q3=>G_ (hop af s3 σ H2 v y u w3 _ I3 ru ry q3) λw4 s4 z H3 I4 rz q=>?_
 obtain⟨xu,uO,ea',l',q4⟩:=q;exact RO I4 ea' c n l' rz λs5 I5=>⟨σ,_,I5,q4⟩
def ZD:V->V->Hp->VK->Prop:=λx y H Q=>∃i j,x=.int i/\y=.int j/\Q (.int (i+j)) H
theorem ad5:KS X .Add ZD:=by
 rintro af s σ H x y u v Q I rx ry ⟨i,j,rfl,rfl,q⟩
 obtain⟨t,rfl⟩:=(show ∃t,u=Value.int i t from rx)
 obtain⟨t',rfl⟩:=(show ∃t',v=Value.int j t' from ry)
 exact PyProof.Rows.iadd_int ⟨.int (i+j),H,I.tok _,⟨_,rfl⟩,q⟩
inductive jA(K:PySem.W.Frag)(H:Hp):V->Value->Prop where
 |aA:jA K H .aA (.type "NoneType")
 |bl (x:Bool):jA K H (.bl x) (.type "bool")
 |int (i:Int):jA K H (.int i) (.type "int")
 |str (x:Str):jA K H (.str x) (.type "str")
 |tu (x:UInt64):jA K H (.tu x) (.type "float")
 |lst {a:Addr}{xs:List V} (e:H a=some (.lst xs)):jA K H (.ref a) (.type "list")
 |eV {a:Addr}{o:Obj}{xs:List V} (e:H a=some (.eV o (.lst xs))):jA K H (.ref a) (.type "list")
 |tup {a:Addr}{xs:List V} (e:H a=some (.tup xs)):jA K H (.ref a) (.type "tuple")
 |dK {a:Addr}{ak:List (Key×V)} (e:H a=some (.dK ak)):jA K H (.ref a) (.type "dict")
 |dT {a:Addr}{ak:List (List Key×V)} (e:H a=some (.dT ak)):jA K H (.ref a) (.type "dict")
 |ins {a C dx:Addr}{fs:List (Str×V)} (e:H a=some (.ins C dx fs)) (cl:ko K C) (ha:PySem.W.findIn K (.ref C) "__class__"=some (some (.builtin "object.__class__")))
   (hn:PySem.W.specialIn K (.builtin "object.__class__") "__get__"=some (some (.builtin "getset_descriptor.__get__"))) (R6:PySem.W.takesIn K (.builtin "object.__class__")=some true)
   (hm:PySem.W.mroIn K C (.type "object")=some true):jA K H (.ref a) (.ref C)
theorem ack(I:Inv X af σ H s)(rx:RelV x u)(ty:jA X.K H x t)(e:PySem.W.kitOne X.K t c=some b)(h:∀tk,Q (.bool b) { s with toks:=tk }):
  wpAny (model X.prog X.w) A (call (.builtin "isinstance") [u,c]) Q E s:=by
 cases ty with
 |aA=>cases(show u=Value.none from rx);exact PySem.W.kia_one PySem.W.kitx_none I.c8 True.intro e (λz=>nomatch z) h
 |bl y=>cases(show u=Value.bool y from rx);exact PySem.W.kia_one PySem.W.kitx_bool I.c8 True.intro e (λz=>nomatch z) h
 |int i=>obtain⟨t,q⟩:=(show ∃t,u=Value.int i t from rx);cases q;exact PySem.W.kia_one PySem.W.kitx_int I.c8 True.intro e (λz=>nomatch z) h
 |str y=>obtain⟨t,q⟩:=(show ∃t,u=Value.str y t from rx);cases q;exact PySem.W.kia_one PySem.W.kitx_str I.c8 True.intro e (λz=>nomatch z) h
 |tu y=>obtain⟨t,q⟩:=(show ∃t,u=Value.float y t from rx);cases q;exact PySem.W.kia_one PySem.W.kitx_float I.c8 True.intro e (λz=>nomatch z) h
 | @lst a xs ea=>
  cases(show u=Value.ref a from rx);obtain⟨_,_,n,_,h1⟩:=(show dz X.prog X.w H s.heap a (.lst xs) from I.aF a _ ea)
  exact PySem.W.kia_one PySem.W.kitx_list I.c8 ⟨_,h1,rfl⟩ e (λz=>nomatch z) h
 | @eV a ob xs ea=>
  cases(show u=Value.ref a from rx);obtain⟨_,_,_,n,_,h1⟩:=(show dz X.prog X.w H s.heap a (.eV ob (.lst xs)) from I.aF a _ ea)
  exact PySem.W.kia_one PySem.W.kitx_list I.c8 ⟨_,h1,rfl⟩ e (λz=>nomatch z) h
 | @tup a xs ea=>
  cases(show u=Value.ref a from rx);obtain⟨_,_,_,p⟩:=(show dz X.prog X.w H s.heap a (.tup xs) from I.aF a _ ea)
  obtain⟨o,h1,h2,_⟩:=p;exact PySem.W.kia_one PySem.W.kitx_tuple I.c8 ⟨o,h1,h2⟩ e (λz=>nomatch z) h
 | @dK a ak ea=>
  cases(show u=Value.ref a from rx);obtain⟨_,_,vs,_,p⟩:=(show dz X.prog X.w H s.heap a (.dK ak) from I.aF a _ ea)
  obtain⟨o,es,ep,h1,h2,_⟩:=p;exact PySem.W.kia_one PySem.W.kitx_dict I.c8 ⟨o,h1,h2.1⟩ e (λz=>nomatch z) h
 | @dT a ak ea=>
  cases(show u=Value.ref a from rx);obtain⟨_,_,xs,_,o,es,ep,h1,h2,_⟩:=(show dz X.prog X.w H s.heap a (.dT ak) from I.aF a _ ea)
  exact PySem.W.kia_one PySem.W.kitx_dict I.c8 ⟨o,h1,h2.1⟩ e (λz=>nomatch z) h
 | @ins a C dx fs ea cl ha hn R6 hm=>
  cases(show u=Value.ref a from rx);obtain⟨mA,O,_⟩:=B4 I.aF ea;obtain⟨od,J,_⟩:=O.look;exact PySem.W.kia_one (PySem.W.kitx_own (cl.get _) cl.hd ha hn R6 hm) I.c8 J e (λz=>nomatch z) h
structure bh(k:Nat)(A:Around)(cm:Bool:=true):Prop where
 hd:cm=true->A.handled=none
 dp:A.depth+3*k+5<recursionLimit
 un:A.units+16*k+200<cLine
 gd:A.guards=some []
theorem bh.mono(r:bh k A cm)(h:j<=k):bh j A cm:=⟨r.hd,by have:=r.dp;omega,by have:=r.un;omega,r.gd⟩
theorem bh.deeper(r:bh (k+1) A cm)(env:Env):bh k (A.deeper env) cm:=
 ⟨r.hd,by have:=r.dp;show A.depth+1+3*k+5<_;omega,by have:=r.un;show A.units+3+16*k+200<_;omega,r.gd⟩
theorem bh.in1(r:bh (k+1) A cm):bh k A.in1 cm:=
 ⟨r.hd,by have:=r.dp;show A.depth+3*k+5<_;omega,by have:=r.un;show A.units+1+16*k+200<_;omega,r.gd⟩
theorem XC{A:Around}:(A.under (.builtin "type.__call__" ⟨.ref C::us,kw⟩)).depth=A.depth+1:=by
 first|rfl|simp[Around.under,Code.weight,Code.isCreation,Code.isGuard,Code.isCaller,Code.frames,Code.isFrame,guardIds]
theorem Xx{A:Around}:(A.under (.builtin "type.__call__" ⟨.ref C::us,kw⟩)).units=A.units+1:=by
 first|rfl|simp[Around.under,Code.cUnits,Code.frames,Code.isFrame]
theorem bh.make(r:bh (k+1) A cm)(C:Addr)(us:List Value)(kw:List (Str×Value)):bh k (A.under (.builtin "type.__call__" ⟨.ref C::us,kw⟩)) cm:=
 ⟨r.hd,by have:=r.dp;rw[XC];omega,by have:=r.un;rw[Xx];omega,by first|exact r.gd|(simp[Around.under,Code.guards,Code.isGuard,guardIds,pushGuards];exact r.gd)⟩
theorem bh.depth(r:bh k A cm):A.depth<recursionLimit:=by have:=r.dp;omega
theorem bh.units(r:bh k A cm):A.units+64<cLine:=by have:=r.un;omega
def Cc:TA:=λ_ H Q=>Q [] H
def Nb(ta:TE)(tr:TA):TA:=λσ H Q=>ta σ H λx H1=>tr σ H1 λxs H2=>Q (x::xs) H2
theorem eW:PA X [] Cc:=λ_ _ _ _ H Q I h=>Calls.spliced_nil ⟨[],H,I,.nil,h⟩
theorem cP(ha:PE X e te)(hr:PA X es t)(hs:starEach (e::es) X.env=(false,eval e X.env)::starEach es X.env:=by rfl):PA X (e::es) (Nb te t):=by
 intro pos af s σ H Q I h;rw[hs];show wpAny _ _ (spliced ((false,eval e X.env)::backTo pos (starEach es X.env))) _ _ s;refine Calls.spliced_cons (ha.n I h λu s1 x H1 I1 r1 q1=>?_);exact hr.n I1 q1 λus s2 xs H2 I2 r2 q2=>⟨x::xs,H2,I2,.cons r1 r2,q2⟩
def aex(t:TA):TE:=λσ H Q=>t σ H λxs H1=>xs.length<=sizeLine/\∀p,H1 p=none->Q (.ref p) (upd H1 p (.tup xs))
def s_(t:TA):TE:=λσ H Q=>t σ H λxs H1=>xs.length<=sizeLine/\∀p,H1 p=none->Q (.ref p) (upd H1 p (.lst xs))
theorem KZ{x1}(h:PA X es t):PE X (.Tuple es x1 pos) (aex t):=by
 intro af s σ H Q I hq;refine wpAny_Tuple_spliced (cD (h pos af s σ H _ I hq) ?_)
 rintro us s1 ⟨xs,H1,I1,r,z,q⟩
 refine⟨by rw[<- r.length];exact z,?_⟩;have hf:=I1.aF.fresh (abW _);refine⟨.ref s1.heap.objs.size,upd H1 s1.heap.objs.size (.tup xs),I1.laid (t':=s1.toks) (λb u e=>aap _ e) (abW _) ?_,rfl,q _ hf⟩;exact⟨z,us,r,⟨_,ab8 _ rfl,rfl,rfl,_,rfl⟩⟩
theorem adI(h:PA X es t):PE X (.List es pos) (s_ t):=by
 intro af s σ H Q I hq;refine wpAny_List_spliced (cD (h pos af s σ H _ I hq) ?_)
 rintro us s1 ⟨xs,H1,I1,r,z,q⟩
 refine⟨by rw[<- r.length];exact z,?_⟩;have hf:=I1.aF.fresh (abW _);refine⟨.ref s1.heap.objs.size,upd H1 s1.heap.objs.size (.lst xs),I1.laid (t':=s1.toks) (λb u e=>aap _ e) (abW _) ?_,rfl,q _ hf⟩;exact⟨z,us,0,r,ab8 _ rfl⟩
abbrev Sp:=List V->Hp->VK->XK->Prop
abbrev pF:=List Env->Hp->Shared->XK->Value->Shared->Prop
structure rX(P:Program)(w:World)(K:PySem.W.Frag)(mg:Str->Option Value)(base:Heap)(A:Around)(outer:List Env)(s:Shared)(H:Hp):Prop where
 frames:A.frames=some outer
 mod:Mod K mg base
 bs:∀b o,base.get? b=some o->s.heap.get? b=some o/\H b=none
 jb:base.objs.size<=s.heap.objs.size
 jc:s.heap.FunFrames base outer
 lD:∀b∈aY outer,H b=none
 aF:cN P w H s.heap
 bare:AllBare s.gens
 hq:Hq K A H
def CE(outer:List Env)(P:Program)(w:World)(H:Hp)(s:Shared)(Q:VK)(u:Value)(s':Shared):Prop:=
 ∃v H',s'.os=s.os/\AllBare s'.gens/\Un (aY outer) [] H H' s.heap s'.heap/\cN P w H' s'.heap/\RelV v u/\Q v H'
def CR(CX:pF)(outer:List Env)(P:Program)(w:World)(H:Hp)(s:Shared)(Q:VK)(E:XK)(r:Result)(s':Shared):Prop:=
 match r with
 |.ok (.ret u)=>CE outer P w H s Q u s'
 |.ok _=>False
 |.error e=>CX outer H s E e s'
structure bU(P:Program)(w:World)(K:PySem.W.Frag)(mg:Str->Option Value)(base:Heap)(CX:pF)(k:Nat)(f:Addr)(fd:FuncData)(ps:List Str)(sp:Sp)(cm:Bool:=true):Prop where
 len:∀vs H Q E,sp vs H Q E->vs.length=ps.length
 run:∀(A) (outer) (s) (H) (args) (us) (vs) (Q) (E),bh k A cm->rX P w K mg base A outer s H->BindsTo s fd args (ps.zip us)->aT vs us->sp vs H Q E->
  codeAny (model P w) A (.call (.ref f) args) (CR CX outer P w H s Q E) s
theorem bU.imp{K:PySem.W.Frag}(F:bU P w K mg base CX k f fd ps sp cm)
  (h:∀vs H Q E,Xa vs H Q E->sp vs H Q E):bU P w K mg base CX k f fd ps Xa cm:=
 ⟨λvs H Q E q=>F.len vs H Q E (h _ _ _ _ q),λA outer s H args us vs Q E hr he hb hv hs=>F.run A outer s H args us vs Q E hr he hb hv (h _ _ _ _ hs)⟩
theorem rX.make{K:PySem.W.Frag}(e:rX P w K mg base A outer s H)(C:Addr)(us:List Value)(kw:List (Str×Value)):
  rX P w K mg base (A.under (.builtin "type.__call__" ⟨.ref C::us,kw⟩)) outer s H:=⟨by first|exact e.frames|(simpa[Around.under,Code.envs,Code.isFrame,pushEnvs] using e.frames),e.mod,e.bs,e.jb,e.jc,e.lD,e.aF,e.bare,⟨e.hq.hd,e.hq.ok,e.hq.lm⟩⟩
theorem Inv.Dp(I:Inv X af σ H s):rX X.prog X.w X.K X.mg X.base X.A X.stack s H:=
 ⟨I.ok.frames,I.ok.mod,I.bs,adR I.ok.jb I.sz,I.stack,I.ug,I.aF,I.bare,I.hq⟩
theorem Inv.after(I:Inv X af σ H s)(h:CE X.stack X.prog X.w H s Q u s'):EP X af σ Q u s':=by
 obtain⟨v,H',os,bare,un,aF,r,q⟩:=h;obtain⟨hh,g,d,t,VM⟩:=s';obtain rfl:VM=s.os:=os;exact⟨v,H',I.call (g':=g) (d':=d) (ch:=[]) un aF bare (λb z=>absurd z (by simp)),r,q⟩
def acD(sp:Sp)(eS:List V)(E:XK)(t:TA):TE:=λσ H Q=>t σ H λvs H1=>sp (vs++eS) H1 Q E
def AX(C:Addr)(m:Str)(sp:Sp)(eS:List V)(E:XK)(ta:TE)(t:TA):TE:=λσ H Q=>ta σ H λx H1=>∃a dx fs,x=.ref a/\H1 a=some (.ins C dx fs)/\fs.lookup m=none/\
 t σ H1 λvs H2=>sp (x::(vs++eS)) H2 Q E
def HM(C:Addr)(sp:Sp)(eS:List V)(E:XK)(t:TA):TE:=λσ H Q=>t σ H λvs H1=>∀x dx,H1 x=none->H1 dx=none->dx≠x->
 sp (.ref x::(vs++eS)) (upd (upd H1 dx (.own x)) x (.ins C dx [])) (λv H2=>v=.aA/\Q (.ref x) H2) E
def Binds(K:PySem.W.Frag)(fd:FuncData)(ps:List Str)(ds:List Value):Prop:=
 ∀(s) (us),K.In s.heap->(us++ds).length=ps.length->BindsTo s fd ⟨us,[]⟩ (ps.zip (us++ds))
theorem Binds.all{K:PySem.W.Frag}(h:∀us:List Value,us.length=ps.length->bindArgs fd ⟨us,[]⟩=pure (ps.zip us)):Binds K fd ps []:=λs us _ hl=>by
 rw[acI] at hl ⊢;exact .of_eq (h us hl)
def Passes(CX:pF)(X:Cx)(E:XK):Prop:=∀(af) (σ) (H) (s) (e) (s'),Inv X af σ H s->CX X.stack H s E e s'->X.xe e s'
theorem JL(F:bU X.prog X.w X.K X.mg X.base CX k f fd ps sp cm)(hr:bh k X.A cm)(hb:Binds X.K fd ps ds)(hd:aT eS ds)(hx:Passes CX X E)
  (I:Inv X af σ H s) (r:aT vs us) (h:sp (vs++eS) H Q E):Z4 X X.A (call (.ref f) us) (EP X af σ Q) X.xe s:=by
 have r2:=r.append hd;have hl:(us++ds).length=ps.length:=by rw[<- r2.length];exact F.len _ _ _ _ h
 refine wpAny_call (codeAny_mono (F.run X.A X.stack s H ⟨us,[]⟩ (us++ds) (vs++eS) Q E hr I.Dp (hb s us I.c8 hl) r2 h) λr s' hq=>?_);cases r with
 |error e=>exact hx af σ H s e s' I hq
 |ok fl=>
  cases fl with
  |ret u=>exact I.after hq
  |next=>exact False.elim hq
  |brk=>exact False.elim hq
  |cont=>exact False.elim hq
theorem OJ(F:bU X.prog X.w X.K X.mg X.base CX k f fd ps sp cm)(hr:bh k X.A cm)(hg:Gl X x)(hm:X.mg x=some (.ref f))(hk:PySem.W.keepIn X.K (.ref f)=true)(hb:Binds X.K fd ps ds)(hd:aT eS ds)(hx:Passes CX X E)
  (ha:PA X (e::es) t) (gj:(x==("__debug__":Str))=false:=by decide) (he:starEach (e::es) X.env=(false,eval e X.env)::starEach es X.env:=by rfl) (hpl:(backTo pos (starEach es X.env)).any (·.1)=false:=by rfl) :
  PE X (.Call (.Name x p) (e::es) [] pos) (acD sp eS E t):=by
 exists 44;refine afJ (sC I hg hm ?_ gj);refine PySem.W.callWith_K (h₀:=X.base) I.ok.mod.sO hk (ha.n I h λus s1 vs H1 I1 r q=>⟨I1.c8,?_⟩) he hpl;exact JL F hr hb hd hx I1 r q
theorem Bo(he:PE X o ta)(c:ko X.K C)(hm:kc X.K C m f)(F:bU X.prog X.w X.K X.mg X.base CX k f fd ps sp cm)(hr:bh k X.A cm)(hb:Binds X.K fd ps ds)(hd:aT eS ds)(hx:Passes CX X E)(ha:PA X (e::es) t)
  (cV:starEach (e::es) X.env=(false,eval e X.env)::starEach es X.env:=by rfl) (hpl:(backTo pos (starEach es X.env)).any (·.1)=false:=by rfl)
  (ht:eval (.Call (.Attribute o m apos) (e::es) [] pos) X.env=(do
   let ov <- eval o X.env
   standAt apos.atName
   let(f,first) <- holding [ov] (getMethod ov m pl)
   callWith pos f first (backTo pos (starEach (e::es) X.env)) (backToKw pos (keywordEach [] X.env))):=by rfl) :
  PE X (.Call (.Attribute o m apos) (e::es) [] pos) (AX C m sp eS E ta t):=by
 exists 44;refine PySem.W.methodCall_KW (pl:=pl) (he.n I h λu s1 x H1 I1 rx q=>?_) ht;obtain⟨a,dx,fs,ex,ea,l,q⟩:=q;subst ex;exists 55;refine EJ I1 ea c hm l ?_;refine PySem.W.callWith_K (first:=[.ref a]) (h₀:=X.base) I.ok.mod.sO hm.kp (ha.n I1 q λus s2 vs H2 I2 r q2=>⟨I2.c8,?_⟩) cV hpl;exact JL (us:=.ref a::us) (vs:=.ref a::vs) F hr hb hd hx I2 (.cons rfl r) q2
theorem Mu(he:PE X o ta)(c:ko X.K C)(hm:kc X.K C m f)(F:bU X.prog X.w X.K X.mg X.base CX k f fd ps sp cm)(hr:bh k X.A cm)(hb:Binds X.K fd ps ds)(hd:aT eS ds)(hx:Passes CX X E)
  (ht:eval (.Call (.Attribute o m apos) [] [] pos) X.env=(do
   let ov <- eval o X.env
   standAt apos.atName
   let(f,first) <- holding [ov] (getMethod ov m pl)
   callWith pos f first (backTo pos (starEach [] X.env)) (backToKw pos (keywordEach [] X.env))):=by rfl) :
  PE X (.Call (.Attribute o m apos) [] [] pos) (AX C m sp eS E ta Cc):=by
 exists 44;refine PySem.W.methodCall_KW (pl:=pl) (he.n I h λu s1 x H1 I1 rx q=>?_) ht;obtain⟨a,dx,fs,ex,ea,l,q⟩:=q;subst ex;exists 55;refine EJ I1 ea c hm l ?_;exact PySem.W.callWith_K0 (first:=[.ref a]) I1.c8 hm.kp (JL (us:=[.ref a]) (vs:=[.ref a]) F hr hb hd hx I1 (.cons rfl .nil) q)
structure Mk(K:PySem.W.Frag)(C f:Addr):Prop where
 makes:PySem.W.makesIn K C=true
 init:PySem.W.findIn K (.ref C) "__init__"=some (some (.ref f))
 fn:PySem.W.isFn K (.ref f)=true
 kp:PySem.W.keepIn K (.ref C)=true
theorem Ql(M:Mk X.K C f)(F:bU X.prog X.w X.K X.mg X.base CX k f fd ps sp cm)(hr:bh (k+1) X.A cm)(hb:Binds X.K fd ps ds)(hd:aT eS ds)
  (hx:Passes CX X E) (I:Inv X af σ H s) (r:aT vs us)
  (h:∀x dx,H x=none->H dx=none->dx≠x->sp (.ref x::(vs++eS)) (upd (upd H dx (.own x)) x (.ins C dx [])) (λv H2=>v=.aA/\Q (.ref x) H2) E) :
  Z4 X X.A (call (.ref C) us) (EP X af σ Q) X.xe s:=by
 have hq:=h (s.heap.objs.size+1) s.heap.objs.size (I.aF.fresh (ahl _)) (I.aF.fresh (abW _)) (acL (agS _));have I2:=Inv.made (C:=C) I;have r2:aT (V.ref (s.heap.objs.size+1)::(vs++eS)) (Value.ref (s.heap.objs.size+1)::(us++ds)):=.cons rfl (r.append hd);have hl:(Value.ref (s.heap.objs.size+1)::us++ds).length=ps.length:=by
  have e:=r2.length;rw[F.len _ _ _ _ hq] at e;exact e.symm
 refine wpAny_call (aal I.c8 M.makes M.init (agg.mp M.fn) (codeAny_mono (F.run _ X.stack _ _ ⟨Value.ref (s.heap.objs.size + 1)::us,[]⟩ (Value.ref (s.heap.objs.size + 1)::(us++ds)) _ _ E (hr.make C us [])
  (I2.Dp.make C us []) (hb _ (Value.ref (s.heap.objs.size+1)::us) I2.c8 hl) r2 hq) λr s' o7=>?_))
 cases r with
 |error e=>exact hx af σ _ _ e s' I2 o7
 |ok fl=>
  cases fl with
  |ret u=>
   obtain⟨v,H',I3,rv,ev,q3⟩:=I2.after o7;subst ev;exact⟨rv,⟨V.ref (s.heap.objs.size+1),H',I3,rfl,q3⟩⟩
  |next=>exact False.elim o7
  |brk=>exact False.elim o7
  |cont=>exact False.elim o7
theorem Uc(M:Mk X.K C f)(F:bU X.prog X.w X.K X.mg X.base CX k f fd ps sp cm)(hr:bh (k+1) X.A cm)(hg:Gl X x)(hm:X.mg x=some (.ref C))(hb:Binds X.K fd ps ds)(hd:aT eS ds)(hx:Passes CX X E)
  (ha:PA X (e::es) t) (gj:(x==("__debug__":Str))=false:=by decide) (he:starEach (e::es) X.env=(false,eval e X.env)::starEach es X.env:=by rfl) (hpl:(backTo pos (starEach es X.env)).any (·.1)=false:=by rfl) :
  PE X (.Call (.Name x p) (e::es) [] pos) (HM C sp eS E t):=by
 exists 44;refine afJ (sC I hg hm ?_ gj);refine PySem.W.callWith_K (h₀:=X.base) I.ok.mod.sO M.kp (ha.n I h λus s1 vs H1 I1 r q=>⟨I1.c8,?_⟩) he hpl;exact Ql M F hr hb hd hx I1 r q
theorem SW(M:Mk X.K C f)(F:bU X.prog X.w X.K X.mg X.base CX k f fd ps sp cm)(hr:bh (k+1) X.A cm)(hg:Gl X x)(hm:X.mg x=some (.ref C))(hb:Binds X.K fd ps ds)(hd:aT eS ds)(hx:Passes CX X E)
  (gj:(x==("__debug__":Str))=false:=by decide):PE X (.Call (.Name x p) [] [] pos) (HM C sp eS E Cc):=by
 exists 44;refine afJ (sC I hg hm ?_ gj);exact PySem.W.callWith_K0 I.c8 M.kp (Ql (us:=[]) M F hr hb hd hx I .nil h)
structure nU(N P:List Str)(sc:Scope):Prop where
 kind:sc.kind=.function
 co:sc.isCoroutine=false
 gen:sc.isGenerator=false
 nd:N.Nodup
 pre:N.take P.length=P
 par:∀x∈P,sc.names.lookup x=some .local\/sc.names.lookup x=some .cell
 Yv:∀y∈sc.names,y.2≠.free
theorem Ky{kindOf:Str->Option NameKind}:∀{binds} {m},(∀v,(x,v)∉binds)->bindL kindOf binds m x=m x
 |[],_,_=>rfl
 |(n,v)::r,m,h=>by
  unfold bindL;rw[Ky λw hw=>h w (aaf _ hw)]
  split
  .have:x≠n:=by rintro rfl;exact h v aak
   simp[this]
  .rfl
theorem Lq{kindOf:Str->Option NameKind}:∀{binds} {m},(∀v,(x,v)∉binds)->bindC kindOf binds m x=m x
 |[],_,_=>rfl
 |(n,v)::r,m,h=>by
  unfold bindC;rw[Lq λw hw=>h w (aaf _ hw)]
  split
  .rfl
  .have:x≠n:=by rintro rfl;exact h v aak
   simp[this]
theorem Pf{kindOf:Str->Option NameKind}:∀{P:List Str} {vs}{i:Nat} {m},P.Nodup->P[i]? = some x->vs[i]? = some v->kindOf x=some .local->
  bindL kindOf (P.zip vs) m x=some v
 |[],_,_,_,_,h,_,_=>by simp at h
 |_::_,[],_,_,_,_,h,_=>by simp at h
 |p::P,w::vs,0,m,nd,h1,h2,hk=>by
  simp at h1 h2;subst h1;subst h2;show bindL kindOf ((p,w)::P.zip vs) m p=_;unfold bindL;rw[Ky λv hv=>(abZ.mp nd).1 (List.of_mem_zip hv).1,if_pos hk];simp
 |p::P,w::vs,i+1,m,nd,h1,h2,hk=>by
  unfold bindL;exact Pf (abZ.mp nd).2 (by simpa using h1) (by simpa using h2) hk
theorem QD{kindOf:Str->Option NameKind}:∀{P:List Str} {vs}{i:Nat} {m},P.Nodup->P[i]? = some x->vs[i]? = some v->kindOf x≠some .local->
  bindC kindOf (P.zip vs) m x=some v
 |[],_,_,_,_,h,_,_=>by simp at h
 |_::_,[],_,_,_,_,h,_=>by simp at h
 |p::P,w::vs,0,m,nd,h1,h2,hk=>by
  simp at h1 h2;subst h1;subst h2;show bindC kindOf ((p,w)::P.zip vs) m p=_;unfold bindC;rw[Lq λv hv=>(abZ.mp nd).1 (List.of_mem_zip hv).1,if_neg hk];simp
 |p::P,w::vs,i+1,m,nd,h1,h2,hk=>by
  unfold bindC;exact QD (abZ.mp nd).2 (by simpa using h1) (by simpa using h2) hk
noncomputable def start(N:List Str)(vs:List V):St:=vs.map some++List.replicate (N.length-vs.length) none
noncomputable def fU(CX:pF)(P:Program)(w:World)(K:PySem.W.Frag)(mg:Str->Option Value)(base:Heap)(N:List Str)(qual:Str)(scope:Scope)(f:Addr)(cd:Value)(A:Around)(outer:List Env)(s:Shared)(H:Hp)(E:XK)(cm:Bool:=true):Cx where
 prog:=P
 w:=w
 K:=K
 mg:=mg
 base:=base
 A:=A.deeper (envOfC qual scope s.heap.objs.size f cd)
 N:=N
 cI:=s
 vd:=H
 env:=envOfC qual scope s.heap.objs.size f cd
 outer:=outer
 stack:=envOfC qual scope s.heap.objs.size f cd::outer
 ex:=[]
 calm:=cm
 fn:=λ_=>true
 pn:=[]
 xe:=λe s'=>wpAny (model P w) (A.deeper (envOfC qual scope s.heap.objs.size f cd)) (leaving (envOfC qual scope s.heap.objs.size f cd) e) (λ_ gU=>CX outer H s E e gU) (λe' gU=>CX outer H s E e' gU) s'
theorem O4{sc:Scope}(h:sc.names.lookup x=some .cell):∃c,(cellsFrom n sc.names []).lookup x=some c:=by
 have q:=PySem.W.cellsFrom_some sc.names n [] (.inl h);exact agv.mp q
theorem Uy{w:World}{K:PySem.W.Frag}{mg:Str->Option Value}
  (S:nU N ps scope) (hd:cm=true->A.handled=none) (e0:rX P w K mg base A outer s H) (hl:vs.length=ps.length) (r:aT vs us)
  (x:InCallC s s.heap.objs.size (bindL (envOfC qual scope s.heap.objs.size f cd).kindOf (ps.zip us) λ_=>none) (cellsFrom (s.heap.objs.size+1) scope.names []) (bindC (envOfC qual scope s.heap.objs.size f cd).kindOf (ps.zip us) λ_=>none) s1) :
  Inv (fU CX P w K mg base N qual scope f cd A outer s H E cm) [] (start N vs) H s1:=by
 have hpl:ps.length<=N.length:=by have:=congrArg List.length S.pre;rw[agT] at this;omega
 obtain⟨h1,tk,rfl,hk⟩:=x.done;have tU:∀b:Addr,b∉(fU CX P w K mg base N qual scope f cd A outer s H E cm).ex:=λb z=>absurd (show b∈([]:List Addr) from z) (by simp)
 refine⟨⟨e0.mod,S.kind,rfl,rfl,abW _,λy z c h1 h2=>?_,λy hy=>?_,λy c _ h=>?_,hd,Around.frames_deeper e0.frames,.inr ⟨rfl,rfl⟩,λb z=>absurd z (tU b),e0.bs,e0.jb,λb _ _=>tU b,λb z=>absurd z (tU b),e0.jc,e0.lD⟩,
  rfl,e0.bare,Un.kept hk,⟨_,x.toInCall.ns,λi y v h1 h2 h3=>?_⟩,λy c h=>⟨_,x.cell y c h⟩,e0.aF.fresh (abW _),λy c h=>?_,λp hp=>absurd (show p∈([]:List (Addr×Obj)) from hp) (by simp),e0.aF.kept hk,?_,⟨e0.hq.hd,e0.hq.ok,e0.hq.lm⟩⟩
 .exact name_of_addr x.apart (PySem.mem_of_lookup h1) (PySem.mem_of_lookup h2)
 .have hy:=hy;rcases hy with hy|hy
  .exact O4 hy
  .exact absurd rfl (S.Yv _ (PySem.mem_of_lookup hy))
 .exact afk (x.above y c (PySem.mem_of_lookup h))
 .have hi:i<vs.length:=by
   unfold start at h2
   by_cases hi:i<vs.length
   .exact hi
   .rw[aeL (by simpa using hi)] at h2;rw[agQ] at h2
    split at h2<;>cases h2
  have ha:vs[i]? = some v:=by
   unfold start at h2;rw[aea (by simpa using hi),acn] at h2;exists e,vs[i]?,a,h2;cases h2;rfl
  obtain⟨u,hu,rv⟩:=r.get ha;have hp:ps[i]? = some y:=by
   rw[<- S.pre,List.getElem?_take_of_lt (by omega)];exact h1
  have KL:ps.Nodup:=by rw[<- S.pre];exact S.nd.sublist (List.take_sublist _ _)
  refine⟨u,rv,?_⟩;rcases S.par y (aeT hp) with k|k
  .exact .inl ⟨k,Pf KL hp hu k⟩
  .obtain⟨c,e⟩:=O4 k;refine .inr ⟨.inl k,c,e,?_⟩;have q:=x.cell y c e;rw[QD KL hp hu (by show scope.names.lookup y≠_;rw[k];decide)] at q;exact q
 .exact e0.aF.fresh (afk (x.above y c (PySem.mem_of_lookup h)))
 .unfold start;show _=N.length;rw[abR,List.length_map,List.length_replicate];omega
theorem KP{K:PySem.W.Frag}{dV kV doc pm aQ ct oc:Value}
  (lk:K.lookup f=some ⟨oc,od,.func (PySem.W.fnOf name qual params body scope dV kV doc pm an aQ ct),pS⟩) (ig:PySem.W.codeIn K aQ qual=true) (S:nU N ps scope)
  (len:∀vs H Q E,sp vs H Q E->vs.length=ps.length)
  (wH:∀(A) (outer) (s) (H) (vs) (Q) (E),bh k (A.deeper (envOfC qual scope s.heap.objs.size f aQ)) cm->sp vs H Q E->
   ∃t,iK (fU CX P w K mg base N qual scope f aQ A outer s H E cm) body t/\t { nx:=λ_ H'=>Q .aA H',rt:=Q } (start N vs) H) :
  bU P w K mg base CX (k+1) f (PySem.W.fnOf name qual params body scope dV kV doc pm an aQ ct) ps sp cm:=by
 refine⟨len,λA outer s H args us vs Q E hr e0 hb r qA=>?_⟩;have hl:=len _ _ _ _ qA;have KX:=e0.mod.sO.keeps λb o e=>(e0.bs b o e).1
 have lim:=e0.mod.nolimit.keeps λb o e=>(e0.bs b o e).1
 have abL:∀y∈ps.zip us,scope.names.lookup y.1=some .local\/(scope.names.lookup y.1=some .cell/\((cellsFrom (s.heap.objs.size+1) scope.names []).lookup y.1).isSome=true):=λ⟨n,v⟩ hy=>by
  rcases S.par n (List.of_mem_zip hy).1 with q|q
  .exact .inl q
  .exact .inr ⟨q,PySem.W.cellsFrom_some _ _ _ (.inl q)⟩
 refine codeAny_call_function hr.depth (KX _ _ lk) rfl S.co S.gen rfl (PySem.W.codeRec_of KX ig) (hb _ _ _ _ ?_);refine wpAny_newFunctionEnv_cells S.kind abL λenv he s1 x=>?_
 subst he;refine⟨lim.keeps x.toInCall.keep,codeAny_func ?_⟩;obtain⟨t,ht,hq⟩:=wH A outer s H vs Q E (hr.deeper _) qA;have I:Inv (fU CX P w K mg base N qual scope f aQ A outer s H E cm) [] (start N vs) H s1:=Uy S hr.hd e0 hl r x;refine adW (ht [] s1 (start N vs) H _ I hq) (λfl s' hs=>?_) λe s' hs=>hs
 have fin:∀{az} {H'} {v} {u},Inv (fU CX P w K mg base N qual scope f aQ A outer s H E cm) [] az H' s'->RelV v u->Q v H'->CE outer P w H s Q u s':=
  λ{az H' v u} J rv q=>⟨v,H',J.os,J.bare,J.base,J.aF,rv,q⟩
 cases fl with
 |ret u=>
  obtain⟨v,az,H',J,rv,q⟩:=hs;exact fin J rv q
 |next=>
  obtain⟨az,H',J,q⟩:=hs;exact fin (v:=V.aA) (u:=Value.none) J rfl q
 |brk=>
  obtain⟨_,_,_,q⟩:=hs;exact False.elim q
 |cont=>
  obtain⟨_,_,_,q⟩:=hs;exact False.elim q
section
variable{id T:String}
def GH(r:List V->Hp->VK->Prop)(t:TA):TE:=λσ H Q=>t σ H λvs H1=>r vs H1 Q
theorem lY(hc:f7 X (.builtin id) r)(hg:Gl X x)(hm:X.mg x=none)(hv:bootBuiltins x=some (.builtin id))(ha:PA X (e::es) t)(hn:x≠"__name__":=by decide)(gj:(x==("__debug__":Str))=false:=by decide)
  (he:starEach (e::es) X.env=(false,eval e X.env)::starEach es X.env:=by rfl) (hpl:(backTo pos (starEach es X.env)).any (·.1)=false:=by rfl):PE X (.Call (.Name x p) (e::es) [] pos) (GH r t):=by
 exists 44;refine afJ (qH I hg hm hv ?_ hn gj);exact PyProof.Rows.callWith_builtin1 (ha.n I h λus s1 vs H1 I1 r1 q1=>hc af s1 σ H1 vs us Q I1 r1 q1) he hpl
theorem Jo(hc:f7 X (.type T) r)(hg:Gl X x)(hm:X.mg x=none)(hv:bootBuiltins x=some (.type T))(ha:PA X (e::es) t)(hn:x≠"__name__":=by decide)(gj:(x==("__debug__":Str))=false:=by decide)
  (he:starEach (e::es) X.env=(false,eval e X.env)::starEach es X.env:=by rfl) (hpl:(backTo pos (starEach es X.env)).any (·.1)=false:=by rfl):PE X (.Call (.Name x p) (e::es) [] pos) (GH r t):=by
 exists 44;refine afJ (qH I hg hm hv ?_ hn gj);exact agC (ha.n I h λus s1 vs H1 I1 r1 q1=>hc af s1 σ H1 vs us Q I1 r1 q1) he hpl
end
end L2
namespace HT
open PySem PyProof.Rows
noncomputable def gJ(n d:Nat):Option Int->Nat
 |none=>d
 |some v=>if v<0 then(v+(n:Int)).toNat else min v.toNat n
theorem Dh(n d:Nat):gJ n d none=d:=rfl
theorem Gb(n d k:Nat):gJ n d (some (k:Int))=min k n:=by
 show(if(k:Int)<0 then((k:Int)+(n:Int)).toNat else min (k:Int).toNat n)=min k n;rw[if_neg (by omega),Int.toNat_natCast]
end HT
namespace L2
open PySem PySem.Spec PyProof.Rows
abbrev TO:=St->Hp->(Option Int->Hp->Prop)->Prop
def PO(X:Cx)(e:Option Expr)(t:TO):Prop:=
 ∀(af) (s) (σ) (H) (Q),Inv X af σ H s->t σ H Q->
  Z4 X X.A (evalPart e X.env) (λu s'=>∃o H',Inv X af σ H' s'/\IsPart u o/\Q o H') X.xe s
noncomputable def Vc:TO:=λ_ H Q=>Q none H
noncomputable def Vq(t:TE):TO:=λσ H Q=>t σ H λx H1=>∃i,x=.int i/\Q (some i) H1
theorem intsAre_of:∀{us},aT (ns.map V.int) us->IntsAre us ns:=by
 induction ns with
 |nil=>intro us r;rw[ahc] at r;cases r;exact .nil
 |cons n ns ih=>
  intro us r;rw[aan] at r;cases r with
  |cons r1 r2=>
   obtain⟨t,e⟩:=r1;subst e;exact .cons n t (ih r2)
section
variable{lo hi:Option Expr}
theorem GW:PO X none Vc:=by
 exists 44;rw[evalPart_none];exact acA ⟨none,H,I,.none,h⟩
theorem FU(h:PE X e te):PO X (some e) (Vq te):=by
 intro af s σ H Q I hw;rw[evalPart_some];refine h.n I hw λu s1 x H1 I1 r1 q1=>?_
 obtain⟨i,rfl,q⟩:=q1;obtain⟨t,rfl⟩:=r1;exact⟨some i,H1,I1,.int i t,q⟩
def PN(X:Cx)(r:V->Option Int->Option Int->Hp->VK->Prop):Prop:=
 ∀(af) (s) (σ) (H) (x) (v vl vu) (lo hi) (sl) (Q),Inv X af σ H s->RelV x v->s.heap.IsSliceOf sl vl vu .none->IsPart vl lo->IsPart vu hi->r x lo hi H Q->
  ∃T id,typeLookup (.type T) "__getitem__"=pure (some (.builtin id))/\s.TypeIs v T/\Z4 X X.A (getItem v (.ref sl)) (EP X af σ Q) X.xe s
def VQ(r:V->Option Int->Option Int->Hp->VK->Prop)(te:TE)(tl th:TO):TE:=λσ H Q=>te σ H λx H1=>tl σ H1 λl H2=>th σ H2 λu H3=>r x l u H3 Q
theorem DG(hr:PN X r)(he:PE X e te)(hl:PO X lo tl)(hu:PO X hi th):PE X (.Subscript e (.Slice lo hi none p2) pos) (VQ r te tl th):=by
 exists 44;refine Subscript_ (he.n I h λv s1 x H1 I1 r1 q1=>?_);refine wpAny_Slice (cD (hl af s1 σ H1 _ I1 q1) ?_)
 rintro vl s2 ⟨l,H2,I2,pl,q2⟩
 refine cD (hu af s2 σ H2 _ I2 q2) ?_
 rintro vu s3 ⟨u,H3,I3,pu,q3⟩
 rw[evalPart_none];refine acA ?_;have I4:Inv X af σ H3 { s3 with heap:=s3.heap.push { cls:=.type "slice",data:=.fields #[vl,vu,.none] } }:=I3.kept (t':=s3.toks) λb ob q=>aap _ q
 obtain⟨T,id,hT,ht,hg⟩:=hr af { s3 with heap:=s3.heap.push { cls:=.type "slice",data:=.fields #[vl,vu,.none] } } σ H3 x v vl vu l u s3.heap.objs.size Q I4 r1 (Heap.IsSliceOf.new ..) pl pu q3;show Z4 X X.A (subscriptTail e (.Slice lo hi none p2) v (.ref s3.heap.objs.size)) (EP X af σ Q) X.xe { s3 with heap:=s3.heap.push { cls:=.type "slice",data:=.fields #[vl,vu,.none] } };exact tail_any (ops:=[.ref s3.heap.objs.size,v]) ht hT hg (by with_unfolding_all rfl)
def kR(xs:List V)(lo hi:Option Int):List V:=(xs.drop (HT.gJ xs.length 0 lo)).take (HT.gJ xs.length xs.length hi-HT.gJ xs.length 0 lo)
theorem VN(xs:List V)(lo hi:Option Int):(kR xs lo hi).length<=xs.length:=by
 unfold kR;rw[agT,List.length_drop];omega
end
noncomputable def lu(n:Nat)(i:Int):Option Nat:=if 0<=i then(if i<n then some i.toNat else none) else if -(n:Int)<=i then some (i+n).toNat else none
def dQ{α:Type}(xs:List α)(i:Int):Option α:=(lu xs.length i).bind λj=>xs[j]?
theorem Y9(h:lu n i=some j):seqIndex? i n=some j/\j<n/\-(n:Int)<=i/\i<n:=by
 unfold lu at h
 by_cases h0:0<=i
 .rw[if_pos h0] at h;obtain⟨h1,h⟩:=ci h;have e:=ab4 h;exact⟨by rw[seqIndex_of h0 h1,e],by omega,by omega,h1⟩
 .rw[if_neg h0] at h;obtain⟨h1,h⟩:=ci h;have e:=ab4 h;exact⟨by rw[seqIndex_neg (by omega) h1,e],by omega,h1,by omega⟩
theorem Gj(h:dQ xs i=some v):∃j,seqIndex? i xs.length=some j/\xs[j]? = some v/\j<xs.length/\-(xs.length:Int)<=i/\i<xs.length:=by
 unfold dQ at h;exists e,lu xs.length i,j,h;obtain⟨h1,h2,h3,h4⟩:=Y9 e;exact⟨j,h1,h,h2,h3,h4⟩
def Ji(b:Expr):Prop:=∀o i,subscripted b false o i=operate [o,i] (getItem o i)
def oi(X:Cx)(r:R2):Prop:=
 ∀(value slice) (af) (s) (σ) (H) (x y) (v u) (Q),Inv X af σ H s->RelV x v->RelV y u->r x y H Q->
  subscripted slice false v u=operate [v,u] (getItem v u)->Z4 X X.A (subscriptTail value slice v u) (EP X af σ Q) X.xe s
def D7(X:Cx)(id:String)(r:V->List V->Hp->VK->Prop):Prop:=
 ∀(af) (s) (σ) (H) (x) (xs) (v) (us) (Q),Inv X af σ H s->RelV x v->aT xs us->r x xs H Q->
  Z4 X X.A (call (.builtin id) (v::us)) (EP X af σ Q) X.xe s
section
theorem oi.or(h:oi X r)(h':oi X r'):oi X (λx y H Q=>r x y H Q\/r' x y H Q):=by
 intro value slice af s σ H x y v u Q I rx ry q hs;rcases q with q|q
 .exact h value slice af s σ H x y v u Q I rx ry q hs
 .exact h' value slice af s σ H x y v u Q I rx ry q hs
theorem MB(hr:oi X r)(ha:PE X a ta)(hb:PE X b tb)(hs:Ji b):PE X (.Subscript a b pos) (tY r ta tb):=by
 exists 44;exact Subscript_ (HQ ha hb I h λv u s2 x y H2 I2 rx ry q=>hr a b af s2 σ H2 x y v u Q I2 rx ry q (hs _ _))
def IX(K:PySem.W.Frag):R2:=λx y H Q=>∃p xs i v,x=.ref p/\y=.int i/\b7 K H p xs/\dQ xs i=some v/\Q v H
def DS(K:PySem.W.Frag):R2:=λx y H Q=>∃p xs i v,x=.ref p/\y=.int i/\cj K H p xs/\dQ xs i=some v/\Q v H
def G7:R2:=λx y H Q=>∃z i c,x=.str z/\y=.int i/\z.length<=sizeLine/\dQ z.cps.toList i=some c/\Q (.str ⟨#[c]⟩) H
theorem XI:oi X (IX X.K):=by
 intro value slice af s σ H x y v u Q I rx ry h hs;obtain⟨p,xs,i,z,rfl,rfl,hq,he,q⟩:=h;cases rx;obtain⟨t,rfl⟩:=ry;obtain⟨au,r,pl,hz⟩:=I.list hq;obtain⟨j,h1,h2,h3,h4,h5⟩:=Gj he;obtain⟨w,ew,eU⟩:=r.get h2;have hl:=r.length;have hn:=xT;have fin:EP X af σ Q w s:=⟨z,H,I,eU,q⟩
 by_cases h0:0<=i
 .have hj:i.toNat=j:=by
   rw[seqIndex_of h0 h5] at h1;exact ab4 h1
  exact item_listR pl.isList h0 (by omega) (by rw[hj];simpa using ew) fin hs
 .have hj:(i+(au.toArray.size:Int)).toNat=j:=by
   rw[seqIndex_neg (by omega) h4] at h1;rw[ab6,<- hl];exact ab4 h1
  exact subscriptTail_builtinR pl.isList.typeIs slot_list_getitem.lookup
   (wpAny_getItem_list_neg pl.isList (by omega) (by rw[ab6]<;>omega) (by omega) (by rw[hj];simpa using ew) ⟨rfl,fin⟩) hs
theorem adF:oi X (DS X.K):=by
 intro value slice af s σ H x y v u Q I rx ry h hs;obtain⟨p,xs,i,z,rfl,rfl,hq,he,q⟩:=h;cases rx;obtain⟨t,rfl⟩:=ry;obtain⟨au,r,pl,hz⟩:=I.tuple hq;obtain⟨j,h1,h2,h3,h4,h5⟩:=Gj he;obtain⟨w,ew,eU⟩:=r.get h2;have hl:=r.length;have hn:=xT;have fin:EP X af σ Q w s:=⟨z,H,I,eU,q⟩
 exact subscriptTail_builtinR pl.typeIs slot_tuple_getitem.lookup
  (getItem_tuple pl (by omega) (by omega) (by rw[ab6,<- hl];exact h1) (by simpa using ew) ⟨rfl,fin⟩) hs
theorem ad0:oi X G7:=by
 intro value slice af s σ H x y v u Q I rx ry h hs;obtain⟨z,i,c,rfl,rfl,hz,he,q⟩:=h;exists 63;obtain⟨t',rfl⟩:=ry;obtain⟨j,h1,h2,h3,h4,h5⟩:=Gj he;have hl:z.cps.toList.length=z.length:=by simp[Str.length]
 rw[hl] at h1 h4 h5;have hn:=xT;exact tail_any (typeIs_str s z t) slot_str_getitem.lookup (getItem_str (by
  have e1:decide (i < -(2 ^ 63:Int))=false:=abV (by omega);have e2:decide (i >= 2 ^ 63)=false:=abV (by omega);rw[e1,e2,Bool.or_false]) (by rw[h1];simpa using h2) ⟨.str ⟨#[c]⟩,H,I.tok _,⟨_,rfl⟩,q⟩) hs
def rIx(K:PySem.W.Frag):R2:=λx y H Q=>IX K x y H Q\/DS K x y H Q\/G7 x y H Q
theorem OS:oi X (rIx X.K):=XI.or (adF.or ad0)
theorem aau(lo hi:Option Int)(n:Nat):(sliceBounds lo hi none n).1=((HT.gJ n 0 lo:Nat):Int)/\(sliceBounds lo hi none n).2.1=((HT.gJ n n hi:Nat):Int)/\(sliceBounds lo hi none n).2.2=1:=by
 refine⟨?_,?_,rfl⟩
 .cases lo with
  |none=>simp[sliceBounds,HT.gJ]
  |some i=>
   simp only[sliceBounds,HT.gJ,Option.getD_none,show(1:Int) > 0 by decide,if_true]
   by_cases h:i<0
   .simp only[h,if_true]<;>omega
   .simp only[h,if_false]<;>omega
 .cases hi with
  |none=>simp[sliceBounds,HT.gJ]
  |some i=>
   simp only[sliceBounds,HT.gJ,Option.getD_none,show(1:Int) > 0 by decide,if_true]
   by_cases h:i<0
   .simp only[h,if_true]<;>omega
   .simp only[h,if_false]<;>omega
theorem adX(au:List Value)(lo hi:Option Int):slicePick au.toArray lo hi none=((au.drop (HT.gJ au.length 0 lo)).take (HT.gJ au.length au.length hi-HT.gJ au.length 0 lo)).toArray:=by
 obtain⟨h1,h2,h3⟩:=aau lo hi au.toArray.size;unfold slicePick;rw[h1,h2,h3];simp only[sliceRange_one,pick_run,ab6]<;>rfl
def Qw(K:PySem.W.Frag):V->Option Int->Option Int->Hp->VK->Prop:=λx lo hi H Q=>∃a xs,x=.ref a/\b7 K H a xs/\∀p,H p=none->Q (.ref p) (upd H p (.lst (kR xs lo hi)))
theorem Dg:PN X (Qw X.K):=by
 intro af s σ H x v vl vu lo hi sl Q I rx hs pl pu h;obtain⟨a,xs,rfl,hx,q⟩:=h;cases rx;obtain⟨au,r,ht,hz⟩:=I.list hx;have hlen:=r.length;refine⟨"list",_,slot_list_getitem.lookup,ht.isList.typeIs,?_⟩;refine wpAny_getItem_list_slice ht.isList hs pl pu .none (by simp) ?_ (by rw[ab6]<;>omega);rw[adX,<- hlen];refine⟨.ref s.heap.objs.size,_,I.laid (λb ob q=>aap _ q) (abW _) ?_,rfl,q _ (I.aF.fresh (abW _))⟩;exact⟨adR (VN xs lo hi) hz,_,0,(r.drop (HT.gJ xs.length 0 lo)).take (HT.gJ xs.length xs.length hi-HT.gJ xs.length 0 lo),ab8 _ rfl⟩
noncomputable def mW:V->Bool
 |.aA=>true
 |.bl _=>true
 |.int _=>true
 |.str _=>true
 |_=>false
noncomputable def qm:V->V->Bool
 |.aA,.aA=>true
 |.bl a,.bl b=>a==b
 |.bl a,.int b=>(if a then 1 else 0)==b
 |.int a,.bl b=>a==(if b then 1 else 0)
 |.int a,.int b=>a==b
 |.str a,.str b=>a==b
 |_,_=>false
theorem S3(ry:RelV y u)(rx:RelV x v)(fy:mW y=true)(fx:mW x=true):SeqAt.EqAt A s u v (qm y x):=by
 cases y with
 |aA=>
  cases ry;cases x with
  |aA=>cases rx;exact SeqAt.EqAt.same _
  |bl b=>cases rx;exact SeqAt.EqAt.none_bool b
  |int b=>obtain⟨t,rfl⟩:=rx;exact SeqAt.EqAt.none_int b t
  |str b=>obtain⟨t,rfl⟩:=rx;exact SeqAt.EqAt.none_str b t
  |_=>exact absurd (show false=true from fx) abu
 |bl a=>
  cases ry;cases x with
  |aA=>cases rx;exact SeqAt.EqAt.bool_none a
  |bl b=>cases rx;exact SeqAt.EqAt.bool_bool a b
  |int b=>obtain⟨t,rfl⟩:=rx;exact SeqAt.EqAt.bool_int a b t
  |str b=>obtain⟨t,rfl⟩:=rx;exact SeqAt.EqAt.bool_str a b t
  |_=>exact absurd (show false=true from fx) abu
 |int a=>
  obtain⟨t',rfl⟩:=ry;cases x with
  |aA=>cases rx;exact SeqAt.EqAt.int_none a t'
  |bl b=>cases rx;exact SeqAt.EqAt.int_bool a t' b
  |int b=>obtain⟨t,rfl⟩:=rx;exact SeqAt.EqAt.int_int a t' b t
  |str b=>obtain⟨t,rfl⟩:=rx;exact SeqAt.EqAt.int_str a t' b t
  |_=>exact absurd (show false=true from fx) abu
 |str a=>
  obtain⟨t',rfl⟩:=ry;cases x with
  |aA=>cases rx;exact SeqAt.EqAt.str_none a t'
  |bl b=>cases rx;exact SeqAt.EqAt.str_bool a t' b
  |int b=>obtain⟨t,rfl⟩:=rx;exact SeqAt.EqAt.str_int a t' b t
  |str b=>obtain⟨t,rfl⟩:=rx;exact SeqAt.EqAt.str_str a t' b t
  |_=>exact absurd (show false=true from fx) abu
 |_=>exact absurd (show false=true from fy) abu
def iS(x:V)(u:Value):Bool:=match u with
 |.none=>qm .aA x
 |.bool b=>qm (.bl b) x
 |.int i _=>qm (.int i) x
 |.str z _=>qm (.str z) x
 |_=>false
theorem NT(r:RelV y u)(f:mW y=true):iS x u=qm y x:=by
 cases y with
 |aA=>cases r;rfl
 |bl b=>cases r;rfl
 |int i=>obtain⟨t,rfl⟩:=r;rfl
 |str z=>obtain⟨t,rfl⟩:=r;rfl
 |_=>exact absurd (show false=true from f) abu
theorem zf:∀{xs} {us},aT xs us->xs.all mW=true->us.any (iS x)=xs.any λy=>qm y x
 |_,_,.nil,_=>rfl
 |y::xs,u::us,.cons r t,f=>by
  rw[ahg,abe] at f;rw[afK,afK,NT r f.1,zf t f.2]
theorem uY(rx:RelV x v)(fx:mW x=true):∀{xs} {us},aT xs us->xs.all mW=true->∀u∈us,SeqAt.EqAt A s u v (iS x u)
 |_,_,.nil,_=>λu hu=>by cases hu
 |y::xs,u::us,.cons r t,f=>λu' hu=>by
  rw[ahg,abe] at f;rcases aaQ.mp hu with rfl|hu
  .rw[NT r f.1];exact S3 r rx f.1 fx
  .exact uY rx fx t f.2 u' hu
def uH(x:V)(xs:List V):Bool:=xs.any λy=>qm y x
def Cs(K:PySem.W.Frag)(neg:Bool):R2:=λx y H Q=>∃p xs,y=.ref p/\(b7 K H p xs\/cj K H p xs)/\mW x=true/\xs.all mW=true/\Q (.bl (if neg then !uH x xs else uH x xs)) H
theorem OI:dg X (compareOp .In) (Cs X.K false):=by
 exists 42;obtain⟨p,xs,rfl,hq,fx,fs,q⟩:=h;cases ry;rcases hq with hq|hq
 .obtain⟨au,r,pl,hz⟩:=I.list hq;refine SeqAt.in_listAt (iS x) pl.isList (λw hw=>uY rx fx r fs w (by simpa using hw)) ⟨.bl _,H,I,rfl,?_⟩;exists 53;exact q
 .obtain⟨au,r,pl,hz⟩:=I.tuple hq;refine SeqAt.in_tupleAt (iS x) pl (λw hw=>uY rx fx r fs w (by simpa using hw)) ⟨.bl _,H,I,rfl,?_⟩;exists 53;exact q
theorem Fk:dg X (compareOp .NotIn) (Cs X.K true):=by
 exists 42;obtain⟨p,xs,rfl,hq,fx,fs,q⟩:=h;cases ry;rcases hq with hq|hq
 .obtain⟨au,r,pl,hz⟩:=I.list hq;refine SeqAt.notIn_listAt (iS x) pl.isList (λw hw=>uY rx fx r fs w (by simpa using hw)) ⟨.bl _,H,I,rfl,?_⟩;exists 53;exact q
 .obtain⟨au,r,pl,hz⟩:=I.tuple hq;refine SeqAt.notIn_tupleAt (iS x) pl (λw hw=>uY rx fx r fs w (by simpa using hw)) ⟨.bl _,H,I,rfl,?_⟩;exists 53;exact q
theorem Z8:f7 X (.builtin "len") (λxs H Q=>∃p ys,xs=[.ref p]/\(b7 X.K H p ys\/cj X.K H p ys)/\Q (.int ys.length) H):=by
 exists 43;obtain⟨p,ys,rfl,hq,q⟩:=h;obtain⟨u,rfl,rx⟩:=vals1 r;cases rx;have hn:=xT;rcases hq with hq|hq
 .obtain⟨au,r',pl,hz⟩:=I.list hq;have hlen:=r'.length;exact Calls.call_len_list pl.isList (by simp only[ab6]<;>omega) ⟨.int ys.length,H,I.tok _,⟨s.toks+1,by rw[ab6,hlen]⟩,q⟩
 .obtain⟨au,r',pl,hz⟩:=I.tuple hq;have hlen:=r'.length;exact len_tuple pl (by simp only[ab6]<;>omega) ⟨.int ys.length,H,I.tok _,⟨s.toks+1,by rw[ab6,hlen]⟩,q⟩
theorem SG:f7 X (.type "list") (λxs H Q=>∃p ys,xs=[.ref p]/\(b7 X.K H p ys\/cj X.K H p ys)/\∀l,H l=none->Q (.ref l) (upd H l (.lst ys))):=by
 exists 43;obtain⟨p,ys,rfl,hq,q⟩:=h;obtain⟨u,rfl,rx⟩:=vals1 r;cases rx;have fin:∀(au),aT ys au->ys.length<=sizeLine->∀(h') (c'),(∀b o',s.heap.get? b=some o'->h'.get? b=some o')->
   h'.get? s.heap.objs.size=some { cls:=.type "list",dict:=none,data:=.seq au.toArray c',slots:=#[] }->EP X af σ Q (.ref s.heap.objs.size) { s with heap:=h' }:=λau r' hz h' c' kp e=>
  ⟨.ref s.heap.objs.size,_,I.laid kp (abW _) (show dz X.prog X.w _ h' _ (.lst ys) from⟨hz,au,c',r',e⟩),rfl,q _ (I.aF.fresh (abW _))⟩
 rcases hq with hq|hq
 .obtain⟨au,r',pl,hz⟩:=I.list hq;have hlen:=r'.length;obtain⟨o,ho,hc,n,hd⟩:=pl.isList;exact call_list_seq p (.inl rfl) ho hc hd (λh' c' kp e=>fin au r' hz h' c' kp e) (by simp only[ab6]<;>omega)
 .obtain⟨au,r',pl,hz⟩:=I.tuple hq;have hlen:=r'.length;obtain⟨o,ho,hc,n,hd⟩:=pl;exact call_list_seq p (.inr rfl) ho hc hd (λh' c' kp e=>fin au r' hz h' c' kp e) (by simp only[ab6]<;>omega)
theorem Yc:f7 X (.type "tuple") (λxs H Q=>∃p ys,xs=[.ref p]/\((b7 X.K H p ys/\∀l,H l=none->Q (.ref l) (upd H l (.tup ys)))\/(cj X.K H p ys/\Q (.ref p) H))):=by
 exists 43;obtain⟨p,ys,rfl,h⟩:=h;obtain⟨u,rfl,rx⟩:=vals1 r;cases rx;rcases h with⟨hq,q⟩|⟨hq,q⟩
 .obtain⟨au,r',pl,hz⟩:=I.list hq;have hlen:=r'.length;refine call_tuple_list pl.isList (λh' kp=>?_) (by simp only[ab6]<;>omega);have I1:=I.kept (t':=s.toks) kp;have I2:Inv X af σ (upd H h'.objs.size (.tup ys)) { s with heap:=h'.push { cls:=.type "tuple",data:=.seq au.toArray } }:=
   I1.laid (λb o e=>aap _ e) (abW _) (show dz X.prog X.w _ _ _ (.tup ys) from⟨hz,au,r',oq.new _ _⟩)
  exact⟨.ref h'.objs.size,_,I2,rfl,q _ (I1.aF.fresh (abW _))⟩
 .obtain⟨au,r',pl,hz⟩:=I.tuple hq;exact call_tuple_same pl ⟨.ref p,H,I,rfl,q⟩
def KU(K:PySem.W.Frag)(T:String)(x:V)(H:Hp):Prop:=match x with
 |.str _=>T="str"
 |.int _=>T="int"
 |.ref p=>(T="list"/\∃xs,b7 K H p xs)\/(T="tuple"/\∃o,K.lookup p=some o/\o.cls=.type "tuple"/\o.dict=none)\/
   (T="dict"/\((∃ak,H p=some (.dK ak))\/∃ak,H p=some (.dT ak)))\/(T="set"/\∃S n,H p=some (.set S n))
 |_=>False
theorem Ze(I:Inv X af σ H s)(r:RelV x v)(ty:KU X.K T x H):
  s.TypeIs v T/\∀a,v=.ref a->∃ob,s.heap.get? a=some ob/\ob.dict=none:=by
 cases x with
 |str z=>
  obtain⟨t,rfl⟩:=r;cases(show T="str" from ty);exact⟨typeIs_str s z t,λ_ e=>nomatch e⟩
 |int i=>
  obtain⟨t,rfl⟩:=r;cases(show T="int" from ty);exact⟨typeIs_int s i t,λ_ e=>nomatch e⟩
 |ref p=>
  cases r;rcases ty with⟨rfl,xs,hq⟩|⟨rfl,o,hk,hc,hd⟩|⟨rfl,hk⟩|⟨rfl,S,n,hk⟩
  .obtain⟨au,_,pl,_⟩:=I.list hq;refine⟨pl.isList.typeIs,λa e=>?_⟩;cases e;obtain⟨o,n,e,c,hd,_⟩:=pl;exact⟨o,e,hd⟩
  .refine⟨⟨o,I.c8 p o hk,hc⟩,λa e=>?_⟩;cases e;exact⟨o,I.c8 _ o hk,hd⟩
  .have z:∃o,s.heap.get? p=some o/\o.ExactDict:=by
    rcases hk with⟨ak,hk⟩|⟨ak,hk⟩
    .obtain⟨_,_,_,_,o,_,_,e,ex,_⟩:=I.aF p _ hk;exact⟨o,e,ex⟩
    .obtain⟨_,_,_,_,o,_,_,e,ex,_⟩:=I.aF p _ hk;exact⟨o,e,ex⟩
   obtain⟨o,e,ex⟩:=z;refine⟨⟨o,e,ex.1⟩,λa e2=>?_⟩;cases e2;exact⟨o,e,ex.2.1⟩
  .obtain⟨o,_,_,_,e,ex,_⟩:=I.aF p _ hk;refine⟨⟨o,e,ex.1⟩,λa e2=>?_⟩;cases e2;exact⟨o,e,ex.2.1⟩
 |_=>exact False.elim ty
def tBM(K:PySem.W.Frag)(T:String)(r:V->List V->Hp->VK->Prop)(to:TE)(t:TA):TE:=λσ H Q=>to σ H λx H1=>KU K T x H1/\t σ H1 λxs H2=>r x xs H2 Q
variable{T id:String}
theorem yg(pa:PlainAttrs T)(slot:Slot T name id)(Fw:typeOf (.builtin id)=pure (.type "method_descriptor"))(hm:D7 X id r)(ho:PE X o to)(ha:PA X (e::es) t)
  (lS:attributeBase o name X.env (eval o X.env)=eval o X.env:=by rfl)
  (lZ:((backTo fP (starEach (e::es) X.env)).all (λx=>!x.1)&&(backToKw fP (keywordEach [] X.env)).all (λx=>x.1.isSome)
   && decide ((e::es).length+([]:List Keyword).length+(if([]:List Keyword).isEmpty then 0 else 1)<30))=true:=by rfl)
  (lN:(apos.endLine==fP.line)=true:=by rfl) (hs:starEach (e::es) X.env=(false,eval e X.env)::starEach es X.env:=by rfl) (YJ:(backTo fP (starEach es X.env)).any (·.1)=false:=by rfl) :
  PE X (.Call (.Attribute o name apos) (e::es) [] fP) (tBM X.K T r to t):=by
 exists 44;refine wpAny_Call_method_late lS lZ lN rfl (ho.n I h λv s1 x H1 I1 r1 q=>?_);obtain⟨ty,q1⟩:=q;obtain⟨h1,h2⟩:=Ze I1 r1 ty;refine⟨T,id,pa,slot,Fw,h1,h2,?_⟩;have hA:=ha fP af s1 σ H1 _ I1 q1;rw[hs] at hA ⊢;refine Calls.callWith_builtin (by show(false||(backTo fP (starEach es X.env)).any (·.1))=false;rw[YJ]<;>rfl) (Calls.evalArgs_plain ?_);refine cD hA ?_
 rintro us s2 ⟨vs,H2,I2,r2,q2⟩
 exact hm af s2 σ H2 x vs v us Q I2 r1 r2 q2
end
def PU(X:Cx)(id:String)(r:V->List V->Hp->VK->Prop):Prop:=
 ∀(af) (s) (σ) (H) (x) (xs) (v) (us) (Q),Inv X af σ H s->RelV x v->aT xs us->r x xs H Q->
  Z4 X X.A (call (.builtin id) (v::us)) (EP X af σ Q) X.xe s
theorem aT.one(h:aT [x] us):∃u,us=[u]/\RelV x u:=by
 rcases h with _|⟨r,_|_⟩
 exact⟨_,rfl,r⟩
theorem aT.eraseIdx:∀{xs} {us} (i),aT xs us->aT (xs.eraseIdx i) (us.eraseIdx i)
 |_,_,_,.nil=>.nil
 |_,_,0,.cons _ t=>t
 |_,_,i+1,.cons r t=>.cons r (aT.eraseIdx i t)
theorem Inv.RE{au its':List Value}(I:Inv X af σ H s)(hH:H l=some (.lst xs))
  (e:s.heap.get? l=some { cls:=.type "list",data:=.seq au.toArray n }) (hf:f au.toArray=its'.toArray) (hv:aT ys its') (hz:ys.length<=sizeLine) :
  Inv X af σ (upd H l (.lst ys)) { s with heap:=s.heap.update l (Obj.mapSeq f),toks:=t' }:=by
 have q:=PySem.IsL.update e f;rw[hf] at q;refine I.write (by rw[hH];exact trivial) (.inl rfl) (λb' u hb hu=>(aen s.heap (Obj.mapSeq f) (afH hb)).trans hu) ⟨_,q⟩ ?_;exact⟨hz,its',_,hv,q⟩
theorem Inv.abm(I:Inv X af σ H s)(hv:aT ys au)(hz:ys.length<=sizeLine):
  Inv X af σ (upd H s.heap.objs.size (.lst ys)) { s with heap:=s.heap.push { cls:=.type "list",data:=.seq au.toArray },toks:=t' }:=
 I.laid (λ_ _ q=>aap _ q) (abW _) ⟨hz,au,0,hv,ab8 _ rfl⟩
theorem Inv.fresh(I:Inv X af σ H s):H s.heap.objs.size=none:=I.aF.fresh (abW _)
theorem Inv.Ay(I:Inv X af σ H s)(hH:H l=some (.lst xs)):xs.length<=sizeLine/\∃(au:List Value) (n:Nat),aT xs au/\xs.length=au.length/\s.heap.get? l=some { cls:=.type "list",data:=.seq au.toArray n }:=by
 obtain⟨z,au,n,r,e⟩:=I.aF l _ hH;exact⟨z,au,n,r,r.length,e⟩
def Xl:V->List V->Hp->VK->Prop:=λx vs H Q=>∃l xs y,x=.ref l/\vs=[y]/\H l=some (.lst xs)/\xs.length<sizeLine/\Q .aA (upd H l (.lst (xs++[y])))
theorem Gw:PU X "list.append" Xl:=by
 intro af s σ H x vs v us Q I rx rv h;obtain⟨l,xs,y,rfl,rfl,hH,hz,q⟩:=h;cases rx;obtain⟨u,rfl,ru⟩:=rv.one;obtain⟨z,au,n,r,hl,e⟩:=I.Ay hH;refine call_meets F.slot_list_append ⟨_,e,rfl⟩ F.entry_list_append (F.args_list_append_2 _ _) (PySem.list_append l au.toArray n u (by rw[ab6];omega)) ⟨e,?_⟩;refine⟨.aA,_,I.RE (its':=au++[u]) hH e (by simp) (r.append (.cons ru .nil)) ?_,rfl,q⟩;rw[abR,aek];omega
def X7:R2:=λx y H Q=>∃l b xs zs,x=.ref l/\y=.ref b/\H l=some (.lst xs)/\H b=some (.lst zs)/\xs.length+zs.length<=sizeLine/\∀p,H p=none->Q (.ref p) (upd H p (.lst (xs++zs)))
theorem U6:dg X (binaryOp .Add) X7:=by
 exists 42;obtain⟨l,b,xs,zs,rfl,rfl,hH,hB,hz,q⟩:=h;cases rx;cases ry;obtain⟨z,au,n,r,hl,e⟩:=I.Ay hH;obtain⟨z2,K9,n2,r2,sN,e2⟩:=I.Ay hB;refine PySem.P.add_list e e2 ?_ (by rw[ab6,ab6];omega);have ea:au.toArray++K9.toArray=(au++K9).toArray:=by simp
 rw[ea];exact⟨.ref _,_,I.abm (r.append r2) (by rw[abR];omega),rfl,q _ I.fresh⟩
section
variable[DecidableEq κ]
def eK(ak:List (κ×V))(k:κ):Option V:=(ak.find? λkv=>decide (kv.1=k)).map (·.2)
def putK(ak:List (κ×V))(k:κ)(v:V):List (κ×V):=
 if(ak.any λkv=>decide (kv.1=k))=true then ak.map (λkv=>if kv.1=k then(kv.1,v) else kv) else ak++[(k,v)]
theorem wm{k:κ}(e:p.1=k):eK (p::r) k=some p.2:=by simp[eK,adN,e]
theorem yG{k:κ}(e:¬p.1=k):eK (p::r) k=eK r k:=by simp[eK,adN,e]
theorem Iq(k:κ):∀ak:List (κ×V),(ak.any λkv=>decide (kv.1=k))=(eK ak k).isSome
 |[]=>rfl
 |p::r=>by
  rw[afK]
  by_cases e:p.1=k
  .simp only[wm e,aaA e,Bool.true_or,Option.isSome_some]
  .rw[yG e,abV e,Bool.false_or];exact Iq k r
theorem Dj(ak:List (κ×V))(k:κ)(v:V):(putK ak k v).length<=ak.length+1:=by
 unfold putK
 split
 .rw[List.length_map];omega
 .rw[abR,acj,List.length_nil];omega
theorem ia.uU(r:ia o u):o.isSome=u.isSome:=by
 cases o with
 |none=>cases u with
  |none=>rfl
  |some _=>exact(show False from r).elim
 |some _=>cases u with
  |none=>exact(show False from r).elim
  |some _=>rfl
theorem ia.getD(r:ia o u)(rd:RelV d d'):RelV (o.getD d) (u.getD d'):=by
 cases o with
 |none=>cases u with
  |none=>exact rd
  |some _=>exact(show False from r).elim
 |some _=>cases u with
  |none=>exact(show False from r).elim
  |some _=>exact r
theorem KV.val(r:KV ak vs)(k:κ):ia (eK ak k) (valueAt vs k):=by
 unfold KV at r
 induction r with
 |nil=>exact True.intro
 | @cons p q ps qs h t ih=>
  obtain⟨h1,h2⟩:=h
  by_cases e:p.1=k
  .have e':=h1.symm.trans e;have b:valueAt (q::qs) k=some q.2:=by simp[valueAt,adN,e']
   rw[wm e,b];exact h2
  .have e':¬q.1=k:=λz=>e (h1.trans z)
   have b:valueAt (q::qs) k=valueAt qs k:=by simp[valueAt,adN,e']
   rw[yG e,b];exact ih
theorem KV.any(r:KV ak vs)(k:κ):(ak.any λkv=>decide (kv.1=k))=vs.any λkv=>decide (kv.1=k):=by
 unfold KV at r
 induction r with
 |nil=>rfl
 |cons h t ih=>rw[afK,afK,ih,h.1]
theorem KV.IU(r:KV ak vs)(k:κ)(ry:RelV y u):
  KV (ak.map λkv=>if kv.1=k then(kv.1,y) else kv) (vs.map λkv=>if kv.1=k then(kv.1,u) else kv):=by
 unfold KV at r ⊢
 induction r with
 |nil=>exact .nil
 | @cons p q ps qs h t ih=>
  rw[aan,aan];refine .cons ?_ ih;obtain⟨h1,h2⟩:=h
  by_cases e:p.1=k
  .rw[if_pos e,if_pos (h1.symm.trans e)];exact⟨h1,ry⟩
  .rw[if_neg e,if_neg (λz=>e (h1.trans z))];exact⟨h1,h2⟩
theorem KV.put(r:KV ak vs)(k:κ)(ry:RelV y u):KV (putK ak k y) (stored vs k u):=by
 unfold putK stored;rw[r.any k]
 by_cases e:(vs.any λkv=>decide (kv.1=k))=true
 .rw[if_pos e,if_pos e];exact r.IU k ry
 .rw[if_neg e,if_neg e];exact Paired.snoc r ⟨rfl,ry⟩
theorem KV.keys{vs:List (κ×Value)}(r:KV ak vs):ak.map (·.1)=vs.map (·.1):=by
 unfold KV at r
 induction r with
 |nil=>rfl
 |cons h t ih=>rw[aan,aan,ih,h.1]
theorem KV.length(r:KV ak vs):ak.length=vs.length:=Paired.length r
end
theorem su(r:RelV (kV k) u):(gY P w).is k u=true:=by
 cases k with
 |inl i=>obtain⟨t,e⟩:=(show ∃t,u=Value.int i t from r);subst e;exact abM P w i t
 |inr x=>obtain⟨t,e⟩:=(show ∃t,u=Value.str x t from r);subst e;exact aaI P w x t
theorem D0:∀{ks} {us},aT (ks.map kV) us->ItemsAre (gY P w) ks us
 |[],_,r=>by rw[ahc] at r;cases r;exact .nil
 |k::ks,_,r=>by
  rw[aan] at r;cases r with
  |cons h t=>exact .cons (su h) (D0 t)
abbrev KT(H:Hp):List (List Key×V)->List (List Key×Addr×Value)->Prop:=Paired λp q=>p.1=q.1/\Tk H q.2.1 (p.1.map kV)/\RelV p.2 q.2.2
theorem KT.val(r:KT H ak xs)(k:List Key):ia (eK ak k) ((atKey xs k).map (·.2)):=by
 induction r with
 |nil=>exact True.intro
 | @cons p q ps qs h t ih=>
  obtain⟨h1,_,h2⟩:=h
  by_cases e:p.1=k
  .have e':=h1.symm.trans e;have b:atKey (q::qs) k=some q.2:=by simp[atKey,adN,e']
   rw[wm e,b];exact h2
  .have e':¬q.1=k:=λz=>e (h1.trans z)
   have b:atKey (q::qs) k=atKey qs k:=by simp[atKey,adN,e']
   rw[yG e,b];exact ih
theorem KT.IU(r:KT H ak xs)(k:List Key)(ry:RelV y u):
  KT H (ak.map λkv=>if kv.1=k then(kv.1,y) else kv) (xs.map (putAt k u)):=by
 induction r with
 |nil=>exact .nil
 | @cons p q ps qs h t ih=>
  rw[aan,aan];refine .cons ?_ ih;obtain⟨h1,h2,h3⟩:=h;unfold putAt
  by_cases e:p.1=k
  .rw[if_pos e,if_pos (h1.symm.trans e)];exact⟨h1,h2,ry⟩
  .rw[if_neg e,if_neg (λz=>e (h1.trans z))];exact⟨h1,h2,h3⟩
theorem KT.put(r:KT H ak xs)(k:List Key)(hb:Tk H b (k.map kV))(ry:RelV y u):
  KT H (putK ak k y) (storedH xs k b u):=by
 have e:(ak.any λkv=>decide (kv.1=k))=(atKey xs k).isSome:=by
  rw[Iq,(r.val k).uU,agA]
 unfold putK storedH;rw[e]
 by_cases q:(atKey xs k).isSome=true
 .rw[if_pos q,if_pos q];exact r.IU k ry
 .rw[if_neg q,if_neg q];exact Paired.snoc r ⟨rfl,hb,ry⟩
theorem KT.keeps(r:KT H ak xs)(ht:∀b (t:lX),H b=some t.ho->H' b=some t.ho):KT H' ak xs:=
 Paired.Ac r λ_ _ z=>⟨z.1,let⟨t,e,g⟩:=z.2.1;⟨t,e,ht _ t g⟩,z.2.2⟩
theorem Pu(ok:cN P w H h)(e:Rd H a u):dz P w H h a u:=e.ok ok
theorem o9(ok:cN P w H h)(e:Rd H a (.dK ak)):ak.length<=sizeLine/\(a==sysModules)=false/\∃vs,KV ak vs/\h.DictOf (gY P w) a vs:=
 show dz P w H h a (.dK ak) from Pu ok e
theorem P5(ok:cN P w H h)(e:H a=some (.dK ak)):ak.length<=sizeLine/\(a==sysModules)=false/\∃vs,KV ak vs/\h.DictOf (gY P w) a vs:=o9 ok (.inl e)
theorem vK{ks:List Key}(ok:cN P w H h)(e:Tk H a (ks.map kV)):(tupleKind (gY P w)).is h ks a:=by
 have q:dz P w H h a (.tup (ks.map kV)):=by
  obtain⟨t,e1,e2⟩:=e;cases t with
  |tup xs=>cases e1;exact ok a _ e2
  |uN o xs=>cases e1;exact(ok a _ e2).2
  |iE _ _=>cases e1
  |ja _=>cases e1
 obtain⟨_,au,r,o,h1,h2,_,n,h3⟩:=q;exact⟨o,au.toArray,n,h1,h2,h3,by simpa using D0 r⟩
theorem pq(ok:cN P w H h)(e:Rd H a (.dT ak)):ak.length<=sizeLine/\(a==sysModules)=false/\
  ∃xs,KT H ak xs/\h.DictOfH (tupleKind (gY P w)) a xs:=by
 obtain⟨z,y,xs,r,o,es,ep,h1,h2,h3,h4,h5⟩:=(show dz P w H h a (.dT ak) from Pu ok e)
 refine⟨z,y,xs,r,o,es,ep,h1,h2,h3,h4,λx hx=>?_,h5⟩;have all:∀{l} {m},KT H l m->∀x∈m,(tupleKind (gY P w)).is h x.1 x.2.1:=by
  intro l m q
  induction q with
  |nil=>intro x hx;exact nomatch hx
  | @cons p q ps qs hq t ih=>
   intro x hx;rcases aaQ.mp hx with e|hx
   .subst e;exact vK ok (by rw[<- hq.1];exact hq.2.1)
   .exact ih x hx
 exact all r x hx
theorem Wh(ok:cN P w H h)(e:H a=some (.dT ak)):ak.length<=sizeLine/\(a==sysModules)=false/\
  ∃xs,KT H ak xs/\h.DictOfH (tupleKind (gY P w)) a xs:=pq ok (.inl e)
def ic(H:Hp)(a:Addr)(y:V)(r:Option V):Prop:=
 (∃ak k,Rd H a (.dK ak)/\y=kV k/\r=eK ak k)\/∃ak k b,Rd H a (.dT ak)/\y=.ref b/\Tk H b (k.map kV)/\r=eK ak k
def o6(H:Hp)(a:Addr)(y v:V)(H':Hp):Prop:=
 (∃ak k,H a=some (.dK ak)/\y=kV k/\ak.length<sizeLine/\H'=upd H a (.dK (putK ak k v)))\/
 ∃ak k b,H a=some (.dT ak)/\y=.ref b/\Tk H b (k.map kV)/\ak.length<sizeLine/\H'=upd H a (.dT (putK ak k v))
theorem ic.k{k:Key}(e:H a=some (.dK ak)):ic H a (kV k) (eK ak k):=.inl ⟨ak,k,.inl e,rfl,rfl⟩
theorem ic.t{k:List Key}(e:H a=some (.dT ak))(eb:Tk H b (k.map kV)):ic H a (.ref b) (eK ak k):=.inr ⟨ak,k,b,.inl e,rfl,eb,rfl⟩
theorem o6.k{k:Key}(e:H a=some (.dK ak))(hl:ak.length<sizeLine):o6 H a (kV k) v (upd H a (.dK (putK ak k v))):=.inl ⟨ak,k,e,rfl,hl,rfl⟩
theorem o6.t{k:List Key}(e:H a=some (.dT ak))(eb:Tk H b (k.map kV))(hl:ak.length<sizeLine):
  o6 H a (.ref b) v (upd H a (.dT (putK ak k v))):=.inr ⟨ak,k,b,e,rfl,eb,hl,rfl⟩
theorem Inv.big(I:Inv X af σ H s):sysModules<s.heap.objs.size:=by
 have h:=(I.mod.glob.keeps I.bk).lt;exact Nat.lt_trans (by decide) h
theorem agf(hu:A.units+1<cLine)(I:Inv X af σ H s)(g:ic H a y (some v))(ry:RelV y u)(h:∀w' s',Inv X af σ H s'->RelV v w'->Q w' s'):
  wpAny (model X.prog X.w) A (getItem (.ref a) u) Q E s:=by
 exists 60
 .subst ey;exists 64;obtain⟨w',hw,eU⟩:=ia.some_of (by rw[l];exact rel.val k);exact wpAny_getItem_of (su ry) dd.mapOf hw (h w' _ (I.tok _) eU)
 .subst ey;cases(show u=Value.ref b from ry);obtain⟨z,hd,xs,rel,dd⟩:=pq I.aF e;obtain⟨w',hw,eU⟩:=ia.some_of (by rw[l];exact rel.val k);obtain⟨p,hp,sY⟩:=acy.mp hw;refine wpAny_getItem_heap (agw hu) (vK I.aF eb) dd hp ?_;rw[sY];exact h w' _ (I.tok _) eU
theorem XQ(hu:A.units+1<cLine)(I:Inv X af σ H s)(g:ic H a y o)(ry:RelV y u)(h:∀s',Inv X af σ H s'->Q (.bool o.isSome) s'):
  wpAny (model X.prog X.w) A (compareOp .In u (.ref a)) Q E s:=by
 exists 60
 .subst ey;exists 64;refine wpAny_in_of (su ry) hd dd.mapOf ?_;rw[<- (rel.val k).uU,<- l];exact h _ (I.tok _)
 .subst ey;cases(show u=Value.ref b from ry);obtain⟨z,hd,xs,rel,dd⟩:=pq I.aF e;refine wpAny_in_heap (agw hu) (vK I.aF eb) hd dd ?_;have q:=(rel.val k).uU;rw[agA] at q;rw[<- q,<- l];exact h _ (I.tok _)
theorem Vg(hu:A.units+1<cLine)(I:Inv X af σ H s)(g:ic H a y o)(ry:RelV y u)(h:∀s',Inv X af σ H s'->Q (.bool (!o.isSome)) s'):
  wpAny (model X.prog X.w) A (compareOp .NotIn u (.ref a)) Q E s:=by
 exists 60
 .subst ey;exists 64;refine wpAny_notIn_of (su ry) hd dd.mapOf ?_;rw[<- (rel.val k).uU,<- l];exact h _ (I.tok _)
 .subst ey;cases(show u=Value.ref b from ry);obtain⟨z,hd,xs,rel,dd⟩:=pq I.aF e;refine wpAny_notIn_heap (agw hu) (vK I.aF eb) hd dd ?_;have q:=(rel.val k).uU;rw[agA] at q;rw[<- q,<- l];exact h _ (I.tok _)
theorem PB(I:Inv X af σ H s)(mu:yI (H a))(hs:Heap.SameBut a s.heap h')(he:∃q,h'.get? a=some q)(new:dz X.prog X.w (upd H a ob) h' a ob):
  Inv X af σ (upd H a ob) { s with heap:=h',toks:=t' }:=
 I.write mu (.inl rfl) (λb q hb z=>(hs.2 b hb).trans z) he new
theorem JO(z:ak.length<=sizeLine)(hd:(a==sysModules)=false)(rel:KV ak vs)(dd:h'.DictOf (gY P w) a vs):
  dz P w H' h' a (.dK ak):=⟨z,hd,vs,rel,dd⟩
theorem afQ(hu:A.units+1<cLine)(I:Inv X af σ H s)(g:o6 H a y v H')(ry:RelV y u)(rv:RelV v r)(h:∀s',Inv X af σ H' s'->Q () s'):
  wpAny (model X.prog X.w) A (setItem (.ref a) u r) Q E s:=by
 rcases g with⟨ak,k,e,ey,l,eH⟩|⟨ak,k,b,e,ey,eb,l,eH⟩
 .subst ey eH;obtain⟨z,hd,vs,rel,dd⟩:=P5 I.aF e;have hz:vs.length<=sizeLine:=by rw[<- rel.length];exact z
  have hl:(putK ak k v).length<=sizeLine:=by have:=Dj ak k v;omega
  refine wpAny_setItem_pairs (hsz:=hz) (su ry) dd λh' oG hs=>h _ ?_
  have he:∃q,h'.get? a=some q:=let⟨q,_,_,hq,_⟩:=oG;⟨q,hq⟩
  exact PB I (by rw[e];exact True.intro) hs he (JO hl hd (rel.put k rv) oG)
 .subst ey eH;cases(show u=Value.ref b from ry);obtain⟨z,hd,xs,rel,dd⟩:=Wh I.aF e;have hz:xs.length<=sizeLine:=by rw[<- Paired.length rel];exact z
  have hl:(putK ak k v).length<=sizeLine:=by have:=Dj ak k v;omega
  refine wpAny_setItem_heap (hsz:=hz) (agw hu) (vK I.aF eb) dd λh' oG hs=>h _ ?_
  obtain⟨q,es,ep,hq,h2,h3,h4,_,h5⟩:=oG;refine PB I (by rw[e];exact True.intro) hs ⟨q,hq⟩ ⟨hl,hd,_,(rel.put k eb rv).keeps λc ys ec=>?_,q,es,ep,hq,h2,h3,h4,h5⟩;rw[aO (agh ec e (by cases ys<;>intro z<;>cases z))];exact ec
theorem aaU(I:Inv X af σ H s)(e:Rd H a (.dK ak))(h:∀t s',Inv X af σ H s'->Q (.int ak.length t) s'):wpAny (model X.prog X.w) A (call (.builtin "len") [.ref a]) Q E s:=by
 exists 64;refine call_len_dict hd dd (by rw[<- rel.length];rw[ae7] at z;omega) ?_;rw[<- rel.length];exact h _ _ (I.tok _)
def y_(i:Expr):Prop:=∀ov iv,subscripted i false ov iv=operate [ov,iv] (getItem ov iv)
theorem OE{T id:String}
  (hl:typeLookup (.type T) "__getitem__"=pure (some (.builtin id))) (hs:y_ slice)
  (h:wpAny (model prog w) A (eval value env) (λo bN=>wpAny (model prog w) A (eval slice env) (λi pN=>pN.TypeIs o T/\wpAny (model prog w) A (getItem o i) Q E pN) E bN) E s) :
  wpAny (model prog w) A (eval (.Subscript value slice pos) env) Q E s:=by
 refine Subscript_ (adW h (λo bN Bh=>adW Bh (λi pN D6=>?_) λ_ _ x=>x) λ_ _ x=>x);obtain⟨hT,D6⟩:=D6;unfold subscriptTail;refine aaO ?_;rw[getitemInPython_of_ne hT.not_modules];refine aaO (wpAny_specialOf hT hl ?_);have fin:wpAny (model prog w) A (subscripted slice false o i) (λr Cf=>wpAny (model prog w) A (letTemporaryGo value o r >>= λ_=>pure r) Q E Cf) E pN:=by
  rw[hs o i];exact wpAny_operating (adW D6 (λr Cf acE=>aaO (wpAny_letTemporaryGo (acA acE))) λ_ _ x=>x)
 first
  |exact acA (aaO fin)
  |exact aaO (acA (aaO fin))
  |exact aaO fin
theorem aeU(I:Inv X af σ H s)(g:ic H a y o):s.TypeIs (.ref a) "dict":=by
 rcases g with⟨ak,k,e,_,_⟩|⟨ak,k,b,e,_,_,_⟩
 .obtain⟨_,_,vs,_,dd⟩:=o9 I.aF e;exact dd.typeIs
 .obtain⟨_,_,xs,_,dd⟩:=pq I.aF e;exact dd.typeIs
def aam(td ty:TE):TE:=λσ H Q=>td σ H λx H1=>ty σ H1 λy H2=>∃a v,x=.ref a/\ic H2 a y (some v)/\Q v H2
def XU(ty td:TE):TE:=λσ H Q=>ty σ H λy H1=>td σ H1 λx H2=>∃a o,x=.ref a/\ic H2 a y o/\Q (.bl o.isSome) H2
def aaC(ty td:TE):TE:=λσ H Q=>ty σ H λy H1=>td σ H1 λx H2=>∃a o,x=.ref a/\ic H2 a y o/\Q (.bl (!o.isSome)) H2
def adJ(td ty tv:TE):TS:=λD σ H=>tv σ H λv H1=>td σ H1 λx H2=>ty σ H2 λy H3=>∃a H4,x=.ref a/\o6 H3 a y v H4/\D.nx σ H4
theorem XJ(hu:X.A.units+1<cLine)(ho:PE X o td)(hi:PE X i ty)(hs:y_ i):PE X (.Subscript o i pos) (aam td ty):=by
 exists 44;refine OE PySem.F.slot_dict_getitem.lookup hs (ho.n I h λu s1 x H1 I1 rx q1=>hi.n I1 q1 λiv s2 y H2 I2 ry q=>?_);obtain⟨a,v,ex,g,q2⟩:=q;subst ex;exists 55;exact⟨aeU I2 g,agf hu I2 g ry λw' s3 I3 eU=>⟨v,H2,I3,eU,q2⟩⟩
theorem L6(hu:X.A.units+1<cLine)(hi:PE X i ty)(ho:PE X o td):PC X .In i o (XU ty td):=by
 exists 44;refine hi.n I h λiv s1 y H1 I1 ry q1=>ho.n I1 q1 λu s2 x H2 I2 rx q=>?_
 obtain⟨a,ov,ex,g,q2⟩:=q;subst ex;exists 55;exact XQ hu I2 g ry λs3 I3=>⟨.bl ov.isSome,H2,I3,rfl,q2⟩
theorem ado(hu:X.A.units+1<cLine)(hi:PE X i ty)(ho:PE X o td):PC X .NotIn i o (aaC ty td):=by
 exists 44;refine hi.n I h λiv s1 y H1 I1 ry q1=>ho.n I1 q1 λu s2 x H2 I2 rx q=>?_
 obtain⟨a,ov,ex,g,q2⟩:=q;subst ex;exists 55;exact Vg hu I2 g ry λs3 I3=>⟨.bl (!ov.isSome),H2,I3,rfl,q2⟩
theorem BB(hu:X.A.units+1<cLine)(ho:PE X o td)(hi:PE X i ty)(hv:PE X value tv)(hs:swapsWith value (some (.Subscript o i pos')) pos.line X.env=pure false):
  PS X (.Assign [.Subscript o i pos'] value pos) (adJ td ty tv):=by
 exists 45;refine wpAny_Assign_Subscript (hv.n I h λr s1 v H1 I1 rv q1=>ho.n I1 q1 λu s2 x H2 I2 rx q2=>hi.n I2 q2 λiv s3 y H3 I3 ry q=>?_) hs;obtain⟨a,H4,ex,g,q3⟩:=q;subst ex;exists 55;exact afQ hu I3 g ry rv λs4 I4=>⟨σ,H4,I4,q3⟩
theorem Uk(h:Heap)(hb:sysModules<h.objs.size):dz P w H (h.push { cls:=.type "dict",data:=.dict #[] }) h.objs.size (.dK []):=
 ⟨aeC _,adu.mpr (afH (acL hb)),[],.nil,Heap.DictOf.new h⟩
theorem Y5(h:Heap)(hb:sysModules<h.objs.size):dz P w H (h.push { cls:=.type "dict",data:=.dict #[] }) h.objs.size (.dT []):=
 ⟨aeC _,adu.mpr (afH (acL hb)),[],.nil,_,#[],0,ab8 _ rfl,⟨rfl,rfl,rfl⟩,rfl,rfl,acm⟩
def XA:TE:=λ_ H Q=>∀p,H p=none->Q (.ref p) (upd H p (.dK []))
def afM:TE:=λ_ H Q=>∀p,H p=none->Q (.ref p) (upd H p (.dT []))
theorem ab9:PE X (.Dict [] [] pos) XA:=λaf s σ H Q I h=>
 wpAny_Dict_empty ⟨.ref s.heap.objs.size,_,I.laid (λ_ _ q=>aap _ q) (abW _) (Uk s.heap I.big),rfl,h _ (I.aF.fresh (abW _))⟩
theorem acF:PE X (.Dict [] [] pos) afM:=λaf s σ H Q I h=>
 wpAny_Dict_empty ⟨.ref s.heap.objs.size,_,I.laid (a:=s.heap.objs.size) (o:=.dT []) (t':=s.toks) (λ_ _ q=>aap _ q) (abW _) (Y5 s.heap I.big),rfl,h _ (I.aF.fresh (abW _))⟩
structure M2(X:Cx)(o:Expr)(m:Str)(apos:Pos)(e f:Expr)(fP:Pos):Prop where
 base:attributeBase o m X.env (eval o X.env)=eval o X.env
 few:((backTo fP (starEach [e,f] X.env)).all (λx=>!x.1)&&(backToKw fP (keywordEach [] X.env)).all (λx=>x.1.isSome)
  && decide (([e,f]:List Expr).length+([]:List Keyword).length+(if([]:List Keyword).isEmpty then 0 else 1)<30))=true
 line:(apos.endLine==fP.line)=true
 trees:backTo fP (starEach [e,f] X.env)=[(false,eval e X.env),(false,eval f X.env)]
def P7(H:Hp)(a:Addr):Prop:=(∃ak,Rd H a (.dK ak))\/∃ak,Rd H a (.dT ak)
theorem U3(I:Inv X af σ H s)(d:P7 H a):
  s.TypeIs (.ref a) "dict"/\(∀b,Value.ref a=.ref b->∃ob,s.heap.get? b=some ob/\ob.dict=none)/\(a==sysModules)=false:=by
 rcases d with⟨ak,e⟩|⟨ak,e⟩
 .obtain⟨_,hd,vs,_,dd⟩:=o9 I.aF e;refine⟨dd.typeIs,λb q=>?_,hd⟩;cases q;obtain⟨ob,_,_,h1,h2,_⟩:=dd;exact⟨ob,h1,h2.2.1⟩
 .obtain⟨_,hd,xs,_,dd⟩:=pq I.aF e;refine⟨dd.typeIs,λb q=>?_,hd⟩;cases q;obtain⟨ob,_,_,h1,h2,_⟩:=dd;exact⟨ob,h1,h2.2.1⟩
theorem WY(hu:A.units+1<cLine)(I:Inv X af σ H s)(g:ic H a y o)(ry:RelV y u)(rd:RelV d r)(h:∀w' s',Inv X af σ H s'->RelV (o.getD d) w'->Q w' s'):
  wpAny (model X.prog X.w) A (call (.builtin "dict.get") [.ref a,u,r]) Q E s:=by
 exists 60
 .subst ey;exists 64;refine call_meetsIn PySem.F.slot_dict_get dd.typeIs PySem.F.entry_dict_get (PySem.F.args_dict_get_3 _ _ _) (meets_dict_get_default (gY X.prog X.w) a (su ry) hd r) ⟨_,dd.mapOf,h _ _ (I.tok _) ?_⟩;rw[l];exact(rel.val k).getD rd
 .subst ey;cases(show u=Value.ref b from ry);obtain⟨z,hd,xs,rel,dd⟩:=pq I.aF e;refine call_meetsIn PySem.F.slot_dict_get dd.typeIs PySem.F.entry_dict_get (PySem.F.args_dict_get_3 _ _ _) (meetsH_dict_get_default (tupleKind (gY X.prog X.w)) a b hd r) ⟨agw hu,k,xs,vK I.aF eb,dd,h _ _ (I.tok _) ?_⟩;rw[l];exact(rel.val k).getD rd
def adQ(td ty tx:TE):TE:=λσ H Q=>td σ H λx H1=>∃a,x=.ref a/\P7 H1 a/\ty σ H1 λy H2=>tx σ H2 λz H3=>∃o,ic H3 a y o/\Q (o.getD z) H3
theorem GC(hu:X.A.units+1<cLine)(ho:PE X o td)(he:PE X e ty)(hf:PE X f tx)(m:M2 X o "get" apos e f fP):PE X (.Call (.Attribute o "get" apos) [e,f] [] fP) (adQ td ty tx):=by
 exists 44;refine wpAny_Call_method m.base m.few m.line PySem.F.plainAttrs_dict PySem.F.slot_dict_get PySem.F.type_dict_get (ho.n I h λu s1 x H1 I1 rx q=>?_);obtain⟨a,ex,d,q1⟩:=q;subst ex;exists 55;obtain⟨t1,t2,_⟩:=U3 I1 d;refine⟨t1,t2,?_⟩;rw[m.trees];refine Calls.callWith_builtin rfl (Calls.evalArgs_plain (Calls.spliced_cons (cD (he af s1 σ H1 _ I1 q1) λiv s2 ⟨y,H2,I2,ry,q2⟩=>
  Calls.spliced_cons (cD (hf af s2 σ H2 _ I2 q2) λfv s3 ⟨z,H3,I3,rz,ov,g,q3⟩=>Calls.spliced_nil ?_))))
 exact WY hu I3 g ry rz λw' s4 I4 eU=>⟨_,H3,I4,eU,q3⟩
theorem Sj(I:Inv X af σ H s)(e:Rd H a (.dK ak))(h:∀p s',H p=none->Inv X af σ (upd H p (.dK ak)) s'->Q (.ref p) s'):wpAny (model X.prog X.w) A (call (.type "dict") [.ref a]) Q E s:=by
 exists 64;refine kt_call_dict hd dd (by rw[<- rel.length];exact z) λh' oG hs=>?_
 refine h _ _ (I.aF.fresh (abW _)) (I.laid (λb q hq=>?_) (abW _) (JO z (adu.mpr (afH (acL I.big))) rel oG));exact(hs.2 b (acL (abQ hq))).trans (aap _ hq)
end L2
namespace Ly
open PySem PySem.W PySem.Calls PyProof.Rows
theorem adC:∀(ns) (vs),WellAll P h vs (ns.map WData.int)->IntsAre vs ns:=by
 intro ns
 induction ns with
 |nil=>
  intro vs w;rw[ahc] at w;cases w;exact .nil
 |cons n ns ih=>
  intro vs w;rw[aan] at w;cases w with
  |cons a b=>
   cases a;exact .cons _ _ (ih _ b)
theorem abI{l:OpenLaw}(hn:l.most=some n)
  (B9:l.row.toRowW.claim.pre args=true) (B3:WellAll P h vals args) :
  ∃a vs ns,vals=[Value.ref a]/\args=[WData.list (ns.map WData.int)]/\h.get? a=some { cls:=.type "list",data:=.seq vs.toArray }/\IntsAre vs ns/\ns.length<=n:=by
 have UE:=(pre_splitW B9).1;have hc:l.pre.holds [] { args:=args }=true:=(pre_splitW B9).2;obtain⟨d,r,rfl,h1,h2⟩:=hasAllW_cons UE;obtain rfl:=hasAllW_nil h2;obtain⟨xs,rfl,h3⟩:=hasW_list h1;obtain⟨ns,rfl⟩:=items_int h3;have hlen:ns.length<=n:=by
  unfold OpenLaw.pre at hc;have h4:(WTm.not (.lt (.lit (.int (n:Int))) (.len (.arg 0)))).holds [] { args:=[.list (ns.map .int)] }=true:=by
   have h4:=(holds_andW hc).1;rw[hn] at h4;exact h4
  have h5:=condW_of h4 (w_not (w_lt w_lit (w_len_list (w_arg rfl))));rw[List.length_map] at h5;refine Nat.le_of_not_lt λq=>?_
  have q':(n:Int)<((ns.length:Nat):Int):=by omega
  first
   |(rw[aaA q'] at h5;exact absurd h5 (by decide))
   |(simp at h5;omega)
 cases B3 with
 |cons w1 w2=>
  cases w2;cases w1 with
  |list ho J8=>exact⟨_,_,ns,rfl,rfl,ho,adC ns _ J8,hlen⟩
theorem aaq(l:OpenLaw)(args:List WData):l.row.toRowW.claim.post args (.bool true) args=true:=
 postW_of (r:=l.row.toRowW) (X:=(true==true))
  (show WShape.has [] (.bool true) .bool=true by first|rfl|decide|simp[WShape.has,WShape.arms,WShape.armsAll])
  (show(WTm.eq .res (.lit (.bool true))).value [] { args:=args,res:=some (.bool true),after:=args }=some (.bool (true==true)) from w_eq_bool (w_res rfl) w_lit) rfl
theorem UQ{l:OpenLaw}
  (hn:l.most=some n) (zD:d.params.defaults=[])
  (call:∀(w) (cI bN) (mg mb) (fa) (o) (pm cd doc) (a) (vs) (ns),
   Ground q loose [] XP w cI mg mb bN.heap->YP w bN.heap->
   bN.heap.get? fa=some o->o.data=.func (docDef d.name d.params d.body d.scope pm cd doc)->bN.heap.CodeRec cd d.name->mg d.name=some (.ref fa)->
   bN.heap.get? a=some { cls:=.type "list",data:=.seq vs.toArray }->IntsAre vs ns->ns.length<=n->bN.gens=#[]->
   codeAny (model l.prog w) callerA (.call (.ref fa) ⟨[.ref a],[]⟩) (λr s'=>r=.ok (.ret (.bool true))/\OldK bN.heap s'.heap/\s'.os=bN.os/\AllBare s'.gens) bN) :
  WalkO q loose XP YP l.row.toRowW d [] (λf vs=>PySem.call f vs):=by
 intro w cI bN mg mb G Y fa o pm cd doc dV kV ho hd ig hD yN hg args vals as B9 agB qN B3 xN;obtain rfl:dV=.none:=Dflts.none hD zD;obtain rfl:kV=.none:=Dflts.noKw hD;obtain⟨a,vs,ns,rfl,rfl,CZ,hints,hlen⟩:=abI hn B9 B3;refine enter_call (codeAny_mono (call w cI bN mg mb fa o pm cd doc a vs ns G Y ho (fd_plain hd) ig yN CZ hints hlen hg) λr s' hq=>?_);obtain⟨rfl,h2,h3,h4⟩:=hq;exact⟨.inl ⟨.bool true,.bool true,[],rfl,λ_=>rfl,.bool true,aaq l _,λ_=>⟨List.Pairwise.nil,λ_ hm=>(nomatch hm)⟩⟩,h2,h3,h4⟩
end Ly
namespace L2
open PySem PySem.Spec PyProof.Rows
theorem Jg:∀{vs} {ns},IntsAre vs ns->aT (ns.map V.int) vs
 |_,_,.nil=>.nil
 |_,_,.cons n t h=>.cons ⟨t,rfl⟩ (Jg h)
noncomputable abbrev c_:pF:=λ_ _ _ _ _ _=>False
noncomputable abbrev E0:XK:=λ_ _ _=>False
theorem m6:Passes c_ X E0:=λ_ _ _ _ _ _ _ h=>h.elim
structure i_(K:PySem.W.Frag)(x qual:Str)(st:Stmt)(f:Addr)(fd:FuncData):Prop where
 ex:∃(oc:Value) (od:Option Addr) (kV doc pm:Value) (an:Option Addr) (aQ ct:Value) (pS:Array (Option Value)),
  fd=PySem.W.fnOf x qual (lP st) (gI st) (ck st) .none kV doc pm an aQ ct/\K.lookup f=some ⟨oc,od,.func fd,pS⟩/\PySem.W.codeIn K aQ qual=true
 kp:PySem.W.keepIn K (.ref f)=true
section
variable{K:PySem.W.Frag}
theorem i_.ok{st:Stmt}(F:i_ K x qual st f fd)(S:nU N ps (ck st))(len:∀vs H Q E,sp vs H Q E->vs.length=ps.length)
  (wH:∀(aQ:{c:Value // c=fd.code}) (A) (outer) (s) (H) (vs) (Q) (E),bh k (A.deeper (envOfC qual (ck st) s.heap.objs.size f aQ)) cm->sp vs H Q E->
   ∃t,iK (fU c_ P w K mg base N qual (ck st) f aQ A outer s H E cm).eZ (gI st) t/\t { nx:=λ_ H'=>Q .aA H',rt:=Q } (start N vs) H):bU P w K mg base c_ (k+1) f fd ps sp cm:=by
 obtain⟨oc,od,kV,doc,pm,an,aQ,ct,pS,rfl,lk,ig⟩:=F.ex;refine KP lk ig S len λA outer s H vs Q E hr qA=>?_
 obtain⟨t,h,q⟩:=wH ⟨aQ,rfl⟩ A outer s H vs Q E hr qA;exact⟨t,h.eZ,q⟩
theorem i_.binds{st:Stmt}(F:i_ K x qual st f fd)
  (h:∀(kV doc pm) (an) (aQ ct) (us),us.length=ps.length->bindArgs (PySem.W.fnOf x qual (lP st) (gI st) (ck st) .none kV doc pm an aQ ct) ⟨us,[]⟩=pure (ps.zip us)):Binds K fd ps []:=by
 obtain⟨oc,od,kV,doc,pm,an,aQ,ct,pS,rfl,lk,ig⟩:=F.ex;exact .all (h kV doc pm an aQ ct)
theorem MN{st:Stmt}{kV doc pm aQ ct:Value}(l:K.lookup f=some ⟨oc,od,.func (PySem.W.fnOf x qual (lP st) (gI st) (ck st) .none kV doc pm an aQ ct),pS⟩)
  (c:PySem.W.codeIn K aQ qual=true) (k:PySem.W.keepIn K (.ref f)=true):i_ K x qual st f (PySem.W.fnOf x qual (lP st) (gI st) (ck st) .none kV doc pm an aQ ct):=⟨⟨oc,od,kV,doc,pm,an,aQ,ct,pS,rfl,l,c⟩,k⟩
end
theorem fV(hr:bh k A cm):A.units+1<cLine:=agI (Nat.add_le_add_left (by decide:1<=64) _) hr.units
theorem xj(h:n<=1000):n<sizeLine:=agI h (by decide)
theorem acB{A B:Prop}(h:B):if false=true then A else B:=by
 rw[if_neg abu];exact h
theorem aed{A B:Prop}(h:A):if true=true then A else B:=by
 rw[if_pos rfl];exact h
def aG(H H':Hp):Prop:=∀b o,H b=some o->H' b=some o
theorem aG.refl(H:Hp):aG H H:=λ_ _ h=>h
theorem aG.trans(a:aG H H1)(b:aG H1 H2):aG H H2:=λc o h=>b c o (a c o h)
theorem aG.free(e:aG H H')(h:H' l=Option.none):H l=Option.none:=by
 cases q:H l with
 |none=>rfl
 |some o=>
  rw[e l o q] at h;cases h
theorem aey:f7 X (.builtin "len") (λxs H Q=>∃a ak,xs=[V.ref a]/\H a=some (.dK ak)/\Q (.int ak.length) H):=by
 exists 43;obtain⟨a,ak,rfl,ha,q⟩:=h;exists 67;cases ru;exact aaU I (.inl ha) λt s' I'=>⟨.int ak.length,H,I',⟨t,rfl⟩,q⟩
noncomputable def Rt(a:Addr)(cls:Value)(de:Option Addr):HO:=.ext λh=>∃oe,h.get? a=some oe/\oe.cls=cls/\(∀dx,de=some dx->oe.dict=some dx/\PySem.W.notCls oe=true)
theorem NY(e:h.get? a=some oe)(c:oe.cls=cls)(d:∀dx,de=some dx->oe.dict=some dx/\PySem.W.notCls oe=true):dz P w H h a (Rt a cls de):=
 ⟨⟨oe,e,c,d⟩,⟨oe,e⟩,λ_ _ ⟨o,q,z⟩ k=>⟨o,k o q,z⟩⟩
def yt(ob:Obj)(a:Addr)(cls:Value)(de:Option Addr):HO:=.eV ob (Rt a cls de)
theorem SO(x:cN P w H h)(e:H a=some (yt ob a cls de)):∃oe,h.get? a=some oe/\oe.cls=cls:=let⟨oe,a,b,_⟩:=(x a _ e).2.1;⟨oe,a,b⟩
noncomputable def Hu(n:Nat)(t:Tok):Str->Option Value:=λy=>if y="slot" then some (.int n t) else none
def Fo(dx:Addr)(n:Nat):HO:=.ext λh=>∃t,h.Ns1 dx (Hu n t)
theorem aag(e:h.Ns1 dx (Hu n t)):dz P w H h dx (Fo dx n):=
 ⟨⟨t,e⟩,let⟨o,_,_,q,_⟩:=e;⟨o,q⟩,λ_ _ ⟨t,e⟩ k=>⟨t,e.at k⟩⟩
noncomputable def mQ(o:Obj):Option Value:=match o.data with
 |.fields vs=>vs[2]?
 |_=>none
def DK{α:Type}:Sem α->Prop
 |.pure _=>True
 |.raise _=>True
 |.unsupported _=>True
 |.finish _=>True
 |.rule _ k=>DK (k ())
 |.at _ k=>DK (k ())
 |.load _ _ k=>∀o,DK (k o)
 |.update _ _ f k=>(∀o,(f o).dict=o.dict/\mQ (f o)=mQ o)/\DK (k ())
 |.alloc _ k=>∀a,DK (k a)
 |.stack k=>∀l,DK (k l)
 |_=>False
def Kd(h h':Heap):Prop:=∀(a:Nat) (o),h.objs[a]? = some o->∃o',h'.objs[a]? = some o'/\o'.dict=o.dict/\mQ o'=mQ o
theorem Kd.refl(h:Heap):Kd h h:=λa o e=>⟨o,e,rfl,rfl⟩
theorem Kd.trans(x:Kd h h1)(y:Kd h1 h2):Kd h h2:=λa o e=>by
 obtain⟨o1,e1,d1,f1⟩:=x a o e;obtain⟨o2,e2,d2,f2⟩:=y a o1 e1;exact⟨o2,e2,d2.trans d1,f2.trans f1⟩
theorem Kd.push(h:Heap)(o:Obj):Kd h (h.push o):=λa u e=>by
 obtain⟨objs,l⟩:=h;refine⟨u,?_,rfl,rfl⟩;show(objs.push o)[a]? = some u;have lt:=(Array.getElem?_eq_some_iff.mp e).1;rw[Array.getElem?_push_lt lt];rw[Array.getElem?_eq_getElem lt] at e;exact e
theorem Kd.update(h:Heap)(b:Addr)(hf:∀o,(f o).dict=o.dict/\mQ (f o)=mQ o):Kd h (h.update b f):=λa u e=>by
 obtain⟨objs,l⟩:=h;show ∃o',(objs.modify b f)[a]? = some o'/\_;have e:=e;rw[Array.getElem?_modify,e]
 split
 .exact⟨f u,rfl,hf u⟩
 .exact⟨u,rfl,rfl,rfl⟩
theorem Kd.at(k:Kd h h')(e:h.get? a=some o)(e':h'.get? a=some o'):o'.dict=o.dict/\mQ o'=mQ o:=by
 have raw:∀{h:Heap} {o},h.get? a=some o->h.objs[a]? = some o:=λ{h o} e=>by
  unfold Heap.get? at e
  split at e
  .cases e
  .exact e
 obtain⟨u,q,d⟩:=k a o (raw e);rw[raw e'] at q;cases q;exact d
theorem acw:∀(t) {Q:α->Pos->Shared->Prop} {E} {p} {s},DK t->Kd h0 s.heap->Sem.wp M Γ t Q E p s->Sem.wp M Γ t (λa p' s'=>Q a p' s'/\Kd h0 s'.heap) (λe p' s'=>E e p' s'/\Kd h0 s'.heap) p s:=by
 intro t
 induction t with
 |pure a=>intro Q E p s d k h;exact⟨h,k⟩
 |raise e=>intro Q E p s d k h;exact⟨h,k⟩
 |unsupported w=>intro Q E p s d k h;exact h
 |finish e=>intro Q E p s d k h;exact h
 |rule tag f ih=>intro Q E p s d k h;exact ih () d k h
 | «at» pos f ih=>intro Q E p s d k h;exact ih () d k h
 |load a part f ih=>intro Q E p s d k h;obtain⟨o,e,h⟩:=h;exact⟨o,e,ih o (d o) k h⟩
 |update a part f g ih=>intro Q E p s d k h;exact⟨h.1,ih () d.2 (k.trans (Kd.update _ _ d.1)) h.2⟩
 |alloc o f ih=>intro Q E p s d k h;exact ih _ (d _) (k.trans (Kd.push _ _)) h
 |stack f ih=>intro Q E p s d k h;exact ih _ (d _) k h
 |loadIfAlive=>intro Q E p s d;exact d.elim
 |point=>intro Q E p s d;exact d.elim
 |register=>intro Q E p s d;exact d.elim
 |fresh=>intro Q E p s d;exact d.elim
 |ask=>intro Q E p s d;exact d.elim
 |choose=>intro Q E p s d;exact d.elim
 |os=>intro Q E p s d;exact d.elim
 |call=>intro Q E p s d;exact d.elim
 |handled=>intro Q E p s d;exact d.elim
 |newGen=>intro Q E p s d;exact d.elim
 |genState=>intro Q E p s d;exact d.elim
 |resume=>intro Q E p s d;exact d.elim
 |yield=>intro Q E p s d;exact d.elim
 |fork=>intro Q E p s d;exact d.elim
 |thread=>intro Q E p s d;exact d.elim
 |await=>intro Q E p s d;exact d.elim
theorem vU(d:DK t)(h:wpAny M A t Q E s):wpAny M A t (λa s'=>Q a s'/\Kd s.heap s'.heap) (λe s'=>E e s'/\Kd s.heap s'.heap) s:=
 λΓ p hΓ=>acw t d (Kd.refl _) (h Γ p hΓ)
theorem DK.bind:∀{m},DK m->(∀a,DK (f a))->DK (m >>= f):=by
 intro m
 induction m with
 |pure a=>intro d h;exact h a
 |raise e=>intro d h;exact d
 |unsupported w=>intro d h;exact d
 |finish e=>intro d h;exact d
 |rule tag g ih=>intro d h;exact ih () d h
 | «at» pos g ih=>intro d h;exact ih () d h
 |load a part g ih=>intro d h o;exact ih o (d o) h
 |update a part f g ih=>intro d h;exact⟨d.1,ih () d.2 h⟩
 |alloc o g ih=>intro d h a;exact ih a (d a) h
 |stack g ih=>intro d h l;exact ih l (d l) h
 |loadIfAlive=>intro d;exact d.elim
 |point=>intro d;exact d.elim
 |register=>intro d;exact d.elim
 |fresh=>intro d;exact d.elim
 |ask=>intro d;exact d.elim
 |choose=>intro d;exact d.elim
 |os=>intro d;exact d.elim
 |call=>intro d;exact d.elim
 |handled=>intro d;exact d.elim
 |newGen=>intro d;exact d.elim
 |genState=>intro d;exact d.elim
 |resume=>intro d;exact d.elim
 |yield=>intro d;exact d.elim
 |fork=>intro d;exact d.elim
 |thread=>intro d;exact d.elim
 |await=>intro d;exact d.elim
theorem G4(a:Addr):DK (load a):=λ_=>trivial
theorem Uo(v:Value):DK (fieldsOf v):=by
 unfold fieldsOf
 split
 .refine(G4 _).bind λo=>?_
  split<;>trivial
 .trivial
theorem zE(v:Value)(i:Nat):DK (field v i):=by
 unfold field;refine(Uo v).bind λo=>?_
 split<;>trivial
theorem Du(v:Value)(i:Nat)(x:Value)(hi:i≠2):DK (setField v i x):=by
 unfold setField
 split
 .unfold updateField;refine(G4 _).bind λo=>?_
  split
  .split
   .refine⟨λo=>?_,trivial⟩;obtain⟨c,d,dt,sl⟩:=o;cases dt with
    |fields vs=>exact⟨rfl,by show(vs.setIfInBounds i x)[2]? = vs[2]?;rw[Array.getElem?_setIfInBounds_ne hi]⟩
    |_=>exact⟨rfl,rfl⟩
   .trivial
  .trivial
 .trivial
theorem HY(e:Value)(f:Option Addr):DK (setFlight e f):=by
 unfold setFlight;refine(zE e 1).bind λtb=>?_
 split
 .exact Du _ _ _ (by decide)
 .trivial
theorem Y7(env:Env)(outer:List Env):DK (behindIsImport env outer):=by
 unfold behindIsImport
 split
 .trivial
 .split
  .trivial
  .exact(zE _ _).bind λ_=>trivial
theorem aeE:DK underTheClaimsCaller:=λ_=>trivial
theorem ZI(env:Env)(i:Bool)(l:List Env):DK (keptBack env i l):=by
 unfold keptBack
 split
 .split
  .trivial
  .exact aeE.bind λ_=>trivial
 .trivial
theorem KO:∀l:List Env,DK (readyFrames l)
 |[]=>trivial
 |env::outer=>by
  unfold readyFrames
  split
  .refine(G4 _).bind λo=>?_
   split
   .trivial
   .refine(Y7 _ _).bind λ_=>(ZI _ _ _).bind λ_=>?_
    exact⟨λ_=>⟨rfl,rfl⟩,KO outer⟩
  .trivial
theorem abE(env:Env):DK (PySem.frameOf env):=by
 unfold PySem.frameOf;refine DK.bind (λ_=>trivial) λl=>?_
 refine DK.bind ?_ λr=>?_
 .unfold frameObject
  split
  .trivial
  .exact(KO _).bind λ_=>trivial
 .split<;>trivial
theorem abC(f:Addr)(b:Bool):DK (entryPlaceOf f b):=by
 unfold entryPlaceOf;refine DK.bind (λ_=>trivial) λl=>?_
 split<;>trivial
theorem WO(a b c d e:Value)(pl:List Value):DK (EntryCells.newEntry a b c d e pl):=by
 unfold EntryCells.newEntry newFields newObj;dsimp only
 split<;>split<;>first|trivial|exact λ_=>trivial
theorem O7(e:Value)(env:Env):DK (noteFrame e env):=by
 unfold noteFrame
 split
 .refine(zE e 1).bind λhead=>?_
  have rest:∀f:Addr,DK (do setField e 1 (<- EntryCells.newEntry head (<- PySem.frameOf env) .none (rawInt f) .none (<- entryPlaceOf f (head != .none)))):=λf=>(abE env).bind λ_=>(abC _ _).bind λ_=>(WO _ _ _ _ _ _).bind λ_=>Du _ _ _ (by decide)
  split
  .refine(zE head 3).bind λx=>?_
   split
   .trivial
   .exact(Du _ _ _ (by decide)).bind λ_=>rest _
  .exact rest _
 .trivial
theorem Jh(env:Env)(e:Value):DK (leaving env e):=(O7 e env).bind λ_=>HY e none
theorem cN.tracked(x:cN P w H h)(k:∀b u o,H b=some o->h.get? b=some u->h'.get? b=some u):cN P w H h':=λa o e=>
 (x a o e).gx (λb u hb q=>hb.elim (λz=>k b u o (by rw[z];exact e) q) λz=>k b u _ z q) (λ_ z=>z) λ_ _ z=>z
theorem cN.alive(x:cN P w H h)(e:H a=some o):∃u,h.get? a=some u:=by
 have q:=x a o e;cases o with
 |lst xs=>obtain⟨_,_,_,_,e⟩:=q;exact⟨_,e⟩
 |tup xs=>obtain⟨_,_,_,ob,e,_⟩:=q;exact⟨_,e⟩
 |dK ak=>obtain⟨_,_,_,_,ob,_,_,e,_⟩:=q;exact⟨_,e⟩
 |dT ak=>obtain⟨_,_,_,_,ob,_,_,e,_⟩:=q;exact⟨_,e⟩
 |set S n=>obtain⟨ob,_,_,_,e,_⟩:=q;exact⟨_,e⟩
 |ins C dx fs=>obtain⟨_,_,_,e,_⟩:=q;exact⟨_,e⟩
 |own y=>exact q
 |xd fs=>obtain⟨_,⟨_,_,_,e,_⟩,_⟩:=q;exact⟨_,e⟩
 |bY lo hi=>obtain⟨_,_,_,e⟩:=q;exact⟨_,e⟩
 |eV ob u=>exact⟨_,q.1⟩
 |qk ps=>exact⟨_,(show h.get? a=some _ from q)⟩
 |iE _ _=>obtain⟨_,e,_⟩:=q;exact⟨_,e⟩
 |ja _=>obtain⟨_,_,_,_,e,g,_⟩:=q;cases e;exact⟨_,g⟩
 |met f y=>exact⟨_,(show h.get? a=some _ from q)⟩
 |ext φ=>exact q.2.1
def aeb(h:Heap)(H:Hp)(nw:Addr->Prop)(e:Addr):Option Addr->Prop
 |none=>True
 |some n=>∃oe dx t,h.get? e=some oe/\oe.dict=some dx/\h.Ns1 dx (Hu n t)/\H dx=none/\nw dx
def k8(h:Heap)(H:Hp)(nw:Addr->Prop)(e:Addr)(aP:Option Addr):Prop:=(∃oe,h.get? e=some oe/\mQ oe=some .none)/\aeb h H nw e aP
theorem k8.keep(x:k8 h H nw e aP)(kd:Kd h h')(he:∃o,h'.get? e=some o)(st:∀b o,h.get? b=some o->(∀vs,o.data≠.fields vs)->∃sl,h'.get? b=some { o with slots:=sl })(hn:∀a,nw a->Ej a):k8 h' H Ej e aP:=by
 obtain⟨⟨o0,g1,g2⟩,x⟩:=x;obtain⟨xq,he⟩:=he;refine⟨⟨xq,he,(kd.at g1 he).2.trans g2⟩,?_⟩;cases aP with
 |none=>trivial
 |some n=>
  obtain⟨oe,dx,t,h1,h2,⟨o,es,ep,q1,q2,q3⟩,h4,h5⟩:=x;obtain⟨sl,q4⟩:=st dx o q1 λvs z=>by rw[q2] at z;cases z
  exact⟨xq,dx,t,he,(kd.at h1 he).1.trans h2,⟨_,es,ep,q4,q2,q3⟩,h4,hn dx h5⟩
theorem k8.imp(x:k8 h H nw e aP)(hn:∀a,nw a->Ej a):k8 h H Ej e aP:=by
 obtain⟨g,x⟩:=x;refine⟨g,?_⟩;cases aP with
 |none=>trivial
 |some n=>
  obtain⟨oe,dx,t,h1,h2,h3,h4,h5⟩:=x;exact⟨oe,dx,t,h1,h2,h3,h4,hn dx h5⟩
structure Si(h:Heap)(H:Hp)(h0:Heap)(e:Addr)(cls:Value)(aP:Option Addr):Prop where
 py:k8 h H (λa=>h0.get? a=none) e aP
 nw:h0.get? e=none
 fr:H e=none
 ob:∃oe vs a0 T oT ts,h.get? e=some oe/\oe.cls=cls/\vs[0]? = some a0/\oe.data=.fields vs/\vs[1]? = some (.ref T)/\T≠e/\h0.get? T=none/\H T=none/\h.get? T=some oT/\oT.data=.fields ts/\ts[3]? = some .none
structure Rm(h:Heap)(H:Hp)(h0:Heap)(e:Addr)(cls:Value)(aP:Option Addr):Prop where
 py:k8 h H (λa=>h0.get? a=none) e aP
 nw:h0.get? e=none
 fr:H e=none
 ob:∃oe vs a0,h.get? e=some oe/\oe.cls=cls/\vs[0]? = some a0/\oe.data=.fields vs/\vs[1]? = some .none
structure acf(h:Heap)(H:Hp)(h0:Heap)(L e:Addr)(cls:Value)(aP:Option Addr):Prop where
 py:k8 h H (λa=>h0.get? a=none) e aP
 nw:h0.get? e=none
 fr:H e=none
 ob:∃oe vs a0 T oT ts,h.get? e=some oe/\oe.cls=cls/\vs[0]? = some a0/\oe.data=.fields vs/\vs[1]? = some (.ref T)/\T≠e/\h0.get? T=none/\H T=none/\h.get? T=some oT/\oT.data=.fields ts/\ts[3]? = some (rawInt L)
def NR(h:Heap)(H:Hp)(h0:Heap)(L e:Addr)(cls:Value)(aP:Option Addr):Prop:=Rm h H h0 e cls aP\/Si h H h0 e cls aP\/acf h H h0 L e cls aP
def iH(P:Program)(w:World):pF:=λouter H s E e s'=>∃a H' cls aP,e=.ref a/\s'.os=s.os/\AllBare s'.gens/\Un (aY outer) [] H H' s.heap s'.heap/\cN P w H' s'.heap/\Si s'.heap H' s.heap a cls aP/\E cls aP H'
theorem Un.dead(u:Un fs [] H H' h h')(n:h'.get? a=none):h.get? a=none:=by
 cases q:h.get? a with
 |none=>rfl
 |some o=>
  obtain⟨o',e⟩:=u.there a o q (by simp);rw[n] at e;cases e
theorem Mb{K:PySem.W.Frag}
  (I:Inv (fU (iH P w) P w K mg base N qual scope f cd A outer s0 H0 E) af σ H s) (fl:NR s.heap H s0.heap (fU (iH P w) P w K mg base N qual scope f cd A outer s0 H0 E).env.locals e cls aP) (hE:E cls aP H) :
  (fU (iH P w) P w K mg base N qual scope f cd A outer s0 H0 E).xe (.ref e) s:=by
 generalize hX:fU (iH P w) P w K mg base N qual scope f cd A outer s0 H0 E=X at I fl ⊢;have Zw:X.xe=λe s'=>wpAny (model P w) X.A (leaving X.env e) (λ_ gU=>iH P w outer H0 s0 E e gU) (λe' gU=>iH P w outer H0 s0 E e' gU) s':=by rw[<- hX];rfl
 have cV:X.stack=X.env::outer:=by rw[<- hX];rfl
 have n9:X.A.frames=some (X.env::outer):=by rw[<- cV];exact I.ok.frames
 have hf:X.env.frame=some X.env.locals:=by rw[<- hX];rfl
 have hl:=I.stack;rw[cV] at hl;have u:Un (aY outer) [] H0 H s0.heap s.heap:=by
  have:=I.base;rw[<- hX] at this;exact this
 have hos:s.os=s0.os:=by
  have:=I.os;rw[<- hX] at this;exact this
 have aF:cN P w H s.heap:=by
  have:=I.aF;rw[<- hX] at this;exact this
 have free:=I.ug;rw[cV] at free;have lf:∀b,b∈aY (X.env::outer)->(∃o,s.heap.get? b=some o/\∀vs,o.data≠.fields vs):=λb m=>(hl.mem m).2
 have BW:=fl.elim (·.nw) λz=>z.elim (·.nw) (·.nw)
 have zG:=fl.elim (·.fr) λz=>z.elim (·.fr) (·.fr)
 have fpy:=fl.elim (·.py) λz=>z.elim (·.py) (·.py)
 rw[Zw];dsimp only;have fin:∀(xs) (h'),(∀x∈xs,s0.heap.get? x=none/\H x=none)->(∃a0,Heap.LeftW (PySem.W.hideAll s.heap (aY (X.env::outer)++xs)) (X.env::outer) e cls a0 s.heap h')->e∈xs->Kd s.heap h'->iH P w outer H0 s0 E (.ref e) { s with heap:=h' }:=λxs h' jy hL ID kd=>by
  obtain⟨a0,k1,k2,k3,k4⟩:=hL;have gx:∀b o,s.heap.get? b=some o->b∉aY (X.env::outer)->b∉xs->h'.get? b=some o:=λb o q n1 n2=>k1 b o (PySem.W.hideAll_get _ q λm=>(abB.mp m).elim n1 n2)
  have nx:∀b o,s0.heap.get? b=some o->b∉xs:=λb o q m=>by rw[(jy b m).1] at q;cases q
  have ab7:∀b o,s0.heap.get? b=some o->b≠X.env.locals:=λb o q z=>by
   have h1:=I.ok.above;have h2:X.cI=s0:=by rw[<- hX];rfl
   rw[h2,<- z] at h1;exact absurd (abQ q) (Nat.not_lt.mpr h1)
  have nfr:∀b o,s0.heap.get? b=some o->b∉aY outer->b∉aY (X.env::outer):=λb o q n m=>by
   have m:b∈(X.env::outer).filterMap (·.frame):=m;rw[ael,hf] at m;exact(aaQ.mp m).elim (ab7 b o q) n
  have sub:∀b,b∈aY outer->b∈aY (X.env::outer):=λb m=>by
   show b∈(X.env::outer).filterMap (·.frame);rw[ael,hf];exact aaf _ m
  refine⟨e,H,cls,aP,rfl,hos,I.bare,⟨λb o q n nf _=>?_,λb o q n m _=>?_,u.free,λb o q _=>?_,u.jl,u.jk,u.kK⟩,aF.tracked λb v o hb q=>?_,⟨fpy.keep kd (by obtain⟨oe,vs,T,oT,ts,r1,_⟩:=k3;exact⟨oe,r1⟩) k4 λ_ z=>z,BW,zG,?_⟩,hE⟩
  .exact gx b o (u.keep b o q n nf (by simp)) (nfr b o q nf) (nx b o q)
  .obtain⟨sl,q2⟩:=u.slot b o q n m (by simp);obtain⟨o2,q3,q4⟩:=lf b (sub b m);rw[q2] at q3;cases q3;obtain⟨pY,q5⟩:=k4 b _ q2 q4;exact⟨pY,q5⟩
  .obtain⟨o',q2⟩:=u.there b o q (by simp)
   by_cases m:b∈aY (X.env::outer)
   .obtain⟨o2,q3,q4⟩:=lf b m;rw[q2] at q3;cases q3;obtain⟨pY,q5⟩:=k4 b _ q2 q4;exact⟨_,q5⟩
   .exact⟨o',gx b o' q2 m (nx b o q)⟩
  .refine gx b v q (λm=>?_) λm=>?_
   .rw[free b m] at hb;cases hb
   .rw[(jy b m).2] at hb;cases hb
  .obtain⟨oe,vs,T,oT,ts,r1,⟨r2,r0⟩,r3,r4,r5,r6,r7,r8,r9⟩:=k3;refine⟨oe,vs,a0,T,oT,ts,r1,r2,r0,r3,r4,r6,?_,?_,r7,r8,r9⟩
   .cases q:s0.heap.get? T with
    |none=>rfl
    |some o=>
     exfalso
     obtain⟨o',q2⟩:=u.there T o q (by simp)
     by_cases m:T∈aY (X.env::outer)
     .obtain⟨o2,q3,q4⟩:=(k2.mem m).2;rw[r7] at q3;cases q3;exact q4 ts r8
     .have:=PySem.W.hideAll_get (aY (X.env::outer)++xs) q2 λz=>(abB.mp z).elim m (nx T o q)
      rw[r5] at this;cases this
   .cases q:H T with
    |none=>rfl
    |some o=>
     exfalso
     obtain⟨v,q2⟩:=aF.alive q;have:=PySem.W.hideAll_get (aY (X.env::outer)++xs) q2 λz=>(abB.mp z).elim (λm=>by rw[free T m] at q;cases q) λm=>by rw[(jy T m).2] at q;cases q
     rw[r5] at this;cases this
 have hide:∀xs:List Addr,s.heap.FunFrames (PySem.W.hideAll s.heap (aY (X.env::outer)++xs)) (X.env::outer):=λxs=>PySem.W.funFrames_hide hl λyy he a ha=>abp _ (agt.mpr ⟨yy,he,ha⟩)
 rcases fl with fl|fl|fl
 .obtain⟨oe,vs,a0,h1,h2,h0,h3,h5⟩:=fl.ob;refine adW (vU (Jh _ _) (wpAny_leaving_firstW (Q:=λ_ gU=>∃h',gU={ s with heap:=h' }/\Heap.LeftW (PySem.W.hideAll s.heap (aY (X.env::outer)++[e])) (X.env::outer) e oe.cls a0 s.heap h') (E:=λ_ _=>False) n9 (hide _) hf h1 (λb o q=>PySem.W.of_hideAll _ q) (PySem.W.hideAll_none _ (by simp)) h3 h5 h0 λh' hL=>⟨h',rfl,hL⟩)) (λ_ gU ⟨⟨h',eh,hL⟩,kd⟩=>?_) λ_ _ z=>z.1.elim
  subst eh;rw[h2] at hL;exact fin [e] h' (λx m=>by rw[aaB.mp m];exact⟨BW,zG⟩) ⟨a0,hL⟩ (by simp) kd
 .obtain⟨oe,vs,a0,T,oT,ts,h1,h2,h0,h3,t1,t2,t3,t4,t5,t6,t7⟩:=fl.ob;refine adW (vU (Jh _ _) (wpAny_leaving_nextW (Q:=λ_ gU=>∃h',gU={ s with heap:=h' }/\Heap.LeftW (PySem.W.hideAll s.heap (aY (X.env::outer)++[e,T])) (X.env::outer) e cls a0 s.heap h') (E:=λ_ _=>False) n9 (hide _) hf ⟨oe,vs,T,oT,ts,h1,⟨h2,h0⟩,h3,t1,PySem.W.hideAll_none _ (by simp),t2,t5,t6,t7⟩ (λb o q=>PySem.W.of_hideAll _ q) (PySem.W.hideAll_none _ (by simp)) λh' hL=>⟨h',rfl,hL⟩)) (λ_ gU ⟨⟨h',eh,hL⟩,kd⟩=>?_) λ_ _ z=>z.1.elim
  subst eh;refine fin [e,T] h' (λx m=>?_) ⟨a0,hL⟩ (by simp) kd;rcases aaQ.mp m with z|z
  .rw[z];exact⟨BW,zG⟩
  .rw[aaB.mp z];exact⟨t3,t4⟩
 .obtain⟨oe,vs,a0,T,oT,ts,h1,h2,h0,h3,t1,t2,t3,t4,t5,t6,t7⟩:=fl.ob;have aq:Heap.HeldW (PySem.W.hideAll s.heap (aY (X.env::outer)++[e,T])) (X.env::outer) e cls a0 X.env.locals s.heap:=⟨λb o q=>PySem.W.of_hideAll _ q,PySem.W.hideAll_none _ (by simp),hide _,oe,vs,T,oT,ts,h1,⟨h2,h0⟩,h3,t1,PySem.W.hideAll_none _ (by simp),t2,t5,t6,t7⟩
  have key:wpAny (model P w) X.A (leaving X.env (.ref e)) (λ_ gU=>∃h',gU={ s with heap:=h' }/\Heap.LeftW (PySem.W.hideAll s.heap (aY (X.env::outer)++[e,T])) (X.env::outer) e cls a0 s.heap h') (λ_ _=>False) s:=by
   unfold leaving;refine aaO (wpAny_noteFrame_againW hf aq.2.2.2 ?_);refine wpAny_landsW aq ?_
   rintro h' ⟨k1,k2,k3,k4⟩ up
   exact⟨h',rfl,k1,k3,k4,up⟩
  refine adW (vU (Jh _ _) key) (?_) λ_ _ z=>z.1.elim
  rintro _ gU ⟨⟨h',eh,hL⟩,kd⟩
  subst eh;refine fin [e,T] h' (λx m=>?_) ⟨a0,hL⟩ (by simp) kd;rcases aaQ.mp m with z|z
  .rw[z];exact⟨BW,zG⟩
  .rw[aaB.mp z];exact⟨t3,t4⟩
abbrev XS:=Value->Option Addr->St->Hp->Prop
def Jt(X:Cx)(E:XS):Prop:=∀(af) (σ) (H) (s) (e) (cls) (aP),Inv X af σ H s->Rm s.heap H X.cI.heap e cls aP->E cls aP σ H->X.xe (.ref e) s
theorem UK{K:PySem.W.Frag}:
  Jt (fU (iH P w) P w K mg base N qual scope f cd A outer s0 H0 E) (λcls aP _ H=>E cls aP H):=λaf σ H s e cls aP I fl hE=>Mb I (.inl fl) hE
inductive tL(K:PySem.W.Frag)(C N:Addr)(bm:List Value)(newId:String):Prop
 |mk:K.lookup C=some (excClassObj nm q C N bs bm hdct sn sub ab col dd k0 k1 k2 k3 k5 newId)->tL K C N bm newId
structure BU(K:PySem.W.Frag)(C:Addr):Prop where
 ex:∃B newId O8 Iu bm N,ExcBaseFacts B newId O8 Iu/\tL K C N bm newId/\PySem.W.nsOkIn K N=true/\PySem.W.nsIn K N "__init__"=some none/\PySem.W.tailIn K Iu bm=true
def Sq(C:Addr)(E:XS)(t:TA):TS:=λ_ σ H=>t σ H λvs H1=>vs.length<=sizeLine/\E (.ref C) none σ H1
theorem YI(hc:X.calm=true)(hx:X.ex=[])(th:Jt X E)(cl:BU X.K C)(hg:Gl X x)(hm:X.mg x=some (.ref C))(ha:PA X (e::es) t)(gj:(x==("__debug__":Str))=false:=by decide)
  (he:starEach (e::es) X.env=(false,eval e X.env)::starEach es X.env:=by rfl) (hpl:(backTo fP (starEach es X.env)).any (·.1)=false:=by rfl) :
  PS X (.Raise (some (.Call (.Name x np) (e::es) [] fP)) none pos) (Sq C E t):=by
 exists 45;obtain⟨B,newId,O8,Iu,bm,N,FB,@⟨nm,q,bs,hdct,sn,sub,ab,col,dd,k0,k1,k2,k3,k5,hl⟩,n1,n2,n3⟩:=cl.ex;have hh:=I.ok.hd hc;have KI:=I.ok.mod.sO;have hC:=KI _ _ hl;have hN:=Heap.Ns.of_isNs (PySem.W.isNs_of_in KI n1);have Vy:=PySem.W.nsMap_none_of_in KI n1 n2;have T:=PySem.W.tail_of_in KI n3;refine wpAny_Raise_call_subT (nm:=nm) (q:=q) (N:=N) (bs:=bs) (hdct:=hdct) (sn:=sn) (sub:=sub) (ab:=ab) (col:=col) (dd:=dd) (k0:=k0) (k1:=k1) (k2:=k2) (k3:=k3) (k5:=k5) FB (T.hasType FB.hasBase) hh (by rw[he];show(false||(backTo fP (starEach es X.env)).any (·.1))=false;rw[hpl];rfl) Vy (sC I hg hm ⟨rfl,?_⟩ gj);have key:=ha fP af s σ H _ I h;rw[he] at key ⊢;refine Calls.evalArgs_plain (adW key (λus s1 hq=>?_) λ_ _ y=>y);obtain⟨vs,H1,I1,r,hz,q1⟩:=hq;refine⟨rfl,by rw[<- r.length];exact hz,I1.bk _ _ hC,hN.keeps I1.bk,T.keeps I1.bk,λh' e' jF=>?_⟩;have I2:Inv X af σ H1 { s1 with heap:=h' }:=I1.kept jF.keeps;refine th af σ H1 _ e' (.ref C) none I2 ⟨⟨?_,trivial⟩,?_,?_,?_⟩ q1
 .obtain⟨tp,z,_,_⟩:=jF.there;exact⟨_,z,rfl⟩
 .have u:=I1.base;rw[hx] at u;exact u.dead jF.new
 .cases qq:H1 e' with
  |none=>rfl
  |some o=>
   obtain⟨v,z⟩:=I1.aF.alive qq;rw[jF.new] at z;cases z
 .obtain⟨tp,z,_,_⟩:=jF.there;exact⟨_,_,_,z,rfl,rfl,rfl,rfl⟩
theorem Inv.slots(I:Inv X af σ H s)(xs:List Addr)(gx:∀b o,s.heap.get? b=some o->b∉aY X.stack->b∉xs->h'.get? b=some o)(slot:∀b o,s.heap.get? b=some o->b∈aY X.stack->∃sl,h'.get? b=some { o with slots:=sl })
  (jy:∀x∈xs,X.cI.heap.get? x=none/\H x=none/\x≠X.env.locals/\(∀y c,X.env.cells.lookup y=some c->c≠x)/\∀p∈X.pn++af,p.1≠x):Inv X af σ H { s with heap:=h' }:=by
 have any:∀b o,s.heap.get? b=some o->b∉xs->∃sl,h'.get? b=some { o with slots:=sl }:=λb o q n=>by
  by_cases m:b∈aY X.stack
  .exact slot b o q m
  .exact⟨o.slots,gx b o q m n⟩
 have out:∀b,b≠X.env.locals->b∉X.fs->b∉aY X.stack:=λb n1 n2 m=>(aaQ.mp (I.CG b m)).elim n1 n2
 have BS:∀b o,X.cI.heap.get? b=some o->b≠X.env.locals:=λb o e=>acL (ac5 (abQ e) I.ok.above)
 have Ht:∀b o,X.cI.heap.get? b=some o->b∉xs:=λb o e m=>by rw[(jy b m).1] at e;cases e
 have cellK:∀x c,X.env.cells.lookup x=some c->∀v,s.heap.IsCell c v->h'.IsCell c v:=λx c e v ⟨o,ho,hd⟩=>by
  obtain⟨sl,q⟩:=any c o ho λz=>(jy c z).2.2.2.1 x c e rfl
  exact⟨_,q,hd⟩
 refine⟨I.ok,I.os,I.bare,⟨λb o e n hb hx=>?_,λb o e n hb hx=>?_,I.base.free,λb o e hx=>?_,I.base.jl,I.base.jk,I.base.kK⟩,?_,λx c e=>?_,I.free,I.gW,λp hp=>?_,I.aF.tracked λb v o hb q=>?_,I.len,I.hq⟩
 .exact gx b o (I.base.keep b o e n hb hx) (out b (BS b o e) hb) (Ht b o e)
 .exists 62;obtain⟨pY,e2⟩:=any b _ e1 (Ht b o e);exact⟨pY,e2⟩
 .exists 56;obtain⟨sl,e2⟩:=any b o' e1 (Ht b o e);exact⟨_,e2⟩
 .obtain⟨m,⟨o,es,ep,ho,r⟩,hl⟩:=I.loc;obtain⟨sl,hL⟩:=any _ o ho λz=>(jy _ z).2.2.1 rfl
  refine⟨m,⟨_,es,ep,hL,r⟩,λi x v e1 e2 e3=>?_⟩;obtain⟨u,rr,l⟩:=hl i x v e1 e2 e3;refine⟨u,rr,?_⟩;rcases l with l|⟨k,c,e,z⟩
  .exact .inl l
  .exact .inr ⟨k,c,e,cellK x c e _ z⟩
 .obtain⟨v,z⟩:=I.cell x c e;exact⟨v,cellK x c e v z⟩
 .obtain⟨e,n,ne,nf,d⟩:=I.pin p hp;exact⟨gx p.1 p.2 e (out p.1 ne nf) λz=>(jy p.1 z).2.2.2.2 p hp rfl,n,ne,nf,d⟩
 .refine gx b v q (λm=>?_) λm=>?_
  .rw[I.ug b m] at hb;cases hb
  .rw[(jy b m).2.1] at hb;cases hb
theorem Inv.apart(I:Inv X af σ H s)(hx:X.ex=[])(n:s.heap.get? x=none):X.cI.heap.get? x=none/\x≠X.env.locals/\(∀y c,X.env.cells.lookup y=some c->c≠x)/\∀p∈X.pn++af,p.1≠x:=by
 refine⟨?_,λz=>?_,λy c e z=>?_,λp hp z=>?_⟩
 .have u:=I.base;rw[hx] at u;exact u.dead n
 .obtain⟨m,⟨o,_,_,ho,_⟩,_⟩:=I.loc;rw[<- z,n] at ho;cases ho
 .obtain⟨v,o,ho,_⟩:=I.cell y c e;rw[z,n] at ho;cases ho
 .have:=(I.pin p hp).1;rw[z,n] at this;cases this
noncomputable abbrev Apart(X:Cx)(af:List (Addr×Obj))(a:Addr):Prop:=X.cI.heap.get? a=none/\a≠X.env.locals/\(∀y c,X.env.cells.lookup y=some c->c≠a)/\∀p∈X.pn++af,p.1≠a
structure fZ(X:Cx)(af:List (Addr×Obj))(σ:St)(H:Hp)(e:Addr)(cls:Value)(aP:Option Addr)(s:Shared):Prop where
 py:k8 s.heap H (Apart X af) e aP
 inv:Inv X af σ H s
 fr:H e=none
 ap:X.cI.heap.get? e=none/\e≠X.env.locals/\(∀y c,X.env.cells.lookup y=some c->c≠e)/\∀p∈X.pn++af,p.1≠e
 ob:∃oe vs a0 T oT ts,s.heap.get? e=some oe/\oe.cls=cls/\vs[0]? = some a0/\oe.data=.fields vs/\vs[1]? = some (.ref T)/\T≠e/\H T=none/\(X.cI.heap.get? T=none/\T≠X.env.locals/\(∀y c,X.env.cells.lookup y=some c->c≠T)/\∀p∈X.pn++af,p.1≠T)/\s.heap.get? T=some oT/\oT.data=.fields ts/\(ts[3]? = some .none\/ts[3]? = some (rawInt X.env.locals))
theorem landAt(I:Inv X af σ H s)(hx:X.ex=[])(fr:H e=none)(ap:X.cI.heap.get? e=none/\e≠X.env.locals/\(∀y c,X.env.cells.lookup y=some c->c≠e)/\∀p∈X.pn++af,p.1≠e)(ID:e∈xs)
  (jy:∀x∈xs,H x=none/\X.cI.heap.get? x=none/\x≠X.env.locals/\(∀y c,X.env.cells.lookup y=some c->c≠x)/\∀p∈X.pn++af,p.1≠x)
  (k1:(PySem.W.hideAll s.heap (aY X.stack++xs)).StaysIn h') (k3:h'.FunFrames (PySem.W.hideAll s.heap (aY X.stack++xs)) X.stack) (tr:h'.TracedAtW (PySem.W.hideAll s.heap (aY X.stack++xs)) e cls a0 fl) (hfl:fl=.none\/fl=rawInt X.env.locals) (up:s.heap.UpToSlots h') (py:k8 s.heap H (Apart X af) e aP) (kd:Kd s.heap h'):fZ X af σ H e cls aP { s with heap:=h' }:=by
 obtain⟨oe,vs,T,oT,ts,r1,⟨r2,r0⟩,r3,r4,r5,r6,r7,r8,r9⟩:=tr;have gx:∀b o,s.heap.get? b=some o->b∉aY X.stack->b∉xs->h'.get? b=some o:=λb o q n1 n2=>k1 b o (PySem.W.hideAll_get _ q λm=>(abB.mp m).elim n1 n2)
 have slot:∀b o,s.heap.get? b=some o->b∈aY X.stack->∃sl,h'.get? b=some { o with slots:=sl }:=λb o q m=>by
  obtain⟨_,o2,q3,q4⟩:=I.stack.mem m;rw[q] at q3;cases q3;exact up b o q q4
 have J:=I.slots xs gx slot λx m=>let⟨a,b,c⟩:=jy x m;⟨b,a,c⟩
 have tH:H T=none:=by
  cases q:H T with
  |none=>rfl
  |some o=>
   exfalso
   obtain⟨v,q2⟩:=I.aF.alive q;have:=PySem.W.hideAll_get (aY X.stack++xs) q2 λz=>(abB.mp z).elim (λm=>by rw[I.ug T m] at q;cases q) λm=>by rw[(jy T m).1] at q;cases q
   rw[r5] at this;cases this
 have tF:T∉aY X.stack:=λm=>by
  obtain⟨_,o2,q3,q4⟩:=k3.mem m;rw[r7] at q3;cases q3;exact q4 ts r8
 have tA:X.cI.heap.get? T=none/\T≠X.env.locals/\(∀y c,X.env.cells.lookup y=some c->c≠T)/\∀p∈X.pn++af,p.1≠T:=by
  by_cases m:T∈xs
  .exact(jy T m).2
  .have dead:s.heap.get? T=none:=by
    cases q:s.heap.get? T with
    |none=>rfl
    |some o=>
     have:=PySem.W.hideAll_get (aY X.stack++xs) q λz=>(abB.mp z).elim tF m
     rw[r5] at this;cases this
   refine⟨?_,λz=>?_,λy c e z=>?_,λp hp z=>?_⟩
   .cases q:X.cI.heap.get? T with
    |none=>rfl
    |some o=>
     exfalso
     obtain⟨o',q2⟩:=I.base.there T o q (by rw[hx];simp);rw[dead] at q2;cases q2
   .obtain⟨m,⟨o,_,_,ho,_⟩,_⟩:=I.loc;rw[<- z,dead] at ho;cases ho
   .obtain⟨v,o,ho,_⟩:=I.cell y c e;rw[z,dead] at ho;cases ho
   .have:=(I.pin p hp).1;rw[z,dead] at this;cases this
 exact⟨py.keep kd ⟨oe,r1⟩ up λ_ z=>z,J,fr,ap,oe,vs,a0,T,oT,ts,r1,r2,r0,r3,r4,r6,tH,tA,r7,r8,hfl.elim (λz=>.inl (z ▸ r9)) λz=>.inr (z ▸ r9)⟩
theorem land(I:Inv X af σ H s)(hx:X.ex=[])(fr:H e=none)(ap:Apart X af e)(ID:e∈xs)(jy:∀x∈xs,H x=none/\Apart X af x)
  (fl:Heap.FlyingW (PySem.W.hideAll s.heap (aY X.stack++xs)) X.stack e cls a0 h') (up:s.heap.UpToSlots h') (py:k8 s.heap H (Apart X af) e aP) (kd:Kd s.heap h'):fZ X af σ H e cls aP { s with heap:=h' }:=
 landAt I hx fr ap ID jy fl.1 fl.2.2.1 fl.2.2.2 (.inl rfl) up py kd
theorem fZ.abP{R:Shared->Prop}(L:fZ X af σ H e cls aP s)(hx:X.ex=[])(cV:X.stack=X.env::X.outer)(hf:X.env.frame=some X.env.locals)(k:∀s3,fZ X af σ H e cls aP s3->R s3):
  wpAny M X.A (noteFrame (.ref e) X.env) (λ_ s2=>wpAny M X.A (setFlight (.ref e) none) (λ_ s3=>R s3) E' s2) E' s:=by
 obtain⟨oe,vs,a0,T,oT,ts,h1,h2,h0,h3,t1,t2,tH,tA,t5,t6,t7⟩:=L.ob;have I:=L.inv;have n9:X.A.frames=some (X.env::X.outer):=by rw[<- cV];exact I.ok.frames
 have hF:=PySem.W.funFrames_hide (as:=aY X.stack++[e,T]) I.stack λyy he a ha=>abp _ (agt.mpr ⟨yy,he,ha⟩)
 have fin:∀h4,Heap.HeldW (PySem.W.hideAll s.heap (aY X.stack++[e,T])) (X.env::X.outer) e cls a0 X.env.locals h4->s.heap.UpToSlots h4->Kd s.heap h4->wpAny M X.A (setFlight (.ref e) none) (λ_ s3=>R s3) E' { s with heap:=h4 }:=λh4 aq wz EU=>by
  refine adW (vU (HY _ _) (wpAny_landsW (Q:=λ_ s5=>∃h5,s5={ s with heap:=h5 }/\Heap.FlyingW (PySem.W.hideAll s.heap (aY X.stack++[e,T])) (X.env::X.outer) e cls a0 h5/\h4.UpToSlots h5) (E:=λ_ _=>False) aq λh5 AB Dq=>⟨h5,rfl,AB,Dq⟩)) (λ_ s5 ⟨⟨h5,e5,AB,Dq⟩,Ym⟩=>?_) λ_ _ z=>z.1.elim
  subst e5;refine k _ (show fZ X af σ H e cls aP { s with heap:=h5 } from land (a0:=a0) (xs:=[e,T]) I hx L.fr L.ap (by simp) (λx m=>?_) ?_ (wz.trans Dq) L.py (EU.trans Ym))
  .rcases aaQ.mp m with z|z
   .rw[z];exact⟨L.fr,L.ap⟩
   .rw[aaB.mp z];exact⟨tH,tA⟩
  .rw[<- cV] at AB;exact AB
 rcases t7 with t7|t7
 .have F:Heap.FlyingW (PySem.W.hideAll s.heap (aY X.stack++[e,T])) (X.env::X.outer) e cls a0 s.heap:=by
   rw[<- cV];exists 47
  refine adW (vU (O7 _ _) (wpAny_looks_onW (Q:=λ_ s4=>∃h4,s4={ s with heap:=h4 }/\Heap.HeldW (PySem.W.hideAll s.heap (aY X.stack++[e,T])) (X.env::X.outer) e cls a0 X.env.locals h4/\s.heap.UpToSlots h4) (E:=λ_ _=>False) n9 hf F λh4 aq wz=>⟨h4,rfl,aq,wz⟩)) (λ_ s4 ⟨⟨h4,e4,aq,wz⟩,EU⟩=>?_) λ_ _ z=>z.1.elim
  subst e4;exact fin h4 aq wz EU
 .have F:Heap.HeldW (PySem.W.hideAll s.heap (aY X.stack++[e,T])) (X.env::X.outer) e cls a0 X.env.locals s.heap:=by
   rw[<- cV];exists 47
  exact wpAny_noteFrame_againW hf F.2.2.2 (fin s.heap F (λb o hb _=>⟨o.slots,hb⟩) (Kd.refl _))
theorem fZ.U_(L:fZ X af σ H e cls aP s):NR s.heap H X.cI.heap X.env.locals e cls aP:=by
 obtain⟨oe,vs,a0,T,oT,ts,h1,h2,h0,h3,t1,t2,tH,tA,t5,t6,t7⟩:=L.ob;rcases t7 with t7|t7
 .exact .inr (.inl ⟨L.py.imp λ_ z=>z.1,L.ap.1,L.fr,oe,vs,a0,T,oT,ts,h1,h2,h0,h3,t1,t2,tA.1,tH,t5,t6,t7⟩)
 .exact .inr (.inr ⟨L.py.imp λ_ z=>z.1,L.ap.1,L.fr,oe,vs,a0,T,oT,ts,h1,h2,h0,h3,t1,t2,tA.1,tH,t5,t6,t7⟩)
def tG(X:Cx)(E:XS):Prop:=∀(af) (σ) (H) (s) (e) (cls) (aP),fZ X af σ H e cls aP s->E cls aP σ H->X.xe (.ref e) s
theorem VF{K:PySem.W.Frag}:
  tG (fU (iH P w) P w K mg base N qual scope f cd A outer s0 H0 E) (λcls aP _ H=>E cls aP H):=λaf σ H s e cls aP L hE=>Mb L.inv L.U_ hE
theorem abN{os:OsState}
  (hC:h.get? C=some (excClassObj nm q C N bs bm hdct sn sub ab col dd k0 k1 k2 k3 k5 newId)) (hD:h.get? D=some (excClassObj nm' q' D N' bs' sL agu sn' agJ ab' agk oG j0 j1 j2 j3 j5 agq)) (he:h.get? e=some oe) (yo:oe.cls=.ref C)
  (hb:sL.contains (.type "BaseException")=true) (hq:Q ((Value.ref C::bm).contains (.ref D)) ⟨h,g,d,t,os⟩):wpAny M A (excMatches (.ref e) (.ref D)) Q E ⟨h,g,d,t,os⟩:=by
 have hcB:(Value.ref D::sL).contains (.type "BaseException")=true:=by rw[List.contains_cons,hb,Bool.or_true]
 have f:=tc_notTuple;unfold excMatches
 repeat (first|(with_reducible refine wpAny_loadPart_at he ?_;rw[yo])|with_reducible refine wpAny_loadPart_at hD ?_|(with_reducible refine wpAny_isSubtype_exc hD ?_;rw[hcB])|(with_reducible refine wpAny_isSubtype_exc hC ?_)|wp_step)
 cases hz:(Value.ref C::bm).contains (.ref D)<;>(rw[hz] at hq;wp_walk;exact hq)
theorem fZ.again(L:fZ X af σ H e cls aP s)(hx:X.ex=[])(k:∀s',fZ X af σ H e cls aP s'->Q () s'):wpAny M A' (setFlight (.ref e) none) Q E' s:=by
 obtain⟨oe,vs,a0,T,oT,ts,h1,h2,h0,h3,t1,t2,tH,tA,t5,t6,t7⟩:=L.ob;obtain⟨fl,t7⟩:∃fl,ts[3]? = some fl:=t7.elim (λz=>⟨_,z⟩) λz=>⟨_,z⟩
 have I:=L.inv;refine adW (vU (HY _ _) (wpAny_setFlight_noneW (Q:=λ_ s'=>∃h',s'={ s with heap:=h' }/\(PySem.W.hideAll s.heap (aY X.stack++[e,T])).StaysIn h'/\h'.FunFrames (PySem.W.hideAll s.heap (aY X.stack++[e,T])) X.stack/\h'.TracedW (PySem.W.hideAll s.heap (aY X.stack++[e,T])) e cls a0/\(∀b o,s.heap.get? b=some o->(∀vs,o.data≠.fields vs)->h'.get? b=some o)) (E:=λ_ _=>False) (λb o q=>PySem.W.of_hideAll _ q)
  (PySem.W.funFrames_hide I.stack λyy he a ha=>abp _ (agt.mpr ⟨yy,he,ha⟩)) ⟨oe,vs,T,oT,ts,h1,⟨h2,h0⟩,h3,t1,PySem.W.hideAll_none _ (by simp),t2,t5,t6,t7⟩ λh' k1 k2 k3 k4=>⟨h',rfl,k1,k2,k3,k4⟩)) (λ_ s' ⟨⟨h',eh,k1,k2,k3,k4⟩,kd⟩=>?_) λ_ _ z=>z.1.elim
 subst eh;refine k _ (land I hx L.fr L.ap (by simp) (λx m=>?_) ⟨k1,PySem.W.hideAll_none _ (by simp),k2,k3⟩ (λb o q n=>⟨o.slots,k4 b o q n⟩) L.py kd);rcases aaQ.mp m with z|z
 .rw[z];exact⟨L.fr,L.ap⟩
 .rw[aaB.mp z];exact⟨tH,tA⟩
def zY(X:Cx)(af:List (Addr×Obj))(σ:St)(E:XK)(e:Value)(s':Shared):Prop:=∃a cls aP H',e=.ref a/\fZ X af σ H' a cls aP s'/\E cls aP H'
abbrev TX:=St->Hp->VK->XK->Prop
def PX(X:Cx)(e:Expr)(t:TX):Prop:=
 ∀(af) (s) (σ) (H) (Q) (E),Inv X af σ H s->t σ H Q E->Z4 X X.A (eval e X.env) (EP X af σ Q) (zY X af σ E) s
theorem S_(I:Inv X af σ H s)(hx:X.ex=[])(h:iH X.prog X.w X.stack H s E e s'):zY X af σ E e s':=by
 obtain⟨a,H',cls,aP,rfl,os,bare,un,aF,fl,hE⟩:=h;have I':=I.QC os un aF bare λb z=>absurd z (by simp)
 obtain⟨oe,vs,a0,T,oT,ts,h1,h2,h0,h3,t1,t2,t3,t4,t5,t6,t7⟩:=fl.ob;exact⟨a,cls,aP,H',rfl,⟨fl.py.imp λ_ z=>I.apart hx z,I',fl.fr,I.apart hx fl.nw,oe,vs,a0,T,oT,ts,h1,h2,h0,h3,t1,t2,t4,I.apart hx t3,t5,t6,.inl t7⟩,hE⟩
theorem ac9(F:bU X.prog X.w X.K X.mg X.base (iH X.prog X.w) k f fd ps sp cm)(hr:bh k X.A cm)(hb:Binds X.K fd ps ds)(hd:aT eS ds)(hx:X.ex=[])
  (I:Inv X af σ H s) (r:aT vs us) (h:sp (vs++eS) H Q E):Z4 X X.A (call (.ref f) us) (EP X af σ Q) (zY X af σ E) s:=by
 have r2:=r.append hd;have hl:(us++ds).length=ps.length:=by rw[<- r2.length];exact F.len _ _ _ _ h
 refine wpAny_call (codeAny_mono (F.run X.A X.stack s H ⟨us,[]⟩ (us++ds) (vs++eS) Q E hr I.Dp (hb s us I.c8 hl) r2 h) λr s' hq=>?_);cases r with
 |error e=>exact S_ I hx hq
 |ok fl=>
  cases fl with
  |ret u=>exact I.after hq
  |next=>exact False.elim hq
  |brk=>exact False.elim hq
  |cont=>exact False.elim hq
def afv(C:Addr)(m:Str)(sp:Sp)(eS:List V)(ta:TE)(t:TA):TX:=λσ H Q E=>ta σ H λx H1=>∃a dx fs,x=.ref a/\H1 a=some (.ins C dx fs)/\fs.lookup m=none/\
 t σ H1 λvs H2=>sp (x::(vs++eS)) H2 Q E
theorem acH(ha:PA X.eZ es t)(I:Inv X af σ H s)(h:t σ H Q):
  Z4 X X.A (spliced (backTo pos (starEach es X.env))) (AP X af σ Q) E' s:=
 adW (ha pos af s σ H Q (I.j_ _) h) (λus s1 ⟨vs,H1,I1,q⟩=>⟨vs,H1,I1.lU,q⟩) λ_ _ z=>False.elim z
theorem X8(ha:PE X.eZ o ta)(I:Inv X af σ H s)(h:ta σ H Q):
  Z4 X X.A (eval o X.env) (EP X af σ Q) E' s:=
 adW (ha af s σ H Q (I.j_ _) h) (λus s1 ⟨vs,H1,I1,q⟩=>⟨vs,H1,I1.lU,q⟩) λ_ _ z=>False.elim z
theorem Tp(he:PE X.eZ o ta)(c:ko X.K C)(hm:kc X.K C m f)(F:bU X.prog X.w X.K X.mg X.base (iH X.prog X.w) k f fd ps sp cm)(hr:bh k X.A cm)(hx:X.ex=[])(hb:Binds X.K fd ps ds)(hd:aT eS ds)(ha:PA X.eZ (e::es) t)
  (cV:starEach (e::es) X.env=(false,eval e X.env)::starEach es X.env:=by rfl) (hpl:(backTo pos (starEach es X.env)).any (·.1)=false:=by rfl)
  (ht:eval (.Call (.Attribute o m apos) (e::es) [] pos) X.env=(do
   let ov <- eval o X.env
   standAt apos.atName
   let(f,first) <- holding [ov] (getMethod ov m pl)
   callWith pos f first (backTo pos (starEach (e::es) X.env)) (backToKw pos (keywordEach [] X.env))):=by rfl) :
  PX X (.Call (.Attribute o m apos) (e::es) [] pos) (afv C m sp eS ta t):=by
 intro af s σ H Q E I h;refine PySem.W.methodCall_KW (cD (X8 he I h) λu s1 hq=>?_) ht;obtain⟨x,H1,I1,rx,a,dx,fs,ex,ea,l,q⟩:=hq;subst ex;exists 55;refine EJ I1 ea c hm l ?_;exact PySem.W.callWith_K I.ok.mod.sO hm.kp (Ca (acH ha I1 q) λus s2 vs H2 I2 r q2=>⟨I2.c8,ac9 (vs:=.ref a::vs) F hr hb hd hx I2 (.cons rfl r) q2⟩) cV hpl
theorem PR(th:tG X ES)(h:zY X af σ (λcls aP H=>ES cls aP σ H) v s):X.xe v s:=by
 obtain⟨a,cls,aP,H',rfl,L,q⟩:=h;exact th af σ H' s a cls aP L q
def Wz(i:Nat)(ES:XS)(t:TX):TS:=λD σ H=>t σ H (λv H1=>D.nx (σ.set i (some v)) H1) λcls aP H'=>ES cls aP σ H'
theorem Qv(th:tG X ES)(hN:X.N.Nodup)(hi:X.N[i]? = some x)(hx:Loc X.env.scope x)(he:PX X e t)(hs:swapsWith e (some (.Name x pos')) pos.line X.env=pure false:=by rfl)(hf:z5 X x:=by first|exact .inl rfl|exact .inr rfl|assumption):
  PS X (.Assign [.Name x pos'] e pos) (Wz i ES t):=by
 exists 45;refine wpAny_Assign_Name (adW (he af s σ H _ _ I h) (?_) λ_ _ z=>PR th z) hs
 rintro v s1 ⟨y,H1,I1,r1,q1⟩
 exact zI I1 hN hi hx r1 (λs2 I2=>⟨_,H1,I2,q1⟩) hf
def acP(ES:XS)(t:TX):TS:=λD σ H=>t σ H (λ_ H1=>D.nx σ H1) λcls aP H'=>ES cls aP σ H'
theorem NC(th:tG X ES)(he:PX X e t)(hs:swapsWith e none pos.line X.env=pure false:=by rfl):PS X (.Expr e pos) (acP ES t):=by
 exists 45;refine wpAny_Expr_any (adW (he af s σ H _ _ I h) (?_) λ_ _ z=>PR th z) I.quiet hs
 rintro v s1 ⟨x,H1,I1,r1,q1⟩
 exact⟨σ,H1,I1,q1⟩
noncomputable abbrev Cx.kG(X:Cx)(af:List (Addr×Obj))(R:XS):Cx:={ X with pn:=X.pn++af,xe:=λe s'=>∃σ H a cls aP,e=.ref a/\fZ X af σ H a cls aP s'/\R cls aP σ H }
section
variable{X:Cx}
theorem Cx.Ok.kG(ok:X.Ok):(X.kG af R).Ok:=
 ⟨ok.mod,ok.kind,ok.glob,ok.blt,ok.above,ok.inj,ok.has,ok.oZ,ok.hd,ok.frames,ok.qf,ok.tN,ok.bs,ok.jb,ok.pA,ok.nO,ok.jc,ok.lD⟩
theorem Cx.Ok.nQ(ok:(X.kG af R).Ok):X.Ok:=
 ⟨ok.mod,ok.kind,ok.glob,ok.blt,ok.above,ok.inj,ok.has,ok.oZ,ok.hd,ok.frames,ok.qf,ok.tN,ok.bs,ok.jb,ok.pA,ok.nO,ok.jc,ok.lD⟩
theorem Inv.kG(I:Inv X af σ H s):Inv (X.kG af R) [] σ H s:=⟨I.ok.kG,I.os,I.bare,I.base,I.loc,I.cell,I.free,I.gW,λp hp=>I.pin p (by simpa using hp),I.aF,I.len,I.hq⟩
theorem Inv.nQ(I:Inv (X.kG af R) wC σ H s):Inv X af σ H s:=⟨I.ok.nQ,I.os,I.bare,I.base,I.loc,I.cell,I.free,I.gW,λp hp=>I.pin p (abp _ hp),I.aF,I.len,I.hq⟩
theorem fZ.nQ(L:fZ (X.kG af R) wC σ H e cls aP s):fZ X af σ H e cls aP s:=by
 obtain⟨py,I,fr,⟨a1,a2,a3,a4⟩,oe,vs,a0,T,oT,ts,h1,h2,h0,h3,t1,t2,tH,⟨b1,b2,b3,b4⟩,t5⟩:=L;exact⟨py.imp λ_ z=>⟨z.1,z.2.1,z.2.2.1,λp hp=>z.2.2.2 p (abp _ hp)⟩,I.nQ,fr,⟨a1,a2,a3,λp hp=>a4 p (abp _ hp)⟩,oe,vs,a0,T,oT,ts,h1,h2,h0,h3,t1,t2,tH,⟨b1,b2,b3,λp hp=>b4 p (abp _ hp)⟩,t5⟩
theorem Tu:tG (X.kG af R) R:=λwC σ H s e cls aP L q=>⟨σ,H,e,cls,aP,rfl,L.nQ,q⟩
end
noncomputable abbrev Cx.mJ(X:Cx)(a:Addr):Cx:={ X with A:=X.A.mark (some (.ref a)),calm:=false,xe:=λ_ _=>False }
theorem Inv.mJ(I:Inv X af σ H s)(a:Addr)(hq:sI (X.A.mark (some (.ref a))) H):Inv (X.mJ a) af σ H s:=
 ⟨⟨I.ok.mod,I.ok.kind,I.ok.glob,I.ok.blt,I.ok.above,I.ok.inj,I.ok.has,I.ok.oZ,λz=>Bool.noConfusion z,I.ok.frames,I.ok.qf,I.ok.tN,I.ok.bs,I.ok.jb,I.ok.pA,I.ok.nO,I.ok.jc,I.ok.lD⟩,I.os,I.bare,I.base,I.loc,I.cell,I.free,I.gW,I.pin,I.aF,I.len,⟨hq,I.hq.ok,I.hq.lm⟩⟩
theorem Inv.aaP(hc:X.calm=true)(I0:Inv X af σ H s)(I:Inv (X.mJ a) af az H' s'):Inv X af az H' s':=
 ⟨I0.ok,I.os,I.bare,I.base,I.loc,I.cell,I.free,I.gW,I.pin,I.aF,I.len,⟨.inl (I0.ok.hd hc),I.hq.ok,I.hq.lm⟩⟩
theorem Inv.Cd(I:Inv X af σ H s)(fr:H e=none)(ap:Apart X af e)(ok:dz X.prog X.w (upd H e u) s.heap e u):Inv X af σ (upd H e u) s:=by
 obtain⟨a1,a2,a3,a4⟩:=ap;have ne:∀{b} {o},H b=some o->b≠e:=λ{b o} q z=>by rw[z,fr] at q;cases q
 refine⟨I.ok,I.os,I.bare,⟨I.base.keep,I.base.slot,λb o q n hx=>?_,I.base.there,λb xs q=>?_,λb o u q=>?_,λb ps q=>?_⟩,I.loc,I.cell,?_,λx c q=>?_,λp hp=>?_,λb o q=>?_,I.len,I.hq.mono (λb o u q=>by rw[aO (ne q)];exact q) λb t q=>by rw[aO (ne q)];exact q⟩
 .rw[aO λz=>by rw[z,a1] at q;cases q];exact I.base.free b o q n hx
 .have w:=I.base.jl b xs q;rw[aO (ne w)];exact w
 .have w:=I.base.jk b o u q;rw[aO (ne w)];exact w
 .obtain⟨more,w⟩:=I.base.kK b ps q;exact⟨more,by rw[aO (ne w)];exact w⟩
 .rw[aO λz=>a2 z.symm];exact I.free
 .rw[aO (a3 x c q)];exact I.gW x c q
 .obtain⟨p1,p2,p3⟩:=I.pin p hp;exact⟨p1,by rw[aO (a4 p hp)];exact p2,p3⟩
 .by_cases z:b=e
  .subst z;rw[cz] at q;cases q;exact ok
  .rw[aO z] at q;exact(I.aF b o q).gx (λ_ _ _ q=>q) (λc q=>by rw[aO (ne q)];exact q) λc xs q=>by rw[aO (ne q)];exact q
def tS(H H':Hp)(a:Addr)(cls:Value)(aP:Option Addr):Prop:=∃ob vs,ob.data=.fields vs/\vs[2]? = some .none/\match aP with
 |none=>H'=upd H a (yt ob a cls none)
 |some n=>∃dx,dx≠a/\H dx=none/\H'=upd (upd H dx (Fo dx n)) a (yt ob a cls (some dx))
theorem fZ.known(L:fZ X af σ H e cls aP s):∃H',tS H H' e cls aP/\Inv X af σ H' s:=by
 obtain⟨oe,vs,a0,T,oT,ts,h1,h2,h0,hd,_⟩:=L.ob;obtain⟨⟨o0,c1,c2⟩,py⟩:=L.py;rw[h1] at c1;cases c1;have c3:vs[2]? = some .none:=by unfold mQ at c2;rw[hd] at c2;exact c2
 have nc:PySem.W.notCls oe=true:=by
  obtain⟨c,d,dt,sl⟩:=oe;dsimp only at hd;subst hd;rfl
 cases aP with
 |none=>exact⟨_,⟨oe,vs,hd,c3,rfl⟩,L.inv.Cd L.fr L.ap ⟨h1,NY h1 h2 λ_ z=>by cases z⟩⟩
 |some n=>
  obtain⟨xq,dx,t,g1,g2,g3,g4,g5⟩:=py;rw[h1] at g1;cases g1;have ne:dx≠e:=λz=>by
   obtain⟨o,es,ep,q1,q2,_⟩:=g3;rw[z,h1] at q1;cases q1;rw[hd] at q2;cases q2
  have I1:=L.inv.Cd g4 g5 (aag g3);exact⟨_,⟨oe,vs,hd,c3,dx,ne,g4,rfl⟩,I1.Cd (by rw[aO ne.symm];exact L.fr) L.ap ⟨h1,NY h1 h2 λ_ z=>by cases z;exact⟨g2,nc⟩⟩⟩
theorem tS.hq{A:Around}(k:tS H H' a cls aP):sI (A.mark (some (.ref a))) H':=by
 obtain⟨ob,vs,h1,h2,k⟩:=k;refine .inr ⟨a,ob,?_⟩;cases aP with
 |none=>subst k;exact⟨_,vs,rfl,cz,h1,h2⟩
 |some n=>obtain⟨dx,_,_,rfl⟩:=k;exact⟨_,vs,rfl,cz,h1,h2⟩
theorem tS.same(k:tS H H' a cls aP)(fr:H a=none)(q:H b=some o):H' b=some o:=by
 obtain⟨ob,vs,_,_,k⟩:=k;cases aP with
 |none=>subst k;rw[aO (cZ q fr)];exact q
 |some n=>obtain⟨dx,ne,d,rfl⟩:=k;rw[aO (cZ q fr),aO (cZ q d)];exact q
theorem V3(Iv:Nat->Shared->Prop)
  (turn:∀n s,Iv n s->wpAny (model prog w) A (pyNext it) (λr s1=>match r with
   |none=>R (.ok .next) s1
   | some v=>wpAny (model prog w) A (letOwnedTupleGo tg it v) (λ_ pJ=>wpAny (model prog w) A (assign tg env v) (λ_ s2=>
     wpAny (model prog w) A (forIn ifs true λc r=>if r=true then do let ok <- isTrue c env (eval c env);pure (ForInStep.yield ok) else pure (ForInStep.yield r)) (λok s3=>
      if ok=true then wpAny (model prog w) A (eval elt env) (λx s4=>
       wpAny (model prog w) A (call (.builtin "list.append") [acc,x]) (λ_ s5=>∃m,m<n/\Iv m s5) (λ_ _=>False) s4) (λ_ _=>False) s3
      else ∃m,m<n/\Iv m s3) (λ_ _=>False) s2) (λ_ _=>False) pJ) (λ_ _=>False) s1) (λ_ _=>False) s)
  (n:Nat) (hn:Iv n s):codeAny (model prog w) A (.compLoop (.ListComp elt [⟨tg,iter,ifs,0⟩] scope pos) 0 it acc env) R s:=by
 have ff:∀{E:Value->Shared->Prop} (x) (s),False->E x s:=λ_ _ f=>f.elim
 refine codeAny_loop rfl Iv (λk s0 hI=>?_) n hn;refine wpAny_noted ?_;rw[compTurn_list];refine aaO (wpAny_standAt (aaO (adW (turn k s0 hI) (λr s1 h1=>?_) ff)));cases r with
 |none=>exact acA h1
 |some v=>
  refine aaO (adW h1 (λ_ pJ g9=>aaO (adW g9 (λ_ s2 h2=>aaO (adW h2 (λok s3 h3=>?_) ff)) ff)) ff);cases ok with
  |false=>exact acA ⟨rfl,h3⟩
  |true=>exact aaO (aaO (adW h3 (λx s4 h4=>aaO (adW h4 (λ_ s5 h5=>acA (acA ⟨rfl,h5⟩)) ff)) ff))
noncomputable def frees(sc:Scope):List Str:=(sc.names.filter λx=>x.2 == .free).map (·.1)
noncomputable def lI(env:Env):List (Str×NameKind)->List (Str×Addr)->List (Str×Addr)
 |[],cs=>cs
 |(n,k)::r,cs=>lI env r (if k == .free then(n,(env.cells.lookup n).getD 0)::cs else cs)
theorem Ku(h:∀x∈frees sc,∃c,env.cells.lookup x=some c):closureFor sc env=pure (lI env sc.names []):=by
 have key:∀(l) (cs),(∀x∈(l.filter λx=>x.2 == .free).map (·.1),∃c,env.cells.lookup x=some c)->
   (forIn l cs λx r=>(do
    let(name,kind):=x
    if kind == .free then do
     let a <- cellOf env name
     pure (ForInStep.yield ((name,a)::r))
    else pure (ForInStep.yield r):Sem (ForInStep (List (Str×Addr)))))=pure (lI env l cs):=by
  intro l
  induction l with
  |nil=>intro cs _;rfl
  |cons p r ih=>
   obtain⟨n,k⟩:=p;intro cs h;rw[List.forIn_cons]
   by_cases hk:(k==NameKind.free)=true
   .obtain⟨c,hc⟩:=h n (by simp[hk]);have Jf:=ih ((n,c)::cs) λx hx=>h x (by simp only[agF,hk,if_true,aan,aaQ];exact Or.inr hx)
    have e:cellOf env n=pure c:=by unfold cellOf;rw[hc]
    simp only[hk,if_true,e,pure_bind,lI,hc,aha];exact Jf
   .have Jf:=ih cs λx hx=>h x (by simp only[agF,hk];exact hx)
    simp only[hk,lI,agK,if_false,pure_bind];exact Jf
 unfold closureFor;have k:=key sc.names [] h;simp only[bind_pure] at k ⊢
 first
  |exact k
  |(simp only[pure_bind];exact k)
theorem Od:∀{l} {cs} {x} {c},(lI env l cs).lookup x=some c->
  cs.lookup x=some c\/((x,NameKind.free)∈l/\c=(env.cells.lookup x).getD 0)
 |[],_,_,_,h=>.inl h
 |(n,k)::r,cs,x,c,h=>by
  rcases Od (l:=r) h with q|⟨q,e⟩
  .by_cases hk:(k==NameKind.free)=true
   .rw[if_pos hk,aeJ] at q
    by_cases hx:(x==n)=true
    .rw[hx] at q;have e:=eq_of_beq hx;subst e;have Zj:k=.free:=by cases k<;>first|rfl|exact absurd hk (by decide)
     subst Zj;exact .inr ⟨aak,(ab4 q).symm⟩
    .rw[agU] at hx;rw[hx] at q;exact .inl q
   .rw[if_neg hk] at q;exact .inl q
  .exact .inr ⟨aaf _ q,e⟩
theorem GY:∀{l} {cs} {x},(∃c,cs.lookup x=some c)\/(x,NameKind.free)∈l->∃c,(lI env l cs).lookup x=some c
 |[],_,_,h=>h.elim id λz=>nomatch z
 |(n,k)::r,cs,x,h=>by
  refine GY (l:=r) ?_;rcases h with⟨c,h⟩|h
  .left
   by_cases hk:(k==NameKind.free)=true
   .rw[if_pos hk,aeJ]
    by_cases hx:(x==n)=true
    .rw[hx];exact⟨_,rfl⟩
    .rw[agU] at hx;rw[hx];exact⟨c,h⟩
   .rw[if_neg hk];exact⟨c,h⟩
  .rcases aaQ.mp h with e|h
   .left
    cases e;rw[if_pos (by decide),aeJ,afA];exact⟨_,rfl⟩
   .exact .inr h
def fC(X:Cx)(N:List Str)(sc:Scope)(s3:Shared)(H3:Hp)(fp:List Addr):Cx:=
 { X with N:=N,cI:=s3,vd:=H3,env:=compEnvC sc (lI X.env sc.names []) s3.heap.objs.size X.env,outer:=X.stack,stack:=X.stack,ex:=fp,fn:=λ_=>false,pn:=[],xe:=λ_ _=>False }
noncomputable def lT(js:List (Option Nat))(σ:St):St:=js.map λj=>match j with
 |none=>none
 |some j=>(σ[j]?).join
noncomputable def ow(N:List Str)(sc:Scope):List Str->List (Option Nat)->Bool
 |[],[]=>true
 |x::r,none::js=>ow N sc r js
 |x::r,some j::js=>decide (N[j]? = some x)&&decide (sc.names.lookup x=some .free)&&ow N sc r js
 |_,_=>false
theorem AD:∀{M} {js},ow N sc M js=true->js.length=M.length
 |[],[],_=>rfl
 |_::r,none::js,h=>by
  have:=AD (js:=js) h;simp[this]
 |_::r,some j::js,h=>by
  unfold ow at h;have:=AD ((abe _ _).mp h).2;simp[this]
 |[],_::_,h=>by cases h
 |_::_,[],h=>by cases h
theorem GB:∀{M} {js}{i j:Nat} {x},ow N sc M js=true->M[i]? = some x->js[i]? = some (some j)->N[j]? = some x/\sc.names.lookup x=some .free
 |[],_,_,_,_,_,h,_=>by simp at h
 |_::_,[],_,_,_,h,_,_=>by cases h
 |y::r,none::js,0,j,x,h,h1,h2=>by simp at h2
 |y::r,some q::js,0,j,x,h,h1,h2=>by
  simp at h1 h2;subst h1 h2;unfold ow at h;obtain⟨a,b⟩:=(abe _ _).mp ((abe _ _).mp h).1;exact⟨aa9 a,aa9 b⟩
 |y::r,none::js,i+1,j,x,h,h1,h2=>GB (js:=js) h (by simpa using h1) (by simpa using h2)
 |y::r,some q::js,i+1,j,x,h,h1,h2=>by
  unfold ow at h;exact GB ((abe _ _).mp h).2 (by simpa using h1) (by simpa using h2)
structure oV(X:Cx)(M:List Str)(js:List (Option Nat))(sc:Scope):Prop where
 kind:sc.kind=.function
 wu:∀y∈sc.names,y.2≠.cell
 loc:∀y∈sc.names,y.2=.local->sc.names.lookup y.1=some .local
 E7:ow X.N sc M js=true
 free:∀x∈frees sc,X.env.kindOf x=some .cell\/X.env.kindOf x=some .free
 nd:M.Nodup
def IK(wi:TI)(js:List (Option Nat))(g:TG)(tt:TT)(te:TE):TE:=λσ H Q=>wi σ H λJ H1=>∀D,H1 D=none->
 ∃W:Nat->Nat->St->Hp->Prop,(∃m,W 0 m (lT js σ) (upd H1 D (.lst [])))/\∀i m az H',W i m az H'->
  (J.stop i H'/\Q (.ref D) H')\/(J.go i H'/\∀x H2,J.xD i H' x H2->g x az H2 λcQ H3=>tt cQ H3 λb H4=>
   if b=true then te cQ H4 λy H5=>∃xs,H5 D=some (.lst xs)/\xs.length<sizeLine/\∃m',m'<m/\W (i+1) m' cQ (upd H5 D (.lst (xs++[y])))
   else ∃m',m'<m/\W (i+1) m' cQ H4)
def wU(X:Cx)(ifs:List Expr)(t:TT):Prop:=
 ∀(af) (s) (σ) (H) (Q),Inv X af σ H s->t σ H Q->
  Z4 X X.A (forIn ifs true λc r=>if r=true then do let ok <- isTrue c X.env (eval c X.env);pure (ForInStep.yield ok) else pure (ForInStep.yield r)) (TP X af σ Q) X.xe s
theorem acG(h:PT X c t):wU X [c] t:=λaf s σ H Q I q=>wpAny_tests_one (h af s σ H Q I q)
theorem Inv.comp(S:oV X M js sc)(I:Inv X af σ H3 s3)
  (hf:∀b∈fp,iT X af H3 b) (cR:∀b∈fp,b<s3.heap.objs.size) (hn:h'.Ns s3.heap.objs.size λ_=>none) (hk:∀b o,s3.heap.get? b=some o->h'.get? b=some o) :
  Inv (fC X M sc s3 H3 fp) [] (lT js σ) H3 { s3 with heap:=h',toks:=tk }:=by
 have cl:∀{x} {c},(lI X.env sc.names []).lookup x=some c->X.env.cells.lookup x=some c:=λ{x c} e=>by
  rcases Od e with q|⟨q,e'⟩
  .cases q
  .obtain⟨c',hc⟩:=I.ok.has x (S.free x (ab1.mpr ⟨(x,.free),acX.mpr ⟨q,rfl⟩,rfl⟩));rw[hc] at e' ⊢;rw[e'];rfl
 have jb:=adR I.ok.jb I.sz;have lk:∀{x},sc.names.lookup x=some .free->(relabel sc X.env).names.lookup x=some .cell\/(relabel sc X.env).names.lookup x=some .free:=λ{x} e=>by
  have key:∀(l:List (Str×NameKind)),l.lookup x=some .free->(l.map λ(n,k)=>if(k==NameKind.free&&X.env.scope.kind == .function&&X.env.kindOf n==some .cell) then(n,NameKind.cell) else(n,k)).lookup x=some .cell\/
    (l.map λ(n,k)=>if(k==NameKind.free&&X.env.scope.kind == .function&&X.env.kindOf n==some .cell) then(n,NameKind.cell) else(n,k)).lookup x=some .free:=by
   intro l
   induction l with
   |nil=>intro e;cases e
   |cons p r ih=>
    obtain⟨n,k⟩:=p;intro e;rw[aeJ] at e;rw[aan]
    by_cases hx:(x==n)=true
    .rw[hx] at e;have e':=ab4 e;subst e';dsimp only
     split
     .left;rw[aeJ,hx]
     .right;rw[aeJ,hx]
    .rw[agU] at hx;rw[hx] at e;dsimp only
     split<;>(rw[aeJ,hx];exact ih e)
  exact key sc.names e
 have kf:∀{x},((relabel sc X.env).names.lookup x=some .cell\/(relabel sc X.env).names.lookup x=some .free)->(x,NameKind.free)∈sc.names:=λ{x} e=>by
  have key:∀(l:List (Str×NameKind)),(∀y∈l,y.2≠.cell)->((l.map λ(n,k)=>if(k == NameKind.free&&X.env.scope.kind == .function&&X.env.kindOf n == some .cell) then(n,NameKind.cell) else(n,k)).lookup x=some .cell\/
    (l.map λ(n,k)=>if(k==NameKind.free&&X.env.scope.kind == .function&&X.env.kindOf n==some .cell) then(n,NameKind.cell) else(n,k)).lookup x=some .free)->(x,NameKind.free)∈l:=by
   intro l
   induction l with
   |nil=>intro _ e;rcases e with e|e<;>cases e
   |cons p r ih=>
    obtain⟨n,k⟩:=p;intro nc e;rw[aan] at e
    by_cases hx:(x==n)=true
    .have e0:=eq_of_beq hx;subst e0;have Yr:k=.free:=by
      exists 59
      split at e
      .rename_i hc;have:=((abe _ _).mp ((abe _ _).mp hc).1).1;cases k<;>first|rfl|exact absurd this (by decide)
      .rw[aeJ,afA] at e;rcases e with e|e
       .exact absurd (ab4 e) (nc _ aak)
       .exact ab4 e
     rw[Yr];exact aak
    .rw[agU] at hx;refine aaf _ (ih (λy hy=>nc y (aaf _ hy)) ?_);dsimp only at e
     split at e<;>(rw[aeJ,hx] at e;exact e)
  exact key sc.names S.wu e
 refine⟨⟨I.ok.mod,S.kind,I.ok.glob,I.ok.blt,abW _,λx y c h1 h2=>I.ok.inj x y c (cl h1) (cl h2),λx hx=>GY (.inr (kf hx)),(λx c h _=>by cases h),I.ok.hd,I.ok.frames,.inl rfl,λb hb=>⟨acL (cR b hb),λx c e=>(hf b hb).2.2.2.2.1 x c (cl e)⟩,
   I.bs,jb,λb o e hb=>?_,λb hb xw=>?_,I.stack,I.ug⟩,
  rfl,I.bare,Un.kept hk,⟨_,hn,λi x v h1 h2 h3=>?_⟩,λx c e=>?_,I.aF.fresh (abW _),λx c e=>I.gW x c (cl e),λp hp=>absurd (show p∈([]:List (Addr×Obj)) from hp) (by simp),I.aF.kept hk,?_,I.hq⟩
 .rcases(hf b hb).2.2.2.1 with z|z
  .exact I.ok.pA b o e z
  .exact absurd (ac5 (abQ e) (adR I.ok.jb z)) (aeX _)
 .rcases aaQ.mp (I.CG b xw) with z|z
  .exact(hf b hb).2.1 z
  .exact(hf b hb).2.2.1 z
 .have hlen:=AD S.E7;have hi:i<js.length:=by rw[hlen];exact(abD.mp h1).1
  unfold lT at h2;rw[acn,abl hi,Option.map_some] at h2;exists hj,js[i],j,h2;have mK:(σ[j]?).join=some v:=ab4 h2;obtain⟨a,b⟩:=GB S.E7 h1 (by rw[abl hi,hj]);have hs:σ[j]? = some (some v):=by
   exists q,σ[j]?,z,mK;rw[show z=some v from mK]
  have n9:=S.free x (ab1.mpr ⟨(x,.free),acX.mpr ⟨PySem.mem_of_lookup b,rfl⟩,rfl⟩);obtain⟨m,hm,hl⟩:=I.loc;obtain⟨u,ru,l⟩:=hl j x v a hs (n9.elim (λz=>.inr (.inl z)) λz=>.inr (.inr z));refine⟨u,ru,.inr ⟨lk b,?_⟩⟩;rcases l with⟨k,_⟩|⟨_,c,e,hc⟩
  .rcases n9 with z|z<;>(rw[z] at k;cases k)
  .obtain⟨c',sD⟩:=GY (.inr (PySem.mem_of_lookup b));have e':=cl sD;rw[e] at e';have e2:=ab4 e';subst e2;obtain⟨o,ho,hd⟩:=hc;exact⟨c,sD,o,hk _ _ ho,hd⟩
 .obtain⟨v,o,ho,hd⟩:=I.cell x c (cl e);exact⟨v,o,hk _ _ ho,hd⟩
 .unfold lT;rw[List.length_map];exact AD S.E7
theorem Inv.Lb(I:Inv X af σ H3 s3)(hf:∀b∈fp,iT X af H3 b)
  (J:Inv (fC X M sc s3 H3 fp) wC az H' s') (hs:Heap.SameBut s3.heap.objs.size s'.heap h'):Inv X af σ H' { s' with heap:=h' }:=by
 have B:=J.base;have ne:∀{b} {o},s3.heap.get? b=some o->b≠s3.heap.objs.size:=λe=>acL (abQ e)
 have B':Un (aY X.stack) fp H3 H' s3.heap h':=⟨λb o e n hb hx=>(hs.2 b (ne e)).trans (B.keep b o e n hb hx),λb o e n hb hx=>let⟨sl,q⟩:=B.slot b o e n hb hx;⟨sl,(hs.2 b (ne e)).trans q⟩,B.free,
  λb o e hx=>let⟨o',q⟩:=B.there b o e hx;⟨o',(hs.2 b (ne e)).trans q⟩,B.jl,B.jk,B.kK⟩
 have fr:H' s3.heap.objs.size=none:=J.free;refine I.QC J.os B' (λb u e=>?_) J.bare λb hb=>⟨(hf b hb).2.2.2.1,(hf b hb).2.1,(hf b hb).2.2.2.2.1,(hf b hb).2.2.2.2.2⟩
 refine(J.aF b u e).gx (λc v hc q=>(hs.2 c ?_).trans q) (λ_ q=>q) λ_ _ q=>q
 rintro rfl
 rcases hc with rfl|hc
 .rw[fr] at e;cases e
 .rw[fr] at hc;cases hc
theorem LY
  {Q:VK}{RR:Value->Addr->Result->Shared->Prop} (S:oV X M js sc) (hc:X.calm=true\/J.rg=true) (I2:Inv X af σ H2 s2) (T:Turn X.prog X.w X.K tg J fp it tn) (st:tn 0 s2.heap) (hf:∀b∈fp,iT X af H2 b)
  (hb:∀s3 H3 fp,PG (fC X M sc s3 H3 fp) tg g/\wU (fC X M sc s3 H3 fp) ifs tt/\PE (fC X M sc s3 H3 fp) elt te)
  (h:∀D,H2 D=none->∃W:Nat->Nat->St->Hp->Prop,(∃m,W 0 m (lT js σ) (upd H2 D (.lst [])))/\∀i m az H',W i m az H'->
   (J.stop i H'/\Q (.ref D) H')\/(J.go i H'/\∀x H2,J.xD i H' x H2->g x az H2 λcQ H3=>tt cQ H3 λb H4=>
    if b=true then te cQ H4 λy H5=>∃xs,H5 D=some (.lst xs)/\xs.length<sizeLine/\∃m',m'<m/\W (i+1) m' cQ (upd H5 D (.lst (xs++[y])))
    else ∃m',m'<m/\W (i+1) m' cQ H4))
  (hR:∀D s3 H3 s' az H',Inv X af σ H3 s3->(∀b∈fp,iT X af H3 b)->Inv (fC X M sc s3 H3 fp) [] az H' s'->Q (.ref D) H'->RR (.ref D) s3.heap.objs.size (.ok .next) s') :
  Z4 X X.A (newList []) (λacc Cf=>Z4 X X.A (newFunctionEnv sc X.env.globals (lI X.env sc.names []) [] X.env.qual none .none (some X.env)) (λMO ac7=>
   codeAny (model X.prog X.w) X.A (.compStart (.ListComp elt [⟨tg,iter,ifs,0⟩] sc pos) 0 (.ref it) acc { MO with scope:=relabel sc X.env }) (RR acc MO.locals) ac7) X.xe Cf) X.xe s2:=by
 have VV:=I2.aF.fresh (abW _);obtain⟨W,⟨m0,w0⟩,turn⟩:=h _ VV;have I3:Inv X af σ (upd H2 s2.heap.objs.size (.lst [])) { s2 with heap:=s2.heap.push { cls:=.type "list",data:=.seq ([]:List Value).toArray } }:=
  I2.laid (λ_ _ q=>aap _ q) (abW _) ⟨aeC _,[],0,.nil,ab8 _ rfl⟩
 have E2:∀b∈fp,b<s2.heap.objs.size:=λb hb=>let⟨_,e,_⟩:=T.obj _ _ st b hb;abQ e
 have EW:∀b∈fp,iT X af (upd H2 s2.heap.objs.size (.lst [])) b:=λb hb=>⟨by rw[aO (acL (E2 b hb))];exact(hf b hb).1,(hf b hb).2⟩
 have hsz:(s2.heap.push { cls:=.type "list",data:=.seq ([]:List Value).toArray }).objs.size=s2.heap.objs.size+1:=agX ..;refine ag1 (wpAny_newFunctionEnv S.wu (λy hy=>nomatch hy) (λh1 IE Xu=>?_) S.kind);generalize AG:({ s2 with heap:=s2.heap.push { cls:=.type "list",dict:=none,data:=.seq ([]:List Value).toArray } }:Shared)=s3 at *;have Q9:∀b o,s3.heap.get? b=some o->h1.get? b=some o:=λb o e=>(Xu.2 b (acL (abQ e))).trans (aap _ e)
 have Mm:∀b∈fp,b<s3.heap.objs.size:=λb hb=>by rw[<- AG];show b<(s2.heap.push _).objs.size;rw[hsz];exact ahm (E2 b hb)
 have I4:Inv (fC X M sc s3 (upd H2 s2.heap.objs.size (.lst [])) fp) [] (lT js σ) (upd H2 s2.heap.objs.size (.lst [])) { s3 with heap:=h1,toks:=s3.toks+([]:List (Str×Value)).length }:=I3.comp S EW Mm IE Q9;obtain⟨hg,ht,he⟩:=hb s3 (upd H2 s2.heap.objs.size (.lst [])) fp;have qY:∀{H'},(∀b∈fp,H' b=none)->∀b∈fp,iT (fC X M sc s3 (upd H2 s2.heap.objs.size (.lst [])) fp) [] H' b:=λ{H'} hn b hb=>
  ⟨hn b hb,acL (Mm b hb),I4.ok.nO b hb,.inl hb,(I4.ok.tN b hb).2,λp hp=>absurd (show p∈([]:List (Addr×Obj)) from hp) (by simp)⟩
 have OV:=T.keep _ _ _ st λb hb o e=>Q9 b o (by rw[<- AG];exact aap _ e)
 have WK:∀b∈fp,upd H2 s2.heap.objs.size (.lst []) b=none:=λb hb=>(EW b hb).1
 have loop:codeAny (model X.prog X.w) X.A (.compLoop (.ListComp elt [⟨tg,iter,ifs,0⟩] sc pos) 0 (.ref it) (.ref s2.heap.objs.size) (compEnvC sc (lI X.env sc.names []) s3.heap.objs.size X.env)) (RR (.ref s2.heap.objs.size) s3.heap.objs.size)
   { s3 with heap:=h1,toks:=s3.toks+([]:List (Str×Value)).length }:=by
  refine V3 (λn s'=>∃i az H',Inv (fC X M sc s3 (upd H2 s2.heap.objs.size (.lst [])) fp) [] az H' s'/\tn i s'.heap/\(∀b∈fp,H' b=none)/\W i n az H') ?_ m0 ⟨0,_,_,I4,OV,WK,w0⟩
  rintro n s5 ⟨i,BH,H5,I5,vW,l5,w5⟩
  rcases turn i n BH H5 w5 with⟨stop,q⟩|⟨go,step⟩
  .refine cD (T.done (fC X M sc s3 (upd H2 s2.heap.objs.size (.lst [])) fp) rfl rfl rfl hc i [] s5 BH H5 _ I5 (qY l5) vW stop) ?_
   rintro r s6 ⟨hr,I6⟩
   subst hr;exact hR _ _ _ _ _ _ I3 EW I6 q
  .refine cD (T.item (fC X M sc s3 (upd H2 s2.heap.objs.size (.lst [])) fp) rfl rfl rfl hc i [] s5 BH H5 _ I5 (qY l5) vW go) ?_
   rintro r s6 ⟨u,hr,h6⟩
   subst hr;refine cD h6 ?_
   rintro _ s7 ⟨x,H7,I7,r7,y7,Ho,fr7⟩
   have I7':=I7.pinned (qY fr7) (T.obj _ _ Ho);have back:∀{qM} {H8} {s8},Inv (fC X M sc s3 (upd H2 s2.heap.objs.size (.lst [])) fp) ([]++zo fp s7.heap) qM H8 s8->tn (i+1) s8.heap/\(∀b∈fp,H8 b=none):=λ{qM H8 s8} I8=>
    ⟨T.keep _ _ _ Ho λb hb o e=>(I8.pin (b,o) (aaw _ (aaw _ (z9 hb e)))).1,λb hb=>by
     obtain⟨o,e,_⟩:=T.obj _ _ Ho b hb;exact(I8.pin (b,o) (aaw _ (aaw _ (z9 hb e)))).2.1⟩
   refine cD (hg _ s7 BH H7 x u _ I7' r7 (step x H7 y7)) ?_
   rintro _ s8 ⟨qM,H8,I8,q8⟩
   refine F5 (ht _ s8 qM H8 _ I8 q8) λok s9 H9 I9 q9=>?_
   cases ok with
   |false=>
    rw[if_neg abu] at q9 ⊢;obtain⟨m',hm,w9⟩:=q9;obtain⟨a9,b9⟩:=back I9;exact⟨m',hm,i+1,qM,H9,I9.w_,a9,b9,w9⟩
   |true=>
    rw[if_pos rfl] at q9 ⊢;refine cD (he _ s9 qM H9 _ I9 q9) λy iB hq=>?_
    obtain⟨yv,Kr,I10,r10,xs,hD,hz,m',hm,TQ⟩:=hq;refine G_ (Gw _ iB qM Kr (.ref s2.heap.objs.size) [yv] (.ref s2.heap.objs.size) [y] (λv Po=>v=.aA/\Po=upd Kr s2.heap.objs.size (.lst (xs++[yv]))) I10 rfl (.cons r10 .nil) ⟨_,xs,yv,rfl,rfl,hD,hz,rfl,rfl⟩) λ_ gA v11 Po LM _ q=>?_
    obtain⟨_,N5⟩:=q;subst N5;obtain⟨a9,b9⟩:=back LM;exact⟨m',hm,i+1,qM,_,LM.w_,a9,b9,TQ⟩
 exact codeAny_compStart_list loop (T.self _ 0 _ _ _ OV loop)
theorem YR{g:TG}(S:oV X M js sc)(hc:X.calm=true)(hi:PI X tg iter wi)
  (hb:∀s3 H3 fp,PG (fC X M sc s3 H3 fp) tg g/\wU (fC X M sc s3 H3 fp) ifs tt/\PE (fC X M sc s3 H3 fp) elt te) (hs:∀x,foldedSetIterable iter X.env x=pure x:=by intro _;rfl) :
  PE X (.ListComp elt [⟨tg,iter,ifs,0⟩] sc pos) (IK wi js g tt te):=by
 exists 44;rw[eval_ListComp];refine wpAny_comprehension_free rfl hs (Ku λx hx=>I.ok.has x (S.free x hx)) S.kind S.loc ?_;refine cD (hi af s σ H _ I h) λv s1 h1=>cD h1 λAW s2 hq=>?_
 obtain⟨it,fp,tn,J,H2,e,I2,T,qZ,f2,h2⟩:=hq;subst e;refine LY S (.inl hc) I2 T qZ f2 hb h2 λD s3 H3 s' az H' I3 f3 J' q=>?_
 obtain⟨m,hm,_⟩:=J'.loc;exact⟨m,hm,λh' cL=>⟨.ref D,H',I3.Lb f3 J' cL,rfl,q⟩⟩
theorem abb(hN:X.N.Nodup)(hy:X.N[i]? = some y)(hl:X.env.scope.names.lookup y=some .local)
  (S:oV X M js sc) (hc:X.calm=true) (hi:PI X tg iter wi) (hb:∀s3 H3 fp,PG (fC X M sc s3 H3 fp) tg g/\wU (fC X M sc s3 H3 fp) ifs tt/\PE (fC X M sc s3 H3 fp) elt te)
  (kq:swapsWith (.ListComp elt [⟨tg,iter,ifs,0⟩] sc pos) (some (.Name y py)) IS.line X.env=pure true:=by rfl) (hs:∀x,foldedSetIterable iter X.env x=pure x:=by intro _;rfl) :
  PS X (.Assign [.Name y py] (.ListComp elt [⟨tg,iter,ifs,0⟩] sc pos) IS) (RK (IK wi js g tt te) (zT i)):=by
 exists 45;rw[exec_Assign_Name_used _ _ _ _ kq];refine aaO (wpAny_standAt (aaO ?_));refine aaO (adW (wpAny_comprehension_free rfl hs (Ku λx hx=>I.ok.has x (S.free x hx)) S.kind S.loc ?_) (λ_ s' q=>acA (acA q)) λ_ _ e=>e);refine cD (hi af s σ H _ I h) λv s1 h1=>cD h1 λAW s2 hq=>?_
 obtain⟨it,fp,tn,J,H2,e,I2,T,qZ,f2,h2⟩:=hq;subst e;refine LY (Q:=λx H1=>zT i x σ H1 D.nx) S (.inl hc) I2 T qZ f2 hb h2 λDa s3 H3 s' az H' I3 f3 J' q=>?_
 have sb:Heap.SameBut s3.heap.objs.size s'.heap s'.heap:=⟨rfl,λ_ _=>rfl⟩
 have I5:=I3.Lb f3 J' sb;obtain⟨m,hm,_⟩:=J'.loc;have ne:=acL I3.lt;refine wpAny_assign_Name (Mc I5 hN hy (.inl hl) (show RelV (.ref Da) (.ref Da) from rfl) (λs6 I6 ⟨a,E5,ha⟩=>?_) (.inr hl));have jK:∀x c,X.env.cells.lookup x=some c->c≠s3.heap.objs.size:=λx c e=>by
  obtain⟨v',jV⟩:=I3.cell x c e;exact acL jV.lt
 have na:=ha.elim (λe=>by rw[e];exact ne) λz=>jK y a z
 refine⟨m,hm.sameBut E5 (afH na),λh' cL=>⟨_,H',I6.turned (λb o hb e=>(cL.2 b hb).trans e) J'.free (afH ne) (.inr I3.sz) jK (λp hp=>?_),q⟩⟩;exact acL (abQ (I3.pin p hp).1)
theorem UU:typeLookup (.type "dict") "__len__"=pure (some (.builtin "dict.__len__")):=by rw[typeLookup_type,builtinLookup_eq_fast];kernel_rfl
section
variable{prog:Program}{w:World}{A:Around}{E:Value->Shared->Prop}{s:Shared}
theorem afq{κ:Type}[DecidableEq κ]{knd:KeyKind prog w κ}{ak:List (κ×Value)}{Q:List Value->Shared->Prop}(hh:A.handled=none)(hd:(d==sysModules)=false)(hm:s.heap.DictOf knd d ak)(hz:ak.length<=sizeLine)
  (hQ:∀s' acc,s.heap.objs.size<=s'.heap.objs.size->(∀b o,s.heap.get? b=some o->s'.heap.get? b=some o)->s'.gens=s.gens->s'.drawn=s.drawn->s'.os=s.os->ItemsOf (λi v=>∃k x,ak[i]? = some (k,x)/\knd.is k v=true) acc ak.length->Q acc.toList s') :
  wpAny (model prog w) A (collect (.ref d)) Q E s:=by
 obtain⟨ep,hm⟩:=hm.dictAt;have cR:=hm.lt_size;unfold collect;refine aaO (wpAny_runValue (agp F.entry_proto_collect ?_));rw[agj F.plain_proto_collect _];refine aaO (ag1 ?_);refine acA ⟨agR F.plain_list_iadd _,agp F.entry_list_iadd ?_⟩;rw[agj F.plain_list_iadd _];have n_:=hm.push { cls:=.type "list",data:=.seq ([]:List Value).toArray };have hT1:({ s with heap:=s.heap.push { cls:=.type "list",data:=.seq ([]:List Value).toArray } }:Shared).TypeIs (.ref d) "dict":=n_.dictOf.typeIs;show wpAny (model prog w) A.in1 (Builtin.List.listExtendWith (.ref s.heap.objs.size) (.ref d) (.ref s.heap.objs.size)) _ _ _;unfold Builtin.List.listExtendWith;refine aaO (wpAny_typeOf hT1 ?_);have h1:Builtin.List.listSameRef (.ref s.heap.objs.size) (.ref d)=false:=by simp[Builtin.List.listSameRef,agy cR]
 have h2:(Value.type "dict" == Value.type "list")=false:=by decide
 have h3:(Value.type "dict" == Value.type "tuple")=false:=by decide
 simp only[h1,h2,h3,Bool.or_false,agK,if_false];refine aaO (wpAny_pyIter_dict hd n_ ?_);refine aaO (afG ?_);have vg:=n_.push { cls:=.type "dict_keyiterator",data:=.fields #[.ref d,.int 0 0,.int ak.length 0,.int ep 0] };have CS:({ s with heap:=(s.heap.push { cls:=.type "list",data:=.seq ([]:List Value).toArray }).push { cls:=.type "dict_keyiterator",data:=.fields #[.ref d,.int 0 0,.int ak.length 0,.int ep 0] } }:Shared).TypeIs (.ref d) "dict":=vg.dictOf.typeIs;unfold Builtin.List.listLengthHint;refine aaO (wpAny_specialOf CS UU ?_);generalize FH:("dict.__len__":String)=QJ
 (fail_if_success (clear FH QJ))
 wp_delta
 rw[show splitId QJ=some ("dict","__len__") from by subst FH;decide +kernel];subst FH;refine aaO (wpAny_isInstance (b:=true) CS (by rw[isSubtype_type];kernel_rfl) ?_);refine aaO (wpAny_typeOf CS ?_);refine acA ?_;refine aaO (wpAny_rule ?_);have hsz:(s.heap.push { cls:=.type "list",data:=.seq ([]:List Value).toArray }).objs.size=s.heap.objs.size+1:=agX ..;generalize v_:s.heap.push { cls:=.type "list",data:=.seq ([]:List Value).toArray }=h1 at *;have Y6:h1.get? s.heap.objs.size=some { cls:=.type "list",data:=.seq ([]:List Value).toArray }:=by rw[<- v_];exact ab8 _ rfl
 have Zu:∀b o,s.heap.get? b=some o->h1.get? b=some o:=λb o e=>by rw[<- v_];exact aap _ e
 dsimp only;have TU:(h1.push { cls:=.type "dict_keyiterator",data:=.fields #[.ref d,.int 0 0,.int ak.length 0,.int ep 0] }).get? h1.objs.size=some { cls:=.type "dict_keyiterator",data:=.fields #[.ref d,.int 0 0,.int ak.length 0,.int ep 0] }:=ab8 _ rfl;have QB:(h1.push { cls:=.type "dict_keyiterator",data:=.fields #[.ref d,.int 0 0,.int ak.length 0,.int ep 0] }).get? s.heap.objs.size=some { cls:=.type "list",data:=.seq ([]:List Value).toArray }:=aap _ Y6;have Tj:∀b o,s.heap.get? b=some o->(h1.push { cls:=.type "dict_keyiterator",data:=.fields #[.ref d,.int 0 0,.int ak.length 0,.int ep 0] }).get? b=some o:=λb o e=>aap _ (Zu b o e)
 generalize hh2:h1.push { cls:=.type "dict_keyiterator",data:=.fields #[.ref d,.int 0 0,.int ak.length 0,.int ep 0] }=h2 at *;have Ro:s.heap.objs.size≠h1.objs.size:=by rw[hsz];exact acL (agS _)
 have O_:=agy cR;have ZO:d≠h1.objs.size:=by rw[hsz];exact acL (ahm cR)
 refine aaO ?_;refine aaO (ahh QB rfl ?_);have R_:=agH (Obj.mapSeq (·.push Value.none)) QB rfl;refine ahh R_ rfl ?_;have hS4:=agH (Obj.mapSeq (·.pop)) R_ rfl;have HX:∀b o,b≠s.heap.objs.size->h2.get? b=some o->((h2.update s.heap.objs.size (Obj.mapSeq (·.push Value.none))).update s.heap.objs.size (Obj.mapSeq (·.pop))).get? b=some o:=
  λb o hb e=>(aen _ _ (afH hb)).trans ((aen _ _ (afH hb)).trans e)
 have W:=(Walks.dictKeys (A:=A.in1) (knd:=knd) hh h1.objs.size d ZO ak ep).toS;refine acA ⟨agR F.plain_extend_loop _,codeAny_extend_loopS W hz s.heap.objs.size (by simp;exact⟨Ro,O_⟩) _ ak.length 0 _ _ _ rfl (aeC _) ?_ hS4 (ItemsOf.nil _) λs' aah c' Ah RL XD=>?_⟩
 .exact⟨⟨_,HX _ _ (afH Ro) TU,rfl,rfl⟩,vg.at' λo e=>HX _ _ (afH O_) e⟩
 .show wpAny (model prog w) A (load s.heap.objs.size >>= _) _ _ s';refine aaO (wpAny_load RL ?_);refine acA (hQ s' aah (afk (abQ RL)) (λb o e=>?_) Ah.gens Ah.drawn Ah.os XD);have hb:=abQ e;refine Ah.heap b o ?_ (HX b o (acL hb) (Tj b o e));intro m;rcases aaQ.mp m with z|z
  .exact absurd hb (by rw[z];exact aeX _)
  .have z:=aaB.mp z;rw[hsz] at z;exact absurd hb (by rw[z];exact Nat.not_lt.mpr (ahl _))
theorem SY{x:Value}{Q:Value->Shared->Prop}(hc:∀(Q':List Value->Shared->Prop),(∀vs s',(∃ns,IntsAre vs ns/\∀(out:Array Value) (eB:List Int),IntsAre out.toList eB->eB.Perm ns->eB.Pairwise (·<=·)->
    Q (.ref s'.heap.objs.size) { s' with heap:=sortedHeap (s'.heap.push (seqObj "list" vs.toArray 0)) s'.heap.objs.size vs out })/\vs.length<64->Q' vs s')->wpAny (model prog w) A.in1 (collect x) Q' E s):wpAny (model prog w) A (call (.builtin "sorted") [x]) Q E s:=by
 refine call_function_tree kind_sorted plain_sorted entry_sorted (args_sorted1 _) ?_;unfold Builtin.«sorted»;refine aaO (acA ?_);refine aaO (hc _ ?_)
 rintro vs s' ⟨⟨ns,hI,h⟩,ly⟩
 refine aaO (wpAny_newList ?_);have Bx:(s'.heap.push (seqObj "list" vs.toArray 0)).get? s'.heap.objs.size=some (seqObj "list" vs.toArray 0):=ab8 _ rfl;refine aaO (afG (wpAny_call_entry slot_list_sort ⟨_,Bx,rfl⟩ entry_list_sort (list_sort_tree Bx hI ly λout eB a1 a2 a3=>⟨_,rfl,?_⟩) (args_list_sort _)));exact acA (h out eB a1 a2 a3)
end
section
variable{X:Cx}
theorem LN:∀{ks:List Int}{ak:List (Key×Value)}{vs:List Value},ak.map (·.1)=ks.map Sum.inl->vs.length=ak.length->(∀(i:Nat) v,vs[i]? = some v->∃k x,ak[i]? = some (k,x)/\(gY P w).is k v=true)->IntsAre vs ks
 |[],[],vs,_,hl,_=>by cases vs with
  |nil=>exact .nil
  |cons _ _=>simp at hl
 |[],_::_,_,e,_,_=>by simp at e
 |_::_,[],_,e,_,_=>by simp at e
 |k::ks,(q,x)::ak,vs,e,hl,h=>by
  simp only[aan,afP] at e;obtain⟨rfl,e⟩:=e;cases vs with
  |nil=>simp at hl
  |cons v vs=>
   obtain⟨k',x',e0,hk⟩:=h 0 v rfl;have WZ:=ab4 e0;cases WZ;rcases m_ (show rZ (Sum.inl k) v=true from hk) with⟨i,t,e1,e2⟩|⟨y,t,e1,e2⟩
   .cases e1;subst e2;exact .cons k t (LN e (by simpa using hl) λi v hv=>h (i+1) v (by simpa using hv))
   .cases e1
def Ow(K:PySem.W.Frag):List V->Hp->VK->Prop:=λxs H Q=>∃(p:Addr) (ks:List Int),xs=[.ref p]/\ks.length<64/\((∃ak:List (Key×V),H p=some (.dK ak)/\ak.map (·.1)=ks.map Sum.inl)\/b7 K H p (ks.map V.int))/\
 ∀(l:Addr) (nV:List Int),H l=none->nV.Perm ks->nV.Pairwise (·<=·)->Q (.ref l) (upd H l (.lst (nV.map V.int)))
theorem Zb(hc:X.calm=true):f7 X (.builtin "sorted") (Ow X.K):=by
 exists 43;obtain⟨p,ks,rfl,ly,E_,q⟩:=h;exists 67;cases ru;have fin:∀(vs:List Value) (s':Shared),s.heap.objs.size<=s'.heap.objs.size->(∀b o,s.heap.get? b=some o->s'.heap.get? b=some o)->s'.gens=s.gens->s'.drawn=s.drawn->s'.os=s.os->∀(out:Array Value) (eB:List Int),IntsAre out.toList eB->eB.Perm ks->eB.Pairwise (·<=·)->
   EP X af σ Q (.ref s'.heap.objs.size) { s' with heap:=sortedHeap (s'.heap.push (seqObj "list" vs.toArray 0)) s'.heap.objs.size vs out }:=by
  intro vs s' hle hk e1 e2 e3 out eB a1 a2 a3;obtain⟨h',g',d',t',o'⟩:=s';dsimp only at e1 e2 e3 hk hle;subst e1 e2 e3;obtain⟨e,he⟩:=sortedHeap_at (show(h'.push (seqObj "list" vs.toArray 0)).get? h'.objs.size=some (seqObj "list" vs.toArray 0) from ab8 _ rfl);have hlen:eB.length<64:=by rw[a2.length_eq];exact ly
  refine⟨.ref h'.objs.size,upd H h'.objs.size (.lst (eB.map V.int)),I.laid (λb o eb=>?_) hle ?_,rfl,q _ eB (I.aF.fresh hle) a2 a3⟩
  .have hb:b<h'.objs.size:=abQ (hk b o eb);rw[sortedHeap_old (acL hb) (by rw[agX];exact ahm hb)];exact aap _ (hk b o eb)
  .exact⟨by rw[List.length_map];exact afk (xj (by omega)),out.toList,e,Jg a1,by rw[he]⟩
 have hh:X.A.handled=none:=I.ok.hd hc;refine SY λQ' OR=>?_
 rcases E_ with⟨ak,hp,hk⟩|hp
 .obtain⟨hz,hd,vs,rel,dd⟩:=P5 I.aF hp;refine afq hh hd dd (by rw[<- rel.length];exact hz) λs' acc hle kp e1 e2 e3 it=>OR _ s' ⟨⟨ks,?_,λout eB a1 a2 a3=>fin _ s' hle kp e1 e2 e3 out eB a1 a2 a3⟩,?_⟩
  .refine LN (by rw[<- rel.keys];exact hk) (by rw[ae0];exact it.1) λi v hv=>it.2 i v (by rw[<- Array.getElem?_toList];exact hv)
  .rw[ae0,it.1,<- rel.length];have:=congrArg List.length hk;rw[List.length_map,List.length_map] at this;omega
 .obtain⟨au,rv,pl,hz⟩:=I.list hp;have hi:=intsAre_of rv;have k1:s.heap.objs.size<=((s.heap.push (seqObj "list" #[] 0)).update s.heap.objs.size (Obj.mapSeq (·++au.toArray))).objs.size:=by
   rw[Heap.size_update,agX];exact ahl _
  have k2:∀b o,s.heap.get? b=some o->((s.heap.push (seqObj "list" #[] 0)).update s.heap.objs.size (Obj.mapSeq (·++au.toArray))).get? b=some o:=λb o e=>
   (aen _ _ (agy (abQ e))).trans (aap _ e)
  refine collect_list pl.isList (OR _ _ ⟨⟨ks,hi,λout eB a1 a2 a3=>fin au { s with heap:=(s.heap.push (seqObj "list" #[] 0)).update s.heap.objs.size (Obj.mapSeq (·++au.toArray)) } k1 k2 rfl rfl rfl out eB a1 a2 a3⟩,?_⟩) (by rw[<- rv.length];exact hz);rw[<- rv.length,List.length_map];exact ly
end
theorem Vm(a d:Value):argsOk "min" ⟨[a],[("default",d)]⟩:=by unfold argsOk;kernel_rfl
theorem AZ:(toString "min"++toString ".loop":String)="min.loop":=by decide
theorem Yy(W:Walks prog w A.in1 it fS jv n P T)(bt:Nat->Nat->Bool)(C9:CmpOf prog w A.in1 .Lt P bt)(kw:List (Str×Value))(B:Addr)(hB:B∉fS):
  ∀(k j) (s) (vb) (c),n-(j+1)=k->j+1<=n->T (j+1) s.heap->P (argBest bt j) vb->s.heap.get? B=some { cls:=.type "list",dict:=none,data:=.seq #[vb,vb] c,slots:=#[] }->
   (∀v h' tk,P (argBest bt (n-1)) v->(∀b o,b∉jv->b≠B->s.heap.get? b=some o->h'.get? b=some o)->R (.ok (.ret v)) { s with heap:=h',toks:=tk })->
   codeAny (model prog w) A (.builtin "min.loop" ⟨[.ref it,.none,.ref B],kw⟩) R s:=by
 have nB:B∉jv:=λm=>hB (W.sub _ m)
 intro k
 induction k with
 |zero=>
  intro j s vb c e1 e2 st pb gB fin;have en:j+1=n:=by omega
  refine agp F.entry_min_loop ?_;rw[agj agG _];refine aaO (wpAny_seqItems gB rfl ?_);refine aaO (ag7 (W.done s _ _ (en ▸ st) λh1 t1 kp=>?_));have qp:=kp B _ nB gB;refine aaO (ahh qp rfl (aaO (wpAny_letGo (acA ?_))));exact fin vb _ t1 (by rw[<- en];exact pb) λb o m1 m2 e=>(aen _ _ (afH m2)).trans (kp b o m1 e)
 |succ k ih=>
  intro j s vb c e1 e2 st pb gB fin;have lt:j+1<n:=by omega
  refine agp F.entry_min_loop ?_;rw[agj agG _];refine aaO (wpAny_seqItems gB rfl ?_);refine aaO (ag7 (W.item (j+1) s _ _ lt st λv h1 t1 pv uE kp=>?_));have qp:=kp B _ nB gB;show wpAny (model prog w) A.in1 (tryCatch (holding [v,v] (richCompare .Lt v vb >>= _)) _ >>= _) _ _ _;refine aaO (ag7 (afG (aaO (C9 (j+1) (argBest bt j) v vb _ _ _ pv pb ?_))));refine aaO (afG (afd (aaO (wpAny_letGo (acA ?_)))));cases hb:bt (j+1) (argBest bt j) with
  |true=>
   simp only[if_true];refine aaO (ahh qp rfl (aaO (wpAny_letGo ?_)));rw[AZ];refine acA ⟨agR agG _,ih (j + 1) _ v _ (by omega) lt (W.frame _ _ _ uE λb m o e=>(aen _ _ (λz:B=b=>hB (by rw[z];exact m))).trans e)
    (by simp only[argBest,hb,if_true];exact pv) (agH _ qp rfl) λv2 h2 t2 p2 k2=>?_⟩
   exact fin v2 h2 t2 p2 λb o m1 m2 e=>k2 b o m1 m2 ((aen _ _ (afH m2)).trans (kp b o m1 e))
  |false=>
   simp only[agK,if_false];refine aaO (wpAny_letGo ?_);rw[AZ];refine acA ⟨agR agG _,ih (j+1) _ vb c (by omega) lt uE (by simp only[argBest,hb,agK,if_false];exact pb) qp λv2 h2 t2 p2 k2=>?_⟩;exact fin v2 h2 t2 p2 λb o m1 m2 e=>k2 b o m1 m2 (kp b o m1 e)
theorem Sy(W:Walks prog w A.in1 it fS jv n P T)(bt:Nat->Nat->Bool)(C9:CmpOf prog w A.in1 .Lt P bt)(key:Str)(dv:Value)(B:Addr)(hB:B∉fS){s:Shared}{c:Nat}(st:T 0 s.heap)
  (gB:s.heap.get? B=some { cls:=.type "list",dict:=none,data:=.seq #[] c,slots:=#[] })
  (fin:∀v h' tk,(n=0/\v=dv\/0<n/\P (argBest bt (n-1)) v)->(∀b o,b∉jv->b≠B->s.heap.get? b=some o->h'.get? b=some o)->R (.ok (.ret v)) { s with heap:=h',toks:=tk }) :
  codeAny (model prog w) A (.builtin "min.loop" ⟨[.ref it,.none,.ref B],[(key,dv)]⟩) R s:=by
 have nB:B∉jv:=λm=>hB (W.sub _ m)
 refine agp F.entry_min_loop ?_;rw[agj agG _];refine aaO (wpAny_seqItems gB rfl ?_)
 by_cases hn:0<n
 .refine aaO (ag7 (W.item 0 s _ _ hn st λv h1 t1 pv uE kp=>?_));have qp:=kp B _ nB gB;show wpAny (model prog w) A.in1 (updateSeq B (λ_=>#[v,v]) >>= _) _ _ _;refine aaO (ahh qp rfl ?_);rw[AZ];refine acA ⟨agR agG _,Yy W bt C9 _ B hB _ 0 _ v _ rfl hn (W.frame _ _ _ uE λb m o e=>(aen _ _ (λz:B=b=>hB (by rw[z];exact m))).trans e) pv (agH _ qp rfl) λv2 h2 t2 p2 k2=>?_⟩;exact fin v2 h2 t2 (.inr ⟨hn,p2⟩) λb o m1 m2 e=>k2 b o m1 m2 ((aen _ _ (afH m2)).trans (kp b o m1 e))
 .have en:n=0:=by lia
  refine aaO (ag7 (W.done s _ _ (en ▸ st) λh1 t1 kp=>?_));exact aaO (wpAny_rule (acA (fin dv h1 t1 (.inl ⟨en,rfl⟩) λb o m1 _ e=>kp b o m1 e)))
theorem aem{id:String}{b:Builtin}{kw:List (Str×Value)}(hk:builtinKind id=none)(hp:plainId id=true)(hb:entryFor table id=some b)(ha:argsOk id ⟨args,kw⟩)
  (hc:wpAny (model prog w) A.in1 (b ⟨args,kw⟩) (λfin s'=>match fin with
   |.done f=>(match(Except.ok f:Result) with|.ok (.ret v)=>Q v s'|.ok _=>False|.error e=>E e s')
   |.again c=>c.quiet=true/\codeAny (model prog w) A c (λr s'=>match r with|.ok (.ret v)=>Q v s'|.ok _=>False|.error e=>E e s') s') E s):wpAny (model prog w) A (call (.builtin id) args kw) Q E s:=by
 refine wpAny_call (codeAny_call_builtin hp hb ?_);simp only[checkBuiltinCall,hk];cases Ut:Manifest.signature? id with
 |none=>exact acA hc
 |some sig=>
  have h2:Bind.checkArgs id sig ⟨args,kw⟩=pure ():=by simpa only[argsOk,Ut] using ha
  simp only[h2];exact acA hc
theorem Px:∀{vs} {ns} {i} {v},IntsAre vs ns->vs[i]? = some v->∃t,v=Value.int (ns.getD i 0) t
 |_,_,_,_,.nil,e=>by simp at e
 |_,_,0,_,.cons n t h,e=>by
  have e':=ab4 e;subst e';exact⟨t,rfl⟩
 |_,_,i+1,v,.cons n t h,e=>by
  obtain⟨u,eu⟩:=Px h (by simpa using e);exact⟨u,by simpa using eu⟩
theorem abT{ns:List Int}(h:i<ns.length):ns.getD i 0∈ns:=by
 rw[adM,abl h];exact List.getElem_mem h
theorem aeB{l:Addr}{vs:List Value}{ns:List Int}{dv:Value}{Q:Value->Shared->Prop}(hh:A.handled=none)(hl:s.heap.IsList l vs.toArray)(hi:IntsAre vs ns)
  (fin:∀v h' tk,(ns=[]/\v=dv\/∃m t,v=.int m t/\m∈ns/\∀x∈ns,m<=x)->(∀b o,s.heap.get? b=some o->h'.get? b=some o)->Q v { s with heap:=h',toks:=tk }) :
  wpAny (model prog w) A (call (.builtin "min") [.ref l] [("default",dv)]) Q E s:=by
 refine aem F.kind_min F.plain_min F.entry_min (Vm _ _) ?_;refine aaO (wpAny_of_eq (show Builtin.Builtins.bindParams "min" ["key","default"] 0 ⟨[],[("default",dv)]⟩=pure [none,some dv] from rfl) ?_);refine aaO (acA (aaO (wpAny_pyIter_list hl ?_)));refine aaO (ag1 ?_);rw[AZ];have OZ:l<s.heap.objs.size:=let⟨_,ho,_⟩:=hl;abQ ho
 have hsz:(s.heap.push { cls:=.type "list_iterator",data:=.fields #[.ref l,.int 0 0] }).objs.size=s.heap.objs.size+1:=agX ..;have hv:∀(i) (v),vs.toArray[i]? = some v->∃t,v=Value.int (ns.getD i 0) t:=λi v e=>Px hi (by simpa using e)
 have hlen:=hi.length;generalize v_:s.heap.push { cls:=.type "list_iterator",data:=.fields #[.ref l,.int 0 0] }=h1 at *;have g1:h1.get? s.heap.objs.size=some { cls:=.type "list_iterator",data:=.fields #[.ref l,.int 0 0] }:=by rw[<- v_];exact ab8 _ rfl
 have old:∀b o,s.heap.get? b=some o->h1.get? b=some o:=λb o e=>by rw[<- v_];exact aap _ e
 have nl:=acL OZ;have W:=Walks.list (prog:=prog) (w:=w) (A:=A.in1.in1) hh s.heap.objs.size l nl vs.toArray;have hB:h1.objs.size∉[s.heap.objs.size,l]:=by
  intro m;rcases aaQ.mp m with z|z
  .rw[hsz] at z;exact absurd z (agy (agS _))
  .have z:=aaB.mp z;rw[hsz] at z;exact absurd z (agy (ahm OZ))
 refine acA ⟨agR agG _,Sy W.of_in1 (λi j=>decide (ns.getD i 0<ns.getD j 0)) (CmpOf.ints_lt (λi=>ns.getD i 0) hv) _ dv h1.objs.size hB ?_ (ab8 _ rfl) λv h' tk Av kp=>?_⟩
 .exact⟨⟨_,aap _ g1,rfl,rfl⟩,hl.at λo e=>aap _ (old l o e)⟩
 .refine fin v h' tk ?_ λb o e=>kp b o ?_ ?_ (aap _ (old b o e))
  .have cG:vs.toArray.size=ns.length:=by rw[ab6,hlen]
   rw[cG] at Av;rcases Av with⟨h0,e⟩|⟨h0,pv⟩
   .exact .inl ⟨agV h0,e⟩
   .obtain⟨t,e⟩:=hv _ v pv;obtain⟨a1,a2⟩:=argBest_lt (λi=>ns.getD i 0) (ns.length-1);refine .inr ⟨_,t,e,abT (by omega),λx hx=>?_⟩;obtain⟨j,hj,rfl⟩:=List.getElem_of_mem hx;have:=a2 j (by omega);rw[show ns[j]=ns.getD j 0 by rw[adM,abl hj];rfl];exact this
  .intro m;exact absurd (abQ e) (by rw[aaB.mp m];exact aeX _)
  .intro z;exact absurd (abQ e) (by rw[z,hsz];exact Nat.not_lt.mpr (ahl _))
def afy(K:PySem.W.Frag)(ta td:TE):TE:=λσ H Q=>ta σ H λx H1=>td σ H1 λy H2=>∃(l:Addr) (ns:List Int),x=.ref l/\b7 K H2 l (ns.map V.int)/\((ns=[]/\Q y H2)\/ns≠[]/\∀m,m∈ns->(∀n∈ns,m<=n)->Q (.int m) H2)
theorem VI{b:Expr}{kp:Pos}(hc:X.calm=true)(hm:X.mg "min"=none)(ha:PE X a ta)(hb:PE X b td)(hg:Gl X "min":=by rfl)(hs:Y1 X a:=by rfl)
  (h1:backTo pos (starEach [a] X.env)=(false,eval a X.env)::backTo pos (starEach [] X.env):=by rfl) (h2:(backTo pos (starEach [a] X.env)).any (·.1)=false:=by rfl)
  (h3:(backToKw pos (keywordEach [⟨some "default",b,kp⟩] X.env)).all (·.1.isSome)=true:=by rfl) (h4:(backToKw pos (keywordEach [⟨some "default",b,kp⟩] X.env)).any (·.1.isNone)=false:=by rfl)
  (h5:(backToKw pos (keywordEach [⟨some "default",b,kp⟩] X.env)).filterMap (·.1)=[("default":Str)]:=by rfl) :
  PE X (.Call (.Name "min" p) [a] [⟨some "default",b,kp⟩] pos) (afy X.K ta td):=by
 exists 44;refine afJ (qH I hg hm (show bootBuiltins "min"=some (.builtin "min") by decide +kernel) ?_ (by decide) (by decide));refine callWith_kw ?_ h1 h2 h3 h4;rw[h5];refine Ca (cP ha eW hs pos af s σ H (λvs H1=>match vs with|[x]=>td σ H1 λy H2=>∃(l:Addr) (ns:List Int),x=.ref l/\b7 X.K H2 l (ns.map V.int)/\((ns=[]/\Q y H2)\/ns≠[]/\∀m,m∈ns->(∀n∈ns,m<=n)->Q (.int m) H2)|_=>False) I h) λus s1 vs H1 I1 rv q1=>?_
 rcases vs with _|⟨x,_|⟨x2,r2⟩⟩
 .exact q1.elim
 .obtain⟨u,rfl,ru⟩:=vals1 rv;refine kws_cons (cD (hb af s1 σ H1 _ I1 q1) ?_)
  rintro dv s2 ⟨y,H2,I2,ry,l,ns,ex,hq,q2⟩
  refine kws_nil ?_;subst ex;cases ru;obtain⟨au,ri,pl,hz⟩:=I2.list hq;refine aeB (I2.ok.hd hc) pl.isList (intsAre_of ri) λv h' tk Av kp=>?_
  rcases Av with⟨en,ev⟩|⟨m,t,ev,n_,vg⟩
  .subst ev;rcases q2 with⟨_,q2⟩|⟨ne,_⟩
   .exact⟨y,H2,I2.kept kp,ry,q2⟩
   .exact absurd en ne
  .subst ev;rcases q2 with⟨en,_⟩|⟨_,q2⟩
   .rw[en] at n_;cases n_
   .exact⟨.int m,H2,I2.kept kp,⟨t,rfl⟩,q2 m n_ vg⟩
 .exact q1.elim
end L2
namespace PySem
theorem adY:typeLookup (.type "list") "keys"=pure none:=by rw[typeLookup_type,builtinLookup_eq_fast];kernel_rfl
theorem abd:typeLookup (.type "tuple") "keys"=pure none:=by rw[typeLookup_type,builtinLookup_eq_fast];kernel_rfl
theorem XE(hx:s.heap.get? a=some { cls:=.type "list",dict:=none,data:=.seq xs k,slots:=sl })(hA:A.handled=none)
  (h:∀h' tk,(∀b o,s.heap.get? b=some o->h'.get? b=some o)->Q none { s with heap:=h',toks:=tk }):wpAny (model prog w) A (getAttr? (.ref a) "keys") Q E s:=by
 obtain⟨hp,g,d,tk,os⟩:=s;have hT:∀xC,(⟨hp,g,d,xC,os⟩:Shared).TypeIs (.ref a) "list":=λ_=>⟨_,hx,rfl⟩
 have f1:=sub_AttributeError;have f3:=F.slot_list_getattribute.lookup;have f4:=F.slot_list_getattribute.bind (.ref a);have f5:=am_list_getattr_none;unfold getAttr? getAttrBy? getAttrBy
 repeat (any_goals (first|assumption|exact hT _|((with_reducible show wpAny _ _ (call (Value.builtin "list.__getattribute__") _ _) _ _ _);refine call_meets F.slot_list_getattribute (hT _) am_entry_list_getattribute (F.args_list_getattribute_2 _ _) (meets_getattribute_miss_list a xs k sl "keys" _ adY (by decide +kernel)) ⟨hx,hA,λh' xC e jm=>?_⟩)|wp_step))
 obtain⟨t',u',he⟩:=jm.there;unfold getattributeRaised
 repeat (any_goals (first|assumption|wp_step))
 all_goals exact h _ _ jm.keeps
theorem ZV(hx:s.heap.get? a=some { cls:=.type "tuple",dict:=none,data:=.seq xs k,slots:=sl })(hA:A.handled=none)
  (h:∀h' tk,(∀b o,s.heap.get? b=some o->h'.get? b=some o)->Q none { s with heap:=h',toks:=tk }):wpAny (model prog w) A (getAttr? (.ref a) "keys") Q E s:=by
 obtain⟨hp,g,d,tk,os⟩:=s;have hT:∀xC,(⟨hp,g,d,xC,os⟩:Shared).TypeIs (.ref a) "tuple":=λ_=>⟨_,hx,rfl⟩
 have f1:=sub_AttributeError;have f3:=F.slot_tuple_getattribute.lookup;have f4:=F.slot_tuple_getattribute.bind (.ref a);have f5:=am_tuple_getattr_none;unfold getAttr? getAttrBy? getAttrBy
 repeat (any_goals (first|assumption|exact hT _|((with_reducible show wpAny _ _ (call (Value.builtin "tuple.__getattribute__") _ _) _ _ _);refine call_meets F.slot_tuple_getattribute (hT _) am_entry_tuple_getattribute (F.args_tuple_getattribute_2 _ _) (meets_getattribute_miss_tuple a xs k sl "keys" _ abd (by decide +kernel)) ⟨hx,hA,λh' xC e jm=>?_⟩)|wp_step))
 obtain⟨t',u',he⟩:=jm.there;unfold getattributeRaised
 repeat (any_goals (first|assumption|wp_step))
 all_goals exact h _ _ jm.keeps
end PySem
namespace L2
open PySem PySem.Spec PyProof.Rows
theorem Ax:plainId "dict.update.loop"=true:=by decide +kernel
theorem Qi:entryFor table "dict.update.loop"=some Builtin.«dict.update.loop»:=entryFor_of_fast (by kernel_rfl)
def pairAt{prog:Program}{w:World}{κ:Type}[DecidableEq κ](knd:KeyKind prog w κ)(h:Heap)(no:List Addr)(v:Value)(p:κ×Value):Prop:=∃a key,v=.ref a/\a∉no/\IsTup h a #[key,p.2]/\knd.is p.1 key=true
section
variable[DecidableEq κ]{knd:KeyKind prog w κ}
theorem UI(W:Walks prog w A.in1 it fS jv n P T)(hd:d∉fS)(h0:Heap)(ps:List (κ×Value))(hn:ps.length=n)(hP:∀i v,P i v->∃p,ps[i]? = some p/\pairAt knd h0 (d::jv) v p)(res:Value):
  ∀(k i) (s) (m) (IG),n-i=k->i<=n->T i s.heap->s.heap.DictOf knd d m->m.length+(n-i)<=sizeLine->(∀b o,b∉d::jv->h0.get? b=some o->s.heap.get? b=some o)->
   (∀h' tk,h'.DictOf knd d ((ps.drop i).foldl (λm p=>stored m p.1 p.2) m)->(∀b o,b∉d::jv->h0.get? b=some o->h'.get? b=some o)->R (.ok (.ret res)) { s with heap:=h',toks:=tk })->
   codeAny (model prog w) A (.builtin "dict.update.loop" ⟨[.ref d,.ref it,.int i IG,res],[]⟩) R s:=by
 have nd:d∉jv:=λm=>hd (W.sub _ m)
 intro k
 induction k with
 |zero=>
  intro i s m IG e1 e2 st dm hz kp fin;have en:i=n:=by lia
  subst en;refine agp Qi ?_;rw[agj Ax _];refine aaO (W.done s _ _ st λh1 t1 k1=>?_);refine aaO (acA (acA (fin h1 t1 ?_ λb o mb e=>k1 b o (λz=>mb (aaf _ z)) (kp b o mb e))));rw[List.drop_eq_nil_of_le (by lia)];obtain⟨o,es,ep,ho,r⟩:=dm;exact⟨o,es,ep,k1 d o nd ho,r⟩
 |succ k ih=>
  intro i s m IG e1 e2 st dm hz kp fin;have lt:i<n:=by lia
  refine agp Qi ?_;rw[agj Ax _];refine aaO (W.item i s _ _ lt st λv h1 t1 pv uE k1=>?_);obtain⟨p,ep,a,key,rfl,na,hpt,xQ⟩:=hP i v pv;have Uj:h1.DictOf knd d m:=by
   obtain⟨o,es,ep,ho,r⟩:=dm;exact⟨o,es,ep,k1 d o nd ho,r⟩
  obtain⟨oa,VZ,Vo,na',WR⟩:=hpt;have ga:=k1 a oa (λz=>na (aaf _ z)) (kp a oa na VZ);refine aaO (afG ?_);refine aaO (ag7 ?_);unfold Builtin.Dict.pairItems;refine aaO (wpAny_typeOf ⟨oa,ga,Vo⟩ ?_);rw[if_pos (by decide)];refine aaO (wpAny_seqItems ga WR (acA ?_));refine afG (wpAny_dictSet_pairs xQ Uj (λh2 Z0 sb=>?_) (by lia));have MH:∀b o,b≠d->h1.get? b=some o->h2.get? b=some o:=λb o hb e=>(sb.2 b hb).trans e
  have qZ:=W.frame _ _ _ uE λb mb o e=>MH b o (λz=>hd (by rw[<- z];exact mb)) e
  have sN:(stored m p.1 p.2).length<=m.length+1:=by
   unfold stored
   split
   .rw[List.length_map];exact ahl _
   .rw[abR];exact abW _
  refine acA ⟨agR Ax _,?_⟩;refine ih (i+1) _ (stored m p.1 p.2) 0 (by lia) lt qZ Z0 (by lia) (λb o mb e=>MH b o (λz=>mb (by rw[z];exact aak)) (k1 b o (λz=>mb (aaf _ z)) (kp b o mb e))) λh3 t3 EZ k3=>?_
  refine fin h3 t3 ?_ k3;have hi:i<ps.length:=by lia
  have wW:ps[i]=p:=by rw[abl hi] at ep;exact ab4 ep
  rw[ag8 hi,aeP,wW];exact EZ
theorem M_(ps:List (κ×Value))(hz:ps.length<=sizeLine)(T0:String)(Vl:(Value.type T0 != Value.type "dict")=true)
  (Fw:∀o,({ s with heap:=s.heap.push o }:Shared).TypeIs x T0)
  (hk:∀(o) (Q') (E'),(∀h' tk,(∀b ob,(s.heap.push o).get? b=some ob->h'.get? b=some ob)->Q' none { s with heap:=h',toks:=tk })->wpAny (model prog w) A.in1.in1 (getAttr? x "keys") Q' E' { s with heap:=s.heap.push o })
  (hi:∀(s2) (Q') (E'),(∀b ob,s.heap.get? b=some ob->s2.heap.get? b=some ob)->(∃o,s2.heap.get? s.heap.objs.size=some o)->
   (∀I fS jv n P T h3,Walks prog w A.in1.in1 I fS jv n P T->T 0 h3->ps.length=n->s.heap.objs.size∉fS->(∀b ob,s2.heap.get? b=some ob->h3.get? b=some ob)->(∀b∈jv,s.heap.get? b=none)->(∀i v,P i v->∃p,ps[i]? = some p/\pairAt knd s.heap (s.heap.objs.size::jv) v p)->Q' (.ref I) { s2 with heap:=h3 })->
   wpAny (model prog w) A.in1.in1 (pyIter x) Q' E' s2)
  (h:∀h' tk,h'.DictOf knd s.heap.objs.size (ps.foldl (λm p=>stored m p.1 p.2) [])->(∀b o,s.heap.get? b=some o->h'.get? b=some o)->Q (.ref s.heap.objs.size) { s with heap:=h',toks:=tk }) :
  wpAny (model prog w) A (call (.type "dict") [x]) Q E s:=by
 refine callType_codes (Q₁:=λobj bN=>obj=.ref s.heap.objs.size/\bN={ s with heap:=s.heap.push { cls:=.type "dict",data:=.dict #[] } }) F.kt_called_dict (F.kt_typeCall_dict_1 _) F.entry_dict_init (kt_code_dict_new _ ⟨rfl,rfl⟩) ?_
 rintro obj bN ⟨rfl,rfl⟩
 have JY:(s.heap.push { cls:=.type "dict",data:=.dict #[] }).DictOf knd s.heap.objs.size []:=Heap.DictOf.new s.heap;refine⟨JY.typeIs,F.args_dict_init_2 _ _,?_⟩;unfold Builtin.«dict.__init__»;refine aaO ?_;unfold Builtin.Dict.selfAndRest;refine aaO (wpAny_notOrdered_dict JY.typeIs ?_);refine acA ?_;show wpAny (model prog w) _ (Builtin.Dict.updateFrom "dict.__init__" s.heap.objs.size x [] .none) _ _ _;unfold Builtin.Dict.updateFrom;refine aaO (wpAny_typeOf (Fw _) ?_);rw[if_pos Vl];refine aaO (hk _ _ _ λh1 t1 k1=>?_);refine aaO (wpAny_rule (aaO ?_));have o1:∀b ob,s.heap.get? b=some ob->h1.get? b=some ob:=λb ob e=>k1 b ob (aap _ e)
 refine hi { s with heap:=h1,toks:=t1 } _ _ o1 ⟨_,k1 _ _ (ab8 _ rfl)⟩ (λI fS jv n P T h3 W st hn hd k3 hw hP=>?_);have EZ:h3.DictOf knd s.heap.objs.size []:=by
  obtain⟨o,es,ep,ho,r⟩:=JY;exact⟨o,es,ep,k3 _ o (k1 _ o ho),r⟩
 refine acA ⟨agR Ax _,UI W hd s.heap ps hn hP .none n 0 _ [] 0 rfl (aeC _) st EZ (by rw[List.length_nil];lia) (λb o _ e=>k3 b o (o1 b o e)) λh4 t4 VE k4=>?_⟩;refine⟨rfl,h h4 t4 (by simpa using VE) λb o e=>k4 b o (λm=>?_) e⟩;rcases aaQ.mp m with z|z
 .exact absurd (abQ e) (by rw[z];exact aeX _)
 .rw[hw b z] at e;cases e
end
theorem Qc[DecidableEq κ]:∀{ps} {qs} {m}{r:List (κ×Value)},KV ps qs->KV m r->KV (ps.foldl (λm p=>putK m p.1 p.2) m) (qs.foldl (λm p=>stored m p.1 p.2) r)
 |_,_,_,_,.nil,h=>h
 |_,_,_,_,.cons (a:=p) e t,h=>by
  rw[aeP,aeP];refine Qc t ?_;rw[<- e.1];exact h.put p.1 e.2
def Et(K:PySem.W.Frag):List V->Hp->VK->Prop:=λxs H Q=>∃(p:Addr) (ys:List V) (ps:List (Key×V)),xs=[.ref p]/\(b7 K H p ys\/cj K H p ys)/\Paired (λy (q:Key×V)=>∃a,y=.ref a/\cj K H a [kV q.1,q.2]) ys ps/\
 ∀l,H l=none->Q (.ref l) (upd H l (.dK (ps.foldl (λm q=>putK m q.1 q.2) [])))
theorem D4(I:Inv X af σ H s):∀{ys} {ps} {au},Paired (λy (q:Key×V)=>∃a,y=.ref a/\cj X.K H a [kV q.1,q.2]) ys ps->aT ys au->
  ∃qs:List (Key×Value),KV ps qs/\∀(i:Nat) (v),au[i]? = some v->∃q,qs[i]? = some q/\∃a key,v=.ref a/\IsTup s.heap a #[key,q.2]/\(gY X.prog X.w).is q.1 key=true
 |_,_,_,.nil,.nil=>⟨[],.nil,λi v e=>by simp at e⟩
 |_,_,_,.cons (b:=q) ⟨a,ey,hr⟩ t,.cons (b:=u) r rs=>by
  obtain⟨qs,h1,h2⟩:=D4 I t rs;subst ey;cases r;obtain⟨us,ru,pt,_⟩:=I.tuple hr;obtain⟨key,x,rfl,rk,rx⟩:=vals2 ru;refine⟨(q.1,x)::qs,.cons ⟨rfl,rx⟩ h1,λi v e=>?_⟩;cases i with
  |zero=>
   have e':=ab4 e;subst e';exact⟨_,rfl,a,key,rfl,pt,su rk⟩
  |succ i=>
   obtain⟨q',e1,e2⟩:=h2 i v (by simpa using e);exact⟨q',by simpa using e1,e2⟩
theorem YM(hc:X.calm=true):f7 X (.type "dict") (Et X.K):=by
 exists 43;obtain⟨p,ys,ps,rfl,E_,pZ,q⟩:=h;exists 67;cases ru;have hh:=I.ok.hd hc;have big:=I.big;have fin:∀(au:List Value) (qs:List (Key×Value)),KV ps qs->ys.length<=sizeLine->∀h' tk,h'.DictOf (gY X.prog X.w) s.heap.objs.size (qs.foldl (λm p=>stored m p.1 p.2) [])->(∀b o,s.heap.get? b=some o->h'.get? b=some o)->
   EP X af σ Q (.ref s.heap.objs.size) { s with heap:=h',toks:=tk }:=by
  intro au qs nE hz h' tk dm kp;have rel:=Qc nE .nil;have l_:∀(l:List (Key×V)) (m),(l.foldl (λm q=>putK m q.1 q.2) m).length<=m.length+l.length:=by
   intro l
   induction l with
   |nil=>intro m;exact abW _
   |cons a l ih=>
    intro m;rw[aeP];have h1:=ih (putK m a.1 a.2);have h2:=Dj m a.1 a.2;rw[acj]
    lia
  have hl:=(Paired.length pZ).symm;refine⟨.ref s.heap.objs.size,_,I.laid kp (abW _) (JO ?_ (adu.mpr (afH (acL big))) rel dm),rfl,q _ (I.aF.fresh (abW _))⟩;have:=l_ ps [];rw[List.length_nil] at this
  lia
 have A9:∀{qs},KV ps qs->qs.length=ys.length:=λh=>by rw[<- h.length];exact(Paired.length pZ).symm
 have qJ:∀{s2:Shared},(∃o,s2.heap.get? s.heap.objs.size=some o)->s.heap.objs.size<s2.heap.objs.size:=λ⟨_,e⟩=>abQ e
 rcases E_ with hq|hq
 .obtain⟨au,rv,pl,hz⟩:=I.list hq;obtain⟨qs,nE,uK⟩:=D4 I pZ rv;obtain⟨o,n,ho,kQ,zu,rC⟩:=pl;have hp:=abQ ho;refine M_ qs (by rw[A9 nE];exact hz) "list" (by decide) (λob=>⟨o,aap _ ho,kQ⟩) (λob Q' E' k=>?_) (λs2 Q' E' o2 hS k=>?_) (λh' tk dm kp=>fin au qs nE hz h' tk dm kp)
  .obtain⟨c0,d0,YB,sl0⟩:=o;dsimp only at kQ zu rC;subst kQ zu rC;exact XE (aap _ ho) hh λh1 t1 kp=>k h1 t1 kp
  .have sN:s2.heap.IsList p au.toArray:=⟨o,o2 p o ho,kQ,n,rC⟩
   refine wpAny_pyIter_list sN (k s2.heap.objs.size [s2.heap.objs.size,p] [s2.heap.objs.size] _ _ _ _ (Walks.list (A:=X.A.in1.in1) hh s2.heap.objs.size p (acL (Nat.lt_trans hp (qJ hS))) au.toArray) ⟨⟨_,ab8 _ rfl,rfl,rfl⟩,sN.push _⟩ (by rw[A9 nE,ab6,<- rv.length]) ?_ (λb ob e=>aap _ e) ?_ λi v e=>?_)
   .intro m;rcases aaQ.mp m with z|z
    .exact absurd z (acL (qJ hS))
    .exact absurd (aaB.mp z) (agy hp)
   .intro b m;rw[aaB.mp m];exact ag4 (afk (qJ hS))
   .obtain⟨q',e1,a,key,e2,e3,e4⟩:=uK i v (by simpa using e);refine⟨q',e1,a,key,e2,λm=>?_,e3,e4⟩;obtain⟨oa,ha,_⟩:=e3;rcases aaQ.mp m with z|z
    .exact absurd (abQ ha) (by rw[z];exact aeX _)
    .exact absurd (abQ ha) (by rw[aaB.mp z];exact Nat.not_lt.mpr (afk (qJ hS)))
 .obtain⟨au,rv,⟨o,ho,kQ,zu,n,rC⟩,hz⟩:=I.M4 hq;obtain⟨qs,nE,uK⟩:=D4 I pZ rv;have hp:=abQ ho;refine M_ qs (by rw[A9 nE];exact hz) "tuple" (by decide) (λob=>⟨o,aap _ ho,kQ⟩) (λob Q' E' k=>?_) (λs2 Q' E' o2 hS k=>?_) (λh' tk dm kp=>fin au qs nE hz h' tk dm kp)
  .obtain⟨c0,d0,YB,sl0⟩:=o;dsimp only at kQ zu rC;subst kQ zu rC;exact ZV (aap _ ho) hh λh1 t1 kp=>k h1 t1 kp
  .have sN:s2.heap.IsTuple p au.toArray:=⟨o,o2 p o ho,kQ,n,rC⟩
   refine wpAny_pyIter_tuple sN (k s2.heap.objs.size [s2.heap.objs.size,p] [s2.heap.objs.size] _ _ _ _ (Walks.tuple (A:=X.A.in1.in1) hh s2.heap.objs.size p (acL (Nat.lt_trans hp (qJ hS))) au.toArray) ⟨⟨_,ab8 _ rfl,rfl,rfl⟩,sN.push _⟩ (by rw[A9 nE,ab6,<- rv.length]) ?_ (λb ob e=>aap _ e) ?_ λi v e=>?_)
   .intro m;rcases aaQ.mp m with z|z
    .exact absurd z (acL (qJ hS))
    .exact absurd (aaB.mp z) (agy hp)
   .intro b m;rw[aaB.mp m];exact ag4 (afk (qJ hS))
   .obtain⟨q',e1,a,key,e2,e3,e4⟩:=uK i v (by simpa using e);refine⟨q',e1,a,key,e2,λm=>?_,e3,e4⟩;obtain⟨oa,ha,_⟩:=e3;rcases aaQ.mp m with z|z
    .exact absurd (abQ ha) (by rw[z];exact aeX _)
    .exact absurd (abQ ha) (by rw[aaB.mp z];exact Nat.not_lt.mpr (afk (qJ hS)))
end L2
namespace L2.Ev
open PySem PySem.Spec PyProof.Rows
structure VA(X:Cx)(i:Nat)(x:Str):Prop where
 N:X.N[i]? = some x
 v:ED X.env.scope x
 d:(x==("__debug__":Str))=false
 c:(x==("__classdict__":Str))=false
theorem VA.pe(h:VA X i x):PE X (.Name x p) (F8 i):=aeS h.N h.v h.d h.c
def vS(X:Cx)(o:Expr)(m:Str)(apos:Pos)(as:List Expr)(pos:Pos)(pl:Sem Bool):Prop:=eval (.Call (.Attribute o m apos) as [] pos) X.env=(do
   let ov <- eval o X.env
   standAt apos.atName
   let(f,first) <- holding [ov] (getMethod ov m pl)
   callWith pos f first (backTo pos (starEach as X.env)) (backToKw pos (keywordEach [] X.env)))
def SE(X:Cx)(e:Expr)(es:List Expr)(pos:Pos):Prop:=starEach (e::es) X.env=(false,eval e X.env)::starEach es X.env/\(backTo pos (starEach es X.env)).any (·.1)=false
def GD(X:Cx)(x:Str):Prop:=Gl X x/\(x==("__debug__":Str))=false
noncomputable abbrev XN:=Str×Option Nat
inductive D where
 |aA|bl (b:Bool)|int (i:Int)|str (x:Str)|tup (ds:List D)|lst (ds:List D)|gG (ds:List D)|bO (ak:List (Key×D))|cY (ak:List (List Key×D))|ins (cn:Str) (fs:List (Str×D))|exc (cn:XN)
def qS(K:PySem.W.Frag)(H:Hp)(a:Addr)(xs:List V):Prop:=(∃o,H a=some (.eV o (.lst xs)))\/
 ∃(o:Obj) (au:Array Value) (n:Nat),K.lookup a=some o/\o.cls=.type "list"/\o.dict=none/\o.data=.seq au n/\au.size<=sizeLine/\aT xs au.toList
theorem qS.sq{K:PySem.W.Frag}(h:qS K H a xs):b7 K H a xs:=h.elim (λz=>.inl (.inr z)) .inr
mutual
inductive Rep(K:PySem.W.Frag)(H:Hp):D->V->List Addr->Prop
 |aA:Rep K H .aA .aA []
 |bl (b:Bool):Rep K H (.bl b) (.bl b) []
 |int (i:Int):Rep K H (.int i) (.int i) []
 |str (x:Str):Rep K H (.str x) (.str x) []
 |tup {a:Addr}{xs:List V}{ds:List D}{fp:List Addr}:cj K H a xs->aB K H ds xs fp->Rep K H (.tup ds) (.ref a) fp
 |lst {a:Addr}{xs:List V}{ds:List D}{fp:List Addr}:H a=some (.lst xs)->aB K H ds xs fp->Rep K H (.lst ds) (.ref a) (a::fp)
 |Cp {a:Addr}{xs:List V}{ds:List D}{fp:List Addr}:qS K H a xs->aB K H ds xs fp->Rep K H (.gG ds) (.ref a) fp
 |bO {a:Addr}{ak:List (Key×V)}{es:List (Key×D)}{fp:List Addr}:H a=some (.dK ak)->es.map (·.1)=ak.map (·.1)->aB K H (es.map (·.2)) (ak.map (·.2)) fp->Rep K H (.bO es) (.ref a) (a::fp)
 |cY {a:Addr}{ak:List (List Key×V)}{es:List (List Key×D)}{fp:List Addr}:H a=some (.dT ak)->es.map (·.1)=ak.map (·.1)->aB K H (es.map (·.2)) (ak.map (·.2)) fp->Rep K H (.cY es) (.ref a) (a::fp)
 |ins {cn:Str}{a C dx:Addr}{fs:List (Str×V)}{es:List (Str×D)}{fp:List Addr}:PySem.W.nsIn K mainGlobals cn=some (some (.ref C))->H a=some (.ins C dx fs)->H dx=some (.own a)->es.map (·.1)=fs.map (·.1)->aB K H (es.map (·.2)) (fs.map (·.2)) fp->Rep K H (.ins cn es) (.ref a) (a::dx::fp)
 |exc {cn:XN}{a C:Addr}{de:Option Addr}{ob:Obj}:PySem.W.nsIn K mainGlobals cn.1=some (some (.ref C))->H a=some (yt ob a (.ref C) de)->(∀n,cn.2=some n->∃dx,de=some dx/\H dx=some (Fo dx n))->Rep K H (.exc cn) (.ref a) []
inductive aB(K:PySem.W.Frag)(H:Hp):List D->List V->List Addr->Prop
 |nil:aB K H [] [] []
 |cons {d:D}{v:V}{ds:List D}{vs:List V}{f1 f2:List Addr}:Rep K H d v f1->aB K H ds vs f2->aB K H (d::ds) (v::vs) (f1++f2)
end
def aX(H H':Hp):Prop:=(∀a xs,H a=some (.tup xs)->H' a=some (.tup xs))/\(∀a o u,H a=some (.eV o u)->H' a=some (.eV o u))/\∀a φ,H a=some (.ext φ)->H' a=some (.ext φ)
theorem aX.sqt{K:PySem.W.Frag}(i:aX H H')(h:cj K H a xs):cj K H' a xs:=by
 rcases h with(h|⟨o,h⟩)|h
 .exact .inl (.inl (i.1 _ _ h))
 .exact .inl (.inr ⟨o,i.2.1 _ _ _ h⟩)
 .exact .inr h
theorem aX.eV{K:PySem.W.Frag}(i:aX H H')(h:qS K H a xs):qS K H' a xs:=by
 rcases h with⟨o,h⟩|h
 .exact .inl ⟨o,i.2.1 _ _ _ h⟩
 .exact .inr h
theorem aX.of(h:aG H H'):aX H H':=⟨λ_ _ e=>h _ _ e,λ_ _ _ e=>h _ _ e,λ_ _ e=>h _ _ e⟩
theorem aX.trans(a:aX H H1)(b:aX H1 H2):aX H H2:=⟨λ_ _ e=>b.1 _ _ (a.1 _ _ e),λ_ _ _ e=>b.2.1 _ _ _ (a.2.1 _ _ _ e),λ_ _ e=>b.2.2 _ _ (a.2.2 _ _ e)⟩
noncomputable def iZ:HO->Bool
 |.lst _|.dK _|.dT _|.ins _ _ _|.own _=>true
 |_=>false
theorem aX.upd(h:H p=some o)(m:iZ o=true):aX H (upd H p o'):=by
 refine⟨λa xs e=>?_,λa q u e=>?_,λa q e=>?_⟩
 .rw[aO]
  .exact e
  .rintro rfl;rw[h] at e;cases e;cases m
 .rw[aO]
  .exact e
  .rintro rfl;rw[h] at e;cases e;cases m
 .rw[aO]
  .exact e
  .rintro rfl;rw[h] at e;cases e;cases m
section
variable{K:PySem.W.Frag}
theorem Rep.frame(r:Rep K H d v fp)(k:∀a∈fp,H' a=H a)(i:aX H H'):Rep K H' d v fp:=
 Rep.rec (motive_2:=λd v fp _=>(∀a∈fp,H' a=H a)->aB K H' d v fp) (λ_=>.aA) (λb _=>.bl b) (λn _=>.int n) (λx _=>.str x) (λh _ r k=>.tup (i.sqt h) (r k))
  (λh _ r k=>.lst ((k _ (.head _)).trans h) (r λa m=>k a (.tail _ m))) (λh _ r k=>.Cp (i.eV h) (r k)) (λh e _ r k=>.bO ((k _ (.head _)).trans h) e (r λa m=>k a (.tail _ m))) (λh e _ r k=>.cY ((k _ (.head _)).trans h) e (r λa m=>k a (.tail _ m)))
  (λg h h2 e _ r k=>.ins g ((k _ (.head _)).trans h) ((k _ (.tail _ (.head _))).trans h2) e (r λa m=>k a (.tail _ (.tail _ m)))) (λg h p _=>.exc g (i.2.1 _ _ _ h) λn e=>(p n e).imp λ_ q=>⟨q.1,i.2.2 _ _ q.2⟩)
  (λ_=>.nil) (λ_ _ h t k=>.cons (h λa m=>k a (abp _ m)) (t λa m=>k a (aaw _ m))) r k
theorem aB.frame:∀{ds} {vs} {fp},aB K H ds vs fp->(∀a∈fp,H' a=H a)->aX H H'->aB K H' ds vs fp
 |_,_,_,.nil,_,_=>.nil
 |_,_,_,.cons h t,k,i=>.cons (h.frame (λa m=>k a (abp _ m)) i) (aB.frame t (λa m=>k a (aaw _ m)) i)
theorem Rep.cB(r:Rep K H d v fp):∀a∈fp,∃o,H a=some o/\iZ o=true:=by
 have c:∀{b} {o} {f},H b=some o->iZ o=true->(∀a∈f,∃o,H a=some o/\iZ o=true)->∀a∈b::f,∃o,H a=some o/\iZ o=true:=λh m r a=>λ| .head _=>⟨_,h,m⟩|.tail _ z=>r a z
 have n:∀a∈([]:List Addr),∃o,H a=some o/\iZ o=true:=λ_ m=>nomatch m
 exact Rep.rec n (λ_=>n) (λ_=>n) (λ_=>n) (λ_ _ r=>r) (λh _ r=>c h rfl r) (λ_ _ r=>r) (λh _ _ r=>c h rfl r) (λh _ _ r=>c h rfl r)
  (λ_ h h2 _ _ r=>c h rfl (c h2 rfl r)) (λ_ _ _=>n) n (λ_ _ h t a m=>(abB.mp m).elim (h a) (t a)) r
theorem aB.cB:∀{ds} {vs} {fp},aB K H ds vs fp->∀a∈fp,∃o,H a=some o/\iZ o=true
 |_,_,_,.nil,_,m=>nomatch m
 |_,_,_,.cons h t,a,m=>(abB.mp m).elim (h.cB a) (aB.cB t a)
theorem Rep.same(h:Rep K H d v fp)(s:aG H H'):Rep K H' d v fp:=
 h.frame (λa m=>let⟨o,e,_⟩:=h.cB a m;(s a o e).trans e.symm) (.of s)
theorem aB.same(h:aB K H ds vs fp)(s:aG H H'):aB K H' ds vs fp:=
 h.frame (λa m=>let⟨o,e,_⟩:=h.cB a m;(s a o e).trans e.symm) (.of s)
theorem aB.length:∀{ds} {vs} {fp},aB K H ds vs fp->ds.length=vs.length
 |_,_,_,.nil=>rfl
 |_,_,_,.cons _ t=>by rw[acj,acj,aB.length t]
theorem aB.get:∀{ds} {vs} {fp}{i:Nat} {d},aB K H ds vs fp->ds[i]? = some d->∃v f,vs[i]? = some v/\Rep K H d v f/\∀a∈f,a∈fp
 |_,_,_,_,_,.nil,e=>by simp at e
 |_,_,_,0,_,.cons h t,e=>by
  have e':=ab4 e;subst e';exact⟨_,_,rfl,h,λa m=>abp _ m⟩
 |_,_,_,i+1,d,.cons h t,e=>by
  obtain⟨v,f,e1,r,s⟩:=aB.get t (by simpa using e);exact⟨v,f,by simpa using e1,r,λa m=>aaw _ (s a m)⟩
theorem aB.append:∀{ds es} {vs ws} {f g},aB K H ds vs f->aB K H es ws g->aB K H (ds++es) (vs++ws) (f++g)
 |_,_,_,_,_,_,.nil,s=>s
 |_,_,_,_,_,g,.cons h t,s=>by
  rw[afi];exact .cons h (aB.append t s)
end
theorem Rep.iA{K:PySem.W.Frag}(r:Rep K H (.int i) v fp):v=.int i/\fp=[]:=by cases r;exact⟨rfl,rfl⟩
theorem Rep.z_{K:PySem.W.Frag}(r:Rep K H (.bl i) v fp):v=.bl i/\fp=[]:=by cases r;exact⟨rfl,rfl⟩
theorem Rep.xm{K:PySem.W.Frag}(r:Rep K H (.str i) v fp):v=.str i/\fp=[]:=by cases r;exact⟨rfl,rfl⟩
theorem Rep.CB{K:PySem.W.Frag}(r:Rep K H .aA v fp):v=.aA/\fp=[]:=by cases r;exact⟨rfl,rfl⟩
mutual
noncomputable def aC:D->Bool
 |.lst _|.bO _|.cY _|.ins _ _=>false
 |.tup ds=>aM ds
 |.gG ds=>aM ds
 |_=>true
noncomputable def aM:List D->Bool
 |[]=>true
 |d::ds=>aC d&&aM ds
end
section
variable{K:PySem.W.Frag}
theorem Rep.aC(r:Rep K H d v fp)(e:aC d=true):fp=[]:=
 Rep.rec (motive_2:=λds _ fp _=>aM ds=true->fp=[]) (λ_=>rfl) (λ_ _=>rfl) (λ_ _=>rfl) (λ_ _=>rfl) (λ_ _ r e=>r (by rw[L2.Ev.aC] at e;exact e)) (λ_ _ _ e=>by delta L2.Ev.aC at e;cases e) (λ_ _ r e=>r (by rw[L2.Ev.aC] at e;exact e))
  (λ_ _ _ _ e=>by delta L2.Ev.aC at e;cases e) (λ_ _ _ _ e=>by delta L2.Ev.aC at e;cases e) (λ_ _ _ _ _ _ e=>by delta L2.Ev.aC at e;cases e) (λ_ _ _ _=>rfl) (λ_=>rfl) (λ_ _ h t e=>by
   rw[aM,abe] at e;rw[h e.1,t e.2];rfl) r e
theorem aB.aC:∀{ds} {vs} {fp},aB K H ds vs fp->aM ds=true->fp=[]
 |_,_,_,.nil,_=>rfl
 |_,_,_,.cons h t,e=>by
  rw[aM,abe] at e;rw[h.aC e.1,aB.aC t e.2];rfl
end
inductive Tag where
 |own|lk|sh (o:List Nat)
noncomputable abbrev Slot:=Option (D×Tag)
abbrev aN:=List Slot
def vJ(z:Addr->Option Nat)(i:Nat):Tag->List Addr->Prop
 |.sh o,fp=>∀a∈fp,∀j,z a=some j->j∈o
 |_,fp=>fp.Nodup/\∀a∈fp,z a=some i
def ud(ρ:aN)(j:Nat):Prop:=∀d,ρ[j]?≠some (some (d,.own))
structure qR where
 d:D
 v:V
 fp:List Addr
 z0:Addr->Option Nat
structure Ok(K:PySem.W.Frag)(H0:Hp)(S:List Addr)(z:Addr->Option Nat)(aq:List qR)(ρ:aN)(σ:St)(H:Hp):Prop where
 sl:∀i d t,ρ[i]? = some (some (d,t))->∃v fp,σ[i]? = some (some v)/\Rep K H d v fp/\vJ z i t fp
 hl:∀p∈aq,Rep K H p.d p.v p.fp/\∀a∈p.fp,∀j,z a=some j->p.z0 a=some j/\ud ρ j
 zd:∀a j,z a=some j->(∃o,H a=some o)/\(H0 a=none\/a∈S)
 en:∀a o,H0 a=some o->a∉S->H a=some o
 ln:ρ.length=σ.length
theorem Ok.same{K:PySem.W.Frag}(h:Ok K H0 S z aq ρ σ H)(s:aG H H'):Ok K H0 S z aq ρ σ H':=
 ⟨λi d t e=>let⟨v,fp,a,b,c⟩:=h.sl i d t e;⟨v,fp,a,b.same s,c⟩,λp m=>let⟨a,b⟩:=h.hl p m;⟨a.same s,b⟩,
  λa j e=>let⟨⟨o,x⟩,y⟩:=h.zd a j e;⟨⟨o,s _ _ x⟩,y⟩,λa o e n=>s _ _ (h.en a o e n),h.ln⟩
def cH(z:Addr->Option Nat)(H:Hp):Tag->List Addr->Prop
 |.sh o,fp=>∀a∈fp,∀j,z a=some j->j∈o
 |_,fp=>fp.Nodup/\∀a∈fp,H a=none
theorem cH.nil:cH z H t []:=by
 cases t with
 |sh o=>intro a m;cases m
 |own=>exact⟨acm,λa m=>nomatch m⟩
 |lk=>exact⟨acm,λa m=>nomatch m⟩
abbrev EF:=aN->Option (D×Tag)
def FP(X:Cx)(e:Expr)(f:EF):Prop:=∃t,PE X e t/\∀{H0} {S} {z} {aq} {ρ} {σ} {H} {Q} {d} {tg},
 Ok X.K H0 S z aq ρ σ H->f ρ=some (d,tg)->(∀H' v fp,aG H H'->Rep X.K H' d v fp->cH z H tg fp->Q v H')->t σ H Q
abbrev AF:=aN->Option (List (D×Tag))
abbrev TF:=aN->Option Bool
def FT(X:Cx)(e:Expr)(f:TF):Prop:=∃t,PT X e t/\∀{H0} {S} {z} {aq} {ρ} {σ} {H} {Q} {b},
 Ok X.K H0 S z aq ρ σ H->f ρ=some b->(∀H',aG H H'->Q b H')->t σ H Q
noncomputable def GX(i:Nat):Tag->Tag
 |.sh o=>.sh o
 |_=>.sh [i]
def aj(i:Nat):EF:=λρ=>match ρ[i]? with
 |some (some (d,t))=>some (d,GX i t)
 |_=>none
theorem ah(i:Nat)(va:VA X i x:=by walk_at "va"):FP X (.Name x pos) (aj i):=by
 exists 20,va.pe;unfold aj at e;exists h,ρ[i]?,s,e,0;cases s with
 |none=>rw[h] at e;cases e
 |some p=>
  obtain⟨d',t⟩:=p;rw[h] at e;have e':=ab4 e;have e1:=congrArg Prod.fst e';have e2:=congrArg Prod.snd e';subst e1 e2;obtain⟨v,fp,hs,r,zz⟩:=ok.sl i d' t h;refine⟨v,hs,q H v fp (aG.refl H) r ?_⟩;cases t with
  |sh o=>exact zz
  |own=>intro a m j ej;rw[zz.2 a m] at ej;cases ej;exact aak
  |lk=>intro a m j ej;rw[zz.2 a m] at ej;cases ej;exact aak
noncomputable def eC(d:D):EF:=λ_=>some (d,.own)
theorem aD{i j pos}:FP X (.Constant (.int i) j pos) (eC (.int i)):=⟨_,RV,@λ_ _ _ _ _ _ H _ _ _ _ e q=>by cases e;exact q H _ _ (aG.refl H) (.int i) .nil⟩
theorem gm{b j pos}:FP X (.Constant (.bool b) j pos) (eC (.bl b)):=⟨_,Xj,@λ_ _ _ _ _ _ H _ _ _ _ e q=>by cases e;exact q H _ _ (aG.refl H) (.bl b) .nil⟩
theorem jR{j pos}:FP X (.Constant .none j pos) (eC .aA):=⟨_,aa7,@λ_ _ _ _ _ _ H _ _ _ _ e q=>by cases e;exact q H _ _ (aG.refl H) .aA .nil⟩
theorem cC{x j pos}:FP X (.Constant (.str x) j pos) (eC (.str x)):=⟨_,ab0,@λ_ _ _ _ _ _ H _ _ _ _ e q=>by cases e;exact q H _ _ (aG.refl H) (.str x) .nil⟩
noncomputable def e2(op:D->D->Option D)(fa fb:EF):EF:=λρ=>match fa ρ,fb ρ with
 |some (d1,_),some (d2,_)=>(op d1 d2).map λd=>(d,.own)
 |_,_=>none
theorem pB(e:e2 op fa fb ρ=some (d,tg)):∃d1 t1 d2 t2,fa ρ=some (d1,t1)/\fb ρ=some (d2,t2)/\op d1 d2=some d/\tg=.own:=by
 unfold e2 at e;exists h1,fa ρ,p,e,0;obtain⟨d1,t1⟩:=p;cases h2:fb ρ with
 |none=>rw[h1,h2] at e;cases e
 |some p=>
  obtain⟨d2,t2⟩:=p;rw[h1,h2] at e;exists 59;exists h3,op d1 d2,d3,e;cases e;exact⟨d1,t1,d2,t2,rfl,rfl,h3,rfl⟩
def gz(K:PySem.W.Frag)(r:R2)(op:D->D->Option D):Prop:=∀(H) (x y) (d1 d2) (f1 f2) (d) (Q),Rep K H d1 x f1->Rep K H d2 y f2->op d1 d2=some d->
 (∀H' v,aG H H'->Rep K H' d v []->Q v H')->r x y H Q
theorem fp_2{a b e:Expr}(dd:gz X.K r op)(ha:FP X a fa)(hb:FP X b fb)(he:∀ta tb,PE X a ta->PE X b tb->PE X e (tY r ta tb)):FP X e (e2 op fa fb):=by
 exists 46;exists 20,he ta tb pa pb;obtain⟨d1,t1,d2,t2,e1,jx,e3,rfl⟩:=pB e;refine sa ok e1 λH1 x f1 s1 r1 _=>?_
 exists 49
 exact dd H2 x y d1 d2 f1 f2 d Q (r1.same s2) r2 e3 λH3 v s3 r3=>q H3 v [] ((s1.trans s2).trans s3) r3 .nil
end L2.Ev
namespace L2.Ev
open PySem PySem.Spec PyProof.Rows
noncomputable def M6:Tag->Tag->Tag
 |.sh o,.sh p=>.sh (o++p)
 |.sh o,_=>.sh o
 |_,t=>t
def jP:List (D×Tag)->Tag
 |[]=>.own
 |p::r=>M6 p.2 (jP r)
def FA(X:Cx)(es:List Expr)(f:AF):Prop:=∃t,PA X es t/\(∀ρ ps,f ρ=some ps->ps.length=es.length)/\∀{H0} {S} {z} {aq} {ρ} {σ} {H} {Q} {ps},
 Ok X.K H0 S z aq ρ σ H->f ρ=some ps->(∀H' vs fp,aG H H'->aB X.K H' (ps.map (·.1)) vs fp->cH z H (jP ps) fp->Q vs H')->t σ H Q
noncomputable def aJ:AF:=λ_=>some []
noncomputable def ay(f:EF)(g:AF):AF:=λρ=>match f ρ,g ρ with
 |some p,some ps=>some (p::ps)
 |_,_=>none
theorem F_(e:ay f g ρ=some ps):∃d t r,f ρ=some (d,t)/\g ρ=some r/\ps=(d,t)::r:=by
 unfold ay at e;exists h1,f ρ,p,e,0;cases h2:g ρ with
 |none=>rw[h1,h2] at e;cases e
 |some r=>
  rw[h1,h2] at e;cases e;exact⟨p.1,p.2,r,rfl,rfl,rfl⟩
theorem cH.join{K:PySem.W.Frag}(ok:Ok K H0 S z aq ρ σ H)(s:aG H H1)
  (h1:cH z H t1 f1) (d1:∀a∈f1,∃o,H1 a=some o/\iZ o=true) (h2:cH z H1 t2 f2):cH z H (M6 t1 t2) (f1++f2):=by
 have nz:∀{a} {j},H a=none->z a=some j->False:=λ{a j} e q=>by
  obtain⟨⟨o,w⟩,_⟩:=ok.zd a j q;rw[e] at w;cases w
 have both:∀{t1 t2:Tag},(f1.Nodup/\∀a∈f1,H a=none)->(f2.Nodup/\∀a∈f2,H1 a=none)->(f1++f2).Nodup/\∀a∈f1++f2,H a=none:=λp q=>by
  refine⟨ac3.mpr ⟨p.1,q.1,λa m b m' e=>?_⟩,λa m=>?_⟩
  .subst e;obtain⟨o,w,_⟩:=d1 a m;rw[q.2 a m'] at w;cases w
  .rcases abB.mp m with m|m
   .exact p.2 a m
   .exact s.free (q.2 a m)
 cases t1 with
 |sh o=>
  have g9:=h1;cases t2 with
  |sh p=>
   intro a m j q;rcases abB.mp m with m|m
   .exact abp _ (g9 a m j q)
   .exact aaw _ (h2 a m j q)
  |own=>
   intro a m j q;rcases abB.mp m with m|m
   .exact g9 a m j q
   .exact(nz (s.free (h2.2 a m)) q).elim
  |lk=>
   intro a m j q;rcases abB.mp m with m|m
   .exact g9 a m j q
   .exact(nz (s.free (h2.2 a m)) q).elim
 |own=>
  cases t2 with
  |sh p=>
   intro a m j q;rcases abB.mp m with m|m
   .exact(nz (h1.2 a m) q).elim
   .exact h2 a m j q
  |own=>exact both (t1:=.own) (t2:=.own) h1 h2
  |lk=>exact both (t1:=.own) (t2:=.own) h1 h2
 |lk=>
  cases t2 with
  |sh p=>
   intro a m j q;rcases abB.mp m with m|m
   .exact(nz (h1.2 a m) q).elim
   .exact h2 a m j q
  |own=>exact both (t1:=.own) (t2:=.own) h1 h2
  |lk=>exact both (t1:=.own) (t2:=.own) h1 h2
theorem aE:FA X [] aJ:=⟨_,eW,λ_ _ e=>by cases e;rfl,@λ_ _ _ _ _ _ H _ _ _ e q=>by cases e;exact q H _ _ (aG.refl H) .nil .nil⟩
theorem ao{e:Expr}{es:List Expr}(ha:FP X e f)(hr:FA X es g)(hs:starEach (e::es) X.env=(false,eval e X.env)::starEach es X.env:=by rfl):FA X (e::es) (ay f g):=by
 exists 58;obtain⟨t',p',l',q'⟩:=hr;refine⟨_,cP p p' hs,λρ ps e=>by obtain⟨d,tg,r,e1,e2,rfl⟩:=F_ e;rw[acj,acj,l' ρ r e2],@λH0 S z aq ρ σ H Q ps ok e k=>?_⟩;obtain⟨d,tg,r,e1,e2,rfl⟩:=F_ e;refine q ok e1 λH1 v f1 s1 r1 g1=>?_
 refine q' (ok.same s1) e2 λH2 vs f2 s2 r2 g2=>?_
 exact k H2 (v::vs) (f1++f2) (s1.trans s2) (.cons (r1.same s2) r2) (cH.join ok s1 g1 r1.cB g2)
def nA(g:AF):EF:=λρ=>(g ρ).map λps=>(.tup (ps.map (·.1)),jP ps)
theorem jM{x1}(h:FA X es g)(hl:es.length<=1000:=by decide):FP X (.Tuple es x1 pos) (nA g):=by
 obtain⟨t,p,hg,q⟩:=h;exists 21,KZ p;unfold nA at e;exists h1,g ρ,ps,e;cases e;refine q ok h1 λH1 vs fp s1 r1 g1=>⟨?_,λa ha=>?_⟩
 .rw[<- r1.length,List.length_map,hg ρ ps h1];exact afk (xj hl)
 .have s2:aG H1 (upd H1 a (.tup vs)):=λb o e=>by rw[aO (cZ e ha)];exact e
  exact k _ _ fp (s1.trans s2) (.tup (cj.of cz) (r1.same s2)) g1
def jW(g:AF):EF:=λρ=>(g ρ).map λps=>(.lst (ps.map (·.1)),jP ps)
theorem cH.cons{K:PySem.W.Frag}(ok:Ok K H0 S z aq ρ σ H)(s:aG H H1)(h:cH z H t fp)
  (d:∀b∈fp,∃o,H1 b=some o/\iZ o=true) (ha:H1 a=none):cH z H t (a::fp):=by
 have na:=s.free ha;have both:(fp.Nodup/\∀b∈fp,H b=none)->(a::fp).Nodup/\∀b∈a::fp,H b=none:=λp=>by
  refine⟨abZ.mpr ⟨λm=>?_,p.1⟩,λb m=>?_⟩
  .obtain⟨o,w,_⟩:=d a m;rw[ha] at w;cases w
  .rcases aaQ.mp m with e|m
   .rw[e];exact na
   .exact p.2 b m
 cases t with
 |sh o=>
  intro b m j q;rcases aaQ.mp m with e|m
  .obtain⟨⟨o,w⟩,_⟩:=ok.zd b j q;rw[e,na] at w;cases w
  .exact h b m j q
 |own=>exact both h
 |lk=>exact both h
theorem fQ(h:FA X es g)(hl:es.length<=1000:=by decide):FP X (.List es pos) (jW g):=by
 obtain⟨t,p,hg,q⟩:=h;exists 21,adI p;unfold jW at e;exists h1,g ρ,ps,e;cases e;refine q ok h1 λH1 vs fp s1 r1 g1=>⟨?_,λa ha=>?_⟩
 .rw[<- r1.length,List.length_map,hg ρ ps h1];exact afk (xj hl)
 .have s2:aG H1 (upd H1 a (.lst vs)):=λb o e=>by rw[aO (cZ e ha)];exact e
  exact k _ _ (a::fp) (s1.trans s2) (.lst cz (r1.same s2)) (g1.cons ok s1 r1.cB ha)
def bx(K:PySem.W.Frag)(F:List D->Option D):Sp:=λvs H Q _=>∃ds fp d,aB K H ds vs fp/\F ds=some d/\∀H' v gO,aG H H'->Rep K H' d v gO->gO.Nodup->(∀a∈gO,H a=none)->Q v H'
noncomputable def cO(F:List D->Option D)(g:AF):EF:=λρ=>(g ρ).bind λps=>(F (ps.map (·.1))).map λd=>(d,.own)
theorem VS(e:cO F g ρ=some (d,tg)):∃ps,g ρ=some ps/\F (ps.map (·.1))=some d/\tg=.own:=by
 unfold cO at e;exists h1,g ρ,ps,e,0;rw[h1,adb] at e;exists h2,F (ps.map (·.1)),d',e;cases e;exact⟨ps,rfl,h2,rfl⟩
theorem bC(G:bU X.prog X.w X.K X.mg X.base c_ k f fd ps (bx X.K F) cm)(hr:bh k X.A cm)(hm:X.mg x=some (.ref f))(hk:PySem.W.keepIn X.K (.ref f)=true)(hb:Binds X.K fd ps [])(ha:FA X (e::es) g)
  (hg:GD X x:=by exact⟨rfl,by decide⟩)
  (he:SE X e es pos:=by exact⟨rfl,rfl⟩):FP X (.Call (.Name x p) (e::es) [] pos) (cO F g):=by
 obtain⟨t,pa,_,sa⟩:=ha;refine⟨_,OJ G hr hg.1 hm hk hb .nil m6 pa hg.2 he.1 he.2,@λH0 S z aq ρ σ H Q d tg ok e0 q=>?_⟩;obtain⟨qs,e1,e2,rfl⟩:=VS e0;refine sa ok e1 λH1 vs fp s1 r1 _=>?_
 rw[acI];exact⟨_,fp,d,r1,e2,λH2 v gO s2 r2 nd fr=>q H2 v gO (s1.trans s2) r2 ⟨nd,λa m=>s1.free (fr a m)⟩⟩
noncomputable def tV(f:EF):TF:=λρ=>match f ρ with
 |some (.bl b,_)=>some b
 |_=>none
theorem J6(e:tV f ρ=some b):∃t,f ρ=some (.bl b,t):=by
 unfold tV at e;exists h,f ρ,p,e,0;obtain⟨d,t⟩:=p;rw[h] at e;cases d<;>first|(cases e;exact⟨t,rfl⟩)|cases e
theorem fL(h:FP X e f)(he:∀whole,isTrue e X.env whole=(do let v <- whole;standAt e.pos;holding [v] (truthy v)):=by intro _;rfl):FT X e (tV f):=by
 obtain⟨t,p,q⟩:=h;refine⟨_,IY p he,@λH0 S z aq ρ σ H Q b ok e k=>?_⟩;obtain⟨tg,e1⟩:=J6 e;refine q ok e1 λH1 v fp s1 r1 _=>?_
 cases r1;exact⟨b,rfl,k H1 s1⟩
theorem jg(ho:dg X (compareOp op) r)(dd:gz X.K r o)(ha:FP X a fa)(hb:FP X b fb)(hm:behindInMarks op b=false):FT X (.Compare a [op] [b] pos) (tV (e2 o fa fb)):=by
 exists 46;exists 22,Nl ho pa pb hm;obtain⟨tg,e0⟩:=J6 e;obtain⟨d1,t1,d2,t2,e1,jx,e3,rfl⟩:=pB e0;refine sa ok e1 λH1 x f1 s1 r1 _=>?_
 exists 49
 refine dd H2 x y d1 d2 f1 f2 _ _ (r1.same s2) r2 e3 λH3 v s3 r3=>?_
 cases r3;exact⟨c,rfl,k H3 ((s1.trans s2).trans s3)⟩
theorem nG(ho:dg X (compareOp op) r)(dd:gz X.K r o)(ha:FP X a fa)(hb:FP X b fb)(hm:behindInMarks op b=false):FP X (.Compare a [op] [b] pos) (e2 o fa fb):=
 fp_2 dd ha hb λ_ _ pa pb=>GK ho pa pb hm
theorem xE(ho:dg X (binaryOp op) r)(dd:gz X.K r o)(ha:FP X a fa)(hb:FP X b fb):FP X (.BinOp a op b pos) (e2 o fa fb):=
 fp_2 dd ha hb λ_ _ pa pb=>Nr ho pa pb
noncomputable def jq(f g:TF):TF:=λρ=>match f ρ with
 |some true=>g ρ
 |some false=>some false
 |none=>none
noncomputable def jU(f g:TF):TF:=λρ=>match f ρ with
 |some true=>some true
 |some false=>g ρ
 |none=>none
noncomputable def lE(f:TF):TF:=λρ=>(f ρ).map λb=>!b
def FW(X:Cx)(e:Expr)(f:TF):Prop:=∃t,PW X e t/\∀{H0} {S} {z} {aq} {ρ} {σ} {H} {Q} {b},
 Ok X.K H0 S z aq ρ σ H->f ρ=some b->(∀H',aG H H'->Q b H')->t σ H Q
theorem FW.ft(h:FW X e f):FT X e f:=let⟨t,p,q⟩:=h;⟨t,p.pt,q⟩
theorem tQ(h:FT X a f):FW X (.BoolOp .And [a] pos) f:=let⟨t,p,q⟩:=h;⟨t,Ry p,q⟩
theorem l9(h:FT X a f):FW X (.BoolOp .Or [a] pos) f:=let⟨t,p,q⟩:=h;⟨t,aa4 p,q⟩
theorem qE{rest:List Expr}(ha:FT X a f)(hb:FW X (.BoolOp .And (b::rest) pos) g):FW X (.BoolOp .And (a::b::rest) pos) (jq f g):=by
 exists 58;obtain⟨t',p',q'⟩:=hb;exists 22,Qa p p';unfold jq at e;exists h,f ρ,y,e;cases y with
 |false=>
  cases e;refine q ok h λH1 s1=>?_
  rw[if_neg abu];exact k H1 s1
 |true=>
  refine q ok h λH1 s1=>?_
  rw[if_pos rfl];exact q' (ok.same s1) e λH2 s2=>k H2 (s1.trans s2)
theorem kD{rest:List Expr}(ha:FT X a f)(hb:FW X (.BoolOp .Or (b::rest) pos) g):FW X (.BoolOp .Or (a::b::rest) pos) (jU f g):=by
 exists 58;obtain⟨t',p',q'⟩:=hb;exists 22,U7 p p';unfold jU at e;exists h,f ρ,y,e;cases y with
 |true=>
  cases e;refine q ok h λH1 s1=>?_
  rw[if_pos rfl];exact k H1 s1
 |false=>
  refine q ok h λH1 s1=>?_
  rw[if_neg abu];exact q' (ok.same s1) e λH2 s2=>k H2 (s1.trans s2)
theorem je(ha:FT X a f):FT X (.UnaryOp .Not a pos) (lE f):=by
 exists 58;exists 22,RU p;unfold lE at e;exists h,f ρ,y,e;cases e;exact q ok h λH1 s1=>k H1 s1
inductive Out where
 |nx (ρ:aN)|rt (d:D)|bk (ρ:aN)|ct (ρ:aN)
 |er (raw:Bool) (cn:XN) (ρ:aN)
abbrev SF:=aN->Option Out
noncomputable def j8(X:Cx)(x:Str):Bool:=x==("self":Str)||(X.fn ("self":Str)&&!X.fn x)
def Kp(X:Cx)(σ az:St):Prop:=∀(i:Nat) (x),X.N[i]? = some x->j8 X x=true->az[i]? = σ[i]?
theorem Kp.refl(X:Cx)(σ:St):Kp X σ σ:=λ_ _ _ _=>rfl
theorem Kp.trans(a:Kp X σ nZ)(b:Kp X nZ iw):Kp X σ iw:=λi x h k=>(b i x h k).trans (a i x h k)
theorem Kp.set(hi:X.N[i]? = some x)(hs:j8 X x=false):Kp X σ (σ.set i v):=λj y h k=>by
 refine acY λe=>?_
 subst e;rw[hi] at h;have h:=ab4 h;subst h;rw[hs] at k;cases k
def vH(X:Cx)(H0:Hp)(S:List Addr)(aq:List qR)(ou:St)(raw:Bool)(cn:XN)(ρ:aN):Prop:=∃ES:XS,(if raw=true then Jt X ES else tG X ES)/\
 ∀z σ H C,Ok X.K H0 S z aq ρ σ H->Kp X ou σ->PySem.W.nsIn X.K mainGlobals cn.1=some (some (.ref C))->ES (.ref C) cn.2 σ H
theorem vH.of(k:vH X H0 S aq σ raw cn ρ)(a:Kp X σ az):vH X H0 S aq az raw cn ρ:=
 let⟨ES,th,q⟩:=k;⟨ES,th,λz s H C ok b hC=>q z s H C ok (a.trans b) hC⟩
def nq(X:Cx)(H0:Hp)(S:List Addr)(aq:List qR)(ou:St)(E:Ends):Out->Prop
 |.nx ρ=>∀z σ H,Ok X.K H0 S z aq ρ σ H->Kp X ou σ->E.nx σ H
 |.bk ρ=>∀z σ H,Ok X.K H0 S z aq ρ σ H->Kp X ou σ->E.bk σ H
 |.ct ρ=>∀z σ H,Ok X.K H0 S z aq ρ σ H->Kp X ou σ->E.ct σ H
 |.er raw cn ρ=>vH X H0 S aq ou raw cn ρ
 |.rt d=>∀H v fp,(∀a o,H0 a=some o->a∉S->H a=some o)->Rep X.K H d v fp->fp.Nodup->(∀a∈fp,H0 a=none\/a∈S)->E.rt v H
def FS(X:Cx)(st:List Stmt)(f:SF):Prop:=∃t,iK X st t/\∀{H0} {S} {z} {aq} {ρ} {σ} {H} {E} {o},
 Ok X.K H0 S z aq ρ σ H->f ρ=some o->nq X H0 S aq σ E o->t E σ H
def eT(X:Cx)(st:Stmt)(f:SF):Prop:=∃t,PS X st t/\∀{H0} {S} {z} {aq} {ρ} {σ} {H} {E} {o},
 Ok X.K H0 S z aq ρ σ H->f ρ=some o->nq X H0 S aq σ E o->t E σ H
theorem nq.of(k:nq X H0 S aq σ E o)(a:Kp X σ az):nq X H0 S aq az E o:=by
 cases o with
 |nx ρ=>exact λz s H ok b=>k z s H ok (a.trans b)
 |bk ρ=>exact λz s H ok b=>k z s H ok (a.trans b)
 |ct ρ=>exact λz s H ok b=>k z s H ok (a.trans b)
 |rt d=>exact k
 |er raw cn ρ=>exact vH.of k a
noncomputable def gP:SF:=λρ=>some (.nx ρ)
noncomputable def bZ(f g:SF):SF:=λρ=>match f ρ with
 |some (.nx ρ')=>g ρ'
 |o=>o
theorem cg:FS X [] gP:=⟨_,Qt,@λ_ _ z _ _ σ H _ _ ok e k=>by cases e;exact k z σ H ok (.refl _ _)⟩
theorem aI{st:Stmt}(h:eT X st f):FS X [st] f:=let⟨t,p,q⟩:=h;⟨t,P0 p,q⟩
theorem aL{st:Stmt}{rest:List Stmt}(h1:eT X st f)(h2:FS X rest g):FS X (st::rest) (bZ f g):=by
 obtain⟨t,p,q⟩:=h1;obtain⟨t',p',q'⟩:=h2;exists 23,yF p p';unfold bZ at e;exists h,f ρ,w,e,0;refine q ok h ?_;rw[h] at e;cases w with
 |nx ρ'=>exact λz' az H' aS a=>q' aS e (k.of a)
 |rt d=>cases e;exact k
 |bk ρ'=>cases e;exact k
 |ct ρ'=>cases e;exact k
 |er _ _ _=>cases e;exact k
noncomputable def NS:SF:=λ_=>none
theorem mY{st:Stmt}:eT X st NS:=⟨_,MV,@λ_ _ _ _ _ _ _ _ _ _ e _=>by cases e⟩
noncomputable def eX(c:TF)(f g:SF):SF:=λρ=>match c ρ with
 |some true=>f ρ
 |some false=>g ρ
 |none=>none
theorem b_(hc:FT X c tc)(ha:FS X a f)(hb:FS X b g):eT X (.If c a b pos) (eX tc f g):=by
 obtain⟨t,p,q⟩:=hc;obtain⟨t1,p1,q1⟩:=ha;obtain⟨t2,p2,q2⟩:=hb;exists 23,zL p p1 p2;unfold eX at e;exists h,tc ρ,y,e;refine q ok h λH1 s1=>?_
 cases y with
 |true=>rw[if_pos rfl];exact q1 (ok.same s1) e k
 |false=>rw[if_neg abu];exact q2 (ok.same s1) e k
noncomputable def jQ:Tag->Bool
 |.sh _=>false
 |_=>true
def l7(f:EF):SF:=λρ=>match f ρ with
 |some (d,t)=>if jQ t=true then some (.rt d) else if aC d=true then some (.rt d) else none
 |none=>none
theorem aV(he:FP X e f):eT X (.Return (some e) pos) (l7 f):=by
 obtain⟨t,p,q⟩:=he;exists 23,za p;unfold l7 at e;exists h,f ρ,w,e,0;obtain⟨d,tg⟩:=w;rw[h] at e;exists 59;exists 52
 have en:∀a o,H0 a=some o->a∉S->H1 a=some o:=λa o e n=>s1 _ _ (ok.en a o e n)
 by_cases ho:jQ tg=true
 .rw[if_pos ho] at e;cases e;have g:fp.Nodup/\∀a∈fp,H a=none:=by cases tg<;>first|exact g1|cases ho
  refine k H1 v fp en r1 g.1 λa m=>?_
  cases h0:H0 a with
  |none=>exact .inl rfl
  |some o=>
   by_cases hs:a∈S
   .exact .inr hs
   .have w:=ok.en a o h0 hs;rw[g.2 a m] at w;cases w
 .rw[if_neg ho] at e;obtain⟨hi,e⟩:=ci e;cases e;have hn:=r1.aC hi;subst hn;exact k H1 v [] en r1 acm λa m=>nomatch m
def pX(i:Nat):SF:=λρ=>match ρ[i]? with
 |some (some (d,t))=>if jQ t=true then some (.rt d) else if aC d=true then some (.rt d) else none
 |_=>none
theorem sR(i:Nat)(va:VA X i x:=by walk_at "va"):eT X (.Return (some (.Name x pos')) pos) (pX i):=by
 exists 23,za va.pe;unfold pX at e;exists h,ρ[i]?,w,e,0;cases w with
 |none=>rw[h] at e;cases e
 |some w=>
  obtain⟨d,tg⟩:=w;rw[h] at e;exists 59;obtain⟨v,fp,hs,r,zz⟩:=ok.sl i d tg h;refine⟨v,hs,?_⟩
  by_cases ho:jQ tg=true
  .rw[if_pos ho] at e;cases e;have g:fp.Nodup/\∀a∈fp,z a=some i:=by cases tg<;>first|exact zz|cases ho
   exact k H v fp ok.en r g.1 λa m=>(ok.zd a i (g.2 a m)).2
  .rw[if_neg ho] at e;obtain⟨hi,e⟩:=ci e;cases e;have hn:=r.aC hi;subst hn;exact k H v [] ok.en r acm λa m=>nomatch m
noncomputable def iD(ρ:aN)(i:Nat)(d:D):Tag->aN
 |.sh o=>ρ.set i (some (d,.sh o))
 |_=>ρ.set i (some (d,.own))
def dF(i:Nat)(f:EF):SF:=λρ=>match f ρ with
 |some (d,t)=>some (.nx (iD ρ i d t))
 |none=>none
theorem Ok.chg{K:PySem.W.Frag}{fp bH fo:List Addr}(ok:Ok K H0 S z aq ρ σ H)(hi:ρ'[i]? = some (some (d,tg)))(hs:az[i]? = some (some v))(h0:∀a∈bH,z a=some i)(im:aX H H')
  (keep:∀b o,b∉bH->H b=some o->H' b=some o) (r:Rep K H' d v fp) (hz:vJ z' i tg fp) (zn:∀a,a∉fo->z a=some i/\z' a=none\/z' a=z a/\a∉bH/\(z a=some i->¬ud ρ i)) (Ia:∀a∈fo,(a∈bH\/H a=none)/\∃o,H' a=some o)
  (ot:∀{j d t},j≠i->ρ'[j]? = some (some (d,t))->ρ[j]? = some (some (d,t))/\(bH=[]\/∀o,t=.sh o->i∉o)) (os:∀j,j≠i->az[j]? = σ[j]?) (hh:bH=[]\/¬ud ρ i) (ln:ρ'.length=az.length):Ok K H0 S z' aq ρ' az H':=by
 have old:∀{a} {o},a∉bH->H a=some o->a∉fo:=λn e m=>(Ia _ m).1.elim n λq=>by rw[e] at q;cases q
 have at_:∀{a} {k},a∉fo->z' a=some k->z a=some k/\a∉bH/\(k=i->¬ud ρ i):=λ{a k} n e=>by
  rcases zn a n with⟨_,w⟩|⟨w,q,u⟩
  .rw[e] at w;cases w
  .rw[e] at w;exact⟨w.symm,q,λx=>u (x ▸ w.symm)⟩
 have S0:∀a∈bH,H0 a=none\/a∈S:=λa m=>(ok.zd a i (h0 a m)).2
 refine⟨λj d' t e=>?_,λp hp=>?_,λa j e=>?_,λa o e n=>keep a o (λm=>?_) (ok.en a o e n),ln⟩
 .by_cases hj:j=i
  .subst hj;rw[hi] at e;cases e;exact⟨v,fp,hs,r,hz⟩
  .obtain⟨e0,nd⟩:=ot hj e;obtain⟨v',gO,cL,r',zz⟩:=ok.sl j d' t e0;have n0:∀a∈gO,a∉bH:=λa m q=>by
    have zi:=h0 a q;rcases nd with rfl|nd
    .cases q
    cases t with
    |sh o=>exact nd o rfl (zz a m i zi)
    |own=>rw[zz.2 a m] at zi;exact hj (ab4 zi)
    |lk=>rw[zz.2 a m] at zi;exact hj (ab4 zi)
   have n1:∀a∈gO,a∉fo:=λa m=>let⟨o,w,_⟩:=r'.cB a m;old (n0 a m) w
   have o1:∀a∈gO,z a=some j->z' a=some j:=λa m e=>by
    rcases zn a (n1 a m) with⟨w,_⟩|⟨w,_⟩
    .rw[e] at w;exact(hj (ab4 w)).elim
    .rw[w,e]
   refine⟨v',gO,(os j hj).trans cL,r'.frame (λa m=>?_) im,?_⟩
   .obtain⟨o,w,_⟩:=r'.cB a m;rw[keep a o (n0 a m) w,w]
   .cases t with
    |sh o=>exact λa m k q=>zz a m k (at_ (n1 a m) q).1
    |own=>exact⟨zz.1,λa m=>o1 a m (zz.2 a m)⟩
    |lk=>exact⟨zz.1,λa m=>o1 a m (zz.2 a m)⟩
 .obtain⟨r',rK⟩:=ok.hl p hp;have n0:∀a∈p.fp,a∉bH:=λa m q=>by
   rcases hh with rfl|hh
   .cases q
   .exact hh (rK a m i (h0 a q)).2
  refine⟨r'.frame (λa m=>?_) im,λa m j q=>?_⟩
  .obtain⟨o,w,_⟩:=r'.cB a m;rw[keep a o (n0 a m) w,w]
  .obtain⟨o,w,_⟩:=r'.cB a m;obtain⟨q,_,hj⟩:=at_ (old (n0 a m) w) q;obtain⟨x,y⟩:=rK a m j q;exact⟨x,λd e=>y d (ot (λx=>hj x (x ▸ y)) e).1⟩
 .by_cases w:a∈fo
  .refine⟨(Ia a w).2,(Ia a w).1.elim (S0 a) λq=>?_⟩;cases h0:H0 a with
   |none=>exact .inl rfl
   |some o=>
    by_cases hs:a∈S
    .exact .inr hs
    .rw[ok.en a o h0 hs] at q;cases q
  .obtain⟨e,n,_⟩:=at_ w e;obtain⟨⟨o,x⟩,y⟩:=ok.zd a j e;exact⟨⟨o,keep a o n x⟩,y⟩
 .rcases S0 a m with q|q
  .rw[e] at q;cases q
  .exact n q
open Classical in
noncomputable def zN(fo:List Addr)(i:Nat)(z:Addr->Option Nat):Addr->Option Nat:=λa=>if a∈fo then some i else if z a=some i then none else z a
theorem GR{fo bH:List Addr}(h:∀a∈bH,z a=some i)(a:Addr)(n:a∉fo):z a=some i/\zN fo i z a=none\/zN fo i z a=z a/\a∉bH/\(z a=some i->P):=by
 unfold zN
 by_cases w:z a=some i
 .exact .inl ⟨w,by rw[if_neg n,if_pos w]⟩
 .exact .inr ⟨by rw[if_neg n,if_neg w],λm=>w (h a m),λq=>(w q).elim⟩
theorem Ok.set{K:PySem.W.Frag}{fp:List Addr}(ok:Ok K H0 S z aq ρ σ H)(hi:i<σ.length)(s:aG H H1)
  (r:Rep K H1 d v fp) (g:cH z H t fp):∃z',Ok K H0 S z' aq (iD ρ i d t) (σ.set i (some v)) H1:=by
 have n0:∀a∈([]:List Addr),z a=some i:=λa m=>nomatch m
 have main:∀(fo) (tg),(∀a∈fo,H a=none/\a∈fp)->vJ (zN fo i z) i tg fp->∃z',Ok K H0 S z' aq (ρ.set i (some (d,tg))) (σ.set i (some v)) H1:=λfo tg h hz=>
  ⟨_,ok.chg (aer (by rw[ok.ln];exact hi)) (aer hi) n0 (.of s) (λb o _ e=>s b o e) r hz (GR n0) (λa m=>⟨.inr (h a m).1,let⟨o,w,_⟩:=r.cB a (h a m).2;⟨o,w⟩⟩)
   (λhj e=>⟨(acY (afH hj)).symm.trans e,.inl rfl⟩) (λj hj=>acY (afH hj)) (.inl rfl) (by rw[ags,ags];exact ok.ln)⟩
 cases t with
 |own=>exact main fp .own (λa m=>⟨g.2 a m,m⟩) ⟨g.1,λa m=>if_pos m⟩
 |lk=>exact main fp .own (λa m=>⟨g.2 a m,m⟩) ⟨g.1,λa m=>if_pos m⟩
 |sh o=>
  refine main [] (.sh o) (λa m=>nomatch m) λa m j q=>?_
  rcases GR (fo:=[]) (P:=True) n0 a (λw=>nomatch w) with⟨_,w⟩|⟨w,_⟩
  .rw[q] at w;cases w
  .exact g a m j (w ▸ q)
theorem Ok.stored{K:PySem.W.Frag}{G:Prop}(ok:Ok K H0 S z aq ρ σ H)(s:aG H H1)
  (r:Rep K H1 d v fp) (g:cH z H t fp) (k:∀z',Ok K H0 S z' aq (iD ρ i d t) (σ.set i (some v)) H1->G):G:=by
 by_cases hi:i<σ.length
 .obtain⟨z',aS⟩:=ok.set hi s r g;exact k z' aS
 .have e1:σ.set i (some v)=σ:=List.set_eq_of_length_le (Nat.le_of_not_lt hi);have e2:∀w,ρ.set i w=ρ:=λw=>List.set_eq_of_length_le (by rw[ok.ln];exact Nat.le_of_not_lt hi)
  have e3:iD ρ i d t=ρ:=by cases t<;>exact e2 _
  refine k z ?_;rw[e1,e3];exact ok.same s
theorem bG(i:Nat){x:Str}{e:Expr}(he:FP X e f)(hN:X.N.Nodup)(hi:X.N[i]? = some x:=by rfl)(hx:Loc X.env.scope x:=by first|exact Or.inl rfl|exact Or.inr rfl)
  (hs:swapsWith e (some (.Name x pos')) pos.line X.env=pure false:=by rfl) (hf:z5 X x:=by first|exact .inl rfl|exact .inr rfl) (kZ:j8 X x=false:=by rfl):eT X (.Assign [.Name x pos'] e pos) (dF i f):=by
 obtain⟨t,p,q⟩:=he;exists 23,Cm hN hi hx p hs hf;unfold dF at e;exists h,f ρ,w,e,0;obtain⟨d,tg⟩:=w;rw[h] at e;cases e;exists 52
 exact ok.stored s1 r1 g1 λz' aS=>k z' _ H1 aS (.set hi kZ)
abbrev GF:=D->Tag->aN->Option aN
def FG(X:Cx)(tg:Expr)(g:GF)(is:List Nat):Prop:=(∀i∈is,∀x,X.N[i]? = some x->j8 X x=false)/\∃t,PG X tg t/\∀{H0} {S} {z} {aq} {ρ} {σ} {H H1} {v} {d} {tag} {fp} {Q} {ρ'},
 Ok X.K H0 S z aq ρ σ H->aG H H1->Rep X.K H1 d v fp->cH z H tag fp->g d tag ρ=some ρ'->(∀z' az,Ok X.K H0 S z' aq ρ' az H1->(az.length=σ.length/\∀j,j∉is->az[j]? = σ[j]?)->Q az H1)->t v σ H1 Q
def gN(i:Nat):GF:=λd t ρ=>some (iD ρ i d t)
abbrev wo:=List D->aN->Option aN
theorem Kp.off{is:List Nat}(hk:∀i∈is,∀x,X.N[i]? = some x->j8 X x=false)(h:∀j,j∉is->az[j]? = σ[j]?):Kp X σ az:=λi x e k=>h i λm=>by rw[hk i m x e] at k;cases k
def Ck(X:Cx)(ts:List Expr)(g:wo)(is:List Nat):Prop:=(∀i∈is,∀x,X.N[i]? = some x->j8 X x=false)/\∃t,yP X ts t/\(∀ds ρ ρ',g ds ρ=some ρ'->ds.length=ts.length)/\∀{H0} {S} {z} {aq} {ρ} {σ} {H} {vs} {ds} {fp} {Q} {ρ'},
 Ok X.K H0 S z aq ρ σ H->aB X.K H ds vs fp->g ds ρ=some ρ'->(∀z' az,Ok X.K H0 S z' aq ρ' az H->(az.length=σ.length/\∀j,j∉is->az[j]? = σ[j]?)->Q az H)->t vs σ H Q
noncomputable def lR:wo:=λds ρ=>match ds with
 |[]=>some ρ
 |_=>none
def d_(g:GF)(gs:wo):wo:=λds ρ=>match ds with
 |d::r=>if aC d=true then(g d .own ρ).bind λρ'=>gs r ρ' else none
 |_=>none
theorem O3(e:d_ g gs ds ρ=some ρ'):∃d r aR,ds=d::r/\aC d=true/\g d .own ρ=some aR/\gs r aR=some ρ':=by
 cases ds with
 |nil=>cases e
 |cons d r=>
  unfold d_ at e;exists 59;obtain⟨hi,e⟩:=ci e;exists h,g d .own ρ,aR,e,0;rw[h,adb] at e;exact⟨d,r,aR,rfl,hi,h,e⟩
noncomputable def gT(gs:wo):GF:=λd _ ρ=>match d with
 |.tup ds=>gs ds ρ
 |_=>none
theorem bS(i:Nat)(hN:X.N.Nodup)(hi:X.N[i]? = some x:=by rfl)(hx:Loc X.env.scope x:=by first|exact Or.inl rfl|exact Or.inr rfl)(hf:z5 X x:=by first|exact .inl rfl|exact .inr rfl)(kZ:j8 X x=false:=by rfl):FG X (.Name x pos) (gN i) [i]:=by
 refine⟨λj m y e=>by rw[aaB.mp m,hi] at e;have e:=ab4 e;subst e;exact kZ,_,UP hN hi hx hf,@λH0 S z aq ρ σ H H1 v d tag fp Q ρ' ok s r g e k=>?_⟩;cases e;exact ok.stored s r g λz' aS=>k z' _ aS ⟨ags ..,λj hj=>acY λe=>hj (by rw[e];exact aak)⟩
theorem qD:Ck X [] lR []:=by
 refine⟨λj m=>(nomatch m),_,abn,λds ρ ρ' e=>?_,@λH0 S z aq ρ σ H vs ds fp Q ρ' ok r e k=>?_⟩
 .cases ds with
  |nil=>rfl
  |cons _ _=>cases e
 .cases ds with
  |nil=>cases r;cases e;exact⟨rfl,k z σ ok ⟨rfl,λ_ _=>rfl⟩⟩
  |cons _ _=>cases e
theorem gH(h1:FG X e g is)(h2:Ck X es gs ks)(hs:(assignEach (e::es) X.env).map (·.2)=assign e X.env::(assignEach es X.env).map (·.2):=by rfl):Ck X (e::es) (d_ g gs) (is++ks):=by
 obtain⟨n1,t,p,q⟩:=h1;obtain⟨n2,t',p',l',q'⟩:=h2;refine⟨λj m=>(abB.mp m).elim (n1 j) (n2 j),_,ae5 p p' hs,λds ρ ρ' e=>?_,@λH0 S z aq ρ σ H vs ds fp Q ρ' ok r e k=>?_⟩
 .obtain⟨d,r,aR,rfl,_,_,h⟩:=O3 e;rw[acj,acj,l' r aR ρ' h]
 .obtain⟨d,dr,aR,rfl,hi,h1,h2⟩:=O3 e;cases r with
  | @cons _ v _ vr f1 f2 r1 r2=>
   have hn:=r1.aC hi;subst hn;exact⟨v,vr,rfl,q ok (aG.refl H) r1 .nil h1 λz1 nZ bB a1=>q' bB r2 h2 λz2 iw nN a2=>k z2 iw nN ⟨a2.1.trans a1.1,λj hj=>(a2.2 j λm=>hj (aaw _ m)).trans (a1.2 j λm=>hj (abp _ m))⟩⟩
theorem qg(hc:X.calm=true)(h:Ck X es gs is)(hn:(assignEach es X.env).length=es.length:=by rfl)(cV:(assignEach es X.env).findIdx? (·.1)=none:=by rfl):FG X (.Tuple es k pos) (gT gs) is:=by
 obtain⟨n1,t,p,l,q⟩:=h;refine⟨n1,_,ad4 hc p hn cV,@λH0 S z aq ρ σ H H1 v d tag fp Q ρ' ok s r g e k=>?_⟩;cases r with
 | @tup a xs ds fp hq rs=>
  have e:=e;exact⟨a,xs,rfl,hq,by rw[<- rs.length];exact l ds ρ ρ' e,q (ok.same s) rs e k⟩
 |_=>cases e
structure Hv where
 d:D
 v:V
 fp:List Addr
def sW(K:PySem.W.Frag)(J:It)(ds:List D)(hv:List Hv):Prop:=∀(H) (i),(∀h∈hv,Rep K H h.d h.v h.fp)->
 (∀d,ds[i]? = some d->J.go i H/\∀x H1,J.xD i H x H1->aG H H1/\∃fp,Rep K H1 d x fp/\∀a∈fp,∃h∈hv,a∈h.fp)/\(ds.length<=i->J.stop i H)
abbrev IF:=aN->Option (List D×Tag)
def FI(X:Cx)(tg iter:Expr)(f:IF):Prop:=∃wi,PI X tg iter wi/\∀{H0} {S} {z} {aq} {ρ} {σ} {H} {R} {ds} {t},
 Ok X.K H0 S z aq ρ σ H->f ρ=some (ds,t)->(∀H1 J hv,aG H H1->(∀h∈hv,Rep X.K H1 h.d h.v h.fp/\∀a∈h.fp,∀j,z a=some j->∃o,t=.sh o/\j∈o)->sW X.K J ds hv->R J H1)->wi σ H R
noncomputable def iy(f:EF):IF:=λρ=>match f ρ with
 |some (.lst ds,t)=>some (ds,t)
 |some (.gG ds,t)=>some (ds,t)
 |some (.tup ds,t)=>some (ds,t)
 |_=>none
def aa0(K:PySem.W.Frag)(tl:TE):TI:=λσ H R=>tl σ H λx H1=>∃a,x=.ref a/\(((∃xs,b7 K H1 a xs)/\R (AR K a) H1)\/((∃xs,cj K H1 a xs)/\R (Hg K a) H1))
theorem aeZ(hl:PE X l tl):PI X tg l (aa0 X.K tl):=by
 intro af s σ H R I h;refine hl.n I h λv s1 x H1 I1 r1 q1=>?_
 obtain⟨a,e,q⟩:=q1;subst e;cases r1;rcases q with⟨⟨xs,hq⟩,q⟩|⟨⟨xs,hq⟩,q⟩
 .obtain⟨au,rv,p,hz⟩:=I1.list hq;refine wpAny_pyIter_list p.isList ?_;refine⟨s1.heap.objs.size,[s1.heap.objs.size],_,_,H1,rfl,I1.kept (λb o e=>aap _ e),XX a _,⟨_,ab8 _ rfl,rfl,rfl⟩,λb hb=>?_,q⟩;obtain rfl:b=s1.heap.objs.size:=by simpa using hb
  exact I1.rP (abW _) (I1.aF.fresh (abW _))
 .obtain⟨au,rv,p,hz⟩:=I1.tuple hq;refine wpAny_pyIter_tuple (show s1.heap.IsTuple a au.toArray from p) ?_;refine⟨s1.heap.objs.size,[s1.heap.objs.size],_,_,H1,rfl,I1.kept (λb o e=>aap _ e),ZQ a _,⟨_,ab8 _ rfl,rfl,rfl⟩,λb hb=>?_,q⟩;obtain rfl:b=s1.heap.objs.size:=by simpa using hb
  exact I1.rP (abW _) (I1.aF.fresh (abW _))
theorem Rep.dZ{K:PySem.W.Frag}(r:Rep K H (.lst ds) v fp):∃a xs f,v=.ref a/\b7 K H a xs/\aB K H ds xs f/\∀b∈f,b∈fp:=by
 cases r with
 |lst h rs=>exact⟨_,_,_,rfl,b7.of h,rs,λb m=>aaf _ m⟩
theorem Rep.tK{K:PySem.W.Frag}(r:Rep K H (.gG ds) v fp):∃a xs,v=.ref a/\b7 K H a xs/\aB K H ds xs fp:=by
 cases r with
 |Cp h rs=>exact⟨_,_,rfl,h.sq,rs⟩
theorem Rep.jh{K:PySem.W.Frag}(r:Rep K H (.tup ds) v fp):∃a xs,v=.ref a/\cj K H a xs/\aB K H ds xs fp:=by
 cases r with
 |tup h rs=>exact⟨_,_,rfl,h,rs⟩
theorem aaV{K:PySem.W.Frag}:sW K (AR K a) ds [⟨.lst ds,.ref a,fp⟩]:=by
 intro H i hh;have r:=hh ⟨.lst ds,.ref a,fp⟩ aak;obtain⟨a',xs,f,e,hq,rs,sub⟩:=r.dZ;cases e;refine⟨λd hd=>?_,λhl=>⟨xs,hq,by rw[<- rs.length];exact hl⟩⟩;obtain⟨v,f',hv,rv,s'⟩:=rs.get hd;refine⟨⟨xs,v,hq,hv⟩,λx H1 y=>?_⟩;obtain⟨e1,y⟩:=y;subst e1;have e2:=y xs hq;rw[hv] at e2;cases e2;exact⟨aG.refl _,f',rv,λb m=>⟨_,aak,sub b (s' b m)⟩⟩
theorem aas{K:PySem.W.Frag}:sW K (AR K a) ds [⟨.gG ds,.ref a,fp⟩]:=by
 intro H i hh;have r:=hh ⟨.gG ds,.ref a,fp⟩ aak;obtain⟨a',xs,e,hq,rs⟩:=r.tK;cases e;refine⟨λd hd=>?_,λhl=>⟨xs,hq,by rw[<- rs.length];exact hl⟩⟩;obtain⟨v,f',hv,rv,s'⟩:=rs.get hd;refine⟨⟨xs,v,hq,hv⟩,λx H1 y=>?_⟩;obtain⟨e1,y⟩:=y;subst e1;have e2:=y xs hq;rw[hv] at e2;cases e2;exact⟨aG.refl _,f',rv,λb m=>⟨_,aak,s' b m⟩⟩
theorem T9{K:PySem.W.Frag}:sW K (Hg K a) ds [⟨.tup ds,.ref a,fp⟩]:=by
 intro H i hh;have r:=hh ⟨.tup ds,.ref a,fp⟩ aak;obtain⟨a',xs,e,hq,rs⟩:=r.jh;cases e;refine⟨λd hd=>?_,λhl=>⟨xs,hq,by rw[<- rs.length];exact hl⟩⟩;obtain⟨v,f',hv,rv,s'⟩:=rs.get hd;refine⟨⟨xs,v,hq,hv⟩,λx H1 y=>?_⟩;obtain⟨e1,y⟩:=y;subst e1;have e2:=y xs hq;rw[hv] at e2;cases e2;exact⟨aG.refl _,f',rv,λb m=>⟨_,aak,s' b m⟩⟩
theorem Q_{K:PySem.W.Frag}{lo:Int}:sW K (xy lo n) ((List.range n).map λi:Nat=>D.int (lo+(i:Int))) []:=by
 intro H i _;refine⟨λd hd=>?_,λhl=>?_⟩
 .rw[acn] at hd
  by_cases hi:i<n
  .rw[List.getElem?_range hi] at hd;cases hd;refine⟨hi,λx H1 y=>?_⟩;obtain⟨e1,e2⟩:=y;subst e1 e2;exact⟨aG.refl _,[],.int _,λb m=>nomatch m⟩
  .rw[List.getElem?_eq_none (by simpa using hi)] at hd;cases hd
 .rw[List.length_map,ahn] at hl;exact hl
theorem cH.over{K:PySem.W.Frag}(ok:Ok K H0 S z aq ρ σ H)(g:cH z H t fp):∀a∈fp,∀j,z a=some j->∃o,t=.sh o/\j∈o:=by
 intro a m j q;cases t with
 |sh o=>exact⟨o,rfl,g a m j q⟩
 |own=>obtain⟨⟨o,w⟩,_⟩:=ok.zd a j q;rw[g.2 a m] at w;cases w
 |lk=>obtain⟨⟨o,w⟩,_⟩:=ok.zd a j q;rw[g.2 a m] at w;cases w
theorem eY{l:Expr}{f:EF}(hl:FP X l f):FI X tg l (iy f):=by
 obtain⟨t,p,q⟩:=hl;exists 24,aeZ p;unfold iy at e;exists h,f ρ,w,e,0;obtain⟨d,QI⟩:=w;rw[h] at e;cases d with
 |lst es=>
  cases e;exists 52
  obtain⟨a,xs,f,rfl,hq,rs,sub⟩:=r1.dZ;exact⟨a,rfl,.inl ⟨⟨xs,hq⟩,k H1 _ [⟨.lst ds,.ref a,fp⟩] s1 (λh m=>by cases aaB.mp m;exact⟨r1,g1.over ok⟩) aaV⟩⟩
 |gG es=>
  cases e;exists 52
  obtain⟨a,xs,rfl,hq,rs⟩:=r1.tK;exact⟨a,rfl,.inl ⟨⟨xs,hq⟩,k H1 _ [⟨.gG ds,.ref a,fp⟩] s1 (λh m=>by cases aaB.mp m;exact⟨r1,g1.over ok⟩) aas⟩⟩
 |tup es=>
  cases e;exists 52
  obtain⟨a,xs,rfl,hq,rs⟩:=r1.jh;exact⟨a,rfl,.inr ⟨⟨xs,hq⟩,k H1 _ [⟨.tup ds,.ref a,fp⟩] s1 (λh m=>by cases aaB.mp m;exact⟨r1,g1.over ok⟩) T9⟩⟩
 |_=>cases e
noncomputable def small(i:Int):Bool:=decide (-(2 ^ 62)<=i)&&decide (i<2 ^ 62)
def xh(g:EF):IF:=λρ=>match g ρ with
 |some (.int j,_)=>if small j=true then some ((List.range j.toNat).map λi:Nat=>D.int (0+(i:Int)),.own) else none
 |_=>none
def qF(f g:EF):IF:=λρ=>match f ρ,g ρ with
 |some (.int i,_),some (.int j,_)=>if(small i&&small j)=true then some ((List.range (j-i).toNat).map λk:Nat=>D.int (i+(k:Int)),.own) else none
 |_,_=>none
theorem vQ(h:small i=true):-(2 ^ 62)<=i/\i<2 ^ 62:=by
 obtain⟨a,b⟩:=(abe _ _).mp h;exact⟨aa9 a,aa9 b⟩
theorem Oi(hm:X.mg "range"=none)(ha:FP X a g)(hg:Gl X "range":=by rfl)(hs:Y1 X a:=by rfl):FI X tg (.Call (.Name "range" p) [a] [] pos) (xh g):=by
 obtain⟨t,pa,q⟩:=ha;exists 24,T6 hg hm (cP pa eW hs) hs;unfold xh at e;exists h,g ρ,w,e,0;obtain⟨d,QI⟩:=w;rw[h] at e;cases d with
 |int j=>
  exists 59;obtain⟨hj,e⟩:=ci e;cases e;exists 52
  cases r1;exact⟨j,rfl,(vQ hj).1,(vQ hj).2,k H1 _ [] s1 (λh m=>nomatch m) Q_⟩
 |_=>cases e
theorem BL(hm:X.mg "range"=none)(ha:FP X a f)(hb:FP X b g)(hg:Gl X "range":=by rfl)(hs:starEach [a,b] X.env=[(false,eval a X.env),(false,eval b X.env)]:=by rfl)(cG:Y1 X b:=by rfl):
  FI X tg (.Call (.Name "range" p) [a,b] [] pos) (qF f g):=by
 obtain⟨t,pa,q⟩:=ha;obtain⟨t',pb,q'⟩:=hb;exists 24,Sn hg hm (cP pa (cP pb eW cG) (by rw[hs,cG])) hs cG;unfold qF at e;exists h,f ρ,w,e,0;obtain⟨d,QI⟩:=w;cases h2:g ρ with
 |none=>rw[h,h2] at e;cases d<;>cases e
 |some w=>
  obtain⟨d2,tg2⟩:=w;rw[h,h2] at e;cases d with
  |int i=>
   cases d2 with
   |int j=>
    exists 59;obtain⟨hj,e⟩:=ci e;cases e;obtain⟨si,sj⟩:=(abe _ _).mp hj;exists 52
    cases r1;refine q' (ok.same s1) h2 λH2 v fp s2 r2 g2=>?_
    cases r2;exact⟨i,j,rfl,⟨(vQ si).1,(vQ si).2,(vQ sj).1,(vQ sj).2⟩,k H2 _ [] (s1.trans s2) (λh m=>nomatch m) Q_⟩
   |_=>cases e
  |_=>cases e
noncomputable def lJ:Tag->List Nat
 |.sh o=>o
 |_=>[]
def kM(t:Tag):Tag:=.sh (lJ t)
noncomputable def ownAt(ρ:aN)(j:Nat):Bool:=match ρ[j]? with
 |some (some (_,.own))=>true
 |_=>false
def mT(o:List Nat)(ρ:aN):List Nat:=o.filter (ownAt ρ)
noncomputable def Ox:Tag->Tag
 |.own=>.lk
 |t=>t
noncomputable def QF:Tag->Tag
 |.lk=>.own
 |t=>t
noncomputable def By(f:Tag->Tag):Slot->Slot
 |some (d,t)=>some (d,f t)
 |none=>none
def oU:List Nat->aN->aN
 |[],ρ=>ρ
 |j::r,ρ=>oU r (ρ.modify j (By Ox))
def sV:List Nat->aN->aN
 |[],ρ=>ρ
 |j::r,ρ=>sV r (ρ.modify j (By QF))
noncomputable def di(g:GF)(t:Tag)(f:SF):List D->SF
 |[],ρ=>some (.nx ρ)
 |d::ds,ρ=>match g d t ρ with
  |none=>none
  |some aR=>match f aR with
   |some (.nx bg)=>di g t f ds bg
   |some (.ct bg)=>di g t f ds bg
   |some (.bk bg)=>some (.nx bg)
   |some (.rt r)=>some (.rt r)
   |some (.er raw cn bg)=>some (.er raw cn bg)
   |none=>none
def jD(it:IF)(g:GF)(f:SF):SF:=λρ=>match it ρ with
 |none=>none
 |some (ds,t)=>match di g (kM t) f ds (oU (mT (lJ t) ρ) ρ) with
  |some (.nx ρ')=>some (.nx (sV (mT (lJ t) ρ) ρ'))
  |some (.rt d)=>some (.rt d)
  |some (.er raw cn ρ')=>some (.er raw cn (sV (mT (lJ t) ρ) ρ'))
  |_=>none
theorem zK:∀{ks} {ρ} {i} {d} {t},(oU ks ρ)[i]? = some (some (d,t))->∃t',ρ[i]? = some (some (d,t'))/\(t=t'\/(t'=.own/\t=.lk))/\(i∈ks->t≠.own)
 |[],ρ,i,d,t,h=>⟨t,h,.inl rfl,λm=>nomatch m⟩
 |j::r,ρ,i,d,t,h=>by
  obtain⟨t1,h1,h2,h3⟩:=zK (ks:=r) h;rw[List.getElem?_modify] at h1;exists e,ρ[i]?,s,h1;have g9:(if j=i then By Ox s else s)=some (d,t1):=ab4 h1
  by_cases hj:j=i
  .rw[if_pos hj] at g9;cases s with
   |none=>cases g9
   |some p=>
    obtain⟨d0,t0⟩:=p;cases g9;refine⟨t0,rfl,?_,λ_=>?_⟩
    .rcases h2 with h2|⟨h2,mK⟩
     .cases t0<;>first|exact .inl h2|exact .inr ⟨rfl,h2⟩
     .cases t0<;>cases h2
    .rcases h2 with h2|⟨h2,mK⟩
     .rw[h2];cases t0<;>(intro z;cases z)
     .rw[mK];intro z;cases z
  .rw[if_neg hj] at g9;subst g9;refine⟨t1,rfl,h2,λm=>?_⟩;rcases aaQ.mp m with z|z
   .exact absurd z.symm hj
   .exact h3 z
theorem Qh:∀{ks} {ρ},(oU ks ρ).length=ρ.length
 |[],_=>rfl
 |_::r,ρ=>(Qh (ks:=r)).trans (List.length_modify ..)
theorem MP:∀{ks} {ρ},(sV ks ρ).length=ρ.length
 |[],_=>rfl
 |_::r,ρ=>(MP (ks:=r)).trans (List.length_modify ..)
theorem G3:∀{ks} {ρ} {i} {d} {t},(sV ks ρ)[i]? = some (some (d,t))->∃t',ρ[i]? = some (some (d,t'))/\(t=t'\/(t'=.lk/\t=.own/\i∈ks))
 |[],ρ,i,d,t,h=>⟨t,h,.inl rfl⟩
 |j::r,ρ,i,d,t,h=>by
  obtain⟨t1,h1,h2⟩:=G3 (ks:=r) h;rw[List.getElem?_modify] at h1;exists e,ρ[i]?,s,h1;have g9:(if j=i then By QF s else s)=some (d,t1):=ab4 h1
  by_cases hj:j=i
  .rw[if_pos hj] at g9;cases s with
   |none=>cases g9
   |some p=>
    obtain⟨d0,t0⟩:=p;cases g9;refine⟨t0,rfl,?_⟩;rcases h2 with h2|⟨h2,mK,h3⟩
    .cases t0<;>first|exact .inl h2|exact .inr ⟨rfl,h2,by rw[hj];exact aak⟩
    .cases t0<;>cases h2
  .rw[if_neg hj] at g9;subst g9;refine⟨t1,rfl,?_⟩;rcases h2 with h2|⟨h2,mK,h3⟩
   .exact .inl h2
   .exact .inr ⟨h2,mK,aaf _ h3⟩
noncomputable def uC(z:Addr->Option Nat)(hv:List Hv):List qR:=hv.map λh=>⟨h.d,h.v,h.fp,z⟩
noncomputable def yM(z:Addr->Option Nat)(aq:List qR):List qR:=aq.map λh=>{ h with z0:=z }
section
variable{K:PySem.W.Frag}
theorem Ok.begin(ok:Ok K H0 S z aq ρ σ H)(hh:∀h∈hv,Rep K H h.d h.v h.fp/\∀a∈h.fp,∀j,z a=some j->∃o,t=.sh o/\j∈o):
  Ok K H0 S z (uC z hv++yM z aq) (oU (mT (lJ t) ρ) ρ) σ H:=by
 refine⟨λi d tg e=>?_,λp m=>?_,ok.zd,ok.en,by rw[Qh];exact ok.ln⟩
 .obtain⟨t',e',h,_⟩:=zK e;obtain⟨v,fp,a,b,c⟩:=ok.sl i d t' e';refine⟨v,fp,a,b,?_⟩;rcases h with h|⟨h,h'⟩
  .subst h;exact c
  .subst h h';exact c
 .have afY:∀j,ud ρ j->ud (oU (mT (lJ t) ρ) ρ) j:=λj n d e=>by
   obtain⟨t',e',h,_⟩:=zK e;rcases h with h|⟨h,h'⟩
   .subst h;exact n d e'
   .cases h'
  rcases abB.mp m with m|m
  .obtain⟨h,hm,rfl⟩:=ab1.mp m;refine⟨(hh h hm).1,λa ha j q=>⟨q,λd e=>?_⟩⟩;obtain⟨o,rfl,hj⟩:=(hh h hm).2 a ha j q;obtain⟨t',e',h',n⟩:=zK e;rcases h' with h'|⟨h',yd⟩
   .subst h';exact n (acX.mpr ⟨hj,by unfold ownAt;rw[e']⟩) rfl
   .cases yd
  .obtain⟨h,hm,rfl⟩:=ab1.mp m;obtain⟨r,hz⟩:=ok.hl h hm;exact⟨r,λa ha j q=>⟨q,afY j (hz a ha j q).2⟩⟩
theorem Ok.fin(ok:Ok K H0 S z aq ρ σ H)(aS:Ok K H0 S z' (uC z hv++yM z aq) ρ' az H'):Ok K H0 S z' aq (sV (mT (lJ t) ρ) ρ') az H':=by
 refine⟨λi d tg e=>?_,λp m=>?_,aS.zd,aS.en,by rw[MP];exact aS.ln⟩
 .obtain⟨t',e',h⟩:=G3 e;obtain⟨v,fp,a,b,c⟩:=aS.sl i d t' e';refine⟨v,fp,a,b,?_⟩;rcases h with h|⟨h,h',_⟩
  .subst h;exact c
  .subst h h';exact c
 .obtain⟨r,hz⟩:=aS.hl { p with z0:=z } (aaw _ (ab1.mpr ⟨p,m,rfl⟩));refine⟨r,λa ha j q=>?_⟩;obtain⟨h1,h2⟩:=hz a ha j q;have h1:=h1;obtain⟨h3,h4⟩:=(ok.hl p m).2 a ha j h1;refine⟨h3,λd e=>?_⟩;obtain⟨t',e',h⟩:=G3 e;rcases h with h|⟨h,_,hk⟩
  .subst h;exact h2 d e'
  .have ho:=(acX.mp hk).2;unfold ownAt at ho;exists e0,ρ[j]?,s,ho;cases s with
   |none=>cases ho
   |some p=>
    obtain⟨d0,t0⟩:=p;cases t0<;>first|exact h4 d0 e0|cases ho
end
theorem jz(hc:X.calm=true)(hi:FI X tg iter it)(hg:FG X tg g is)(hb:FS X body f)(hp:PassesOwn (model X.prog X.w) X.A X.env X.xe:=by exact PassesOwn.never)
  (hs:∀x,foldedSetIterable iter X.env x=pure x:=by intro _;rfl):eT X (.For tg iter body [] pos) (jD it g f):=by
 obtain⟨wi,pi,si⟩:=hi;obtain⟨n1,tgt,pg,sg⟩:=hg;obtain⟨tb,pb,sb⟩:=hb;exists 23,Ye hp hc pi pg pb hs;unfold jD at e;exists h,it ρ,w,e,0;obtain⟨ds,t⟩:=w;rw[h] at e;exists 59;refine si ok h λH1 J hv s1 hh GA=>?_
 exists ho,di g (kM t) f ds (oU (mT (lJ t) ρ) ρ),out,e;have bB:=ok.same s1;have nN:=bB.begin hh;have fin:∀{z'} {ρ'} {az} {H'},Ok X.K H0 S z' (uC z hv++yM z aq) ρ' az H'->out=.nx ρ'->Kp X σ az->E.nx az H':=λ{z' ρ' az H'} aS eo kp=>by
  subst eo;cases e;exact k z' az H' (bB.fin aS) kp
 refine⟨λi m az H'=>m=ds.length-i/\∃z' ρ',Ok X.K H0 S z' (uC z hv++yM z aq) ρ' az H'/\di g (kM t) f (ds.drop i) ρ'=some out/\Kp X σ az,⟨ds.length,rfl,z,_,nN,ho,.refl _ _⟩,?_⟩
 rintro i m az H' ⟨rfl,z',ρ',aS,e',kp⟩
 have hH:∀h∈hv,Rep X.K H' h.d h.v h.fp:=λh m=>(aS.hl _ (abp _ (ab1.mpr ⟨h,m,rfl⟩))).1
 obtain⟨go,stop⟩:=GA H' i hH
 by_cases hl:ds.length<=i
 .refine .inl ⟨stop hl,?_⟩;rw[List.drop_eq_nil_of_le hl] at e';cases e';exact fin aS rfl kp
 .have cR:=Nat.lt_of_not_le hl;rw[ag8 cR] at e';obtain⟨g1,g2⟩:=go ds[i] (abl cR);refine .inr ⟨g1,λiw H2=>∃z' ρ',Ok X.K H0 S z' (uC z hv++yM z aq) ρ' iw H2/\di g (kM t) f (ds.drop (i+1)) ρ'=some out/\Kp X σ iw,λiw H2 hn=>⟨ds.length-(i+1),by omega,rfl,hn⟩,λx H2 y=>?_⟩;obtain⟨s2,fp,r2,sub⟩:=g2 x H2 y;unfold di at e';cases tM:g ds[i] (kM t) ρ' with
  |none=>rw[tM] at e';cases e'
  |some aR=>
   rw[tM] at e';dsimp only at e';refine sg (tag:=kM t) aS s2 r2 (λa ha j q=>?_) tM λz2 iw iV a3=>?_
   .obtain⟨h,hm,Qo⟩:=sub a ha;obtain⟨_,hz⟩:=aS.hl _ (abp _ (ab1.mpr ⟨h,hm,rfl⟩));obtain⟨q0,_⟩:=hz a Qo j q;obtain⟨o',rfl,hj⟩:=(hh h hm).2 a Qo j q0;exact hj
   .cases hf:f aR with
    |none=>rw[hf] at e';cases e'
    |some o1=>
     rw[hf] at e';refine sb iV hf ?_;cases o1 with
     |nx bg=>exact λz3 cQ H3 iP b=>⟨z3,bg,iP,e',(kp.trans (.off n1 a3.2)).trans b⟩
     |ct bg=>exact λz3 cQ H3 iP b=>⟨z3,bg,iP,e',(kp.trans (.off n1 a3.2)).trans b⟩
     |bk bg=>
      cases e';exact λz3 cQ H3 iP b=>fin iP rfl ((kp.trans (.off n1 a3.2)).trans b)
     |rt d=>
      cases e';cases e;exact k
     |er raw cn bg=>
      cases e';cases e;obtain⟨ES,th,q⟩:=k;exact⟨ES,th,λz3 cQ H3 C iP b hC=>q z3 cQ H3 C (bB.fin iP) ((kp.trans (.off n1 a3.2)).trans b) hC⟩
noncomputable def iF(c:TF)(f:SF):Nat->SF
 |0,_=>none
 |n+1,ρ=>match c ρ with
  |some false=>some (.nx ρ)
  |some true=>match f ρ with
   |some (.nx ρ')=>iF c f n ρ'
   |some (.ct ρ')=>iF c f n ρ'
   |some (.bk ρ')=>some (.nx ρ')
   |some (.rt d)=>some (.rt d)
   |some (.er raw cn ρ')=>some (.er raw cn ρ')
   |none=>none
  |none=>none
theorem Pg(n:Nat)(hc:FT X c tc)(hb:FS X body f)(hp:PassesOwn (model X.prog X.w) X.A X.env X.xe:=by exact PassesOwn.never):eT X (.While c body [] pos) (iF tc f n):=by
 obtain⟨t,p,q⟩:=hc;obtain⟨tb,pb,qb⟩:=hb;exists 23,L7 hp p pb;refine⟨λm az H'=>∃z' ρ',Ok X.K H0 S z' aq ρ' az H'/\iF tc f m ρ'=some o/\Kp X σ az,⟨n,z,ρ,ok,e,.refl _ _⟩,?_⟩
 rintro m az H' ⟨z',ρ',aS,e',kp⟩
 cases m with
 |zero=>cases e'
 |succ m=>
  unfold iF at e';exists hc,tc ρ',b,e';refine q aS hc λH1 s1=>?_
  cases b with
  |false=>
   cases e';rw[if_neg abu];exact k z' az H1 (aS.same s1) kp
  |true=>
   rw[if_pos rfl];dsimp only at e';exists hf,f ρ',o1,e';refine⟨λiw H2=>∃z2 bg,Ok X.K H0 S z2 aq bg iw H2/\iF tc f m bg=some o/\Kp X σ iw,λiw H2 hn=>⟨m,agS m,hn⟩,?_⟩;refine qb (aS.same s1) hf ?_;cases o1 with
   |nx bg=>exact λz3 cQ H3 iP b=>⟨z3,bg,iP,e',kp.trans b⟩
   |ct bg=>exact λz3 cQ H3 iP b=>⟨z3,bg,iP,e',kp.trans b⟩
   |bk bg=>
    cases e';exact λz3 cQ H3 iP b=>k z3 cQ H3 iP (kp.trans b)
   |rt d=>
    cases e';exact k
   |er raw cn bg=>
    cases e';obtain⟨ES,th,q⟩:=k;exact⟨ES,th,λz3 cQ H3 C iP b hC=>q z3 cQ H3 C iP (kp.trans b) hC⟩
def DC(K:PySem.W.Frag)(f:EF):TE:=λσ H Q=>∃H0 S z aq ρ d tg,Ok K H0 S z aq ρ σ H/\f ρ=some (d,tg)/\∀H' v fp,aG H H'->Rep K H' d v fp->cH z H tg fp->Q v H'
def zq(K:PySem.W.Frag)(f:TF):TT:=λσ H Q=>∃H0 S z aq ρ b,Ok K H0 S z aq ρ σ H/\f ρ=some b/\∀H',aG H H'->Q b H'
def C1(K:PySem.W.Frag)(g:GF)(is:List Nat):TG:=λv σ H1 Q=>∃H0 S z aq ρ H d tag fp ρ',Ok K H0 S z aq ρ σ H/\aG H H1/\Rep K H1 d v fp/\cH z H tag fp/\g d tag ρ=some ρ'/\
 ∀z' az,Ok K H0 S z' aq ρ' az H1->(az.length=σ.length/\∀j,j∉is->az[j]? = σ[j]?)->Q az H1
theorem FP.pe(h:FP X e f):PE X e (DC X.K f):=by
 obtain⟨t,p,q⟩:=h
 rintro af s σ H Q I ⟨H0,S,z,aq,ρ,d,tg,ok,e,k⟩
 exact p af s σ H Q I (q ok e k)
theorem FT.pt(h:FT X e f):PT X e (zq X.K f):=by
 obtain⟨t,p,q⟩:=h
 rintro af s σ H Q I ⟨H0,S,z,aq,ρ,b,ok,e,k⟩
 exact p af s σ H Q I (q ok e k)
theorem FG.pg(h:FG X e g is):PG X e (C1 X.K g is):=by
 obtain⟨_,t,p,q⟩:=h
 rintro af s σ H1 v u Q I r ⟨H0,S,z,aq,ρ,H,d,tag,fp,ρ',ok,sm,rp,tk,e,k⟩
 exact p af s σ H1 v u Q I r (q ok sm rp tk e k)
def A3(X:Cx)(ifs:List Expr)(f:TF):Prop:=wU X ifs (zq X.K f)
noncomputable def uw:TF:=λ_=>some true
theorem mP:A3 X [] uw:=by
 rintro af s σ H Q I ⟨H0,S,z,aq,ρ,b,ok,e,k⟩
 cases e;exact wpAny_tests_nil ⟨H,I,k H (aG.refl H)⟩
theorem oY(h:FT X c f):A3 X [c] f:=acG h.pt
noncomputable def jt(js:List (Option Nat))(ρ:aN):aN:=js.map λj=>match j with
 |none=>none
 |some j=>match ρ[j]? with
  |some (some (d,_))=>some (d,.sh [])
  |_=>none
def jf(g:GF)(tt:TF)(te:EF)(ρ:aN)(d:D):Option (Option D):=match g d (.sh []) ρ with
 |none=>none
 |some aR=>match tt aR with
  |none=>none
  |some false=>some none
  |some true=>match te aR with
   |none=>none
   |some (e,t)=>if jQ t=true then some (some e) else if aC e=true then some (some e) else none
noncomputable def nM(h:D->Option (Option D)):List D->Option (List D)
 |[]=>some []
 |d::ds=>match h d with
  |none=>none
  |some none=>nM h ds
  |some (some e)=>match nM h ds with
   |none=>none
   |some es=>some (e::es)
def i9(js:List (Option Nat))(it:IF)(g:GF)(tt:TF)(te:EF):EF:=λρ=>match it ρ with
 |none=>none
 |some (ds,_)=>if ds.length<sizeLine then(nM (jf g tt te (jt js ρ)) ds).map λes=>(.lst es,.own) else none
theorem QH:∀{ds},(∀d∈ds,h d=some (k d))->nM h ds=some (ds.filterMap k)
 |[],_=>rfl
 |d::ds,e=>by
  unfold nM;rw[e d aak,QH λx m=>e x (aaf _ m),ael];cases k d<;>rfl
section
variable{X:Cx}
theorem QV(wA:∀i∈is,js[i]? = some none)
  (si:∀{H0} {S} {z} {aq} {ρ} {σ} {H} {R} {ds} {t},
   Ok X.K H0 S z aq ρ σ H->it ρ=some (ds,t)->(∀H1 J hv,aG H H1->(∀h∈hv,Rep X.K H1 h.d h.v h.fp/\∀a∈h.fp,∀j,z a=some j->∃o,t=.sh o/\j∈o)->sW X.K J ds hv->R J H1)->wi σ H R)
  (ok:Ok X.K H0 S z aq ρ σ H) (e:i9 js it g tt te ρ=some (d,tg))
  (k:∀H' v fp,aG H H'->Rep X.K H' d v fp->cH z H tg fp->Q v H'):IK wi js (C1 X.K g is) (zq X.K tt) (DC X.K te) σ H Q:=by
 unfold i9 at e;cases h:it ρ with
 |none=>rw[h] at e;cases e
 |some w=>
  obtain⟨ds,t⟩:=w;rw[h] at e;exists 59
  by_cases hz:ds.length<sizeLine
  .rw[if_pos hz] at e;cases Fz:nM (jf g tt te (jt js ρ)) ds with
   |none=>rw[Fz] at e;cases e
   |some es=>
    rw[Fz] at e;cases e;refine si ok h λH1 J hv s1 hh GA Dd vX=>?_
    have bB:=ok.same s1;have inner:∀(az) (H2),aG H1 H2->(∃o,H2 Dd=some o)->az.length=js.length->(∀j,j∉is->az[j]? = (lT js σ)[j]?)->Ok X.K H1 [] (λa=>if a=Dd then some js.length else none) (uC (λ_=>none) hv) (jt js ρ) az H2:=by
     intro az H2 s2 DB hlen Bv;have nD:∀{a} {o},H1 a=some o->a≠Dd:=λe=>cZ e vX
     refine⟨λi d t e=>?_,λp m=>?_,λa j e=>?_,λa o e _=>s2 _ _ e,by unfold jt;rw[List.length_map,hlen]⟩
     .unfold jt at e;rw[acn] at e;cases hj:js[i]? with
      |none=>rw[hj] at e;cases e
      |some o=>
       rw[hj] at e;cases o with
       |none=>cases e
       |some j=>
        have e:(match ρ[j]? with|some (some (d,_))=>some (d,Tag.sh [])|_=>none)=some (d,t):=ab4 e;cases hr:ρ[j]? with
        |none=>rw[hr] at e;cases e
        |some s=>
         rw[hr] at e;cases s with
         |none=>cases e
         |some p=>
          obtain⟨d0,t0⟩:=p;have e1:d0=d/\Tag.sh []=t:=Prod.mk.inj (ab4 e);obtain⟨rfl,rfl⟩:=e1;obtain⟨v,fp,hs,r,_⟩:=bB.sl j d0 t0 hr;have hi:i∉is:=λm=>by rw[wA i m] at hj;cases hj
          refine⟨v,fp,?_,r.same s2,λa m q e=>?_⟩
          .rw[Bv i hi];unfold lT;rw[acn,hj];show some ((σ[j]?).join)=some (some v);rw[hs];rfl
          .obtain⟨o,w,_⟩:=r.cB a m;exists 59;rw[if_neg (nD w)] at e;cases e
     .obtain⟨h,hm,rfl⟩:=ab1.mp m;refine⟨(hh h hm).1.same s2,λa ha q e=>?_⟩;obtain⟨o,w,_⟩:=(hh h hm).1.cB a ha;rw[if_neg (nD w)] at e;cases e
     .by_cases w:a=Dd
      .rw[w];exact⟨DB,.inl vX⟩
      .rw[if_neg w] at e;cases e
    refine⟨λi m az H'=>m=ds.length - i/\aG H1 H'/\az.length=js.length/\(∀j,j∉is->az[j]? = (lT js σ)[j]?)/\∃done rest vs fp,H' Dd=some (.lst vs)/\aB X.K H' done vs fp/\fp.Nodup/\(∀a∈fp,H1 a=none/\a≠Dd)/\
     nM (jf g tt te (jt js ρ)) (ds.drop i)=some rest/\done++rest=es/\done.length<=i,?_,?_⟩
    .refine⟨ds.length,rfl,λb o e=>by rw[aO (cZ e vX)];exact e,by unfold lT;rw[List.length_map],λ_ _=>rfl,[],es,[],[],cz,.nil,acm,(λa m=>nomatch m),Fz,rfl,abW _⟩
    .rintro i m az H' ⟨rfl,sH,hlen,Bv,done,rest,vs,fp,hD,rs,nd,fr,hr,rfl,hle⟩
     obtain⟨go,stop⟩:=GA H' i λh m=>(hh h m).1.same sH
     by_cases hl:ds.length<=i
     .refine .inl ⟨stop hl,?_⟩;rw[List.drop_eq_nil_of_le hl] at hr;cases hr;rw[acI] at k;refine k H' (.ref Dd) (Dd::fp) (s1.trans sH) (.lst hD rs) ⟨abZ.mpr ⟨λm=>(fr Dd m).2 rfl,nd⟩,λa m=>?_⟩;rcases aaQ.mp m with e|m
      .rw[e];exact s1.free vX
      .exact s1.free (fr a m).1
     .have cR:i<ds.length:=Nat.lt_of_not_le hl;rw[ag8 cR] at hr;obtain⟨g1,g2⟩:=go ds[i] (abl cR);refine .inr ⟨g1,λx H2 y=>?_⟩;obtain⟨s2,l6,r2,sub⟩:=g2 x H2 y;have nN:=inner az H' sH ⟨_,hD⟩ hlen Bv;unfold nM at hr;cases hE:jf g tt te (jt js ρ) ds[i] with
      |none=>rw[hE] at hr;cases hr
      |some oe=>
       rw[hE] at hr;unfold jf at hE;cases tM:g ds[i] (.sh []) (jt js ρ) with
       |none=>rw[tM] at hE;cases hE
       |some aR=>
        rw[tM] at hE;dsimp only at hE;have tko:cH (λa=>if a=Dd then some js.length else none) H' (.sh []) l6:=λa m j e=>by
         obtain⟨h,hm,ha⟩:=sub a m;obtain⟨o,w,_⟩:=(hh h hm).1.cB a ha;exists 59;rw[if_neg (cZ w vX)] at e;cases e
        refine⟨H1,[],_,_,jt js ρ,H',ds[i],.sh [],l6,aR,nN,s2,r2,tko,tM,λz3 cQ iV Le=>?_⟩;have NH:cQ.length=js.length:=Le.1.trans hlen;have Q7:∀j,j∉is->cQ[j]? = (lT js σ)[j]? :=λj hj=>(Le.2 j hj).trans (Bv j hj)
        cases ht:tt aR with
        |none=>rw[ht] at hE;cases hE
        |some b=>
         rw[ht] at hE;refine⟨H1,[],z3,_,aR,b,iV,ht,λH4 s4=>?_⟩;have Eu:aG H1 H4:=(sH.trans s2).trans s4;have xF:aG H' H4:=s2.trans s4;cases b with
         |false=>
          cases hE;refine acB ?_;exact⟨ds.length-(i+1),by lia,rfl,Eu,NH,Q7,done,rest,vs,fp,xF _ _ hD,rs.same xF,nd,fr,hr,rfl,Nat.le_succ_of_le hle⟩
         |true=>
          refine aed ?_;dsimp only at hE;cases HW:te aR with
          |none=>rw[HW] at hE;cases hE
          |some w=>
           obtain⟨y,ty⟩:=w;rw[HW] at hE;dsimp only at hE;refine⟨H1,[],z3,_,aR,y,ty,iV.same s4,HW,λH5 yv fy s5 ry gy=>?_⟩;have xq:oe=some y/\fy.Nodup/\∀a∈fy,H4 a=none:=by
            by_cases ho:jQ ty=true
            .rw[if_pos ho] at hE;cases hE;exact⟨rfl,by cases ty<;>first|exact gy|cases ho⟩
            .rw[if_neg ho] at hE
             by_cases hi:aC y=true
             .rw[if_pos hi] at hE;cases hE;have hn:=ry.aC hi;subst hn;exact⟨rfl,acm,λa m=>nomatch m⟩
             .rw[if_neg hi] at hE;cases hE
           obtain⟨rfl,WH,Gx⟩:=xq;dsimp only at hr;cases x6:nM (jf g tt te (jt js ρ)) (ds.drop (i+1)) with
           |none=>rw[x6] at hr;cases hr
           |some r'=>
            rw[x6] at hr;cases hr;have Qg:aG H' H5:=xF.trans s5;have NB:H5 Dd=some (.lst vs):=Qg _ _ hD;have lv:vs.length<sizeLine:=by rw[<- rs.length];lia
            have im:aX H5 (upd H5 Dd (.lst (vs++[yv]))):=aX.upd NB rfl;have n1:∀a∈fp++fy,a≠Dd:=λa m=>by
             rcases abB.mp m with m|m
             .exact(fr a m).2
             .intro e;have:=Gx a m;rw[e,xF _ _ hD] at this;cases this
            have rs5:aB X.K H5 (done++[y]) (vs++[yv]) (fp++fy):=by
             have q:=aB.append (rs.same Qg) (aB.cons ry .nil);rw[acI] at q;exact q
            refine⟨vs,NB,lv,ds.length-(i+1),by lia,rfl,λb o e=>?_,NH,Q7,done++[y],r',vs++[yv],fp++fy,cz,rs5.frame (λa m=>aO (n1 a m)) im,?_,λa m=>?_,x6,?_,?_⟩
            .rw[aO (cZ e vX)];exact s5 _ _ (Eu _ _ e)
            .refine ac3.mpr ⟨nd,WH,λa m b m' e=>?_⟩;subst e;obtain⟨o,w,_⟩:=(rs.same xF).cB a m;rw[Gx a m'] at w;cases w
            .refine⟨?_,n1 a m⟩;rcases abB.mp m with m|m
             .exact(fr a m).1
             .exact Eu.free (Gx a m)
            .rw[afi];rfl
            .rw[abR,aek];lia
  .rw[if_neg hz] at e;cases e
theorem j9{ifs:List Expr}{tt:TF}{te:EF}{is:List Nat}(S:oV X M js sc)(hc:X.calm=true)(hi:FI X tg iter it)(wA:∀i∈is,js[i]? = some none)
  (hb:∀s3 H3 fp,FG (fC X M sc s3 H3 fp) tg g is/\A3 (fC X M sc s3 H3 fp) ifs tt/\FP (fC X M sc s3 H3 fp) elt te) (hs:∀x,foldedSetIterable iter X.env x=pure x:=by intro _;rfl) :
  FP X (.ListComp elt [⟨tg,iter,ifs,0⟩] sc pos) (i9 js it g tt te):=by
 obtain⟨wi,pi,si⟩:=hi;exact⟨_,YR (tt:=zq X.K tt) S hc pi (λs3 H3 fp=>⟨(hb s3 H3 fp).1.pg,(hb s3 H3 fp).2.1,(hb s3 H3 fp).2.2.pe⟩) hs,@λH0 S z aq ρ σ H Q d tg ok e k=>QV wA si ok e k⟩
theorem vm(i:Nat){ifs:List Expr}{js:List (Option Nat)}{it:IF}{is:List Nat}(hN:X.N.Nodup)(S:oV X M js sc)(hc:X.calm=true)(hi:FI X tg iter it)
  (wA:∀i∈is,js[i]? = some none) (hb:∀s3 H3 fp,FG (fC X M sc s3 H3 fp) tg g is/\A3 (fC X M sc s3 H3 fp) ifs tt/\FP (fC X M sc s3 H3 fp) elt te) (hy:X.N[i]? = some y:=by rfl) (hl:X.env.scope.names.lookup y=some .local:=by rfl)
  (kq:swapsWith (.ListComp elt [⟨tg,iter,ifs,0⟩] sc pos) (some (.Name y py)) IS.line X.env=pure true:=by rfl) (hs:∀x,foldedSetIterable iter X.env x=pure x:=by intro _;rfl) (kZ:j8 X y=false:=by rfl) :
  eT X (.Assign [.Name y py] (.ListComp elt [⟨tg,iter,ifs,0⟩] sc pos) IS) (dF i (i9 js it g tt te)):=by
 obtain⟨wi,pi,si⟩:=hi;exists 23,abb (g:=C1 X.K g is) (tt:=zq X.K tt) (te:=DC X.K te) hN hy hl S hc pi (λs3 H3 fp=>⟨(hb s3 H3 fp).1.pg,(hb s3 H3 fp).2.1,(hb s3 H3 fp).2.2.pe⟩) kq hs;unfold dF at e;exists h,i9 js it g tt te ρ,w,e,0;obtain⟨d,tg⟩:=w;rw[h] at e;cases e;refine QV wA si ok h λH1 v fp s1 r1 g1=>?_
 exact ok.stored s1 r1 g1 λz' aS=>k z' _ H1 aS (.set hy kZ)
end
noncomputable def vL(n:Nat)(ds:List D):aN:=ds.map (λd=>some (d,.sh []))++List.replicate (n-ds.length) none
def bJ(n N:Nat)(b:SF):List D->Option D:=λds=>if ds.length=n then(match b (vL N ds) with
 |some (.rt d)=>some d
 |some (.nx _)=>some .aA
 |_=>none) else none
noncomputable abbrev CF:=List D->List D->Option D
noncomputable def Aw(N:Nat)(es ds:List D):aN:=es.map (λd=>some (d,.own))++(ds.map (λd=>some (d,.sh []))++List.replicate (N-(ds.length+es.length)) none)
def runC(n N:Nat)(b:SF):CF:=λes ds=>if ds.length + es.length=n then(match b (Aw N es ds) with
 |some (.rt d)=>some d
 |some (.nx _)=>some .aA
 |_=>none) else none
def spC(K:PySem.W.Frag)(G:CF):Sp:=λvs H Q _=>∃us ws es ds bH fS d,vs=us++ws/\aB K H es us bH/\bH.Nodup/\aB K H ds ws fS/\(∀b∈fS,b∉bH)/\G es ds=some d/\
 ∀H' v fp,(∀a o,H a=some o->a∉bH->H' a=some o)->Rep K H' d v fp->fp.Nodup->(∀a∈fp,H a=none\/a∈bH)->Q v H'
theorem aB.own{K:PySem.W.Frag}:∀{es} {us} {fp} (k),aB K H es us fp->fp.Nodup->∃z:Addr->Option Nat,(∀i d,es[i]? = some d->∃v f,us[i]? = some v/\Rep K H d v f/\f.Nodup/\∀a∈f,z a=some (k+i))/\∀a j,z a=some j->a∈fp
 |_,_,_,_,.nil,_=>⟨λ_=>none,λi d e=>by simp at e,λ_ _ e=>nomatch e⟩
 |_,_,_,k,.cons (f1:=f1) (f2:=f2) r t,n=>by
  classical
  obtain⟨n1,n2,n3⟩:=ac3.mp n;obtain⟨z,h1,h2⟩:=t.own (k+1) n2;refine⟨λa=>if a∈f1 then some k else z a,λi d e=>?_,λa j e=>?_⟩
  .cases i with
   |zero=>cases e;exact⟨_,f1,rfl,r,n1,λa m=>if_pos m⟩
   |succ i=>
    obtain⟨v,f,a1,a2,a3,a4⟩:=h1 i d e;exact⟨v,f,a1,a2,a3,λa m=>(if_neg λq=>n3 a q a (h2 a _ (a4 a m)) rfl).trans ((a4 a m).trans (by rw[Nat.add_assoc,Nat.add_comm 1]))⟩
  .dsimp only at e
   split at e
   .exact abp _ (by assumption)
   .exact aaw _ (h2 a j e)
section
variable{K:PySem.W.Frag}
theorem Ok.kC{H:Hp}(r0:aB K H es us bH)(nd:bH.Nodup)(rs:aB K H ds ws fS)(dj:∀b∈fS,b∉bH):∃z,Ok K H bH z [] (Aw N.length es ds) (start N (us++ws)) H:=by
 obtain⟨z,h1,h2⟩:=r0.own 0 nd;have l0:=r0.length;have l1:=rs.length;unfold Aw start;rw[adh,afi];refine⟨z,λi d' t' e'=>?_,(λp m=>by cases m),(λa j e=>⟨let⟨o,w,_⟩:=r0.cB a (h2 a j e);⟨o,w⟩,.inr (h2 a j e)⟩),(λa o e _=>e),?_⟩
 .by_cases hi:i<es.length
  .rw[aea (by rw[List.length_map];exact hi),acn,abl hi] at e';cases e';obtain⟨v,g,hv,rv,n',hz⟩:=h1 i _ (abl hi);rw[ahd] at hz;exact⟨v,g,(aea (by rw[List.length_map];lia)).trans (by rw[acn,hv];rfl),rv,n',hz⟩
  .rw[aeL (by rw[List.length_map];lia),List.length_map] at e';rw[aeL (by rw[List.length_map];lia),List.length_map,<- l0];generalize i-es.length=i at e' ⊢
   by_cases hi:i<ds.length
   .rw[aea (by rw[List.length_map];exact hi),acn,abl hi] at e';cases e';obtain⟨v,g,hv,rv,sub⟩:=rs.get (abl hi);exact⟨v,g,(aea (by rw[List.length_map];lia)).trans (by rw[acn,hv];rfl),rv,λa m j e=>(dj a (sub a m) (h2 a j e)).elim⟩
   .rw[aeL (by rw[List.length_map];lia),agQ] at e'
    split at e'<;>cases e'
 .simp only[abR,List.length_map,List.length_replicate]
  lia
theorem adm{st:Stmt}(F:i_ K x qual st f fd)(S:nU N ps (ck st))
  (hb:∀(aQ:{c:Value // c=fd.code}) (A) (outer) (s) (H) (E),bh k (A.deeper (envOfC qual (ck st) s.heap.objs.size f aQ)) cm->FS (fU c_ P w K mg base N qual (ck st) f aQ A outer s H E cm).eZ (gI st) b) :
  bU P w K mg base c_ (k+1) f fd ps (spC K (runC ps.length N.length b)) cm:=by
 refine F.ok S (λvs H Q E h=>?_) (λaQ A outer s H vs Q E hr h=>?_)<;>obtain⟨us,ws,es,ds,bH,fS,d,e0,r0,nd,rs,dj,e,q⟩:=h
 .unfold runC at e
  split at e
  .rename_i h;rw[e0,abR,<- r0.length,<- rs.length,Nat.add_comm,h]
  .cases e
 .obtain⟨t,p,sd⟩:=hb aQ A outer s H E hr;refine⟨t,p,?_⟩;obtain⟨z,ok⟩:=Ok.kC r0 nd rs dj;rw[e0];unfold runC at e
  split at e
  .cases ho:b (Aw N.length es ds) with
   |none=>rw[ho] at e;cases e
   |some o=>
    rw[ho] at e;refine sd ok ho ?_;cases o with
    |rt d'=>cases e;exact q
    |nx ρ'=>cases e;exact λz' az H' aS _=>q H' .aA [] aS.en .aA acm λa m=>nomatch m
    |bk _=>cases e
    |ct _=>cases e
    |er _ _ _=>cases e
  .cases e
theorem Ld{st:Stmt}(F:i_ K x qual st f fd)(S:nU N ps (ck st))
  (hb:∀(aQ:{c:Value // c=fd.code}) (A) (outer) (s) (H) (E),bh k (A.deeper (envOfC qual (ck st) s.heap.objs.size f aQ)) cm->FS (fU c_ P w K mg base N qual (ck st) f aQ A outer s H E cm).eZ (gI st) b) :
  bU P w K mg base c_ (k+1) f fd ps (bx K (bJ ps.length N.length b)) cm:=
 (adm F S hb).imp λvs H Q E ⟨ds,fp,d,rs,e,q⟩=>⟨[],vs,[],ds,[],fp,d,rfl,.nil,.nil,rs,(λ_ _ m=>nomatch m),e,λH' v fp en r n fr=>q H' v fp (λa o e=>en a o e λm=>nomatch m) r n λa m=>(fr a m).resolve_right λm=>nomatch m⟩
end
noncomputable def uZ(f:Int->Int->Int):D->D->Option D
 |.int i,.int j=>some (.int (f i j))
 |_,_=>none
noncomputable def x_(C:Int->Int->Bool)(f:Int->Int->Int):D->D->Option D
 |.int i,.int j=>if C i j=true then some (.int (f i j)) else none
 |_,_=>none
noncomputable def vY(f:Int->Int->Bool):D->D->Option D
 |.int i,.int j=>some (.bl (f i j))
 |_,_=>none
noncomputable def rJ(i j:Int):Bool:=(decide (-(2 ^ 64)<i)&&decide (i<2 ^ 64))||(decide (-(2 ^ 64)<j)&&decide (j<2 ^ 64))
noncomputable def Jx(_ j:Int):Bool:=decide (0<j)
def iN:=uZ λi j=>i+j
def j6:=uZ λi j=>i-j
def wX:=x_ rJ λi j=>i*j
def oMod:=x_ Jx λi j=>i % j
def oLt:=vY λi j=>decide (i<j)
def oLe:=vY λi j=>decide (i<=j)
def qv:=vY λi j=>decide (j<i)
def Ad:=vY λi j=>decide (j<=i)
noncomputable def oEq:D->D->Option D
 |.int i,.int j=>some (.bl (i==j))
 |.bl i,.bl j=>some (.bl (i==j))
 |.str i,.str j=>some (.bl (i==j))
 |.aA,.aA=>some (.bl true)
 |_,_=>none
noncomputable def jC:D->D->Option D
 |.int i,.int j=>some (.bl (!(i==j)))
 |.bl i,.bl j=>some (.bl (!(i==j)))
 |.str i,.str j=>some (.bl (!(i==j)))
 |.aA,.aA=>some (.bl false)
 |_,_=>none
noncomputable def nH:D->Bool
 |.aA=>true
 |_=>false
def gR:D->D->Option D
 |d,.aA=>some (.bl (nH d))
 |_,_=>none
def Cz:D->D->Option D
 |d,.aA=>some (.bl (!nH d))
 |_,_=>none
section
variable{K:PySem.W.Frag}
theorem PL:gz K (nu λi j=>.int (g i j)) (uZ g):=by
 exists 41;unfold uZ at e
 split at e
 .cases e;exact⟨_,_,r1.iA.1,r2.iA.1,k H _ (aG.refl H) (.int _)⟩
 .cases e
theorem o_:gz K (nu λi j=>.bl (g i j)) (vY g):=by
 exists 41;unfold vY at e
 split at e
 .cases e;exact⟨_,_,r1.iA.1,r2.iA.1,k H _ (aG.refl H) (.bl _)⟩
 .cases e
theorem JB(h:∀i j,c i j=true->C i j):gz K (rI C λi j=>.int (g i j)) (x_ c g):=by
 exists 41;unfold x_ at e
 split at e
 .rename_i i j;obtain⟨hc,e⟩:=ci e;cases e;exact⟨i,j,r1.iA.1,r2.iA.1,h i j hc,k H _ (aG.refl H) (.int _)⟩
 .cases e
theorem ZJ(i j:Int)(h:rJ i j=true):yQ i j:=by
 unfold rJ at h;unfold yQ;rcases(ahi _ _).mp h with h|h
 .obtain⟨a,b⟩:=(abe _ _).mp h;exact .inl ⟨aa9 a,aa9 b⟩
 .obtain⟨a,b⟩:=(abe _ _).mp h;exact .inr ⟨aa9 a,aa9 b⟩
theorem C7:gz K Lw oEq:=by
 exists 41;unfold oEq at e
 split at e
 .cases e;rw[r1.iA.1,r2.iA.1];refine⟨rfl,?_⟩;rw[zH];exists 48
 .cases e;rw[r1.z_.1,r2.z_.1];refine⟨rfl,?_⟩;rw[Cr];exists 48
 .cases e;rw[r1.xm.1,r2.xm.1];refine⟨rfl,?_⟩;rw[Ae];exists 48
 .cases e;rw[r1.CB.1,r2.CB.1];exact⟨rfl,by have:=k H (.bl true) (aG.refl H) (.bl _);simpa using this⟩
 .cases e
theorem Qn:gz K KR jC:=by
 exists 41;unfold jC at e
 split at e
 .cases e;rw[r1.iA.1,r2.iA.1];refine⟨rfl,?_⟩;rw[zH];exists 48
 .cases e;rw[r1.z_.1,r2.z_.1];refine⟨rfl,?_⟩;rw[Cr];exists 48
 .cases e;rw[r1.xm.1,r2.xm.1];refine⟨rfl,?_⟩;rw[Ae];exists 48
 .cases e;rw[r1.CB.1,r2.CB.1];exact⟨rfl,by have:=k H (.bl false) (aG.refl H) (.bl _);simpa using this⟩
 .cases e
theorem Rep.nH(r:Rep K H d v fp):decide (v=.aA)=nH d:=by
 cases r<;>first|rfl|exact abV (λe=>nomatch e)
theorem Gf:gz K (λx y H Q=>y=.aA/\Q (.bl (decide (x=.aA))) H) gR:=by
 exists 41;unfold gR at e
 split at e
 .cases e;cases r2;refine⟨rfl,?_⟩;rw[r1.nH];exists 48
 .cases e
theorem aeQ:gz K (λx y H Q=>y=.aA/\Q (.bl (!decide (x=.aA))) H) Cz:=by
 exists 41;unfold Cz at e
 split at e
 .cases e;cases r2;refine⟨rfl,?_⟩;rw[r1.nH];exists 48
 .cases e
end
section
variable{X:Cx}
theorem fY(ha:FP X a fa)(hb:FP X b fb):FP X (.BinOp a .Add b pos) (e2 iN fa fb):=xE VX PL ha hb
theorem uX(ha:FP X a fa)(hb:FP X b fb):FP X (.BinOp a .Sub b pos) (e2 j6 fa fb):=xE af5 PL ha hb
theorem vF(ha:FP X a fa)(hb:FP X b fb):FP X (.BinOp a .Mult b pos) (e2 wX fa fb):=xE Y0 (JB ZJ) ha hb
theorem yh(ha:FP X a fa)(hb:FP X b fb):FP X (.BinOp a .Mod b pos) (e2 oMod fa fb):=xE aaL (JB λ_ _ h=>aa9 h) ha hb
theorem pR(ha:FP X a fa)(hb:FP X b fb):FT X (.Compare a [.Lt] [b] pos) (tV (e2 oLt fa fb)):=jg Ph o_ ha hb (ie _)
theorem Yt(ha:FP X a fa)(hb:FP X b fb):FT X (.Compare a [.LtE] [b] pos) (tV (e2 oLe fa fb)):=jg zF o_ ha hb (ie _)
theorem yC(ha:FP X a fa)(hb:FP X b fb):FT X (.Compare a [.Gt] [b] pos) (tV (e2 qv fa fb)):=jg KA o_ ha hb (ie _)
theorem Al(ha:FP X a fa)(hb:FP X b fb):FT X (.Compare a [.GtE] [b] pos) (tV (e2 Ad fa fb)):=jg adn o_ ha hb (ie _)
theorem f_(ha:FP X a fa)(hb:FP X b fb):FT X (.Compare a [.Eq] [b] pos) (tV (e2 oEq fa fb)):=jg Ge C7 ha hb (ie _)
theorem mF(ha:FP X a fa)(hb:FP X b fb):FT X (.Compare a [.NotEq] [b] pos) (tV (e2 jC fa fb)):=jg MX Qn ha hb (ie _)
theorem zB(ha:FP X a fa)(hb:FP X b fb):FT X (.Compare a [.Is] [b] pos) (tV (e2 gR fa fb)):=jg JT Gf ha hb (ie _)
theorem Yd(ha:FP X a fa)(hb:FP X b fb):FT X (.Compare a [.IsNot] [b] pos) (tV (e2 Cz fa fb)):=jg afF aeQ ha hb (ie _)
theorem yj(ha:FP X a fa)(hb:FP X b fb):FP X (.Compare a [.Eq] [b] pos) (e2 oEq fa fb):=nG Ge C7 ha hb (ie _)
noncomputable def e1(op:D->Option D)(fa:EF):EF:=λρ=>match fa ρ with
 |some (d1,_)=>(op d1).map λd=>(d,.own)
 |none=>none
theorem rR(e:e1 op fa ρ=some (d,tg)):∃d1 t1,fa ρ=some (d1,t1)/\op d1=some d/\tg=.own:=by
 unfold e1 at e;exists h1,fa ρ,p,e,0;obtain⟨d1,t1⟩:=p;rw[h1] at e;exists 59;exists h3,op d1,d3,e;cases e;exact⟨d1,t1,rfl,h3,rfl⟩
def n5(K:PySem.W.Frag)(r:List V->Hp->VK->Prop)(op:D->Option D):Prop:=∀(H) (x) (d1) (f1) (d) (Q),Rep K H d1 x f1->op d1=some d->
 (∀H' v fp,aG H H'->Rep K H' d v fp->fp.Nodup->(∀a∈fp,H a=none)->Q v H')->r [x] H Q
theorem fp_1(dd:n5 X.K r op)(ha:FP X a fa)(he:∀ta,PE X a ta->PE X e (GH r (Nb ta Cc))):FP X e (e1 op fa):=by
 exists 58;exists 21,he t p;obtain⟨d1,t1,h1,h2,rfl⟩:=rR e;refine q ok h1 λH1 x f1 s1 r1 _=>?_
 exact dd H1 x d1 f1 d Q r1 h2 λH2 v fp s2 r2 nd fr=>k H2 v fp (s1.trans s2) r2 ⟨nd,λa m=>s1.free (fr a m)⟩
noncomputable def d7:D->Option D
 |.lst ds=>some (.int ds.length)
 |.gG ds=>some (.int ds.length)
 |.tup ds=>some (.int ds.length)
 |.bO es=>some (.int es.length)
 |_=>none
theorem f7.or'(h:f7 X f r)(h':f7 X f r'):f7 X f (λxs H Q=>r xs H Q\/r' xs H Q):=by
 intro af s σ H xs us Q I rv q;rcases q with q|q
 .exact h af s σ H xs us Q I rv q
 .exact h' af s σ H xs us Q I rv q
theorem abG:n5 X.K (λxs H Q=>(∃p ys,xs=[V.ref p]/\(b7 X.K H p ys\/cj X.K H p ys)/\Q (.int ys.length) H)\/(∃a ak,xs=[V.ref a]/\H a=some (.dK ak)/\Q (.int ak.length) H)) d7:=by
 intro H x d1 f1 d Q r e k;have fin:∀n:Nat,d=.int n->Q (.int n) H:=λn e=>by subst e;exact k H _ [] (aG.refl H) (.int _) acm λa m=>nomatch m
 cases d1 with
 |lst ds=>
  exists 66;cases e;exact .inl ⟨a,xs,rfl,.inl hq,by rw[<- rs.length];exact fin _ rfl⟩
 |gG ds=>
  obtain⟨a,xs,rfl,hq,rs⟩:=r.tK;cases e;exact .inl ⟨a,xs,rfl,.inl hq,by rw[<- rs.length];exact fin _ rfl⟩
 |tup ds=>
  obtain⟨a,xs,rfl,hq,rs⟩:=r.jh;cases e;exact .inl ⟨a,xs,rfl,.inr hq,by rw[<- rs.length];exact fin _ rfl⟩
 |bO es=>
  cases r with
  |bO h hk rs=>
   cases e;refine .inr ⟨_,_,rfl,h,?_⟩;have hl:=congrArg List.length hk;rw[List.length_map,List.length_map] at hl;rw[<- hl];exact fin _ rfl
 |_=>cases e
theorem dX(hm:X.mg "len"=none)(ha:FP X a fa)(hg:Gl X "len":=by rfl)(hs:Y1 X a:=by rfl):FP X (.Call (.Name "len" p) [a] [] pos) (e1 d7 fa):=
 fp_1 abG ha λta pa=>lY (f7.or' Z8 aey) hg hm PySem.boot_len (cP pa eW hs) (he:=hs)
def qQ:D->Option D
 |.lst ds=>if aM ds=true then some (.lst ds) else none
 |.tup ds=>if aM ds=true then some (.lst ds) else none
 |_=>none
theorem Ss:n5 X.K (λxs H Q=>∃p ys,xs=[V.ref p]/\(b7 X.K H p ys\/cj X.K H p ys)/\∀l,H l=none->Q (.ref l) (upd H l (.lst ys))) qQ:=by
 intro H x d1 f1 d Q r e k;have fin:∀{ds} {xs} {f},aB X.K H ds xs f->(if aM ds=true then some (D.lst ds) else none)=some d->∀l,H l=none->Q (.ref l) (upd H l (.lst xs)):=λ{ds xs f} rs e l hl=>by
  obtain⟨hi,e⟩:=ci e;cases e;have hn:=rs.aC hi;subst hn;have s2:aG H (upd H l (.lst xs)):=λb o e=>by rw[aO (cZ e hl)];exact e
  exact k _ _ [l] s2 (.lst cz (rs.same s2)) (abZ.mpr ⟨(λm=>by cases m),acm⟩) λa m=>by cases aaB.mp m;exact hl
 cases d1 with
 |lst ds=>
  exists 66;exact⟨a,xs,rfl,.inl hq,fin rs e⟩
 |tup ds=>
  obtain⟨a,xs,rfl,hq,rs⟩:=r.jh;exact⟨a,xs,rfl,.inr hq,fin rs e⟩
 |_=>cases e
theorem iY(hm:X.mg "list"=none)(ha:FP X a fa)(hg:Gl X "list":=by rfl)(hs:Y1 X a:=by rfl):FP X (.Call (.Name "list" p) [a] [] pos) (e1 qQ fa):=
 fp_1 Ss ha λta pa=>Jo SG hg hm (by rfl) (cP pa eW hs) (he:=hs)
end
def dW:D->D->Option D
 |.gG ds,.int i=>(dQ ds i).bind λd=>if aC d=true then some d else none
 |.lst ds,.int i=>(dQ ds i).bind λd=>if aC d=true then some d else none
 |.tup ds,.int i=>(dQ ds i).bind λd=>if aC d=true then some d else none
 |_,_=>none
theorem acR{K:PySem.W.Frag}:gz K (λx y H Q=>IX K x y H Q\/DS K x y H Q\/G7 x y H Q) dW:=by
 exists 41;have key:∀{ds} {xs} {f} {i},aB K H ds xs f->((dQ ds i).bind λd=>if aC d=true then some d else none)=some d->∃v,dQ xs i=some v/\Rep K H d v []:=λ{ds xs f i} rs e=>by
  unfold dQ at e ⊢;rw[<- rs.length];exists h,lu ds.length i,j,e,0;rw[h,adb] at e;rw[adb];exists h2,ds[j]?,d',e,0;rw[h2,adb] at e
  by_cases hi:aC d'=true
  .rw[if_pos hi] at e;cases e;obtain⟨v,f',hv,rv,_⟩:=rs.get h2;have hn:=rv.aC hi;subst hn;exact⟨v,hv,rv⟩
  .rw[if_neg hi] at e;cases e
 unfold dW at e
 split at e
 .obtain⟨a,xs,rfl,hq,rs⟩:=r1.tK;obtain⟨v,hv,rv⟩:=key rs e;exact .inl ⟨a,xs,_,v,rfl,r2.iA.1,hq,hv,k H v (aG.refl H) rv⟩
 .obtain⟨a,xs,f,rfl,hq,rs,_⟩:=r1.dZ;obtain⟨v,hv,rv⟩:=key rs e;exact .inl ⟨a,xs,_,v,rfl,r2.iA.1,hq,hv,k H v (aG.refl H) rv⟩
 .obtain⟨a,xs,rfl,hq,rs⟩:=r1.jh;obtain⟨v,hv,rv⟩:=key rs e;exact .inr (.inl ⟨a,xs,_,v,rfl,r2.iA.1,hq,hv,k H v (aG.refl H) rv⟩)
 .cases e
theorem fq(ha:FP X a fa)(hb:FP X b fb)(hs:Ji b:=by exact λ_ _=>rfl):FP X (.Subscript a b pos) (e2 dW fa fb):=fp_2 acR ha hb λ_ _ pa pb=>MB OS pa pb hs
theorem CU:eC d ρ=some (d,.own):=rfl
noncomputable def k1(op:D->Option D):Option (D×Tag)->Option (D×Tag)
 |some (d,_)=>(op d).map λd=>(d,.own)
 |none=>none
theorem xZ:e1 G9 fa ρ=k1 G9 (fa ρ):=by unfold e1 k1;cases fa ρ<;>rfl
theorem OX:k1 G9 (some (d,t))=(G9 d).map λd=>(d,.own):=rfl
noncomputable def k2(op:D->D->Option D):Option (D×Tag)->Option (D×Tag)->Option (D×Tag)
 |some (d1,_),some (d2,_)=>(op d1 d2).map λd=>(d,.own)
 |_,_=>none
theorem ki:e2 Dy fa fb ρ=k2 Dy (fa ρ) (fb ρ):=by unfold e2 k2;cases fa ρ<;>cases fb ρ<;>rfl
theorem yi:k2 Dy (some (d1,t1)) (some (d2,t2))=(Dy d1 d2).map λd=>(d,.own):=rfl
theorem MQ:(some a).map f=some (f a):=rfl
noncomputable def kV:Option (D×Tag)->Option Bool
 |some (.bl b,_)=>some b
 |_=>none
theorem wQ:tV fa ρ=Ev.kV (fa ρ):=by
 unfold tV Ev.kV;cases fa ρ with
 |none=>rfl
 |some p=>obtain⟨d,t⟩:=p;cases d<;>rfl
theorem Lc(h:tf ρ=some true):jq tf tg ρ=tg ρ:=by unfold jq;rw[h]
theorem qL(h:tf ρ=some false):jU tf tg ρ=tg ρ:=by unfold jU;rw[h]
theorem ua(h:tf ρ=some a)(h2:tg ρ=some b):jq tf tg ρ=some (a&&b):=by unfold jq;rw[h];cases a<;>first|exact h2|rfl
theorem wY(h:tf ρ=some a)(h2:tg ρ=some b):jU tf tg ρ=some (a||b):=by unfold jU;rw[h];cases a<;>first|exact h2|rfl
theorem F3:lE tf ρ=(tf ρ).map λb=>!b:=rfl
theorem UX:gP ρ=some (.nx ρ):=rfl
noncomputable def Bf(g:SF):Option Out->Option Out
 |some (.nx ρ)=>g ρ
 |o=>o
theorem jI:bZ sf sg ρ=Bf sg (sf ρ):=by
 unfold bZ Bf;cases sf ρ with
 |none=>rfl
 |some o=>cases o<;>rfl
theorem nJ:Bf sg (some (.nx ρ))=sg ρ:=rfl
noncomputable def zZ(sf sg:SF)(ρ:aN):Option Bool->Option Out
 |some true=>sf ρ
 |some false=>sg ρ
 |none=>none
theorem iW:eX tf sf sg ρ=zZ sf sg ρ (tf ρ):=by unfold eX zZ;cases tf ρ<;>rfl
theorem QK:zZ sf sg ρ (some true)=sf ρ:=rfl
theorem Pj:zZ sf sg ρ (some false)=sg ρ:=rfl
def P8:Option (D×Tag)->Option Out
 |some (d,t)=>if jQ t=true then some (.rt d) else if aC d=true then some (.rt d) else none
 |none=>none
theorem BO:l7 fa ρ=P8 (fa ρ):=by unfold l7 P8;cases fa ρ<;>rfl
def A8(i:Nat)(ρ:aN):Option (D×Tag)->Option Out
 |some (d,t)=>some (.nx (iD ρ i d t))
 |none=>none
theorem jY:dF i fa ρ=A8 i ρ (fa ρ):=by unfold dF A8;cases fa ρ<;>rfl
theorem wD:aJ ρ=some []:=rfl
noncomputable def lF:Option (D×Tag)->Option (List (D×Tag))->Option (List (D×Tag))
 |some p,some ps=>some (p::ps)
 |_,_=>none
theorem aW:ay fa a ρ=lF (fa ρ) (a ρ):=by unfold ay lF;cases fa ρ<;>cases a ρ<;>rfl
theorem An:lF (some p) (some ps)=some (p::ps):=rfl
theorem s_call:cO F a ρ=(a ρ).bind λps=>(F (ps.map (·.1))).map λd=>(d,.own):=rfl
theorem R3:(some a).bind f=f a:=rfl
theorem tW:nA a ρ=(a ρ).map λps=>(.tup (ps.map (·.1)),jP ps):=rfl
theorem kO:iN (.int m) (.int n)=some (.int (m+n)):=rfl
theorem vA(h:rJ m n=true):wX (.int m) (.int n)=some (.int (m*n)):=by show(if rJ m n=true then some (D.int (m*n)) else none)=_;rw[if_pos h]
theorem yx(h:0<n):oMod (.int m) (.int n)=some (.int (m % n)):=by show(if Jx m n=true then some (D.int (m % n)) else none)=_;rw[if_pos (show Jx m n=true from aaA h)]
theorem t_:oLt (.int m) (.int n)=some (.bl (decide (m<n))):=rfl
theorem Oz:oLe (.int m) (.int n)=some (.bl (decide (m<=n))):=rfl
theorem B5:qv (.int m) (.int n)=some (.bl (decide (n<m))):=rfl
theorem Y_:Ad (.int m) (.int n)=some (.bl (decide (n<=m))):=rfl
theorem Bw:d7 (.lst ds)=some (.int ds.length):=rfl
theorem u9(h:dQ ds m=some d)(hi:aC d=true):dW (.lst ds) (.int m)=some d:=by show((dQ ds m).bind λd=>if aC d=true then some d else none)=_;rw[h,adb,if_pos hi]
theorem ace(h:dQ ds m=some d)(hi:aC d=true):dW (.gG ds) (.int m)=some d:=by show((dQ ds m).bind λd=>if aC d=true then some d else none)=_;rw[h,adb,if_pos hi]
theorem Wm(h:dQ ds m=some d)(hi:aC d=true):dW (.tup ds) (.int m)=some d:=by show((dQ ds m).bind λd=>if aC d=true then some d else none)=_;rw[h,adb,if_pos hi]
theorem cu(hl:ds.length=n)(h:b (vL N ds)=some (.rt d)):bJ n N b ds=some d:=by unfold bJ;rw[if_pos hl,h]
noncomputable def dI(ns:List Int):D:=.gG (ns.map D.int)
theorem Kw{ns:List Int}{i:Int}(h0:0<=i)(h1:i<ns.length):dQ (ns.map D.int) i=some (.int (ns.getD i.toNat 0)):=by
 unfold dQ lu;have h2:i.toNat<ns.length:=by omega
 rw[List.length_map,if_pos h0,if_pos h1,adb,acn,abl h2,adM,abl h2];rfl
section
variable[DecidableEq κ]
def bA(es:List (κ×D))(k:κ):Option D:=(es.find? λkv=>decide (kv.1=k)).map (·.2)
def putD(es:List (κ×D))(k:κ)(d:D):List (κ×D):=
 if(es.any λkv=>decide (kv.1=k))=true then es.map (λkv=>if kv.1=k then(kv.1,d) else kv) else es++[(k,d)]
theorem qC{K:PySem.W.Frag}:∀{es}{ak:List (κ×V)} {fp},es.map (·.1)=ak.map (·.1)->aB K H (es.map (·.2)) (ak.map (·.2)) fp->
  (∀d,bA es k=some d->∃v f,eK ak k=some v/\Rep K H d v f/\∀a∈f,a∈fp)/\(bA es k=none->eK ak k=none)
 |[],[],_,_,_=>⟨λd e=>(nomatch e),λ_=>rfl⟩
 |[],_::_,_,e,_=>by simp at e
 |_::_,[],_,e,_=>by simp at e
 |(q,d0)::es,(q',v0)::ak,fp,e,r=>by
  simp only[aan,afP] at e;obtain⟨rfl,e⟩:=e;simp only[aan] at r;cases r with
  | @cons _ _ _ _ f1 f2 r1 r2=>
   obtain⟨i1,i2⟩:=qC e r2
   by_cases h:q=k
   .have e1:bA ((q,d0)::es) k=some d0:=by unfold bA;rw[adN,aaA h];rfl
    refine⟨λd ed=>?_,λen=>?_⟩
    .rw[e1] at ed;cases ed;exact⟨v0,f1,wm h,r1,λa m=>abp _ m⟩
    .rw[e1] at en;cases en
   .have e1:bA ((q,d0)::es) k=bA es k:=by unfold bA;rw[adN,abV h]
    rw[e1,yG h];exact⟨λd ed=>let⟨v,f,a,b,c⟩:=i1 d ed;⟨v,f,a,b,λx m=>aaw _ (c x m)⟩,i2⟩
theorem zw{k:κ}(e:es.map (·.1)=ak.map (·.1)):(putD es k d).map (·.1)=(putK ak k v).map (·.1):=by
 have any:(es.any λkv=>decide (kv.1=k))=ak.any λkv=>decide (kv.1=k):=by
  have h1:(es.any λkv=>decide (kv.1=k))=(es.map (·.1)).any λx=>decide (x=k):=by rw[agO];rfl
  have h2:(ak.any λkv=>decide (kv.1=k))=(ak.map (·.1)).any λx=>decide (x=k):=by rw[agO];rfl
  rw[h1,h2,e]
 have m1:∀l:List (κ×D),(l.map λkv=>if kv.1=k then(kv.1,d) else kv).map (·.1)=l.map (·.1):=λl=>by
  rw[ade];congr 1;funext kv;show(if kv.1=k then(kv.1,d) else kv).1=kv.1;split<;>rfl
 have m2:∀l:List (κ×V),(l.map λkv=>if kv.1=k then(kv.1,v) else kv).map (·.1)=l.map (·.1):=λl=>by
  rw[ade];congr 1;funext kv;show(if kv.1=k then(kv.1,v) else kv).1=kv.1;split<;>rfl
 unfold putD putK;rw[any]
 by_cases h:(ak.any λkv=>decide (kv.1=k))=true
 .rw[if_pos h,if_pos h,m1,m2,e]
 .rw[if_neg h,if_neg h,adh,adh,e];rfl
theorem JR{K:PySem.W.Frag}{ak:List (κ×V)}(e:es.map (·.1)=ak.map (·.1))(r:aB K H (es.map (·.2)) (ak.map (·.2)) [])(rv:Rep K H d v []):
  aB K H ((putD es k d).map (·.2)) ((putK ak k v).map (·.2)) []:=by
 have any:(es.any λkv=>decide (kv.1=k))=ak.any λkv=>decide (kv.1=k):=by
  have h1:(es.any λkv=>decide (kv.1=k))=(es.map (·.1)).any λx=>decide (x=k):=by rw[agO];rfl
  have h2:(ak.any λkv=>decide (kv.1=k))=(ak.map (·.1)).any λx=>decide (x=k):=by rw[agO];rfl
  rw[h1,h2,e]
 have go:∀(es:List (κ×D)) (ak:List (κ×V)),es.map (·.1)=ak.map (·.1)->aB K H (es.map (·.2)) (ak.map (·.2)) []->aB K H ((es.map λkv=>if kv.1=k then(kv.1,d) else kv).map (·.2)) ((ak.map λkv=>if kv.1=k then(kv.1,v) else kv).map (·.2)) []:=by
  intro es
  induction es with
  |nil=>
   intro ak e r;cases ak with
   |nil=>exact .nil
   |cons _ _=>simp at e
  |cons p es ih=>
   intro ak e r;cases ak with
   |nil=>simp at e
   |cons p' ak=>
    obtain⟨q,d0⟩:=p;obtain⟨q',v0⟩:=p';simp only[aan,afP] at e;obtain⟨rfl,e⟩:=e;simp only[aan] at r ⊢;generalize hf:([]:List Addr)=fp at r;cases r with
    | @cons _ _ _ _ f1 f2 r1 r2=>
     obtain⟨h1,h2⟩:=agY.mp hf.symm;subst h1 h2;have t:=ih ak e r2
     by_cases h:q=k
     .rw[if_pos h,if_pos h];exact aB.cons rv t
     .rw[if_neg h,if_neg h];exact aB.cons r1 t
 unfold putD putK;rw[any]
 by_cases h:(ak.any λkv=>decide (kv.1=k))=true
 .rw[if_pos h,if_pos h];exact go es ak e r
 .rw[if_neg h,if_neg h,adh,adh];exact aB.append r (aB.cons rv .nil)
end
noncomputable def iM:D->Option Key
 |.int i=>some (.inl i)
 |.str x=>some (.inr x)
 |_=>none
theorem Rep.key{K:PySem.W.Frag}(r:Rep K H d y fp)(e:iM d=some k):y=L2.kV k:=by
 cases r<;>cases e<;>rfl
def oX:D->D->Option D
 |.bO es,kd=>match iM kd with
  |some k=>(bA es k).bind λd=>if aC d=true then some d else none
  |none=>none
 |_,_=>none
def VU:R2:=λx y H Q=>∃a v,x=.ref a/\ic H a y (some v)/\Q v H
theorem Su{K:PySem.W.Frag}:gz K VU oX:=by
 exists 41;cases r1 with
 | @bO a ak es fp h hk rs=>
  have e:(match iM d2 with|some k=>(bA es k).bind λd=>if aC d=true then some d else none|none=>none)=some d:=e;exists yK,iM d2,key,e;exists 59;exists hv,bA es key,d',e,0;rw[hv,adb] at e
  by_cases hi:aC d'=true
  .rw[if_pos hi] at e;cases e;obtain⟨v,f,h1,r,_⟩:=(qC hk rs).1 d hv;have hn:=r.aC hi;subst hn;have ek:=r2.key yK;subst ek;have g:=ic.k (k:=key) h;rw[h1] at g;exact⟨a,v,rfl,g,k H v (aG.refl H) r⟩
  .rw[if_neg hi] at e;cases e
 |_=>cases e
theorem CK(hu:X.A.units+1<cLine)(ha:FP X a fa)(hb:FP X b fb)(hs:y_ b:=by exact λ_ _=>rfl):FP X (.Subscript a b pos) (e2 oX fa fb):=
 fp_2 Su ha hb λ_ _ pa pb=>XJ hu pa pb hs
def sG(d1 d2 d3:D):Option D:=match d1,iM d2 with
 |.bO es,some k=>match bA es k with
  |some d=>if aC d=true then some d else none
  |none=>if aC d3=true then some d3 else none
 |_,_=>none
noncomputable def e3(op:D->D->D->Option D)(fa fb fc:EF):EF:=λρ=>match fa ρ,fb ρ,fc ρ with
 |some (d1,_),some (d2,_),some (d3,_)=>(op d1 d2 d3).map λd=>(d,.own)
 |_,_,_=>none
theorem ZG(e:e3 op fa fb fc ρ=some (d,tg)):∃d1 t1 d2 t2 d3 t3,fa ρ=some (d1,t1)/\fb ρ=some (d2,t2)/\fc ρ=some (d3,t3)/\op d1 d2 d3=some d/\tg=.own:=by
 unfold e3 at e;exists h1,fa ρ,p,e,0;cases h2:fb ρ with
 |none=>rw[h1,h2] at e;cases e
 |some q=>
  cases h3:fc ρ with
  |none=>rw[h1,h2,h3] at e;cases e
  |some r=>
   obtain⟨d1,t1⟩:=p;obtain⟨d2,t2⟩:=q;obtain⟨d3,t3⟩:=r;rw[h1,h2,h3] at e;exists 59;exists h4,op d1 d2 d3,d4,e;cases e;exact⟨d1,t1,d2,t2,d3,t3,rfl,rfl,rfl,h4,rfl⟩
theorem Mf{apos fP:Pos}(hu:X.A.units+1<cLine)(ha:FP X a fa)(hb:FP X b fb)(hc:FP X c fc)(m:M2 X a "get" apos b c fP:=by exact⟨rfl,rfl,rfl,rfl⟩):FP X (.Call (.Attribute a "get" apos) [b,c] [] fP) (e3 sG fa fb fc):=by
 exists 46;obtain⟨tc,pc,sc⟩:=hc;exists 21,GC hu pa pb pc m;obtain⟨d1,t1,d2,t2,d3,t3,h1,h2,h3,h4,rfl⟩:=ZG e;refine sa ok h1 λH1 x f1 s1 r1 _=>?_
 cases d1 with
 |bO es=>
  cases r1 with
  | @bO p ak _ fp h hk rs=>
   refine⟨p,rfl,.inl ⟨ak,.inl h⟩,?_⟩;refine sb (ok.same s1) h2 λH2 y f2 s2 r2 _=>?_
   refine sc ((ok.same s1).same s2) h3 λH3 w f3 s3 r3 _=>?_
   unfold sG at h4;exists yK,iM d2,key,h4;dsimp only at h4;have ek:=r2.key yK;subst ek;have AH:=s3 _ _ (s2 _ _ h);have g:=ic.k (k:=key) AH;refine⟨_,g,?_⟩;have y9:=(s1.trans s2).trans s3;obtain⟨i1,i2⟩:=qC hk ((rs.same s2).same s3);cases hv:bA es key with
   |some d'=>
    rw[hv] at h4;dsimp only at h4;obtain⟨hi,h4⟩:=ci h4;cases h4;obtain⟨v,f,e1,r,_⟩:=i1 d hv;have hn:=r.aC hi;subst hn;rw[e1];exact k H3 v [] y9 r .nil
   |none=>
    rw[hv] at h4;dsimp only at h4;obtain⟨hi,h4⟩:=ci h4;cases h4;rw[i2 hv];have hn:=r3.aC hi;subst hn;exact k H3 w [] y9 r3 .nil
 |_=>cases h4
theorem IJ:FP X (.Dict [] [] pos) (eC (.bO [])):=by
 refine⟨_,ab9,@λH0 S z aq ρ σ H Q d tg ok e k p hp=>?_⟩;cases e;have s2:aG H (upd H p (.dK [])):=λb o e=>by rw[aO (cZ e hp)];exact e
 exact k _ _ [p] s2 (.bO cz rfl .nil) ⟨abZ.mpr ⟨(λm=>by cases m),acm⟩,λa m=>by cases aaB.mp m;exact hp⟩
noncomputable def sA(i:Nat):Slot->Slot
 |some (d,.sh o)=>if o.contains i=true then none else some (d,.sh o)
 |s=>s
def bT(ρ:aN)(i:Nat)(d:D):aN:=(ρ.map (sA i)).set i (some (d,.own))
theorem HB(e:sA i s=some (d,t)):s=some (d,t)/\∀o,t=.sh o->i∉o:=by
 cases s with
 |none=>cases e
 |some w=>
  obtain⟨d',t'⟩:=w;cases t' with
  |sh o=>
   have e:(if o.contains i=true then none else some (d',Tag.sh o))=some (d,t):=e
   split at e
   .cases e
   .rename_i hc;cases e;exact⟨rfl,λo' eo m=>by cases eo;exact hc (adO.mpr m)⟩
  |own=>cases e;exact⟨rfl,λo eo=>by cases eo⟩
  |lk=>cases e;exact⟨rfl,λo eo=>by cases eo⟩
theorem IP(hj:j≠i)(e:(bT ρ i d1)[j]? = some (some (d,t))):ρ[j]? = some (some (d,t))/\(P\/∀o,t=.sh o->i∉o):=by
 unfold bT at e;rw[acY (afH hj),acn] at e;obtain⟨s,e0,e⟩:=acy.mp e;obtain⟨rfl,n⟩:=HB e;exact⟨e0,.inr n⟩
theorem Jq(h:ρ[i]? = some d0):(bT ρ i d1)[i]? = some (some (d1,.own)):=aer (by rw[List.length_map];exact(abD.mp h).1)
theorem Be:(bT ρ i d1).length=ρ.length:=by unfold bT;rw[ags,List.length_map]
theorem Ok.put{K:PySem.W.Frag}(ok:Ok K H0 S z aq ρ σ H)(h:ρ[i]? = some (some (d0,.own)))
  (hs:σ[i]? = some (some v)) (zz:vJ z i .own bH) (im:aX H H') (keep:∀b o,b∉bH->H b=some o->H' b=some o) (r1:Rep K H' d1 v bQ) (nd:bQ.Nodup) (fr:∀b∈bQ,b∈bH\/H b=none):∃z',Ok K H0 S z' aq (bT ρ i d1) σ H':=
 ⟨_,ok.chg (Jq h) hs zz.2 im keep r1 ⟨nd,λa m=>if_pos m⟩ (GR zz.2) (λa m=>⟨fr a m,let⟨o,w,_⟩:=r1.cB a m;⟨o,w⟩⟩) IP (λ_ _=>rfl) (.inr λn=>n _ h) (Be.trans ok.ln)⟩
theorem Ok.Gh{K:PySem.W.Frag}(ok:Ok K H0 S z aq ρ σ H)(h:ρ[i]? = some (some (d0,.own)))
  (hs:σ[i]? = some (some v)) (zz:vJ z i .own fp) (hp:p∈fp) (ho:H p=some o) (mo:iZ o=true) (r1:Rep K (upd H p o') d1 v fp):Ok K H0 S z aq (bT ρ i d1) σ (upd H p o'):=
 ok.chg (Jq h) hs zz.2 (aX.upd ho mo) (λb o n e=>by rw[aO λq:b=p=>n (q ▸ hp)];exact e) r1 zz (λa n=>.inr ⟨rfl,n,λ_ n=>n _ h⟩) (λa m=>⟨.inl m,let⟨o,w,_⟩:=r1.cB a m;⟨o,w⟩⟩) IP (λ_ _=>rfl) (.inr λn=>n _ h) (Be.trans ok.ln)
def qG(i:Nat)(fk fv:EF):SF:=λρ=>match fv ρ,ρ[i]?,fk ρ with
 |some (d,_),some (some (.bO es,.own)),some (kd,_)=>match iM kd with
  |some k=>if(aC d&&aM (es.map (·.2))&&decide (es.length<sizeLine))=true then some (.nx (bT ρ i (.bO (putD es k d)))) else none
  |none=>none
 |_,_,_=>none
theorem Cg(i:Nat){x:Str}{k v:Expr}(hu:X.A.units+1<cLine)(hk:FP X k fk)(hv:FP X v fv)(va:VA X i x:=by walk_at "va")(hs:swapsWith v (some (.Subscript (.Name x p1) k pos')) pos.line X.env=pure false:=by rfl):
  eT X (.Assign [.Subscript (.Name x p1) k pos'] v pos) (qG i fk fv):=by
 obtain⟨tk,pk,sk⟩:=hk;obtain⟨tv,lB,sv⟩:=hv;exists 25,BB hu va.pe pk lB hs;unfold qG at e
 split at e
 .rename_i d td es kd ND h1 h2 h3;exists h4,iM kd,key,e;exists 59;obtain⟨hc,e⟩:=ci e;cases e;obtain⟨E6,hc3⟩:=(abe _ _).mp hc;obtain⟨E6,IA⟩:=(abe _ _).mp E6;have hz:=aa9 hc3;refine sv ok h1 λH1 v vo s1 rv _=>?_
  obtain⟨xv,fp,cL,r,zz⟩:=(ok.same s1).sl i _ _ h2;refine⟨xv,cL,?_⟩;refine sk (ok.same s1) h3 λH2 y OU s2 rk _=>?_
  have ek:=rk.key h4;subst ek;have r':=r.same s2;cases r' with
  | @bO a ak _ f h gZ rs=>
   have hn:=rs.aC IA;subst hn;have EO:=rv.aC E6;subst EO;have hl:ak.length=es.length:=by have:=congrArg List.length gZ;simpa using this.symm
   refine⟨a,_,rfl,o6.k h (by rw[hl];exact hz),?_⟩;have im:aX H2 (upd H2 a (.dK (putK ak key v))):=aX.upd h rfl;refine q z σ _ (Ok.Gh ((ok.same s1).same s2) h2 cL zz aak h rfl (.bO cz (zw gZ) ?_)) (.refl _ _);exact JR gZ (rs.frame (λa m=>nomatch m) im) ((rv.same s2).frame (λa m=>nomatch m) im)
 .cases e
noncomputable def uJ(x:Int):List Int->List Int
 |[]=>[x]
 |y::r=>if x<=y then x::y::r else y::uJ x r
def dU:List Int->List Int
 |[]=>[]
 |x::r=>uJ x (dU r)
theorem IB(x:Int):∀l:List Int,(uJ x l).Perm (x::l)
 |[]=>.refl _
 |y::r=>by
  unfold uJ
  split
  .exact .refl _
  .exact((IB x r).cons y).trans (.swap x y r)
theorem sJ:∀l:List Int,(dU l).Perm l
 |[]=>.refl _
 |x::r=>(IB x (dU r)).trans ((sJ r).cons x)
theorem R4(x:Int):∀{l},l.Pairwise (·<=·)->(uJ x l).Pairwise (·<=·)
 |[],_=>List.pairwise_singleton _ _
 |y::r,h=>by
  obtain⟨h1,h2⟩:=adV.mp h;unfold uJ
  split
  .rename_i hx;exact adV.mpr ⟨λz m=>(aaQ.mp m).elim (λe=>e ▸ hx) λm=>Int.le_trans hx (h1 z m),h⟩
  .rename_i hx;refine adV.mpr ⟨λz m=>?_,R4 x h2⟩;rcases aaQ.mp ((IB x r).mem_iff.mp m) with e|m
   .rw[e];lia
   .exact h1 z m
theorem A7:∀l:List Int,(dU l).Pairwise (·<=·)
 |[]=>.nil
 |x::r=>R4 x (A7 r)
theorem X0(p:a.Perm b)(s:a.Pairwise (·<=·)):a=dU b:=by
 have q:=p.trans (sJ b).symm;exact q.eq_of_pairwise (λx y _ _ h1 h2=>Int.le_antisymm h1 h2) s (A7 b)
theorem Cv(l:List Int):(dU l).length=l.length:=(sJ l).length_eq
noncomputable def dY:List D->Option (List Int)
 |[]=>some []
 |.int i::r=>(dY r).map (i::·)
 |_=>none
noncomputable def jn{α:Type}:List (Key×α)->Option (List Int)
 |[]=>some []
 |(.inl i,_)::r=>(jn r).map (i::·)
 |_=>none
theorem rH{K:PySem.W.Frag}:∀{ds} {xs} {fp} {ns},aB K H ds xs fp->dY ds=some ns->xs=ns.map V.int
 |_,_,_,ns,.nil,e=>by cases e;rfl
 |_,_,_,ns,.cons (d:=d) h t,e=>by
  cases d with
  |int i=>
   unfold dY at e;exists q,dY _,r,e;cases e;cases h;rw[rH t q];rfl
  |_=>cases e
theorem ux(ns:List Int):dY (ns.map D.int)=some ns:=by
 induction ns with
 |nil=>rfl
 |cons n r ih=>rw[aan];unfold dY;rw[ih];rfl
theorem NI:∀{es:List (Key×α)} {ks},jn es=some ks->es.map (·.1)=ks.map Sum.inl
 |[],ks,e=>by cases e;rfl
 |(.inl i,_)::r,ks,e=>by
  unfold jn at e;exists q,jn r,l,e;cases e;rw[aan,NI q];rfl
 |(.inr _,_)::_,_,e=>by cases e
def nh:D->Option D
 |.lst ds=>match dY ds with
  |some ns=>if ns.length<64 then some (.lst ((dU ns).map D.int)) else none
  |none=>none
 |.bO es=>match jn es with
  |some ns=>if ns.length<64 then some (.lst ((dU ns).map D.int)) else none
  |none=>none
 |_=>none
theorem v8{K:PySem.W.Frag}:∀ns:List Int,aB K H (ns.map D.int) (ns.map V.int) []
 |[]=>.nil
 |n::r=>aB.cons (.int n) (v8 r)
theorem Zr{K:PySem.W.Frag}:n5 K (Ow K) nh:=by
 intro H x d1 f1 d Q r e k;have fin:∀(ns:List Int),(if ns.length<64 then some (D.lst ((dU ns).map D.int)) else none)=some d->ns.length<64/\∀l (nV:List Int),H l=none->nV.Perm ns->nV.Pairwise (·<=·)->Q (.ref l) (upd H l (.lst (nV.map V.int))):=λns e=>by
  by_cases h:ns.length<64
  .rw[if_pos h] at e;cases e;refine⟨h,λl nV hl p s=>?_⟩;have eq:=X0 p s;subst eq;have s2:aG H (upd H l (.lst ((dU ns).map V.int))):=λb o e=>by rw[aO (cZ e hl)];exact e
   exact k _ _ [l] s2 (.lst cz (v8 _)) (abZ.mpr ⟨(λm=>by cases m),acm⟩) λa m=>by cases aaB.mp m;exact hl
  .rw[if_neg h] at e;cases e
 cases d1 with
 |lst ds=>
  exists 66;have e:(match dY ds with|some ns=>if ns.length<64 then some (D.lst ((dU ns).map D.int)) else none|none=>none)=some d:=e;cases h:dY ds with
  |none=>rw[h] at e;cases e
  |some ns=>
   rw[h] at e;obtain⟨h1,h2⟩:=fin ns e;have ex:=rH rs h;subst ex;exact⟨a,ns,rfl,h1,.inr hq,h2⟩
 |bO es=>
  cases r with
  | @bO a ak _ fp h hk rs=>
   have e:(match jn es with|some ns=>if ns.length<64 then some (D.lst ((dU ns).map D.int)) else none|none=>none)=some d:=e;cases h':jn es with
   |none=>rw[h'] at e;cases e
   |some ns=>
    rw[h'] at e;obtain⟨h1,h2⟩:=fin ns e;exact⟨a,ns,rfl,h1,.inl ⟨ak,h,by rw[<- hk];exact NI h'⟩,h2⟩
 |_=>cases e
def jT:List D->Option (List (Key×D))
 |[]=>some []
 |.tup [kd,d]::r=>match iM kd,jT r with
  |some k,some ps=>if aC d=true then some ((k,d)::ps) else none
  |_,_=>none
 |_=>none
def Ai:D->Option D
 |.lst ds=>(jT ds).map λps=>.bO (ps.foldl (λm p=>putD m p.1 p.2) [])
 |.tup ds=>(jT ds).map λps=>.bO (ps.foldl (λm p=>putD m p.1 p.2) [])
 |.bO es=>if aM (es.map (·.2))=true then some (.bO es) else none
 |_=>none
theorem abK:bootBuiltins "min"=some (.builtin "min"):=by decide +kernel
theorem aa5:bootBuiltins "sorted"=some (.builtin "sorted"):=by decide +kernel
theorem Io(hc:X.calm=true)(hm:X.mg "sorted"=none)(ha:FP X a fa)(hg:Gl X "sorted":=by rfl)(hs:Y1 X a:=by rfl):FP X (.Call (.Name "sorted" p) [a] [] pos) (e1 nh fa):=
 fp_1 Zr ha λta pa=>lY (Zb hc) hg hm aa5 (cP pa eW hs) (he:=hs)
def zh:D->D->Option D:=uZ λi j=>if j<i then j else i
noncomputable def kg:List Int->Int
 |[]=>0
 |[x]=>x
 |x::r=>if x<=kg r then x else kg r
theorem Gg:∀{l},l≠[]->kg l∈l/\∀x∈l,kg l<=x
 |[x],_=>⟨aak,λy m=>by rw[aaB.mp m];exact Int.le_refl _⟩
 |x::y::r,_=>by
  obtain⟨h1,h2⟩:=Gg (l:=y::r) (by simp);show(if x<=kg (y::r) then x else kg (y::r))∈_/\∀z∈_,(if x<=kg (y::r) then x else kg (y::r))<=z
  by_cases h:x<=kg (y::r)
  .rw[if_pos h];exact⟨aak,λz m=>(aaQ.mp m).elim (λe=>by rw[e];exact Int.le_refl _) λm=>Int.le_trans h (h2 z m)⟩
  .rw[if_neg h];exact⟨aaf _ h1,λz m=>(aaQ.mp m).elim (λe=>by rw[e];lia) λm=>h2 z m⟩
def SJ:D->D->Option D
 |.lst ds,z=>match dY ds with
  |some []=>if aC z=true then some z else none
  |some (n::r)=>some (.int (kg (n::r)))
  |none=>none
 |_,_=>none
theorem Pc(hc:X.calm=true)(hm:X.mg "min"=none)(ha:FP X a fa)(hb:FP X b fb)(hg:Gl X "min":=by rfl)(hs:starEach [a,b] X.env=[(false,eval a X.env),(false,eval b X.env)]:=by rfl)(cG:Y1 X b:=by rfl)(hpl:(backTo pos (starEach [b] X.env)).any (·.1)=false:=by rfl):
  FP X (.Call (.Name "min" p) [a,b] [] pos) (e2 zh fa fb):=by
 exists 46;exists 21,lY (Uw hc) hg hm abK (cP pa (cP pb eW cG) (by rw[hs,cG])) (he:=by rw[hs,cG]) (hpl:=hpl);obtain⟨d1,t1,d2,t2,h1,h2,h3,rfl⟩:=pB e;refine sa ok h1 λH1 x f1 s1 r1 _=>?_
 refine sb (ok.same s1) h2 λH2 y f2 s2 r2 _=>?_
 unfold zh uZ at h3
 split at h3
 .cases h3;exact⟨_,_,by rw[r1.iA.1,r2.iA.1],k H2 _ [] (s1.trans s2) (.int _) .nil⟩
 .cases h3
theorem aeo(hc:X.calm=true)(hm:X.mg "min"=none)(ha:FP X a fa)(hb:FP X b fb)(hg:Gl X "min":=by rfl)(hs:Y1 X a:=by rfl)
  (h1:backTo pos (starEach [a] X.env)=(false,eval a X.env)::backTo pos (starEach [] X.env):=by rfl) (h2:(backTo pos (starEach [a] X.env)).any (·.1)=false:=by rfl)
  (h3:(backToKw pos (keywordEach [⟨some "default",b,kp⟩] X.env)).all (·.1.isSome)=true:=by rfl) (h4:(backToKw pos (keywordEach [⟨some "default",b,kp⟩] X.env)).any (·.1.isNone)=false:=by rfl)
  (h5:(backToKw pos (keywordEach [⟨some "default",b,kp⟩] X.env)).filterMap (·.1)=[("default":Str)]:=by rfl) :
  FP X (.Call (.Name "min" p) [a] [⟨some "default",b,kp⟩] pos) (e2 SJ fa fb):=by
 exists 46;exists 21,VI hc hm pa pb hg hs h1 h2 h3 h4 h5;obtain⟨d1,t1,d2,t2,g1,g2,g3,rfl⟩:=pB e;refine sa ok g1 λH1 x f1 s1 r1 _=>?_
 refine sb (ok.same s1) g2 λH2 y f2 s2 r2 _=>?_
 cases d1 with
 |lst ds=>
  obtain⟨l,xs,f,rfl,hq,rs,_⟩:=(r1.same s2).dZ;have g3:(match dY ds with|some []=>if aC d2=true then some d2 else none|some (n::r)=>some (.int (kg (n::r)))|none=>none)=some d:=g3;cases h:dY ds with
  |none=>rw[h] at g3;cases g3
  |some ns=>
   rw[h] at g3;have ex:=rH rs h;subst ex;refine⟨l,ns,rfl,hq,?_⟩;cases ns with
   |nil=>
    have g3:=g3
    by_cases hi:aC d2=true
    .rw[if_pos hi] at g3;cases g3;have hn:=r2.aC hi;subst hn;exact .inl ⟨rfl,k H2 y [] (s1.trans s2) r2 .nil⟩
    .rw[if_neg hi] at g3;cases g3
   |cons n r=>
    cases g3;refine .inr ⟨by simp,λm n_ vg=>?_⟩;obtain⟨q1,q2⟩:=Gg (l:=n::r) (by simp);have em:=Int.le_antisymm (vg _ q1) (q2 m n_);rw[em];exact k H2 _ [] (s1.trans s2) (.int _) .nil
 |_=>cases g3
theorem La{K:PySem.W.Frag}:∀{ds} {xs} {fp} {ps},aB K H ds xs fp->jT ds=some ps->
  ∃qs:List (Key×V),Paired (λy (q:Key×V)=>∃a,y=.ref a/\cj K H a [L2.kV q.1,q.2]) xs qs/\ps.map (·.1)=qs.map (·.1)/\aB K H (ps.map (·.2)) (qs.map (·.2)) []
 |_,_,_,ps,.nil,e=>by cases e;exact⟨[],.nil,rfl,.nil⟩
 |_,_,_,ps,.cons (d:=d) (ds:=dr) h t,e=>by
  unfold jT at e
  split at e
  .rename_i heq;cases heq
  .rename_i kd d' r heq;cases heq;exists h1,iM kd,k,e,0;cases h2:jT dr with
   |none=>rw[h1,h2] at e;cases e
   |some pr=>
    rw[h1,h2] at e;exists 59;obtain⟨hi,e⟩:=ci e;cases e;obtain⟨qs,a1,a2,a3⟩:=La t h2;obtain⟨a,ys,rfl,hq,rs⟩:=h.jh;cases rs with
    |cons rk rs=>
     cases rs with
     |cons rv rs=>
      cases rs with
      |nil=>
       have ek:=rk.key h1;subst ek;have hn:=rv.aC hi;subst hn;exact⟨(k,_)::qs,.cons ⟨a,rfl,hq⟩ a1,by rw[aan,aan,a2],aB.cons rv a3⟩
  .cases e
theorem Lm{K:PySem.W.Frag}:∀{ps:List (Key×D)}{qs:List (Key×V)} {es} {ak},ps.map (·.1)=qs.map (·.1)->aB K H (ps.map (·.2)) (qs.map (·.2)) []->es.map (·.1)=ak.map (·.1)->aB K H (es.map (·.2)) (ak.map (·.2)) []->
  (ps.foldl (λm p=>putD m p.1 p.2) es).map (·.1)=(qs.foldl (λm q=>putK m q.1 q.2) ak).map (·.1)/\aB K H ((ps.foldl (λm p=>putD m p.1 p.2) es).map (·.2)) ((qs.foldl (λm q=>putK m q.1 q.2) ak).map (·.2)) []
 |[],[],_,_,_,_,h1,h2=>⟨h1,h2⟩
 |[],_::_,_,_,e,_,_,_=>by simp at e
 |_::_,[],_,_,e,_,_,_=>by simp at e
 |(k,d)::ps,(k',v)::qs,es,ak,e,r,h1,h2=>by
  simp only[aan,afP] at e;obtain⟨rfl,e⟩:=e;simp only[aan] at r;generalize hf:([]:List Addr)=fp at r;cases r with
  | @cons _ _ _ _ f1 f2 r1 r2=>
   obtain⟨z1,z2⟩:=agY.mp hf.symm;subst z1 z2;rw[aeP,aeP];exact Lm e r2 (zw h1) (JR h1 h2 r1)
theorem Xq{K:PySem.W.Frag}:n5 K (λxs H Q=>Et K xs H Q\/∃a ak,xs=[V.ref a]/\H a=some (.dK ak)/\∀l,H l=none->Q (.ref l) (upd H l (.dK ak))) Ai:=by
 intro H x d1 f1 d Q r e k;have fresh:∀{o:HO} {l},H l=none->aG H (upd H l o):=λhl b o e=>by rw[aO (cZ e hl)];exact e
 have QY:∀l:Addr,([l]:List Addr).Nodup:=λl=>abZ.mpr ⟨(λm=>by cases m),acm⟩
 have seq:∀{ds} {xs} {f} {p},aB K H ds xs f->(b7 K H p xs\/cj K H p xs)->((jT ds).map λps=>D.bO (ps.foldl (λm p=>putD m p.1 p.2) []))=some d->Et K [.ref p] H Q:=λ{ds xs f p} rs hq e=>by
  exists h,jT ds,ps,e;cases e;obtain⟨qs,a1,a2,a3⟩:=La rs h;refine⟨p,xs,qs,rfl,hq,a1,λl hl=>?_⟩;obtain⟨b1,b2⟩:=Lm (es:=[]) (ak:=[]) a2 a3 rfl .nil;exact k _ _ [l] (fresh hl) (.bO cz b1 (b2.same (fresh hl))) (QY l) λa m=>by cases aaB.mp m;exact hl
 cases d1 with
 |lst ds=>
  exists 66;exact .inl (seq rs (.inl hq) e)
 |tup ds=>
  obtain⟨a,xs,rfl,hq,rs⟩:=r.jh;exact .inl (seq rs (.inr hq) e)
 |bO es=>
  cases r with
  | @bO a ak _ fp h hk rs=>
   have e:(if aM (es.map (·.2))=true then some (D.bO es) else none)=some d:=e;obtain⟨hi,e⟩:=ci e;cases e;have hn:=rs.aC hi;subst hn;exact .inr ⟨a,ak,rfl,h,λl hl=>k _ _ [l] (fresh hl) (.bO cz hk (rs.same (fresh hl))) (QY l) λa m=>by cases aaB.mp m;exact hl⟩
 |_=>cases e
section
variable{X:Cx}
theorem WA:f7 X (.type "dict") (λxs H Q=>∃a ak,xs=[V.ref a]/\H a=some (.dK ak)/\∀l,H l=none->Q (.ref l) (upd H l (.dK ak))):=by
 exists 43;obtain⟨a,ak,rfl,ha,q⟩:=h;exists 67;cases ru;exact Sj I (.inl ha) λp s' hp I'=>⟨.ref p,_,I',rfl,q p hp⟩
theorem Bp{p:Pos}(hc:X.calm=true)(hm:X.mg "dict"=none)(ha:FP X a fa)(hg:Gl X "dict":=by rfl)(hs:Y1 X a:=by rfl):FP X (.Call (.Name "dict" p) [a] [] pos) (e1 Ai fa):=
 fp_1 Xq ha λta pa=>Jo (f7.or' (YM hc) WA) hg hm (show bootBuiltins "dict"=some (.type "dict") by decide +kernel) (cP pa eW hs) (he:=hs)
def xU:D->Option D
 |.lst ds=>if aM ds=true then some (.tup ds) else none
 |.tup ds=>if aM ds=true then some (.tup ds) else none
 |_=>none
theorem XY:n5 X.K (λxs H Q=>∃p ys,xs=[V.ref p]/\((b7 X.K H p ys/\∀l,H l=none->Q (.ref l) (upd H l (.tup ys)))\/(cj X.K H p ys/\Q (.ref p) H))) xU:=by
 intro H x d1 f1 d Q r e k;cases d1 with
 |lst ds=>
  exists 66;have e:(if aM ds=true then some (D.tup ds) else none)=some d:=e;obtain⟨hi,e⟩:=ci e;cases e;have hn:=rs.aC hi;subst hn;refine⟨a,xs,rfl,.inl ⟨hq,λl hl=>?_⟩⟩;have s2:aG H (upd H l (.tup xs)):=λb o e=>by rw[aO (cZ e hl)];exact e
  exact k _ _ [] s2 (.tup (cj.of cz) (rs.same s2)) acm λa m=>nomatch m
 |tup ds=>
  obtain⟨a,xs,rfl,hq,rs⟩:=r.jh;have e:(if aM ds=true then some (D.tup ds) else none)=some d:=e;obtain⟨hi,e⟩:=ci e;cases e;have hn:=rs.aC hi;subst hn;exact⟨a,xs,rfl,.inr ⟨hq,k H _ [] (aG.refl H) (.tup hq rs) acm λa m=>nomatch m⟩⟩
 |_=>cases e
theorem qu{p:Pos}(hm:X.mg "tuple"=none)(ha:FP X a fa)(hg:Gl X "tuple":=by rfl)(hs:Y1 X a:=by rfl):FP X (.Call (.Name "tuple" p) [a] [] pos) (e1 xU fa):=
 fp_1 XY ha λta pa=>Jo Yc hg hm (show bootBuiltins "tuple"=some (.type "tuple") by decide +kernel) (cP pa eW hs) (he:=hs)
end
mutual
noncomputable def dep:D->Nat
 |.tup a=>JX a+1
 |.lst a=>JX a+1
 |_=>0
noncomputable def JX:List D->Nat
 |[]=>0
 |x::xs=>max (dep x) (JX xs)
end
def yY(N:List Str)(uc sc:Scope)(M:List Str)(js:List (Option Nat)):Bool:=
 (sc.kind == .function)&&sc.names.all (λy=>y.2 != .cell)&&sc.names.all (λy=>if y.2 == .local then sc.names.lookup y.1==some .local else true)&&ow N sc M js&&(frees sc).all (λx=>uc.names.lookup x==some .cell||uc.names.lookup x==some .free)&&decide M.Nodup
theorem V4(h1:X.N=N)(h2:X.env.scope=uc)(h3:X.env.kindOf=λx=>uc.names.lookup x)(h:yY N uc sc M js=true):oV X M js sc:=by
 unfold yY at h;obtain⟨h,a6⟩:=(abe _ _).mp h;obtain⟨h,a5⟩:=(abe _ _).mp h;obtain⟨h,a4⟩:=(abe _ _).mp h;obtain⟨h,a3⟩:=(abe _ _).mp h;obtain⟨a1,a2⟩:=(abe _ _).mp h;refine⟨?_,λy hy=>?_,λy hy hl=>?_,?_,λx hx=>?_,aa9 a6⟩
 .cases hk:sc.kind<;>rw[hk] at a1<;>first|rfl|exact absurd a1 (by decide)
 .have:=adf.mp a2 y hy;intro z;rw[z] at this;exact absurd this (by decide)
 .have:=adf.mp a3 y hy;rw[hl] at this;have this:=this;cases q:sc.names.lookup y.1 with
  |none=>rw[q] at this;exact absurd this (by decide)
  |some k=>rw[q] at this;cases k<;>first|rfl|exact absurd this (by decide)
 .rw[h1];exact a4
 .have:=adf.mp a5 x hx;rw[h3];dsimp only;cases q:uc.names.lookup x with
  |none=>rw[q] at this;exact absurd this (by decide)
  |some k=>rw[q] at this;cases k<;>first|exact .inl rfl|exact .inr rfl|exact absurd this (by decide)
end L2.Ev
namespace L2.Ev
open PySem PySem.Spec PyProof.Rows
theorem cH.back(g:cH z H1 t fp)(s:aG H H1):cH z H t fp:=by
 cases t with
 |sh o=>exact g
 |own=>exact⟨g.1,λa m=>s.free (g.2 a m)⟩
 |lk=>exact⟨g.1,λa m=>s.free (g.2 a m)⟩
noncomputable def yH(fa fb:EF):EF:=λρ=>match fa ρ with
 |some (.bl true,_)=>fb ρ
 |some (.bl false,_)=>some (.bl false,.own)
 |_=>none
noncomputable def Gq(fa fb:EF):EF:=λρ=>match fa ρ with
 |some (.bl true,_)=>some (.bl true,.own)
 |some (.bl false,_)=>fb ρ
 |_=>none
noncomputable def Ul:D->Option D
 |.bl b=>some (.bl (!b))
 |_=>none
theorem qT{op}(h:FP X a fa):FP X (.BoolOp op [a] pos) fa:=let⟨t,p,q⟩:=h;⟨t,O0 p,q⟩
theorem oO{rest:List Expr}(ha:FP X a fa)(hb:FP X (.BoolOp .And (b::rest) pos) fb):FP X (.BoolOp .And (a::b::rest) pos) (yH fa fb):=by
 exists 58;obtain⟨t',p',q'⟩:=hb;exists 21,TL p p';unfold yH at e
 split at e
 .rename_i tt h;refine q ok h λH1 v fp s1 r1 _=>?_
  cases r1;refine⟨true,rfl,?_⟩;rw[if_pos rfl];exact q' (ok.same s1) e λH2 v fp s2 r2 g2=>k H2 v fp (s1.trans s2) r2 (g2.back s1)
 .rename_i tt h;cases e;refine q ok h λH1 v fp s1 r1 _=>?_
  cases r1;refine⟨false,rfl,?_⟩;rw[if_neg abu];exact k H1 _ [] s1 (.bl _) .nil
 .cases e
theorem TM{rest:List Expr}(ha:FP X a fa)(hb:FP X (.BoolOp .Or (b::rest) pos) fb):FP X (.BoolOp .Or (a::b::rest) pos) (Gq fa fb):=by
 exists 58;obtain⟨t',p',q'⟩:=hb;exists 21,P_ p p';unfold Gq at e
 split at e
 .rename_i tt h;cases e;refine q ok h λH1 v fp s1 r1 _=>?_
  cases r1;refine⟨true,rfl,?_⟩;rw[if_pos rfl];exact k H1 _ [] s1 (.bl _) .nil
 .rename_i tt h;refine q ok h λH1 v fp s1 r1 _=>?_
  cases r1;refine⟨false,rfl,?_⟩;rw[if_neg abu];exact q' (ok.same s1) e λH2 v fp s2 r2 g2=>k H2 v fp (s1.trans s2) r2 (g2.back s1)
 .cases e
theorem Z7(ha:FP X a fa):FP X (.UnaryOp .Not a pos) (e1 Ul fa):=by
 exists 58;exists 21,Vw p;obtain⟨d1,t1,h1,h2,rfl⟩:=rR e;refine q ok h1 λH1 v fp s1 r1 _=>?_
 cases r1<;>cases h2
 exact⟨_,rfl,k H1 _ [] s1 (.bl _) .nil⟩
def fW:D->D->Option D
 |.lst ds,.lst es=>if(aM ds&&aM es&&decide (ds.length+es.length<=sizeLine))=true then some (.lst (ds++es)) else none
 |_,_=>none
theorem mR(ha:FP X a fa)(hb:FP X b fb):FP X (.BinOp a .Add b pos) (e2 fW fa fb):=by
 exists 46;exists 20,Nr U6 pa pb;obtain⟨d1,t1,d2,t2,e1,jx,e3,rfl⟩:=pB e;refine sa ok e1 λH1 x f1 s1 r1 _=>?_
 exists 49
 unfold fW at e3
 split at e3
 .rename_i ds es;obtain⟨hc,e3⟩:=ci e3;cases e3;obtain⟨c1,c3⟩:=(abe _ _).mp hc;obtain⟨c1,c2⟩:=(abe _ _).mp c1;have r1:=r1.same s2;cases r1 with
  | @lst p xs _ f h rs=>
   cases r2 with
   | @lst p' ys _ f' h' EI=>
    have n1:=rs.aC c1;have n2:=EI.aC c2;subst n1 n2;refine⟨p,p',xs,ys,rfl,rfl,h,h',by rw[<- rs.length,<- EI.length];exact aa9 c3,λl hl=>?_⟩;have s3:aG H2 (upd H2 l (.lst (xs++ys))):=λb o e=>by rw[aO (cZ e hl)];exact e
    have rr:=aB.append rs EI;refine q _ _ [l] ((s1.trans s2).trans s3) (.lst cz (rr.same s3)) ⟨abZ.mpr ⟨(λm=>by cases m),acm⟩,λa m=>?_⟩;cases aaB.mp m;exact(s1.trans s2).free hl
 .cases e3
noncomputable def BI:D->Option String
 |.int _=>some "int"
 |.bl _=>some "bool"
 |.str _=>some "str"
 |.aA=>some "NoneType"
 |.lst _=>some "list"
 |.bO _=>some "dict"
 |_=>none
def B6(T:String)(d:D):Option D:=match BI d with
 |some t=>some (.bl (t==T||(t == "bool"&&T == "int")))
 |none=>none
def uv(T:String):Prop:=∀(K) (t),t∈["int","bool","str","NoneType","list","dict"]->PySem.W.kitOne K (.type t) (.type T)=some (t==T||(t == "bool"&&T == "int"))
theorem aav:uv "int":=by
 intro K t m;simp only[aaQ,aeK,ahb] at m;rcases m with rfl|rfl|rfl|rfl|rfl|rfl<;>rfl
theorem abS:uv "bool":=by
 intro K t m;simp only[aaQ,aeK,ahb] at m;rcases m with rfl|rfl|rfl|rfl|rfl|rfl<;>rfl
theorem Zv:uv "list":=by
 intro K t m;simp only[aaQ,aeK,ahb] at m;rcases m with rfl|rfl|rfl|rfl|rfl|rfl<;>rfl
theorem KH(T:String):f7 X (.builtin "isinstance") (λxs H Q=>∃x t b,xs=[x,V.ty T]/\jA X.K H x t/\PySem.W.kitOne X.K t (.type T)=some b/\Q (.bl b) H):=by
 exists 43;obtain⟨x,t,bb,rfl,ty,e,q⟩:=h;obtain⟨u,w',rfl,ru,eU⟩:=vals2 r;cases eU;exact ack I ru ty e λtk=>⟨.bl bb,H,I.tok tk,rfl,q⟩
theorem Rep.ty{K:PySem.W.Frag}(r:Rep K H d v fp)(e:BI d=some t):jA K H v (.type t)/\t∈["int","bool","str","NoneType","list","dict"]:=by
 cases r with
 |aA=>cases e;exact⟨.aA,by decide⟩
 |bl b=>cases e;exact⟨.bl b,by decide⟩
 |int i=>cases e;exact⟨.int i,by decide⟩
 |str x=>cases e;exact⟨.str x,by decide⟩
 |lst h _=>cases e;exact⟨.lst h,by decide⟩
 |bO h _ _=>cases e;exact⟨.dK h,by decide⟩
 |tup _ _=>cases e
 |Cp _ _=>cases e
 |cY _ _ _=>cases e
 |ins _ _ _ _=>cases e
 |exc _ _ _=>cases e
theorem Im{T:String}(hT:uv T)(hm:X.mg "isinstance"=none)(Ik:X.mg x=none)(ha:FP X a fa)(GV:bootBuiltins x=some (.type T):=by decide +kernel)(hg:Gl X "isinstance":=by rfl)(DY:Gl X x:=by rfl)(hn:x≠"__name__":=by decide)(gj:(x==("__debug__":Str))=false:=by decide)
  (hs:starEach [a,.Name x p2] X.env=[(false,eval a X.env),(false,eval (.Name x p2) X.env)]:=by rfl) (hpl:(backTo pos (starEach [.Name x p2] X.env)).any (·.1)=false:=by rfl):FP X (.Call (.Name "isinstance" p) [a,.Name x p2] [] pos) (e1 (B6 T) fa):=by
 obtain⟨ta,pa,sa⟩:=ha;have cG:starEach [.Name x p2] X.env=[(false,eval (.Name x p2) X.env)]:=rfl;exists 21,lY (KH T) hg hm (show bootBuiltins "isinstance"=some (.builtin "isinstance") by decide +kernel) (cP pa (cP (LX (v:=.ty T) DY Ik GV rfl hn gj) eW) (by rw[hs,cG])) (he:=by rw[hs,cG]);obtain⟨d1,t1,h1,h2,rfl⟩:=rR e;refine sa ok h1 λH1 v fp s1 r1 _=>?_
 unfold B6 at h2;exists ht,BI d1,t,h2;cases h2;obtain⟨ty,mem⟩:=r1.ty ht;exact⟨v,_,_,rfl,ty,hT X.K t mem,k H1 _ [] s1 (.bl _) .nil⟩
end L2.Ev
namespace L2.Ev
open PySem
noncomputable def k3(op:D->D->D->Option D):Option (D×Tag)->Option (D×Tag)->Option (D×Tag)->Option (D×Tag)
 |some (d1,_),some (d2,_),some (d3,_)=>(op d1 d2 d3).map λd=>(d,.own)
 |_,_,_=>none
theorem LL:e3 S8 fa fb fc ρ=k3 S8 (fa ρ) (fb ρ) (fc ρ):=by unfold e3 k3;cases fa ρ<;>cases fb ρ<;>cases fc ρ<;>rfl
noncomputable def NO(fb:EF)(ρ:aN):Option (D×Tag)->Option (D×Tag)
 |some (.bl true,_)=>fb ρ
 |some (.bl false,_)=>some (.bl false,.own)
 |_=>none
theorem acW:yH fa fb ρ=NO fb ρ (fa ρ):=by
 unfold yH NO;cases fa ρ with
 |none=>rfl
 |some w=>obtain⟨d,t⟩:=w;cases d<;>first|rfl|(rename_i b;cases b<;>rfl)
theorem Wj:gR d .aA=some (.bl (nH d)):=rfl
theorem Qz(P:Nat->aN->Prop):∀{ds} {ρ} {n},P n ρ->(∀j ρ d,ds[j]? = some d->P (n+j) ρ->∃aR bg,g d t ρ=some aR/\(f aR=some (.nx bg)\/f aR=some (.ct bg))/\P (n+j+1) bg)->
  ∃ρ',di g t f ds ρ=some (.nx ρ')/\P (n+ds.length) ρ'
 |[],ρ,n,h,_=>⟨ρ,rfl,h⟩
 |d::ds,ρ,n,h,hs=>by
  obtain⟨aR,bg,h1,h2,h3⟩:=hs 0 ρ d rfl h;obtain⟨ρ',h4,h5⟩:=Qz P h3 λj ρ d hd hp=>by
   have:=hs (j+1) ρ d hd (by rw[show n+(j+1)=n+1+j by lia];exact hp);rw[show n+(j+1)+1=n+1+j+1 by lia] at this;exact this
  refine⟨ρ',?_,by rw[acj,show n+(ds.length+1)=n+1+ds.length by lia];exact h5⟩;unfold di;rw[h1];rcases h2 with h2|h2<;>(dsimp only;rw[h2];exact h4)
theorem vf(hi:it ρ=some (ds,t))(h:di g (kM t) f ds (oU (mT (lJ t) ρ) ρ)=some (.nx ρ')):jD it g f ρ=some (.nx (sV (mT (lJ t) ρ) ρ')):=by unfold jD;rw[hi];dsimp only;rw[h]
theorem KD(hi:it ρ=some (ds,t))(h:di g (kM t) f ds (oU (mT (lJ t) ρ) ρ)=some (.rt r)):jD it g f ρ=some (.rt r):=by unfold jD;rw[hi];dsimp only;rw[h]
theorem vE(hi:it ρ=some (ds,.own))(h:di g (.sh []) f ds ρ=some (.nx ρ')):jD it g f ρ=some (.nx ρ'):=vf hi h
theorem CD(hi:it ρ=some (ds,.own))(h:di g (.sh []) f ds ρ=some (.rt r)):jD it g f ρ=some (.rt r):=KD hi h
theorem V_(h:e ρ=some (.int n,t))(hs:small n=true):xh e ρ=some ((List.range n.toNat).map λi:Nat=>D.int (0+(i:Int)),.own):=by unfold xh;rw[h];dsimp only;rw[if_pos hs]
theorem gX(h:e ρ=some (.lst ds,t)):iy e ρ=some (ds,t):=by unfold iy;rw[h]
theorem acs(h:e ρ=some (.tup ds,t)):iy e ρ=some (ds,t):=by unfold iy;rw[h]
theorem jH(hi:it ρ=some (ds,t))(hl:ds.length<sizeLine)(h:∀d∈ds,jf g tt te (jt js ρ) d=some (k d)):
  i9 js it g tt te ρ=some (.lst (ds.filterMap k),.own):=by unfold i9;rw[hi];dsimp only;rw[if_pos hl,QH h];rfl
theorem x8(h1:g d (.sh []) ρ=some aR)(h2:tt aR=some false):jf g tt te ρ d=some none:=by unfold jf;rw[h1];dsimp only;rw[h2]
theorem qz(h1:g d (.sh []) ρ=some aR)(h2:tt aR=some true)(h3:te aR=some (e,.own)):jf g tt te ρ d=some (some e):=by unfold jf;rw[h1];dsimp only;rw[h2];dsimp only;rw[h3];rfl
theorem tO(h1:g d (.sh []) ρ=some aR)(h2:tt aR=some true)(h3:te aR=some (e,tg))(hi:aC e=true):jf g tt te ρ d=some (some e):=by
 unfold jf;rw[h1];dsimp only;rw[h2];dsimp only;rw[h3];dsimp only
 by_cases ho:jQ tg=true
 .rw[if_pos ho]
 .rw[if_neg ho,if_pos hi]
noncomputable def kI(p:Int×Int):Key×D:=(Sum.inl p.1,.int p.2)
def bI(es:List (Int×Int)):D:=.bO (es.map kI)
noncomputable def bP(es:List (Int×Int))(k:Int):Option Int:=(es.find? λp=>decide (p.1=k)).map (·.2)
noncomputable def gK(es:List (Int×Int))(k v:Int):List (Int×Int):=if(es.any λp=>decide (p.1=k))=true then es.map (λp=>if p.1=k then(p.1,v) else p) else es++[(k,v)]
theorem uo:((Sum.inl a:Key)=Sum.inl k)↔a=k:=⟨λh=>ahk h,λh=>by rw[h]⟩
theorem Ko(es:List (Int×Int))(k:Int):bA (es.map kI) (Sum.inl k:Key)=(bP es k).map D.int:=by
 unfold bA bP
 induction es with
 |nil=>rfl
 |cons p r ih=>
  rw[aan,adN,adN]
  by_cases h:p.1=k
  .rw[aaA (show(kI p).1=Sum.inl k from uo.mpr h),aaA h];rfl
  .rw[abV (show ¬(kI p).1=Sum.inl k from λe=>h (uo.mp e)),abV h];exact ih
theorem LP(es:List (Int×Int))(k v:Int):putD (es.map kI) (Sum.inl k:Key) (.int v)=(gK es k v).map kI:=by
 unfold putD gK;have e:((es.map kI).any λkv=>decide (kv.1=(Sum.inl k:Key)))=es.any λp=>decide (p.1=k):=by
  rw[agO]
  congr 1
  funext p
  exact agW.mpr uo
 rw[e]
 by_cases h:(es.any λp=>decide (p.1=k))=true
 .rw[if_pos h,if_pos h,ade,ade]
  congr 1
  funext p
  show(if(kI p).1=Sum.inl k then((kI p).1,D.int v) else kI p)=kI (if p.1=k then(p.1,v) else p)
  by_cases hp:p.1=k
  .rw[if_pos hp,if_pos (show(kI p).1=Sum.inl k from uo.mpr hp)];rfl
  .rw[if_neg hp,if_neg (show ¬(kI p).1=Sum.inl k from λe=>hp (uo.mp e))]
 .rw[if_neg h,if_neg h,adh];rfl
theorem Sa:sG (bI es) (.int k) (.int z)=some (.int ((bP es k).getD z)):=by
 show(match bA (es.map kI) (Sum.inl k:Key) with|some d=>if aC d=true then some d else none|none=>if aC (.int z)=true then some (.int z) else none)=_;rw[Ko];cases bP es k<;>rfl
theorem aaE(h:bP es k=some v):oX (bI es) (.int k)=some (.int v):=by
 show((bA (es.map kI) (Sum.inl k:Key)).bind λd=>if aC d=true then some d else none)=_;rw[Ko,h];rfl
theorem LF:∀es:List (Int×Int),jn (es.map kI)=some (es.map (·.1))
 |[]=>rfl
 |p::r=>by rw[aan];show(jn (r.map kI)).map (p.1::·)=_;rw[LF r];rfl
theorem Wp(h:es.length<64):nh (bI es)=some (.lst ((dU (es.map (·.1))).map D.int)):=by
 show(match jn (es.map kI) with|some ns=>if ns.length<64 then some (D.lst ((dU ns).map D.int)) else none|none=>none)=_;rw[LF];dsimp only;rw[if_pos (by rw[List.length_map];exact h)]
theorem Mh:∀es:List (Int×Int),aM ((es.map kI).map (·.2))=true
 |[]=>rfl
 |p::r=>by rw[aan,aan];unfold aM;rw[Mh r];rfl
theorem JP(h1:fv ρ=some (.int v,t1))(h2:ρ[i]? = some (some (bI es,.own)))(h3:fk ρ=some (.int k,t2))(hl:es.length<sizeLine):
  qG i fk fv ρ=some (.nx (bT ρ i (bI (gK es k v)))):=by
 unfold qG;rw[h1,h2,h3];unfold bI;dsimp only[iM];rw[if_pos (by rw[Mh,List.length_map,aaA hl];rfl),LP]
theorem B_(es:List (Int×Int))(k v j:Int):bP (gK es k v) j=if j=k then some v else bP es j:=by
 unfold gK
 by_cases h:(es.any λp=>decide (p.1=k))=true
 .rw[if_pos h];unfold bP
  induction es with
  |nil=>cases h
  |cons p r ih=>
   rw[aan,adN,adN]
   by_cases hp:p.1=k
   .rw[if_pos hp];dsimp only
    by_cases hj:j=k
    .rw[aaA (hp.trans hj.symm),if_pos hj];rfl
    .have tR:¬p.1=j:=λe=>hj (e.symm.trans hp)
     rw[abV tR,if_neg hj];dsimp only
     by_cases hr:(r.any λp=>decide (p.1=k))=true
     .rw[ih hr,if_neg hj]
     .congr 1
      have:r.map (λp=>if p.1=k then(p.1,v) else p)=r:=by
       conv=>rhs;rw[<- List.map_id r]
       refine agm λq m=>?_
       rw[if_neg λe=>hr (ad9.mpr ⟨q,m,aaA e⟩)];rfl
      rw[this]
   .rw[if_neg hp];have hr:(r.any λp=>decide (p.1=k))=true:=by
     rw[afK,abV hp] at h;exact h
    by_cases hj:p.1=j
    .rw[aaA hj,if_neg λe=>hp (hj.trans e)]
    .rw[abV hj];exact ih hr
 .rw[if_neg h];unfold bP;rw[List.find?_append]
  by_cases hj:j=k
  .have:(es.find? λp=>decide (p.1=j))=none:=afU.mpr λq m hq=>h (ad9.mpr ⟨q,m,by rw[<- hj];exact hq⟩)
   rw[this,if_pos hj,hj];simp
  .rw[if_neg hj];have:([(k,v)].find? λp=>decide (p.1=j))=none:=afU.mpr λq m hq=>hj (by cases aaB.mp m;exact(aa9 hq).symm)
   rw[this,Option.or_none]
theorem RG(es:List (Int×Int))(k v:Int):(gK es k v).map (·.1)=if k∈es.map (·.1) then es.map (·.1) else es.map (·.1)++[k]:=by
 unfold gK
 by_cases h:(es.any λp=>decide (p.1=k))=true
 .have hm:k∈es.map (·.1):=by
   obtain⟨p,m,hp⟩:=ad9.mp h;exact ab1.mpr ⟨p,m,aa9 hp⟩
  rw[if_pos h,if_pos hm,ade];refine agm λp m=>?_
  show(if p.1=k then(p.1,v) else p).1=p.1
  split<;>rfl
 .have hm:k∉es.map (·.1):=λm=>by
   obtain⟨p,m,hp⟩:=ab1.mp m;exact h (ad9.mpr ⟨p,m,aaA hp⟩)
  rw[if_neg h,if_neg hm,adh];rfl
theorem P6(h:(es.map (·.1)).Nodup):((gK es k v).map (·.1)).Nodup:=by
 rw[RG]
 by_cases hm:k∈es.map (·.1)
 .rw[if_pos hm];exact h
 .rw[if_neg hm];exact ac3.mpr ⟨h,abZ.mpr ⟨(λm=>by cases m),acm⟩,λa ha b hb e=>hm (by cases aaB.mp hb;exact e ▸ ha)⟩
theorem Tn:(gK es k v).length<=es.length+1:=by
 have:=congrArg List.length (RG es k v);rw[List.length_map] at this;rw[this]
 split
 .rw[List.length_map];lia
 .rw[abR,List.length_map];exact abW _
theorem sS:(∃v,bP es k=some v)↔k∈es.map (·.1):=by
 unfold bP;constructor
 .rintro⟨v,h⟩
  cases e:es.find? λp=>decide (p.1=k) with
  |none=>rw[e] at h;cases h
  |some p=>exact ab1.mpr ⟨p,agL e,aa9 (ahj e :)⟩
 .intro h;obtain⟨p,m,hp⟩:=ab1.mp h;cases e:es.find? λp=>decide (p.1=k) with
  |none=>exact absurd (aaA hp) (afU.mp e p m)
  |some q=>exact⟨q.2,rfl⟩
def jS(ps:List (Int×Int)):List (Int×Int):=ps.foldl (λm p=>gK m p.1 p.2) []
theorem foldI:∀(ps m:List (Int×Int)),(ps.map kI).foldl (λm p=>putD m p.1 p.2) (m.map kI)=(ps.foldl (λm p=>gK m p.1 p.2) m).map kI
 |[],_=>rfl
 |p::r,m=>by rw[aan,aeP,aeP];show(r.map kI).foldl _ (putD (m.map kI) (Sum.inl p.1) (.int p.2))=_;rw[LP];exact foldI r _
noncomputable def dP(p:Int×Int):D:=.tup [.int p.1,.int p.2]
theorem K2:∀ps:List (Int×Int),jT (ps.map dP)=some (ps.map kI)
 |[]=>rfl
 |p::r=>by
  rw[aan];show(match iM (.int p.1),jT (r.map dP) with|some k,some ps=>if aC (.int p.2)=true then some ((k,D.int p.2)::ps) else none|_,_=>none)=_;rw[K2 r];rfl
theorem Mn:Ai (.lst (ps.map dP))=some (bI (jS ps)):=by
 show(jT (ps.map dP)).map _=_;rw[K2];show some (D.bO ((ps.map kI).foldl (λm p=>putD m p.1 p.2) []))=_;rw[show([]:List (Key×D))=([]:List (Int×Int)).map kI from rfl,foldI];rfl
theorem ME(hn:(ps.map (·.1)).Nodup)(k:Int):bP (jS ps) k=bP ps k:=by
 have go:∀(ps m),(ps.map (·.1)).Nodup->bP (ps.foldl (λm p=>gK m p.1 p.2) m) k=(bP ps k).or (bP m k):=by
  intro ps
  induction ps with
  |nil=>intro m _;rfl
  |cons p r ih=>
   intro m h;rw[aan] at h;obtain⟨h1,h2⟩:=abZ.mp h;rw[aeP,ih _ h2,B_]
   by_cases hk:k=p.1
   .have hr:bP r k=none:=by
     cases e:bP r k with
     |none=>rfl
     |some v=>exact absurd (sS.mp ⟨v,e⟩) (hk ▸ h1)
    rw[hr,if_pos hk];unfold bP;rw[adN,aaA hk.symm];rfl
   .rw[if_neg hk];have:bP (p::r) k=bP r k:=by unfold bP;rw[adN,abV λe=>hk e.symm]
    rw[this]
 unfold jS;rw[go ps [] hn];cases bP ps k<;>rfl
open PySem PySem.Spec PyProof.Rows
mutual
noncomputable def py:D->PyData
 |.bl b=>.bool b
 |.int i=>.int i
 |.str x=>.str x
 |.tup ds=>.tuple (dO ds)
 |.lst ds=>.list (dO ds)
 |.gG ds=>.list (dO ds)
 |_=>.none
noncomputable def dO:List D->List PyData
 |[]=>[]
 |d::ds=>py d::dO ds
end
mutual
noncomputable def fN:D->Bool
 |.aA|.bl _|.int _|.str _=>true
 |.tup ds|.lst ds|.gG ds=>lC ds
 |_=>false
noncomputable def lC:List D->Bool
 |[]=>true
 |d::ds=>fN d&&lC ds
end
mutual
theorem mL(I:Inv X af σ H s):∀{d} {v} {f} {u},Rep X.K H d v f->RelV v u->fN d=true->∃as,Reads s.heap u (py d) as
 |.aA,_,_,_,r,q,_=>by cases r;cases q;exact⟨_,by unfold py;exact .none⟩
 |.bl b,_,_,_,r,q,_=>by cases r;cases q;exact⟨_,by unfold py;exact .bool b⟩
 |.int i,_,_,_,r,q,_=>by cases r;obtain⟨t,rfl⟩:=q;exact⟨_,by unfold py;exact .int i t⟩
 |.str x,_,_,_,r,q,_=>by cases r;obtain⟨t,rfl⟩:=q;exact⟨_,by unfold py;exact .str x t⟩
 |.tup ds,_,_,_,r,q,e=>by
  obtain⟨a,xs,rfl,hq,rs⟩:=r.jh;cases q;obtain⟨us,v1,⟨o,h1,h2,n,h3⟩,_⟩:=I.tuple hq;obtain⟨as,ra⟩:=BX I rs v1 (by unfold fN at e;exact e);exact⟨_,by unfold py;exact .tuple h1 h2 h3 (by simpa using ra)⟩
 |.lst ds,_,_,_,r,q,e=>by
  exists 66;cases q;obtain⟨us,v1,⟨o,n,h1,h2,_,h3⟩,_⟩:=I.list hq;obtain⟨as,ra⟩:=BX I rs v1 (by unfold fN at e;exact e);exact⟨_,by unfold py;exact .list h1 h2 h3 (by simpa using ra)⟩
 |.gG ds,_,_,_,r,q,e=>by
  obtain⟨a,xs,rfl,hq,rs⟩:=r.tK;cases q;obtain⟨us,v1,⟨o,n,h1,h2,_,h3⟩,_⟩:=I.list hq;obtain⟨as,ra⟩:=BX I rs v1 (by unfold fN at e;exact e);exact⟨_,by unfold py;exact .list h1 h2 h3 (by simpa using ra)⟩
 |.bO _,_,_,_,_,_,e=>by unfold fN at e;cases e
 |.cY _,_,_,_,_,_,e=>by unfold fN at e;cases e
 |.ins _ _,_,_,_,_,_,e=>by unfold fN at e;cases e
 |.exc _,_,_,_,_,_,e=>by unfold fN at e;cases e
theorem BX(I:Inv X af σ H s):∀{ds} {xs} {f} {us},aB X.K H ds xs f->aT xs us->lC ds=true->∃as,ReadsAll s.heap us (dO ds) as
 |[],_,_,_,r,q,_=>by cases r;cases q;exact⟨_,by unfold dO;exact .nil⟩
 |d::ds,_,_,_,r,q,e=>by
  cases r with
  |cons r1 r2=>
   cases q with
   |cons q1 q2=>
    unfold lC at e;obtain⟨e1,e2⟩:=(abe _ _).mp e;obtain⟨as,h1⟩:=mL I r1 q1 e1;obtain⟨bs,h2⟩:=BX I r2 q2 e2;exact⟨_,by unfold dO;exact .cons h1 h2⟩
end
mutual
theorem noDict:∀d:D,(py d).hasDict=false
 |.aA=>by unfold py;exists 61
 |.bl _=>by unfold py;exists 61
 |.int _=>by unfold py;exists 61
 |.str _=>by unfold py;exists 61
 |.tup ds=>by unfold py;exists 61;exact noDicts ds
 |.lst ds=>by unfold py;exists 61;exact noDicts ds
 |.gG ds=>by unfold py;exists 61;exact noDicts ds
 |.bO _=>by unfold py;exists 61
 |.cY _=>by unfold py;exists 61
 |.ins _ _=>by unfold py;exists 61
 |.exc _=>by unfold py;exists 61
theorem noDicts:∀ds:List D,PyData.hasDictAll (dO ds)=false
 |[]=>by unfold dO;simp only[PyData.hasDictAll]
 |d::ds=>by unfold dO;simp only[PyData.hasDictAll,noDict d,noDicts ds,Bool.or_self]
end
def um(d:D):Bool:=fN d&&(py d).showable&&decide ((py d).depth<=40)&&decide ((py d).shown.length<=sizeLine)
def qe(d:D):Option D:=if um d=true then(if decide (dep d≠0)=true then some (.str (py d).shown) else none) else none
def Kl(K:PySem.W.Frag):List V->Hp->VK->Prop:=λxs H Q=>∃a d f,xs=[V.ref a]/\Rep K H d (.ref a) f/\um d=true/\Q (.str (py d).shown) H
theorem Wv{k:Nat}(hr:bh k X.A):f7 X (.builtin "repr") (Kl X.K):=by
 exists 43;obtain⟨a,d,f,rfl,rd,hs,q⟩:=h;exists 67;unfold um at hs;obtain⟨hs,h4⟩:=(abe _ _).mp hs;obtain⟨hs,h3⟩:=(abe _ _).mp hs;obtain⟨h1,h2⟩:=(abe _ _).mp hs;obtain⟨as,rr⟩:=mL I rd ru h1;cases ru;have hu:=hr.un;have h3:=aa9 h3;exact repr_of_reads' rr h2 (PyData.noDict_hsm (noDict d)) hr.gd (by omega) (λb o e=>e) (λh' t tk hk=>⟨.str (py d).shown,H,I.kept hk,⟨t,rfl⟩,q⟩) (aa9 h4)
theorem WU{K:PySem.W.Frag}:n5 K (Kl K) qe:=by
 intro H x d1 f1 d Q r e k;unfold qe at e
 by_cases h1:um d1=true
 .rw[if_pos h1] at e
  by_cases h2:decide (dep d1≠0)=true
  .rw[if_pos h2] at e;cases e;have hr:∃p,x=.ref p:=by
    cases r<;>first|exact⟨_,rfl⟩|(exact absurd rfl (aa9 h2))
   obtain⟨p,rfl⟩:=hr;exact⟨p,d1,f1,rfl,r,h1,k H _ [] (aG.refl H) (.str _) acm λa m=>nomatch m⟩
  .rw[if_neg h2] at e;cases e
 .rw[if_neg h1] at e;cases e
theorem pQ{k:Nat}{a:Expr}{fa:EF}{p pos:Pos}(hr:bh k X.A)(hm:X.mg "repr"=none)(ha:FP X a fa)(hg:Gl X "repr":=by rfl)(hs:Y1 X a:=by rfl):FP X (.Call (.Name "repr" p) [a] [] pos) (e1 qe fa):=
 fp_1 WU ha λta pa=>lY (Wv hr) hg hm boot_repr (cP pa eW hs) (he:=hs)
theorem U8{d:D}(h:um d=true)(hd:dep d≠0):qe d=some (.str (py d).shown):=by unfold qe;rw[if_pos h,if_pos (aaA hd)]
def yD(i:Int):Prop:=i.natAbs<10 ^ 12
noncomputable def u_(r:List Int):D:=.tup (r.map D.int)
def bR(rs:List (List Int)):List D:=rs.map u_
theorem xW:∀r:List Int,dO (r.map D.int)=r.map PyData.int
 |[]=>rfl
 |i::r=>by rw[aan,aan];unfold dO;rw[xW r];unfold py;rfl
theorem AJ:∀r:List Int,lC (r.map D.int)=true
 |[]=>rfl
 |i::r=>by rw[aan];unfold lC;rw[AJ r];rfl
theorem log2_small{n:Nat}(h:n<10 ^ 12):n.log2<1920:=by
 by_cases hz:n=0
 .subst hz;decide
 .rw[Nat.log2_lt hz];exact ac5 h (adR (show 10 ^ 12<=2 ^ 40 by decide) (Nat.pow_le_pow_right (by decide) (by decide)))
theorem OC:∀r:List Int,(∀i∈r,yD i)->PyData.showableAll (r.map PyData.int)=true
 |[],_=>rfl
 |i::r,h=>by
  rw[aan];simp only[PyData.showableAll,PyData.showable,abe,aho];exact⟨log2_small (h i aak),OC r λj m=>h j (aaf _ m)⟩
theorem PK:∀r:List Int,(∀i∈r,yD i)->PyData.weightAll (r.map PyData.int)<=50*r.length
 |[],_=>by simp[PyData.weightAll]
 |i::r,h=>by
  rw[aan,acj];have h1:i.natAbs<10 ^ 12:=h i aak;have h2:=PK r λj m=>h j (aaf _ m)
  have h3:(PyData.int i).weight<=41:=by
   simp only[PyData.weight]
   split
   .omega
   .rename_i hz;have rK:i.natAbs≠0:=by
     intro q
     apply hz
     rw[Int.natAbs_eq_zero.mp q];rfl
    have:i.natAbs.log2<40:=by
     rw[Nat.log2_lt rK];exact ac5 h1 (by decide)
    omega
  simp only[PyData.weightAll];omega
theorem Qf:∀r:List Int,(∀i∈r,yD i)->PyData.leavesShortAll 13 (r.map PyData.int)=true
 |[],_=>rfl
 |i::r,h=>by
  rw[aan];simp only[PyData.leavesShortAll,PyData.leavesShort,abe,aho];exact⟨PyData.shown_int_le (h i aak),Qf r λj m=>h j (aaf _ m)⟩
theorem depthAll_ints:∀r:List Int,PyData.depthAll (r.map PyData.int)=0
 |[]=>rfl
 |i::r=>by rw[aan];simp only[PyData.depthAll,PyData.depth,depthAll_ints r];rfl
noncomputable def jG(r:List Int):PyData:=.tuple (r.map PyData.int)
theorem af9(r:List Int):py (u_ r)=jG r:=by unfold u_ jG;unfold py;rw[xW]
theorem Ey:∀rs:List (List Int),dO (bR rs)=rs.map jG
 |[]=>rfl
 |r::rs=>by
  show dO (u_ r::bR rs)=jG r::rs.map jG;unfold dO;rw[af9,Ey rs]
theorem Pn:∀rs:List (List Int),lC (bR rs)=true
 |[]=>rfl
 |r::rs=>by
  show lC (u_ r::bR rs)=true;unfold lC;rw[Pn rs,Bool.and_true];unfold u_ fN;exact AJ r
def dD(d:D):Bool:=fN d&&(py d).canLay0&&decide ((py d).depth<=40)
def zm(d1 d2:D):Option D:=if(dD d1&&dD d2)=true then some (.bl (PyData.eqv (py d1) (py d2))) else none
def mG(d1 d2:D):Option D:=if(dD d1&&dD d2)=true then some (.bl (!PyData.eqv (py d1) (py d2))) else none
def Bl(K:PySem.W.Frag)(neg:Bool):R2:=λx y H Q=>∃d1 d2 f1 f2,Rep K H d1 x f1/\Rep K H d2 y f2/\dD d1=true/\dD d2=true/\Q (.bl (if neg=true then !PyData.eqv (py d1) (py d2) else PyData.eqv (py d1) (py d2))) H
theorem lay_of(h:dD d=true):fN d=true/\(py d).canLay0=true/\(py d).depth<=40:=by
 unfold dD at h;obtain⟨h,h3⟩:=(abe _ _).mp h;obtain⟨h1,h2⟩:=(abe _ _).mp h;exact⟨h1,h2,aa9 h3⟩
theorem K0(hu:X.A.units+64<cLine):dg X (compareOp .NotEq) (Bl X.K true):=by
 exists 42;obtain⟨d1,d2,f1,f2,r1,r2,l1,l2,q⟩:=h;obtain⟨a1,a2,a3⟩:=lay_of l1;obtain⟨b1,b2,b3⟩:=lay_of l2;obtain⟨as,ra⟩:=mL I r1 rx a1;obtain⟨bs,rb⟩:=mL I r2 ry b1;exact SeqAt.compareNe_reads ra rb a2 b2 (by omega) ⟨.bl _,H,I,rfl,q⟩
theorem Xk(hu:X.A.units+64<cLine):dg X (compareOp .Eq) (Bl X.K false):=by
 exists 42;obtain⟨d1,d2,f1,f2,r1,r2,l1,l2,q⟩:=h;obtain⟨a1,a2,a3⟩:=lay_of l1;obtain⟨b1,b2,b3⟩:=lay_of l2;obtain⟨as,ra⟩:=mL I r1 rx a1;obtain⟨bs,rb⟩:=mL I r2 ry b1;exact SeqAt.compareEq_reads ra rb a2 b2 (by omega) ⟨.bl _,H,I,rfl,q⟩
theorem KG{K:PySem.W.Frag}:gz K (Bl K true) mG:=by
 exists 41;unfold mG at e
 by_cases hc:(dD d1&&dD d2)=true
 .rw[if_pos hc] at e;cases e;obtain⟨c1,c2⟩:=(abe _ _).mp hc;exact⟨d1,d2,f1,f2,r1,r2,c1,c2,k H _ (aG.refl H) (.bl _)⟩
 .rw[if_neg hc] at e;cases e
theorem abk{K:PySem.W.Frag}:gz K (Bl K false) zm:=by
 exists 41;unfold zm at e;obtain⟨hc,e⟩:=ci e;cases e;obtain⟨c1,c2⟩:=(abe _ _).mp hc;exact⟨d1,d2,f1,f2,r1,r2,c1,c2,k H _ (aG.refl H) (.bl _)⟩
theorem Q4(hu:X.A.units+64<cLine)(ha:FP X a fa)(hb:FP X b fb):FT X (.Compare a [.NotEq] [b] pos) (tV (e2 mG fa fb)):=jg (K0 hu) KG ha hb (ie _)
theorem aeu(hu:X.A.units+64<cLine)(ha:FP X a fa)(hb:FP X b fb):FP X (.Compare a [.NotEq] [b] pos) (e2 mG fa fb):=nG (K0 hu) KG ha hb (ie _)
theorem JI(hu:X.A.units+64<cLine)(ha:FP X a fa)(hb:FP X b fb):FP X (.Compare a [.Eq] [b] pos) (e2 zm fa fb):=nG (Xk hu) abk ha hb (ie _)
theorem JE{d:D}(h:dD d=true):zm d d=some (.bl true):=by unfold zm;rw[h,agc,if_pos rfl,SeqAt.eqv_refl _ (lay_of h).2.1]
theorem Bd:∀r:List Int,PyData.canLayAll0 (r.map PyData.int)=true
 |[]=>rfl
 |i::r=>by rw[aan];simp only[PyData.canLayAll0,PyData.canLay0,Bd r,agc]
theorem N4:∀rs:List (List Int),PyData.canLayAll0 (rs.map jG)=true/\PyData.depthAll (rs.map jG)<=1
 |[]=>⟨rfl,by simp[PyData.depthAll]⟩
 |r::rs=>by
  obtain⟨h1,h2⟩:=N4 rs;rw[aan];refine⟨by simp only[PyData.canLayAll0,jG,PyData.canLay0,h1,Bool.and_true];exact Bd r,?_⟩;simp only[PyData.depthAll,jG,PyData.depth,depthAll_ints r];omega
theorem LJ(rs:List (List Int)):dD (.lst (bR rs))=true:=by
 obtain⟨h1,h2⟩:=N4 rs;have e:py (.lst (bR rs))=.list (rs.map jG):=by unfold py;rw[Ey]
 unfold dD;rw[e];have a1:fN (.lst (bR rs))=true:=by unfold fN;exact Pn rs
 have a2:(PyData.list (rs.map jG)).canLay0=true:=by simp only[PyData.canLay0];exact h1
 have a3:(PyData.list (rs.map jG)).depth<=40:=by simp only[PyData.depth];omega
 rw[a1,a2,aaA a3];rfl
end L2.Ev
namespace L2.Ev
open PySem PySem.Spec PyProof.Rows
theorem adL:uv "tuple":=by
 intro K t m;simp only[aaQ,aeK,ahb] at m;rcases m with rfl|rfl|rfl|rfl|rfl|rfl<;>rfl
noncomputable def oN(t:TF)(fa fb:EF):EF:=λρ=>match t ρ with
 |some true=>fa ρ
 |some false=>fb ρ
 |none=>none
theorem OW(hc:FT X c tc)(ha:FP X a fa)(hb:FP X b fb):FP X (.IfExp c a b pos) (oN tc fa fb):=by
 obtain⟨t,p,q⟩:=hc;obtain⟨t1,p1,q1⟩:=ha;obtain⟨t2,p2,q2⟩:=hb;exists 21,adG p p1 p2;unfold oN at e;cases h:tc ρ with
 |none=>rw[h] at e;cases e
 |some y=>
  rw[h] at e;refine q ok h λH1 s1=>?_
  cases y with
  |true=>rw[if_pos rfl];exact q1 (ok.same s1) e λH2 v fp s2 r2 g2=>k H2 v fp (s1.trans s2) r2 (g2.back s1)
  |false=>rw[if_neg abu];exact q2 (ok.same s1) e λH2 v fp s2 r2 g2=>k H2 v fp (s1.trans s2) r2 (g2.back s1)
theorem Om(h:tc ρ=some true):oN tc fa fb ρ=fa ρ:=by unfold oN;rw[h]
theorem OL(h:tc ρ=some false):oN tc fa fb ρ=fb ρ:=by unfold oN;rw[h]
noncomputable def Em(_ j:Int):Bool:=decide (0<j)&&decide (j<1073741824)
def oDiv:=x_ Em λi j=>i / j
theorem Wn(ha:FP X a fa)(hb:FP X b fb):FP X (.BinOp a .FloorDiv b pos) (e2 oDiv fa fb):=xE Y3 (JB λi j h=>by
 obtain⟨h1,h2⟩:=(abe _ _).mp h;exact⟨aa9 h1,aa9 h2⟩) ha hb
theorem acZ(h:0<n)(h2:n<1073741824):oDiv (.int m) (.int n)=some (.int (m / n)):=by
 show(if Em m n=true then some (D.int (m / n)) else none)=_;rw[if_pos (by unfold Em;rw[aaA h,aaA h2];rfl)]
def jN(neg:Bool):D->D->Option D
 |.int i,.lst ds=>(dY ds).map λns=>.bl (if neg=true then !(ns.any (· == i)) else ns.any (· == i))
 |_,_=>none
theorem abz(i:Int)(ns:List Int):uH (.int i) (ns.map V.int)=ns.any (· == i):=by
 unfold uH;rw[agO];rfl
theorem aaT(ns:List Int):(ns.map V.int).all mW=true:=by
 rw[ahe];exact adf.mpr λ_ _=>rfl
theorem Jz{K:PySem.W.Frag}:gz K (Cs K neg) (jN neg):=by
 exists 41;cases d1 with
 |int i=>
  cases d2 with
  |lst ds=>
   have e:((dY ds).map λns=>D.bl (if neg=true then !(ns.any (· == i)) else ns.any (· == i)))=some d:=e;exists h,dY ds,ns,e;cases e;obtain⟨p,xs,f,rfl,hq,rs,_⟩:=r2.dZ;cases r1;have ex:=rH rs h;subst ex;refine⟨p,_,rfl,.inl hq,rfl,aaT ns,?_⟩;rw[abz];exists 48
  |_=>cases e
 |_=>cases e
theorem P1(ha:FP X a fa)(hb:FP X b fb)(hm:behindInMarks .In b=false:=by rfl):FT X (.Compare a [.In] [b] pos) (tV (e2 (jN false) fa fb)):=jg OI Jz ha hb hm
theorem aft(ha:FP X a fa)(hb:FP X b fb)(hm:behindInMarks .NotIn b=false:=by rfl):FT X (.Compare a [.NotIn] [b] pos) (tV (e2 (jN true) fa fb)):=jg Fk Jz ha hb hm
theorem OB(ha:FP X a fa)(hb:FP X b fb)(hm:behindInMarks .NotIn b=false:=by rfl):FP X (.Compare a [.NotIn] [b] pos) (e2 (jN true) fa fb):=nG Fk Jz ha hb hm
theorem BV{ns:List Int}:jN neg (.int i) (.lst (ns.map D.int))=some (.bl (if neg=true then !(ns.any (· == i)) else ns.any (· == i))):=by
 show((dY (ns.map D.int)).map _)=_;rw[ux];rfl
def lH(i:Nat)(fv:EF):SF:=λρ=>match fv ρ,ρ[i]? with
 |some (d,_),some (some (.lst ds,.own))=>if(aC d&&aM ds&&decide (ds.length<sizeLine))=true then some (.nx (bT ρ i (.lst (ds++[d])))) else none
 |_,_=>none
theorem BD(i:Nat)(hv:FP X a fv)(va:VA X i x:=by walk_at "va")(hs:Y1 X a:=by rfl)
  (lS:attributeBase (.Name x p1) "append" X.env (eval (.Name x p1) X.env)=eval (.Name x p1) X.env:=by rfl)
  (lZ:((backTo p3 (starEach [a] X.env)).all (λx=>!x.1)&&(backToKw p3 (keywordEach [] X.env)).all (λx=>x.1.isSome)&&decide ([a].length+([]:List Keyword).length+(if([]:List Keyword).isEmpty then 0 else 1)<30))=true:=by rfl)
  (lN:(p2.endLine==p3.line)=true:=by rfl) (kq:swapsWith (.Call (.Attribute (.Name x p1) "append" p2) [a] [] p3) none pos.line X.env=pure false:=by rfl) :
  eT X (.Expr (.Call (.Attribute (.Name x p1) "append" p2) [a] [] p3) pos) (lH i fv):=by
 obtain⟨tv,lB,sv⟩:=hv;exists 25,Ar (yg PySem.F.plainAttrs_list PySem.F.slot_list_append PySem.F.type_list_append Gw va.pe (cP lB eW hs) lS lZ lN hs rfl) kq;unfold lH at e
 split at e
 .rename_i d td ds g1 g2;obtain⟨hc,e⟩:=ci e;cases e;obtain⟨c1,c3⟩:=(abe _ _).mp hc;obtain⟨c1,c2⟩:=(abe _ _).mp c1;obtain⟨xv,fp,cL,r,zz⟩:=ok.sl i _ _ g2;refine⟨xv,cL,?_⟩;obtain⟨l,xs,f,rfl,hq,_,_⟩:=r.dZ;refine⟨.inl ⟨rfl,_,hq⟩,?_⟩;refine sv ok g1 λH1 v vo s1 rv _=>?_
  have r':=r.same s1;have bB:=ok.same s1;generalize hw:(V.ref l)=w at r' cL;cases r' with
  | @lst a' ys _ f' h rs=>
   cases hw;have hn:=rs.aC c2;subst hn;have EO:=rv.aC c1;subst EO;refine⟨_,ys,v,rfl,rfl,h,by rw[<- rs.length];exact aa9 c3,?_⟩;have im:aX H1 (upd H1 l (.lst (ys++[v]))):=aX.upd h rfl;refine q z σ _ (Ok.Gh bB g2 cL zz aak h rfl (.lst cz ?_)) (.refl _ _);exact aB.append (rs.frame (λa m=>nomatch m) im) (aB.cons (rv.frame (λa m=>nomatch m) im) .nil)
 .cases e
theorem HL(h1:fv ρ=some (.int n,t1))(h2:ρ[i]? = some (some (.lst (ns.map D.int),.own)))(hl:ns.length<sizeLine):
  lH i fv ρ=some (.nx (bT ρ i (.lst ((ns++[n]).map D.int)))):=by
 unfold lH;rw[h1,h2];dsimp only;have Ux:∀ns:List Int,aM (ns.map D.int)=true:=λns=>by
  induction ns with
  |nil=>rfl
  |cons n r ih=>rw[aan];unfold aM;rw[ih];rfl
 rw[if_pos (by rw[Ux,List.length_map,aaA hl];rfl),adh];rfl
def cutD(ds:List D)(lo hi:Option Int):List D:=(ds.drop (HT.gJ ds.length 0 lo)).take (HT.gJ ds.length ds.length hi-HT.gJ ds.length 0 lo)
def oE(lo hi:Option Int):D->Option D
 |.lst ds=>if aM ds=true then some (.lst (cutD ds lo hi)) else none
 |.gG ds=>if aM ds=true then some (.lst (cutD ds lo hi)) else none
 |_=>none
theorem aB.Aa{K:PySem.W.Frag}:∀{ds} {xs} (n),aB K H ds xs []->aB K H (ds.drop n) (xs.drop n) []
 |ds,xs,0,r=>r
 |[],_,n+1,r=>by cases r;exact .nil
 |d::ds,xs,n+1,r=>by
  generalize hf:([]:List Addr)=fp at r;cases r with
  | @cons _ _ _ _ f1 f2 r1 r2=>
   obtain⟨z1,z2⟩:=agY.mp hf.symm;subst z1 z2;exact aB.Aa n r2
theorem aB.A0{K:PySem.W.Frag}:∀{ds} {xs} (n),aB K H ds xs []->aB K H (ds.take n) (xs.take n) []
 |ds,xs,0,r=>.nil
 |[],_,n+1,r=>by cases r;exact .nil
 |d::ds,xs,n+1,r=>by
  generalize hf:([]:List Addr)=fp at r;cases r with
  | @cons _ _ _ _ f1 f2 r1 r2=>
   obtain⟨z1,z2⟩:=agY.mp hf.symm;subst z1 z2;exact aB.cons r1 (aB.A0 n r2)
def zW(X:Cx)(e:Option Expr)(v:Option Int):Prop:=∃t,PO X e t/\∀σ H Q,Q v H->t σ H Q
theorem Og:zW X none none:=⟨_,GW,λ_ _ _ q=>q⟩
theorem Ke{j p}:zW X (some (.Constant (.int i) j p)) (some i):=⟨_,FU RV,λ_ _ _ q=>⟨i,rfl,q⟩⟩
theorem Qq{lo hi:Option Expr}(hl:zW X lo l)(hh:zW X hi h)(ha:FP X a fa):FP X (.Subscript a (.Slice lo hi none p2) pos) (e1 (oE l h) fa):=by
 exists 58;obtain⟨tl,pl,ql⟩:=hl;obtain⟨th,ph,qh⟩:=hh;exists 21,DG Dg p pl ph;obtain⟨d1,t1,g1,g2,rfl⟩:=rR e;refine q ok g1 λH1 x f1 s1 r1 _=>?_
 refine ql σ H1 _ (qh σ H1 _ ?_);have fin:∀{ds} {xs} {f} {w},aB X.K H1 ds xs f->b7 X.K H1 w xs->(if aM ds=true then some (D.lst (cutD ds l h)) else none)=some d->Qw X.K (.ref w) l h H1 Q:=λ{ds xs f w} rs hq e=>by
  obtain⟨hi,e⟩:=ci e;cases e;have hn:=rs.aC hi;subst hn;refine⟨w,xs,rfl,hq,λp hp=>?_⟩;have s2:aG H1 (upd H1 p (.lst (kR xs l h))):=λb o e=>by rw[aO (cZ e hp)];exact e
  have rr:aB X.K H1 (cutD ds l h) (kR xs l h) []:=by
   unfold cutD kR;rw[rs.length];exact aB.A0 _ (aB.Aa _ rs)
  refine k _ _ [p] (s1.trans s2) (.lst cz (rr.same s2)) ⟨abZ.mpr ⟨(λm=>by cases m),acm⟩,λa m=>?_⟩;cases aaB.mp m;exact s1.free hp
 cases d1 with
 |lst ds=>
  obtain⟨w,xs,f,rfl,hq,rs,_⟩:=r1.dZ;exact fin rs hq g2
 |gG ds=>
  obtain⟨w,xs,rfl,hq,rs⟩:=r1.tK;exact fin rs hq g2
 |_=>cases g2
end L2.Ev
namespace L2
open PySem PySem.Spec PyProof.Rows
theorem Inv.aa3{ch:List Addr}{o:HO}(I:Inv X af σ H s)(hf:∀b∈ch,iT X af H b)(k:∀b o,b∉ch->s.heap.get? b=some o->h'.get? b=some o)
  (hT:s.heap.objs.size<=T) (new:dz X.prog X.w (upd H T o) h' T o):Inv X af σ (upd H T o) { s with heap:=h',toks:=t' }:=by
 have nT:=I.aF.fresh hT;have lV:∀b u,H b=some u->b∉ch:=λb u e m=>by rw[(hf b m).1] at e;cases e
 refine I.step (λb m=>⟨(hf b m).2.2.2.1,(hf b m).2.1,(hf b m).2.2.2.2.1,(hf b m).2.2.2.2.2⟩) (λb o _ _ m e _=>k b o m e) (λb o _ _ m e _=>⟨o.slots,k b o m e⟩)
  (λb o _ e n=>by rw[aO (acL (ac5 (abQ e) hT))];exact n) (λb o m e=>⟨o,k b o m e⟩) (λb xs e=>by rw[aO (cZ e nT)];exact e) (λb o u e=>by rw[aO (cZ e nT)];exact e)
  (λb ps e=>⟨#[],by rw[aO (cZ e nT),e];simp⟩) (λm hm=>?_) (λb u e=>?_) I.bare
 .obtain⟨o,es,ep,ho,r⟩:=hm;exact⟨o,es,ep,k _ o (λm=>(hf _ m).2.1 rfl) ho,r⟩
 .by_cases hb:b=T
  .subst hb;rw[cz] at e;cases e;exact new
  .rw[aO hb] at e;refine(I.aF b u e).gx (λc v hc q=>k c v ?_ q) (λc q=>by rw[aO (cZ q nT)];exact q) λc xs q=>by rw[aO (cZ q nT)];exact q
   rcases hc with z|z
   .rw[z];exact lV b u e
   .exact lV c _ z
theorem Inv.RS{ch:List Addr}(I:Inv X af σ H s)(hf:∀b∈ch,iT X af H b)(k:∀b o,b∉ch->s.heap.get? b=some o->h'.get? b=some o):Inv X af σ H { s with heap:=h',toks:=t' }:=by
 have lV:∀b u,H b=some u->b∉ch:=λb u e m=>by rw[(hf b m).1] at e;cases e
 refine I.step (λb m=>⟨(hf b m).2.2.2.1,(hf b m).2.1,(hf b m).2.2.2.2.1,(hf b m).2.2.2.2.2⟩) (λb o _ _ m e _=>k b o m e) (λb o _ _ m e _=>⟨o.slots,k b o m e⟩)
  (λb o _ e n=>n) (λb o m e=>⟨o,k b o m e⟩) (λb xs e=>e) (λb o u e=>e) (λb ps e=>⟨#[],by rw[e];simp⟩) (λm hm=>?_) (λb u e=>?_) I.bare
 .obtain⟨o,es,ep,ho,r⟩:=hm;exact⟨o,es,ep,k _ o (λm=>(hf _ m).2.1 rfl) ho,r⟩
 .refine(I.aF b u e).gx (λc v hc q=>k c v ?_ q) (λc q=>q) λc xs q=>q
  rcases hc with z|z
  .rw[z];exact lV b u e
  .exact lV c _ z
def Hy(K:PySem.W.Frag)(l1 l2:Addr):It:=
  ⟨λi H=>∃xs ys x y,b7 K H l1 xs/\b7 K H l2 ys/\xs[i]? = some x/\ys[i]? = some y,
   λi H v H'=>∃T a b,H T=none/\v=.ref T/\H'=upd H T (.tup [a,b])/\(∀xs,b7 K H l1 xs->xs[i]? = some a)/\∀ys,b7 K H l2 ys->ys[i]? = some b,
   λi H=>∃xs ys,b7 K H l1 xs/\b7 K H l2 ys/\(xs.length<=i\/ys.length<=i),false⟩
def Tz(z TI TO i1 i2 l1 l2:Addr)(i:Nat)(h:Heap):Prop:=IsZip h z TI TO .none/\IsPair h TI (.ref i1) (.ref i2)/\(∃a b,IsPair h TO a b)/\h.IsListIter i1 l1 i/\h.IsListIter i2 l2 i
theorem abh{K:PySem.W.Frag}{x1}{z TI TO i1 i2 l1 l2:Addr}(D:ZipApart z TI TO i1 i2 l1 l2):
  Turn P w K (.Tuple elts x1 pos) (Hy K l1 l2) [z,TI,TO,i1,i2] z (Tz z TI TO i1 i2 l1 l2) where
 mem:=by simp
 obj:=λi h st b hb=>by
  obtain⟨s1,s2,⟨a,b',s3⟩,⟨o4,e4,c4,d4⟩,⟨o5,e5,c5,d5⟩⟩:=st;simp only[aaQ,aeK,ahb] at hb;rcases hb with rfl|rfl|rfl|rfl|rfl
  .exact⟨_,s1,λv q=>by cases q⟩
  .exact⟨_,s2,λv q=>by cases q⟩
  .exact⟨_,s3,λv q=>by cases q⟩
  .exact⟨o4,e4,λv q=>by rw[d4] at q;cases q⟩
  .exact⟨o5,e5,λv q=>by rw[d5] at q;cases q⟩
 keep:=λi h h' st k=>by
  obtain⟨s1,s2,⟨a,b',s3⟩,s4,s5⟩:=st;exact⟨k _ (by simp) _ s1,k _ (by simp) _ s2,⟨a,b',k _ (by simp) _ s3⟩,s4.at λo e=>k _ (by simp) o e,s5.at λo e=>k _ (by simp) o e⟩
 item:=by
  exists 40;subst hP hw hK;obtain⟨s1,s2,⟨a,b',s3⟩,s4,s5⟩:=st;obtain⟨xs,ys,x,y,q1,q2,e1,e2⟩:=hg;obtain⟨us,v1,p1,z1⟩:=I.list q1;obtain⟨ws,v2,p2,z2⟩:=I.list q2;obtain⟨u,hu,ru⟩:=v1.get e1;obtain⟨t,ht,rt⟩:=v2.get e2;refine wpAny_pyNext_zip_item D s1 s2 s3 s4 s5 p1.isList p2.isList (by simpa using hu) (by simpa using ht) λh' a1 a2 a3 a4 a5 a6 a7=>⟨_,rfl,?_⟩
  refine wpAny_letOwnedTupleGo_zip a1 λyd b1 b2=>?_
  have lz:=abQ s1;have nz:=agy lz;have T2:=b2.extBut _ _ nz a5;have nT:=I.aF.fresh (abW _);have I1:Inv X af σ (upd H s.heap.objs.size (.tup [x,y])) { s with heap:=yd }:=I.aa3 (ch:=[z,TO,i1,i2]) (λb m=>hf b (by
    simp only[aaQ,aeK,ahb] at m ⊢;rcases m with rfl|rfl|rfl|rfl<;>simp)) (λb o m e=>by
    simp only[aaQ,aeK,ahb,not_or] at m;exact b2.extBut _ _ m.1 (a7 b o m.1 m.2.1 m.2.2.1 m.2.2.2 e)) (abW _) (show dz X.prog X.w _ yd _ (.tup [x,y]) from⟨show 2<=sizeLine by unfold sizeLine;lia,[u,t],.cons ru (.cons rt .nil),⟨_,T2,rfl,rfl,_,rfl⟩⟩)
  refine⟨.ref s.heap.objs.size,_,I1,rfl,⟨_,x,y,nT,rfl,rfl,λYY h=>by rw[I.J5 h q1];exact e1,λys' h=>by rw[I.J5 h q2];exact e2⟩,?_,λb m=>?_⟩
  .have up:∀c o,c≠z->h'.get? c=some o->yd.get? c=some o:=λc o n e=>b2.extBut _ _ n e
   exact⟨b1,up _ _ D.TIz (a7 TI _ D.TIz D.TITO D.TIi1 D.TIi2 s2),⟨u,t,up _ _ D.TOz a2⟩,a3.at λo e=>up _ o D.i1z e,a4.at λo e=>up _ o D.i2z e⟩
  .rw[aO]
   .exact(hf b m).1
   .rintro rfl
    obtain⟨o4,e4,_⟩:=id s4;obtain⟨o5,e5,_⟩:=id s5;simp only[aaQ,aeK,ahb] at m;rcases m with m|m|m|m|m
    .exact nz m
    .exact absurd (abQ s2) (by rw[<- m];exact aeX _)
    .exact absurd (abQ s3) (by rw[<- m];exact aeX _)
    .exact absurd (abQ e4) (by rw[<- m];exact aeX _)
    .exact absurd (abQ e5) (by rw[<- m];exact aeX _)
 done:=by
  exists 40;subst hP hw hK;obtain⟨s1,s2,⟨a,b',s3⟩,s4,s5⟩:=st;obtain⟨xs,ys,q1,q2,e⟩:=hg;obtain⟨us,v1,p1,z1⟩:=I.list q1;obtain⟨ws,v2,p2,z2⟩:=I.list q2;have l1:=v1.length;have l2:=v2.length;refine wpAny_pyNext_zip_end (I.ok.hd (hc.resolve_right λz=>abu z)) D s1 s2 s3 s4 s5 p1.isList p2.isList (e.imp (λe=>by simp;lia) λe=>by simp;lia) λh' k=>⟨rfl,I.RS (ch:=[z,TO,i1,i2]) (λb m=>hf b (by
    simp only[aaQ,aeK,ahb] at m ⊢;rcases m with rfl|rfl|rfl|rfl<;>simp)) λb o m e=>?_⟩
  simp only[aaQ,aeK,ahb,not_or] at m;exact k b o m.1 m.2.1 m.2.2.1 m.2.2.2 e
 self:=λ_ _ _ _ _ st h=>wpAny_pyIter_zip st.1 h
def aci(K:PySem.W.Frag)(ta:TA):TI:=λσ H R=>ta σ H λvs H1=>∃l1 l2 xs ys,vs=[.ref l1,.ref l2]/\b7 K H1 l1 xs/\b7 K H1 l2 ys/\R (Hy K l1 l2) H1
theorem Ug{x1}(hg:Gl X "zip")(hm:X.mg "zip"=none)(ha:PA X [a,b] ta)(hs:starEach [a,b] X.env=[(false,eval a X.env),(false,eval b X.env)]:=by rfl)(cG:Y1 X b:=by rfl):
  PI X (.Tuple elts x1 tp) (.Call (.Name "zip" p) [a,b] [] pos) (aci X.K ta):=by
 intro af s σ H R I h;refine afJ (qH I hg hm boot_zip (agC (ha.n I h λus s1 vs H1 I1 r1 q1=>?_) (by rw[hs,cG]) (by rw[cG];rfl)));obtain⟨l1,l2,xs,ys,rfl,h1,h2,q⟩:=q1;obtain⟨u,v,rfl,ru,rv⟩:=vals2 r1;cases ru;cases rv;obtain⟨us,v1,p1,z1⟩:=I1.list h1;obtain⟨ws,v2,p2,z2⟩:=I1.list h2;have b1:l1<s1.heap.objs.size:=let⟨o,n,e,_⟩:=p1;abQ e
 have b2:=let⟨o,n,e,_⟩:=p2;abQ e
 refine call_zip_2 p1.isList p2.isList λh' g1 g2 g3 g4 g5 g6 k=>?_
 refine wpAny_pyIter_zip g1 ?_;refine⟨_,_,_,_,H1,rfl,I1.kept k,abh (zipApart_new b1 b2),⟨g1,g2,⟨_,_,g3⟩,g4,g5⟩,λc hc=>?_,q⟩;have up:∀j,iT X af H1 (s1.heap.objs.size+j):=λj=>I1.rP (Nat.le_add_right _ _) (I1.aF.fresh (Nat.le_add_right _ _))
 simp only[aaQ,aeK,ahb] at hc;rcases hc with rfl|rfl|rfl|rfl|rfl
 .exact up 4
 .exact up 2
 .exact up 3
 .exact up 0
 .exact up 1
end L2
namespace L2.Ev
open PySem PySem.Spec PyProof.Rows
def qI(fa fb:EF):IF:=λρ=>match fa ρ,fb ρ with
 |some (.lst ds,t1),some (.lst es,t2)=>if(aM ds&&aM es)=true then some ((ds.zip es).map λp=>.tup [p.1,p.2],jP [(.lst ds,t1),(.lst es,t2)]) else none
 |_,_=>none
theorem aB.MY{K:PySem.W.Frag}{i:Nat}(r:aB K H ds vs [])(e:ds[i]? = some d):∃v,vs[i]? = some v/\Rep K H d v []:=by
 obtain⟨v,f,e1,r1,s⟩:=r.get e;have:f=[]:=List.eq_nil_iff_forall_not_mem.mpr λa m=>by have:=s a m;cases this
 subst this;exact⟨v,e1,r1⟩
theorem Zo{K:PySem.W.Frag}{f1 f2:List Addr}(c1:aM ds=true)(c2:aM es=true):
  sW K (Hy K l1 l2) ((ds.zip es).map λp=>.tup [p.1,p.2]) [⟨.lst ds,.ref l1,f1⟩,⟨.lst es,.ref l2,f2⟩]:=by
 intro H i hh;obtain⟨p1,xs,g1,e1,q1,r1,_⟩:=(hh _ aak).dZ;obtain⟨p2,ys,g2,e2,q2,r2,_⟩:=(hh _ (aaf _ aak)).dZ;cases e1;cases e2;have n1:=r1.aC c1;have n2:=r2.aC c2;subst n1 n2;refine⟨λd hd=>?_,λhl=>?_⟩
 .rw[acn] at hd;cases hz:(ds.zip es)[i]? with
  |none=>rw[hz] at hd;cases hd
  |some pr=>
   rw[hz] at hd;cases hd;obtain⟨k1,k2⟩:=List.getElem?_zip_eq_some.mp hz;obtain⟨x,hx,rx⟩:=r1.MY k1;obtain⟨y,hy,ry⟩:=r2.MY k2;refine⟨⟨xs,ys,x,y,q1,q2,hx,hy⟩,λv H1 hv=>?_⟩;obtain⟨T,a,b,hT,rfl,rfl,ha,hb⟩:=hv;have ea:=ha xs q1;have eb:=hb ys q2;rw[hx] at ea;rw[hy] at eb;cases ea;cases eb;have s2:aG H (upd H T (.tup [x,y])):=λb o e=>by rw[aO (cZ e hT)];exact e
   exact⟨s2,[],.tup (cj.of cz) (aB.cons (rx.same s2) (aB.cons (ry.same s2) .nil)),λa m=>nomatch m⟩
 .rw[List.length_map,List.length_zip,r1.length,r2.length] at hl;exact⟨xs,ys,q1,q2,by lia⟩
theorem M1{x1}(hm:X.mg "zip"=none)(ha:FP X a fa)(hb:FP X b fb)(hg:Gl X "zip":=by rfl)(hs:starEach [a,b] X.env=[(false,eval a X.env),(false,eval b X.env)]:=by rfl)(cG:Y1 X b:=by rfl):
  FI X (.Tuple elts x1 tp) (.Call (.Name "zip" p) [a,b] [] pos) (qI fa fb):=by
 obtain⟨t,pa,hlen,q⟩:=ao ha (ao hb aE cG) (by rw[hs,cG]);exists 24,Ug hg hm pa hs cG;unfold qI at e
 split at e
 .rename_i d1 t1 d2 t2 h1 h2;obtain⟨hc,e⟩:=ci e;cases e;obtain⟨c1,c2⟩:=(abe _ _).mp hc;refine q ok (by unfold ay aJ;rw[h1,h2]) λH1 vs fp s1 r g=>?_
  cases r with
  | @cons _ v1 _ _ f1 _ r1 r=>
   cases r with
   | @cons _ v2 _ _ f2 _ r2 r=>
    cases r;obtain⟨l1,xs,g1,rfl,q1,_,_⟩:=r1.dZ;obtain⟨l2,ys,g2,rfl,q2,_,_⟩:=r2.dZ;refine⟨l1,l2,xs,ys,rfl,q1,q2,k H1 _ [⟨.lst d1,.ref l1,f1⟩,⟨.lst d2,.ref l2,f2⟩] s1 (λh m=>?_) (Zo c1 c2)⟩;have go:=g.over ok;rcases aaQ.mp m with rfl|m
    .exact⟨r1,λa ma=>go a (abp _ ma)⟩
    .cases aaB.mp m;exact⟨r2,λa ma=>go a (aaw _ (abp _ ma))⟩
 .cases e
end L2.Ev
namespace L2
open PySem PySem.Spec PyProof.Rows
theorem Oq:∀{bs:List Bool} {us},aT (bs.map V.bl) us->us=bs.map Value.bool
 |[],_,r=>by rw[ahc] at r;cases r;rfl
 |b::bs,_,r=>by
  rw[aan] at r;cases r with
  |cons r1 r2=>cases r1;rw[Oq r2];rfl
theorem range_all(bs:List Bool):(List.range bs.length).all (λj=>bs.getD j true)=bs.all id:=by
 induction bs with
 |nil=>rfl
 |cons b r ih=>
  rw[acj,List.range_succ_eq_map,ahg,ahe,ahg,<- ih];rfl
theorem aeD(hc:X.calm=true):f7 X (.builtin "all") (λxs H Q=>∃(p:Addr) (bs:List Bool),xs=[V.ref p]/\b7 X.K H p (bs.map V.bl)/\Q (.bl (bs.all id)) H):=by
 exists 43;obtain⟨p,bs,rfl,hq,q⟩:=h;exists 67;cases ru;obtain⟨au,v1,pl,hz⟩:=I.list hq;have ei:=Oq v1;subst ei;have lp:=let⟨o,n,e,_⟩:=pl;abQ e
 have hh:X.A.in1.handled=none:=I.ok.hd hc;refine call_all_walk (wpAny_pyIter_list pl.isList ?_);refine⟨s.heap.objs.size,_,_,_,_,_,λj=>bs.getD j true,rfl,Walks.list hh s.heap.objs.size p (acL lp) (bs.map Value.bool).toArray,⟨⟨_,ab8 _ rfl,rfl,rfl⟩,pl.isList.at λo e=>aap _ e⟩,?_,λh' tk hk=>?_⟩
 .intro i v s' Q' E' hv hQ;rw[List.getElem?_toArray,acn] at hv;exists e,bs[i]?,b,hv;cases hv;dsimp only at hQ;rw[adM,e] at hQ;exact afd hQ
 .have f:=I.rP (abW s.heap.objs.size) (I.aF.fresh (abW _));have I1:Inv X af σ H { s with heap:=s.heap.push { cls:=.type "list_iterator",data:=.fields #[.ref p,.int 0 0] } }:=I.kept λb o e=>aap _ e
  rw[ab6,List.length_map,range_all];exact⟨.bl _,H,I1.RS (λb m=>by rw[aaB.mp m];exact f) λb o m e=>hk b o m e,rfl,q⟩
end L2
namespace L2.Ev
open PySem PySem.Spec PyProof.Rows
noncomputable def mh:List D->Option (List Bool)
 |[]=>some []
 |.bl b::r=>(mh r).map (b::·)
 |_=>none
theorem R9{K:PySem.W.Frag}:∀{ds} {xs} {fp} {bs},aB K H ds xs fp->mh ds=some bs->xs=bs.map V.bl
 |[],_,_,bs,r,e=>by cases r;cases e;rfl
 |d::ds,_,_,bs,r,e=>by
  cases r with
  |cons h t=>
   cases d<;>try (cases e;done)
   cases h;unfold mh at e;exists q,mh ds,r,e;cases e;rw[R9 t q];rfl
def xG:D->Option D
 |.lst ds=>(mh ds).map λbs=>.bl (bs.all id)
 |_=>none
theorem Y8{K:PySem.W.Frag}:n5 K (λxs H Q=>∃(p:Addr) (bs:List Bool),xs=[V.ref p]/\b7 K H p (bs.map V.bl)/\Q (.bl (bs.all id)) H) xG:=by
 intro H x d1 f1 d Q r e k;cases d1 with
 |lst ds=>
  obtain⟨p,xs,f,rfl,hq,rs,_⟩:=r.dZ;have e:(mh ds).map (λbs=>D.bl (bs.all id))=some d:=e;exists h,mh ds,bs,e;cases e;have ex:=R9 rs h;subst ex;exact⟨p,bs,rfl,hq,k H _ [] (aG.refl H) (.bl _) acm λa m=>nomatch m⟩
 |_=>cases e
theorem Gy(hc:X.calm=true)(hm:X.mg "all"=none)(ha:FP X a fa)(hg:Gl X "all":=by rfl)(hs:Y1 X a:=by rfl):FP X (.Call (.Name "all" p) [a] [] pos) (e1 xG fa):=
 fp_1 Y8 ha λta pa=>lY (aeD hc) hg hm boot_all (cP pa eW hs) (he:=hs)
abbrev XF:=aN->Option (D×aN)
theorem SD(ha:FP X a fa)(hb:FP X b fb):FP X (.Compare a [.Lt] [b] pos) (e2 oLt fa fb):=nG Ph o_ ha hb (ie _)
theorem abx(ha:FP X a fa)(hb:FP X b fb):FP X (.Compare a [.LtE] [b] pos) (e2 oLe fa fb):=nG zF o_ ha hb (ie _)
theorem ac2(ha:FP X a fa)(hb:FP X b fb):FP X (.Compare a [.Gt] [b] pos) (e2 qv fa fb):=nG KA o_ ha hb (ie _)
theorem Xo(ha:FP X a fa)(hb:FP X b fb):FP X (.Compare a [.Is] [b] pos) (e2 gR fa fb):=nG JT Gf ha hb (ie _)
end L2.Ev
namespace L2.Ev
open PySem
theorem eF:∀ns:List Int,aM (ns.map D.int)=true
 |[]=>rfl
 |n::r=>by rw[aan];unfold aM;rw[eF r];rfl
theorem qK{as bs:List Int}(h:as.length+bs.length<=PySem.sizeLine):fW (.lst (as.map D.int)) (.lst (bs.map D.int))=some (.lst ((as++bs).map D.int)):=by
 show(if(aM (as.map D.int)&&aM (bs.map D.int)&&decide ((as.map D.int).length+(bs.map D.int).length<=PySem.sizeLine))=true then some (D.lst (as.map D.int++bs.map D.int)) else none)=_;rw[eF,eF,List.length_map,List.length_map,aaA h,adh];rfl
theorem aef(h:ns.length<64):nh (.lst (ns.map D.int))=some (.lst ((dU ns).map D.int)):=by
 show(match dY (ns.map D.int) with|some ns=>if ns.length<64 then some (D.lst ((dU ns).map D.int)) else none|none=>none)=_;rw[ux];dsimp only;rw[if_pos h]
theorem ue{ns:List Int}:qQ (.lst (ns.map D.int))=some (.lst (ns.map D.int)):=by show(if aM (ns.map D.int)=true then some (D.lst (ns.map D.int)) else none)=_;rw[if_pos (eF ns)]
theorem M7{ns:List Int}:qQ (.tup (ns.map D.int))=some (.lst (ns.map D.int)):=by show(if aM (ns.map D.int)=true then some (D.lst (ns.map D.int)) else none)=_;rw[if_pos (eF ns)]
theorem vM{ns:List Int}:xU (.lst (ns.map D.int))=some (.tup (ns.map D.int)):=by show(if aM (ns.map D.int)=true then some (D.tup (ns.map D.int)) else none)=_;rw[if_pos (eF ns)]
open PySem PySem.Spec PyProof.Rows
theorem aB.look{K:PySem.W.Frag}:∀{es:List (Str×D)}{fs:List (Str×V)} {fp} {f} {d},es.map (·.1)=fs.map (·.1)->aB K H (es.map (·.2)) (fs.map (·.2)) fp->es.lookup f=some d->∃v g,fs.lookup f=some v/\Rep K H d v g/\∀a∈g,a∈fp
 |[],[],_,_,_,_,_,e=>by cases e
 |[],_::_,_,_,_,k,_,_=>by simp at k
 |_::_,[],_,_,_,k,_,_=>by simp at k
 |(x,d0)::es,(y,v0)::fs,fp,f,d,k,r,e=>by
  simp only[aan,afP] at k;obtain⟨rfl,k⟩:=k;cases r with
  |cons r1 r2=>
   by_cases hx:(f==x)=true
   .simp only[List.lookup,hx] at e ⊢;cases e;exact⟨v0,_,rfl,r1,λa m=>abp _ m⟩
   .have hx:(f==x)=false:=by simpa using hx
    simp only[List.lookup,hx] at e ⊢;obtain⟨v,g,h1,h2,h3⟩:=aB.look k r2 e;exact⟨v,g,h1,h2,λa m=>aaw _ (h3 a m)⟩
theorem qX:∀{es:List (Str×D)}{fs:List (Str×V)} {f},es.map (·.1)=fs.map (·.1)->es.lookup f=none->fs.lookup f=none
 |[],[],_,_,_=>rfl
 |[],_::_,_,k,_=>by simp at k
 |_::_,[],_,k,_=>by simp at k
 |(x,d0)::es,(y,v0)::fs,f,k,e=>by
  simp only[aan,afP] at k;obtain⟨rfl,k⟩:=k
  by_cases hx:(f==x)=true
  .simp only[List.lookup,hx] at e;cases e
  .have hx:(f==x)=false:=by simpa using hx
   simp only[List.lookup,hx] at e ⊢;exact qX k e
structure ClsAt(K:PySem.W.Frag)(cn:Str)(C:Addr):Prop where
 ns:PySem.W.nsIn K mainGlobals cn=some (some (.ref C))
 cl:ko K C
theorem Rep.lM{K:PySem.W.Frag}(r:Rep K H (.ins cn es) v fp)(hn:PySem.W.nsIn K mainGlobals cn=some (some (.ref C))):
  ∃a dx fs g,v=.ref a/\fp=a::dx::g/\H a=some (.ins C dx fs)/\H dx=some (.own a)/\es.map (·.1)=fs.map (·.1)/\aB K H (es.map (·.2)) (fs.map (·.2)) g:=by
 cases r with
 | @ins _ a C' dx fs _ g h0 h1 h2 h3 h4=>
  rw[hn] at h0;cases h0;exact⟨a,dx,fs,g,rfl,rfl,h1,h2,h3,h4⟩
def bX(cn f:Str)(fa:EF):EF:=λρ=>match fa ρ with
 |some (.ins c es,t)=>if c=cn then(es.lookup f).map λd=>(d,kM t) else none
 |_=>none
theorem cH.sub(hz:∀a j,z a=some j->∃o,H a=some o)(h:cH z H t f)(s:∀a∈g,a∈f):cH z H (kM t) g:=by
 cases t with
 |sh o=>exact λa m j q=>h a (s a m) j q
 |own=>exact λa m j q=>by obtain⟨o,w⟩:=hz a j q;rw[h.2 a (s a m)] at w;cases w
 |lk=>exact λa m j q=>by obtain⟨o,w⟩:=hz a j q;rw[h.2 a (s a m)] at w;cases w
theorem bK{cn f:Str}{C:Addr}(hC:ClsAt X.K cn C)(na:jj X.K C f)(ha:FP X a fa)(hb:attributeBase a f X.env (eval a X.env)=eval a X.env:=by rfl):FP X (.Attribute a f pos) (bX cn f fa):=by
 exists 58;exists 21,v7 p hb;unfold bX at e;exists h,fa ρ,w,e,0;obtain⟨d0,t0⟩:=w;rw[h] at e;cases d0<;>try (cases e;done)
 rename_i c es;exists 59
 by_cases hc:c=cn
 .subst hc;rw[if_pos rfl] at e;exists hl,es.lookup f,d1,e;cases e;refine q ok h λH1 v fp s1 r1 g1=>?_
  obtain⟨b,dx,fs,g,rfl,rfl,h1,h2,h3,h4⟩:=r1.lM hC.ns;obtain⟨u,gf,h5,h6,h7⟩:=aB.look h3 h4 hl;exact⟨b,C,dx,fs,u,rfl,h1,hC.cl,na,h5,k H1 u gf s1 h6 (cH.sub (λa j e=>(ok.zd a j e).1) g1 λa m=>aaf _ (aaf _ (h7 a m)))⟩
 .rw[if_neg hc] at e;cases e
noncomputable def cE(cn m:Str)(F:List D->Option D)(fo:EF)(g:AF):EF:=λρ=>match fo ρ with
 |some (.ins c es,_)=>if c=cn/\es.lookup m=none then(g ρ).bind λps=>(F (.ins c es::ps.map (·.1))).map λd=>(d,.own) else none
 |_=>none
section
variable{X:Cx}
theorem KJ(hC:ClsAt X.K cn C)(q:∀{H0} {S} {z} {aq} {ρ} {σ} {H} {Q} {d} {tg},Ok X.K H0 S z aq ρ σ H->fo ρ=some (d,tg)->(∀H' v fp,aG H H'->Rep X.K H' d v fp->cH z H tg fp->Q v H')->t σ H Q)
  (qa:∀{H0} {S} {z} {aq} {ρ} {σ} {H} {Q} {ps},Ok X.K H0 S z aq ρ σ H->g ρ=some ps->(∀H' vs fp,aG H H'->aB X.K H' (ps.map (·.1)) vs fp->cH z H (jP ps) fp->Q vs H')->ta σ H Q)
  (ok:Ok X.K H0 S z aq ρ σ H) (e0:cE cn m F fo g ρ=some (d,tg)) (kk:∀H' v fp,aG H H'->Rep X.K H' d v fp->cH z H tg fp->Q v H') :
  AX C m (bx X.K F) [] E0 t ta σ H Q:=by
 unfold cE at e0;cases h:fo ρ with
 |none=>rw[h] at e0;cases e0
 |some w=>
  obtain⟨d0,t0⟩:=w;rw[h] at e0;cases d0<;>try (cases e0;done)
  rename_i c sU;dsimp only at e0
  by_cases hc:c=cn/\sU.lookup m=none
  .rw[if_pos hc] at e0;obtain⟨rfl,hm⟩:=hc;cases h2:g ρ with
   |none=>rw[h2] at e0;cases e0
   |some qs=>
    rw[h2,adb] at e0;cases h3:F (.ins c sU::qs.map (·.1)) with
    |none=>rw[h3] at e0;cases e0
    |some d1=>
     rw[h3] at e0;cases e0;exists 52
     obtain⟨b,dx,fs,gf,rfl,rfl,h4,h5,h6,h7⟩:=r1.lM hC.ns;refine⟨b,dx,fs,rfl,h4,qX h6 hm,?_⟩;refine qa (ok.same s1) h2 λH2 vs l6 s2 r2 _=>?_
     rw[acI];exact⟨_,_,d,.cons (r1.same s2) r2,h3,λH3 u gO s3 r3 nd fr=>kk H3 u gO ((s1.trans s2).trans s3) r3 ⟨nd,λa m=>s1.free (s2.free (fr a m))⟩⟩
  .rw[if_neg hc] at e0;cases e0
theorem gk(hC:ClsAt X.K cn C)(hm:kc X.K C m f)(G:bU X.prog X.w X.K X.mg X.base c_ k f fd ps (bx X.K F))(hr:bh k X.A)(hb:Binds X.K fd ps [])(ho:FP X o fo)(ha:FA X (e::es) g)
  (cV:SE X e es pos:=by exact⟨rfl,rfl⟩)
  (ht:vS X o m apos (e::es) pos pl:=by exact rfl):FP X (.Call (.Attribute o m apos) (e::es) [] pos) (cE cn m F fo g):=by
 obtain⟨t,p,q⟩:=ho;obtain⟨ta,pa,_,qa⟩:=ha;exact⟨_,Bo p hC.cl hm G hr hb .nil m6 pa cV.1 cV.2 ht,@λH0 S z aq ρ σ H Q d tg ok e0 kk=>KJ hC q qa ok e0 kk⟩
theorem d9(hC:ClsAt X.K cn C)(hm:kc X.K C m f)(G:bU X.prog X.w X.K X.mg X.base c_ k f fd ps (bx X.K F))(hr:bh k X.A)(hb:Binds X.K fd ps [])(ho:FP X o fo)
  (ht:vS X o m apos [] pos pl:=by exact rfl):FP X (.Call (.Attribute o m apos) [] [] pos) (cE cn m F fo aJ):=by
 obtain⟨t,p,q⟩:=ho;obtain⟨ta,pa,_,qa⟩:=aE (X:=X);refine⟨_,Mu p hC.cl hm G hr hb .nil m6 ht,@λH0 S z aq ρ σ H Q d tg ok e0 kk=>KJ hC q (@λ_ _ _ _ _ _ H _ _ _ e q=>by cases e;exact q H _ _ (aG.refl H) .nil .nil) ok e0 kk⟩
end
noncomputable abbrev MF:=D->List D->Option (D×D)
def dM(K:PySem.W.Frag)(G:MF):Sp:=λvs H Q _=>∃a ws d0 bH ds fS r d1,vs=V.ref a::ws/\Rep K H d0 (.ref a) bH/\bH.Nodup/\aB K H ds ws fS/\(∀b∈fS,b∉bH)/\G d0 ds=some (r,d1)/\
 ∀H' v bQ,aX H H'->(∀b o,b∉bH->H b=some o->H' b=some o)->Rep K H' d1 (.ref a) bQ->bQ.Nodup->(∀b∈bQ,b∈bH\/H b=none)->Rep K H' r v []->Q v H'
def apart(i:Nat)(ps:List (D×Tag)):Bool:=match jP ps with
 |.sh o=>!o.contains i
 |_=>true
theorem Ez{K:PySem.W.Frag}(ok:Ok K H0 S z aq ρ σ H)(h:apart i ps=true)(g:cH z H (jP ps) fp)(zz:vJ z i .own bH):∀b∈fp,b∉bH:=by
 intro b m n;unfold apart at h;have zb:=zz.2 b n;cases ht:jP ps with
 |sh o=>
  rw[ht] at h g;have:=g b m i zb;simp at h;exact h this
 |own=>
  rw[ht] at g;obtain⟨⟨o,w⟩,_⟩:=ok.zd b i zb;rw[g.2 b m] at w;cases w
 |lk=>
  rw[ht] at g;obtain⟨⟨o,w⟩,_⟩:=ok.zd b i zb;rw[g.2 b m] at w;cases w
def xO(i:Nat)(cn m:Str)(G:MF)(g:AF):XF:=λρ=>match ρ[i]?,g ρ with
 |some (some (.ins c es,.own)),some ps=>if c=cn/\es.lookup m=none/\apart i ps=true then(G (.ins c es) (ps.map (·.1))).map λw=>(w.1,bT ρ i w.2) else none
 |_,_=>none
theorem Rf(e:xO i cn m G g ρ=some (r,ρ')):∃es ps d1,ρ[i]? = some (some (.ins cn es,.own))/\g ρ=some ps/\es.lookup m=none/\apart i ps=true/\G (.ins cn es) (ps.map (·.1))=some (r,d1)/\ρ'=bT ρ i d1:=by
 unfold xO at e
 split at e
 .rename_i c es ps h1 h2
  by_cases hc:c=cn/\es.lookup m=none/\apart i ps=true
  .rw[if_pos hc] at e;obtain⟨rfl,hm,ha⟩:=hc;exists h3,G (.ins c es) (ps.map (·.1)),w,e;cases e;exact⟨es,ps,w.2,h1,h2,hm,ha,h3,rfl⟩
  .rw[if_neg hc] at e;cases e
 .cases e
def FZ(X:Cx)(e:Expr)(f:XF):Prop:=∃t,PE X e t/\∀{H0} {S} {z} {aq} {ρ} {σ} {H} {Q} {d} {ρ'},
 Ok X.K H0 S z aq ρ σ H->f ρ=some (d,ρ')->(∀z' H' v,Ok X.K H0 S z' aq ρ' σ H'->Rep X.K H' d v []->Q v H')->t σ H Q
section
variable{X:Cx}
theorem aa2(hC:ClsAt X.K cn C)(hN:X.N[i]? = some x)
  (qa:∀{H0:Hp} {S} {z} {aq} {ρ} {σ} {H} {Q} {ps},Ok X.K H0 S z aq ρ σ H->g ρ=some ps->(∀H' vs fp,aG H H'->aB X.K H' (ps.map (·.1)) vs fp->cH z H (jP ps) fp->Q vs H')->ta σ H Q)
  (ok:Ok X.K H0 S z aq ρ σ H) (e0:xO i cn m G g ρ=some (d,ρ')) (kk:∀z' H' v,Ok X.K H0 S z' aq ρ' σ H'->Rep X.K H' d v []->Q v H') :
  AX C m (dM X.K G) [] E0 (F8 i) ta σ H Q:=by
 obtain⟨sU,qs,d1,h1,h2,hm,nY,hG,rfl⟩:=Rf e0;obtain⟨v,bH,hs,r0,zz⟩:=ok.sl i _ _ h1;refine⟨v,hs,?_⟩;obtain⟨b,dx,fs,gf,rfl,EE,h4,h5,h6,h7⟩:=r0.lM hC.ns;refine⟨b,dx,fs,rfl,h4,qX h6 hm,?_⟩;refine qa ok h2 λH2 vs l6 s2 r2 g2=>?_
 rw[acI];have nN:=ok.same s2;refine⟨b,vs,_,bH,_,l6,d,d1,rfl,r0.same s2,zz.1,r2,Ez ok nY g2 zz,hG,λH3 u bQ im kp r1 nd fr rr=>?_⟩;obtain⟨z',iV⟩:=nN.put h1 hs zz im kp r1 nd fr;exact kk z' H3 u iV rr
theorem kT(i:Nat)(hC:ClsAt X.K cn C)(hm:kc X.K C m f)(GG:bU X.prog X.w X.K X.mg X.base c_ k f fd ps (dM X.K G))(hr:bh k X.A)(hb:Binds X.K fd ps [])(va:VA X i x:=by walk_at "va")
  (ht:vS X (.Name x p1) m apos [] pos pl:=by exact rfl):FZ X (.Call (.Attribute (.Name x p1) m apos) [] [] pos) (xO i cn m G aJ):=
 ⟨_,Mu va.pe hC.cl hm GG hr hb .nil m6 ht,@λH0 S z aq ρ σ H Q d ρ' ok e0 kk=>aa2 hC va.N (@λ_ _ _ _ _ _ H _ _ _ e q=>by cases e;exact q H _ _ (aG.refl H) .nil .nil) ok e0 kk⟩
noncomputable def sZ(f:XF):SF:=λρ=>(f ρ).map λw=>.nx w.2
theorem pI(he:FZ X e fx)(kq:swapsWith e none pos.line X.env=pure false:=by rfl):eT X (.Expr e pos) (sZ fx):=by
 obtain⟨t,p,q⟩:=he;exists 23,Ar p kq;unfold sZ at e;exists h,fx ρ,w,e,0;obtain⟨d,aR⟩:=w;rw[h] at e;cases e;exact q ok h λz' H1 v bB r1=>k z' σ H1 bB (.refl _ _)
def Mq(i:Nat)(f:XF):SF:=λρ=>match f ρ with
 |some (d,ρ')=>some (.nx (iD ρ' i d .own))
 |none=>none
theorem SI(i:Nat)(he:FZ X e fx)(hN:X.N.Nodup)(hi:X.N[i]? = some x:=by rfl)(hx:Loc X.env.scope x:=by first|exact Or.inl rfl|exact Or.inr rfl)
  (hs:swapsWith e (some (.Name x pos')) pos.line X.env=pure false:=by rfl) (hf:z5 X x:=by first|exact .inl rfl|exact .inr rfl) (kZ:j8 X x=false:=by rfl):eT X (.Assign [.Name x pos'] e pos) (Mq i fx):=by
 obtain⟨t,p,q⟩:=he;exists 23,Cm hN hi hx p hs hf;unfold Mq at e;cases h:fx ρ with
 |none=>rw[h] at e;cases e
 |some w=>
  obtain⟨d,aR⟩:=w;rw[h] at e;cases e;refine q ok h λz1 H1 v bB r1=>?_
  exact bB.stored (aG.refl H1) r1 .nil λz' aS=>k z' _ H1 aS (.set hi kZ)
end
noncomputable def vI(cn:Str)(G:MF)(g:AF):EF:=λρ=>(g ρ).bind λps=>match G (.ins cn []) (ps.map (·.1)) with
 |some (.aA,d)=>some (d,.own)
 |_=>none
section
variable{X:Cx}
theorem make_core{Q:VK}(hn:PySem.W.nsIn X.K mainGlobals cn=some (some (.ref C)))(r1:aB X.K H1 ds vs fp)(h3:G (.ins cn []) ds=some (.aA,d))(kk:∀H' v fp,aG H1 H'->Rep X.K H' d v fp->fp.Nodup->(∀a∈fp,H1 a=none)->Q v H'):
  ∀x dx,H1 x=none->H1 dx=none->dx≠x->dM X.K G (.ref x::(vs++[])) (upd (upd H1 dx (.own x)) x (.ins C dx [])) (λv H2=>v=.aA/\Q (.ref x) H2) E0:=by
 intro b dx nb Ak ne;rw[acI];have s2:aG H1 (upd (upd H1 dx (.own b)) b (.ins C dx [])):=λc o e=>by rw[aO (cZ e nb),aO (cZ e Ak)];exact e
 refine⟨b,vs,.ins cn [],[b,dx],_,fp,.aA,d,rfl,.ins hn cz (by rw[aO ne];exact cz) rfl .nil,?_,r1.same s2,λc m n=>?_,h3,λH3 u bQ im kp r3 nd fr rr=>?_⟩
 .exact abZ.mpr ⟨λm=>ne (aaB.mp m).symm,abZ.mpr ⟨(λm=>nomatch m),acm⟩⟩
 .obtain⟨o,w,_⟩:=r1.cB c m;rcases aaQ.mp n with e|n
  .rw[e,nb] at w;cases w
  .rw[aaB.mp n,Ak] at w;cases w
 .cases rr;refine⟨rfl,kk H3 _ bQ (λc o e=>?_) r3 nd λc m=>?_⟩
  .refine kp c o (λn=>?_) (s2 c o e);rcases aaQ.mp n with q|n
   .rw[q,nb] at e;cases e
   .rw[aaB.mp n,Ak] at e;cases e
  .rcases fr c m with q|q
   .rcases aaQ.mp q with q|q
    .rw[q];exact nb
    .rw[aaB.mp q];exact Ak
   .exact s2.free q
theorem PV(hn:PySem.W.nsIn X.K mainGlobals cn=some (some (.ref C)))
  (qa:∀{H0} {S} {z} {aq} {ρ} {σ} {H} {Q} {ps},Ok X.K H0 S z aq ρ σ H->g ρ=some ps->(∀H' vs fp,aG H H'->aB X.K H' (ps.map (·.1)) vs fp->cH z H (jP ps) fp->Q vs H')->ta σ H Q)
  (ok:Ok X.K H0 S z aq ρ σ H) (e0:vI cn G g ρ=some (d,tg)) (kk:∀H' v fp,aG H H'->Rep X.K H' d v fp->cH z H tg fp->Q v H') :
  HM C (dM X.K G) [] E0 ta σ H Q:=by
 unfold vI at e0;exists h2,g ρ,qs,e0,0;rw[h2,adb] at e0;exists h3,G (.ins cn []) (qs.map (·.1)),w,e0,0;obtain⟨r,d1⟩:=w;rw[h3] at e0;cases r<;>try (cases e0;done)
 cases e0;refine qa ok h2 λH1 vs fp s1 r1 _=>?_
 exact make_core hn r1 h3 λH' v fp s2 r3 nd fr=>kk H' v fp (s1.trans s2) r3 ⟨nd,λa m=>s1.free (fr a m)⟩
theorem abU(hn:PySem.W.nsIn X.K mainGlobals cn=some (some (.ref C)))(M:Mk X.K C f)(GG:bU X.prog X.w X.K X.mg X.base c_ k f fd ps (dM X.K G))(hr:bh (k+1) X.A)(hm:X.mg x=some (.ref C))(hb:Binds X.K fd ps [])(hg:GD X x:=by exact⟨rfl,by decide⟩):
  FP X (.Call (.Name x p) [] [] pos) (vI cn G aJ):=
 ⟨_,SW M GG hr hg.1 hm hb .nil m6 hg.2,@λH0 S z aq ρ σ H Q d tg ok e0 kk=>PV hn (@λ_ _ _ _ _ _ H _ _ _ e q=>by cases e;exact q H _ _ (aG.refl H) .nil .nil) ok e0 kk⟩
theorem M8(hn:PySem.W.nsIn X.K mainGlobals cn=some (some (.ref C)))(M:Mk X.K C f)(GG:bU X.prog X.w X.K X.mg X.base c_ k f fd ps (dM X.K G))(hr:bh (k+1) X.A)(hm:X.mg x=some (.ref C))(hb:Binds X.K fd ps [])(ha:FA X (e::es) g)(hg:GD X x:=by exact⟨rfl,by decide⟩)
  (he:SE X e es pos:=by exact⟨rfl,rfl⟩):FP X (.Call (.Name x p) (e::es) [] pos) (vI cn G g):=by
 obtain⟨ta,pa,_,qa⟩:=ha;exact⟨_,Uc M GG hr hg.1 hm hb .nil m6 pa hg.2 he.1 he.2,@λH0 S z aq ρ σ H Q d tg ok e0 kk=>PV hn qa ok e0 kk⟩
end
end L2.Ev
namespace L2
open PySem PySem.Spec PyProof.Rows
noncomputable abbrev Cx.kr(X:Cx)(xs:List Str):Cx:={ X with fn:=λy=>!(xs.contains y) }
theorem iK.kr{st:List Stmt}(hX:X.fn=λ_=>true)(h:iK (X.kr xs) st t):iK X st t:=λaf s σ H W I hw=>by
 have I':Inv (X.kr xs) af σ H s:=⟨⟨I.ok.mod,I.ok.kind,I.ok.glob,I.ok.blt,I.ok.above,I.ok.inj,I.ok.has,λx c _ e=>I.ok.oZ x c (by rw[hX]) e,I.ok.hd,I.ok.frames,I.ok.qf,I.ok.tN,I.ok.bs,I.ok.jb,I.ok.pA,I.ok.nO,I.ok.jc,I.ok.lD⟩,I.os,I.bare,I.base,I.loc,I.cell,I.free,I.gW,I.pin,I.aF,I.len,I.hq⟩
 have back:∀{az} {H'} {s'},Inv (X.kr xs) af az H' s'->Inv X af az H' s':=λJ=>⟨I.ok,J.os,J.bare,J.base,J.loc,J.cell,J.free,J.gW,J.pin,J.aF,J.len,J.hq⟩
 refine adW (h af s σ H W I' hw) (λf s' q=>?_) λ_ _ z=>z
 cases f with
 |next=>obtain⟨a,b,J,q⟩:=q;exact⟨a,b,back J,q⟩
 |brk=>obtain⟨a,b,J,q⟩:=q;exact⟨a,b,back J,q⟩
 |cont=>obtain⟨a,b,J,q⟩:=q;exact⟨a,b,back J,q⟩
 |ret u=>obtain⟨v,a,b,J,r,q⟩:=q;exact⟨v,a,b,back J,r,q⟩
end L2
namespace L2.Ev
open PySem PySem.Spec PyProof.Rows
noncomputable def jZ:List Nat->aN->Option (List D)
 |[],_=>some []
 |i::J,ρ=>match ρ[i]? with
  |some (some (d,Tag.own))=>(jZ J ρ).map (d::·)
  |_=>none
def yZ(J:List Nat)(im:Bool)(X:Cx)(H0:Hp)(S:List Addr)(aq:List qR)(ou:St)(E:Ends):Out->Prop
 |.rt p=>∃r es,p=.tup (r::es)/\∀z ρ σ H v cJ,Ok X.K H0 S z aq ρ σ H->jZ J ρ=some es->Kp X ou σ->Rep X.K H r v cJ->cJ.Nodup->(∀b∈cJ,(H0 b=none\/b∈S)/\∀i∈J,z b≠some i)->(im=true->cJ=[])->E.rt v H
 |o=>nq X H0 S aq ou E o
def FJ(J:List Nat)(im:Bool)(X:Cx)(st:List Stmt)(f:SF):Prop:=∃t,iK X st t/\∀{H0} {S} {z} {aq} {ρ} {σ} {H} {E} {o},
 Ok X.K H0 S z aq ρ σ H->f ρ=some o->yZ J im X H0 S aq σ E o->t E σ H
def oz(J:List Nat)(im:Bool)(X:Cx)(st:Stmt)(f:SF):Prop:=∃t,PS X st t/\∀{H0} {S} {z} {aq} {ρ} {σ} {H} {E} {o},
 Ok X.K H0 S z aq ρ σ H->f ρ=some o->yZ J im X H0 S aq σ E o->t E σ H
noncomputable abbrev El:=FJ [0]
noncomputable abbrev FM:=FJ [0] true
theorem yZ.of(k:yZ J im X H0 S aq σ E o)(a:Kp X σ az):yZ J im X H0 S aq az E o:=by
 cases o with
 |nx ρ=>exact nq.of (o:=.nx ρ) k a
 |bk ρ=>exact nq.of (o:=.bk ρ) k a
 |ct ρ=>exact nq.of (o:=.ct ρ) k a
 |er raw cn ρ=>exact vH.of k a
 |rt d=>obtain⟨r,d0,e,k⟩:=k;exact⟨r,d0,e,λz ρ s H v cJ ok h b=>k z ρ s H v cJ ok h (a.trans b)⟩
noncomputable def ju(f:SF):SF:=λρ=>match f ρ with
 |some (.nx ρ')=>some (.nx ρ')
 |some (.bk ρ')=>some (.bk ρ')
 |some (.ct ρ')=>some (.ct ρ')
 |some (.er raw cn ρ')=>some (.er raw cn ρ')
 |_=>none
section
variable{st:Stmt}{rest:List Stmt}
theorem bz(h:eT X st f):oz J im X st (ju f):=by
 obtain⟨t,p,q⟩:=h;refine⟨t,p,@λH0 S z aq ρ σ H E o ok e k=>?_⟩;unfold ju at e;cases h:f ρ with
 |none=>rw[h] at e;cases e
 |some w=>
  rw[h] at e;refine q ok h ?_;cases w<;>first|(cases e;done)|(cases e;exact k)
theorem g_:FJ J im X [] gP:=⟨_,Qt,@λ_ _ z _ _ σ H _ _ ok e k=>by cases e;exact k z σ H ok (.refl _ _)⟩
theorem cK(h:oz J im X st f):FJ J im X [st] f:=let⟨t,p,q⟩:=h;⟨t,P0 p,q⟩
theorem a_(h1:oz J im X st f)(h2:FJ J im X rest g):FJ J im X (st::rest) (bZ f g):=by
 obtain⟨t,p,q⟩:=h1;obtain⟨t',p',q'⟩:=h2;exists 23,yF p p';unfold bZ at e;cases h:f ρ with
 |none=>rw[h] at e;cases e
 |some w=>
  refine q ok h ?_;rw[h] at e;cases w with
  |nx ρ'=>exact λz' az H' aS a=>q' aS e (k.of a)
  |rt d=>cases e;exact k
  |bk ρ'=>cases e;exact k
  |ct ρ'=>cases e;exact k
  |er _ _ _=>cases e;exact k
theorem gu(hc:FT X c tc)(ha:FJ J im X a f)(hb:FJ J im X b g):oz J im X (.If c a b pos) (eX tc f g):=by
 obtain⟨t,p,q⟩:=hc;obtain⟨t1,p1,q1⟩:=ha;obtain⟨t2,p2,q2⟩:=hb;exists 23,zL p p1 p2;unfold eX at e;cases h:tc ρ with
 |none=>rw[h] at e;cases e
 |some y=>
  rw[h] at e;refine q ok h λH1 s1=>?_
  cases y with
  |true=>rw[if_pos rfl];exact q1 (ok.same s1) e k
  |false=>rw[if_neg abu];exact q2 (ok.same s1) e k
theorem n8:oz J im X st NS:=⟨_,MV,@λ_ _ _ _ _ _ _ _ _ _ e _=>by cases e⟩
def ur(f:EF)(J:List Nat:=[0]):SF:=λρ=>match f ρ,jZ J ρ with
 |some (r,_),some es=>if aC r=true then some (.rt (.tup (r::es))) else none
 |_,_=>none
theorem mC(he:FP X e f):oz J im X (.Return (some e) pos) (ur f J):=by
 obtain⟨t,p,q⟩:=he;exists 23,za p;unfold ur at e
 split at e
 .rename_i r tg es h1 h2
  by_cases hi:aC r=true
  .rw[if_pos hi] at e;cases e;obtain⟨r',d8,ee,k⟩:=k;cases ee;refine q ok h1 λH1 v fp s1 r1 _=>?_
   have hn:=r1.aC hi;subst hn;exact k z ρ σ H1 v [] (ok.same s1) h2 (.refl _ _) r1 acm (λb m=>nomatch m) λ_=>rfl
  .rw[if_neg hi] at e;cases e
 .cases e
def vR(f:XF)(J:List Nat:=[0]):SF:=λρ=>match f ρ with
 |some (r,ρ')=>(jZ J ρ').map λes=>.rt (.tup (r::es))
 |none=>none
theorem yL(he:FZ X e f):oz J im X (.Return (some e) pos) (vR f J):=by
 obtain⟨t,p,q⟩:=he;exists 23,za p;unfold vR at e;cases h1:f ρ with
 |none=>rw[h1] at e;cases e
 |some w=>
  rw[h1] at e;obtain⟨es,h2,rfl⟩:=acy.mp e;obtain⟨r',d8,ee,k⟩:=k;cases ee;exact q ok h1 λz' H1 v bB r1=>k z' w.2 σ H1 v [] bB h2 (.refl _ _) r1 acm (λb m=>nomatch m) λ_=>rfl
def KC(i:Nat)(J:List Nat:=[0]):SF:=λρ=>match ρ[i]?,jZ J ρ with
 |some (some (r,Tag.own)),some es=>if J.contains i=true then none else some (.rt (.tup (r::es)))
 |_,_=>none
theorem S4(i:Nat)(va:VA X i x:=by walk_at "va"):oz J false X (.Return (some (.Name x p1)) pos) (KC i J):=by
 exists 23,za va.pe;unfold KC at e
 split at e
 .rename_i r es h1 h0
  by_cases hj:J.contains i=true
  .rw[if_pos hj] at e;cases e
  .rw[if_neg hj] at e;cases e;obtain⟨r',d8,ee,k⟩:=k;cases ee;obtain⟨v,fp,hs,rr,zz⟩:=ok.sl i _ _ h1;refine⟨v,hs,k z ρ σ H v fp ok h0 (.refl _ _) rr zz.1 (λb m=>⟨(ok.zd b i (zz.2 b m)).2,λj mj q=>?_⟩) λq=>nomatch q⟩;rw[zz.2 b m] at q;cases q;exact hj (adO.mpr mj)
 .cases e
end
noncomputable def Bk(n:Nat)(d0:D)(ds:List D):aN:=some (d0,.own)::(ds.map (λd=>some (d,.sh []))++List.replicate (n-(ds.length+1)) none)
def runM(n N:Nat)(b:SF):MF:=λd0 ds=>if ds.length + 1=n then(match b (Bk N d0 ds) with
 |some (.rt (.tup [r,d1]))=>some (r,d1)
 |some (.nx ρ)=>match ρ[0]? with
  |some (some (d1,Tag.own))=>some (.aA,d1)
  |_=>none
 |_=>none) else none
theorem Wr(h:jZ [0] ρ=some [d]):ρ[0]? = some (some (d,.own)):=by
 unfold jZ at h
 split at h
 .rename_i d' e;cases h;exact e
 .cases h
def EA(im:Bool)(K:PySem.W.Frag)(G:MF):Sp:=λvs H Q _=>∃v0 ws d0 bH ds fS r d1,vs=v0::ws/\Rep K H d0 v0 bH/\bH.Nodup/\aB K H ds ws fS/\(∀b∈fS,b∉bH)/\G d0 ds=some (r,d1)/\
 ∀H' v bQ cJ,aX H H'->(∀b o,b∉bH->H b=some o->H' b=some o)->Rep K H' d1 v0 bQ->bQ.Nodup->(∀b∈bQ,b∈bH\/H b=none)->Rep K H' r v cJ->cJ.Nodup->(∀b∈cJ,(b∈bH\/H b=none)/\b∉bQ)->(im=true->cJ=[])->Q v H'
section
variable{K:PySem.W.Frag}
theorem adk:∀vs H Q E,dM K G vs H Q E->EA true K G vs H Q E:=by
 rintro _ _ _ _ ⟨a,ws,d0,bH,ds,fS,r,d1,h1,h2,h3,h4,h5,h6,q⟩
 exact⟨.ref a,ws,d0,bH,ds,fS,r,d1,h1,h2,h3,h4,h5,h6,λH' v bQ cJ a1 a2 a3 a4 a5 a6 _ _ e=>q H' v bQ a1 a2 a3 a4 a5 (by rw[<- e rfl];exact a6)⟩
theorem S6{st:Stmt}(F:i_ K x qual st f fd)(S:nU N ps (ck st))(h0:N[0]? = some x0)
  (hb:∀(aQ) (A) (outer) (s) (H) (E),bh k (A.deeper (envOfC qual (ck st) s.heap.objs.size f aQ))->El im ((fU c_ P w K mg base N qual (ck st) f aQ A outer s H E).eZ.kr [x0]) (gI st) b) :
  bU P w K mg base c_ (k+1) f fd ps (EA im K (runM ps.length N.length b)):=by
 have l_:∀{d0} {ds} {r},runM ps.length N.length b d0 ds=some r->ds.length+1=ps.length:=λ{d0 ds r} e=>by
  unfold runM at e
  split at e
  .assumption
  .cases e
 refine F.ok S (λvs H Q E h=>?_) λaQ A outer s H vs Q E hr h=>?_<;>obtain⟨v0,ws,d0,bH,ds,fS,r,d1,e0,r0,VT,rs,dj,e,q⟩:=h
 .rw[e0,acj,<- rs.length,l_ e]
 .obtain⟨t,pt,sd⟩:=hb aQ A outer s H E hr;refine⟨t,pt.kr rfl,?_⟩;have r0':aB K H [d0] [v0] bH:=by have:=aB.cons r0 .nil;rwa [acI] at this
  obtain⟨z,ok⟩:=Ok.kC r0' VT rs dj;rw[e0];have fin:∀{z} {ρ} {σ} {H'} {v} {cJ},Ok K H bH z [] ρ σ H'->ρ[0]? = some (some (d1,.own))->Kp ((fU c_ P w K mg base N qual (ck st) f aQ A outer s H E).eZ.kr [x0]) (start N (v0::ws)) σ->Rep K H' r v cJ->cJ.Nodup->(∀b∈cJ,(H b=none\/b∈bH)/\z b≠some 0)->(im=true->cJ=[])->Q v H':=by
   intro z ρ σ H' v cJ aS h1 kp rr xV pU hi;obtain⟨u,bQ,hs,r1,zz⟩:=aS.sl 0 d1 .own h1;have hk:=kp 0 _ h0 (by
    show(x0==("self":Str)||(!([x0].contains ("self":Str))&&!(!([x0].contains x0))))=true
    by_cases h:x0=("self":Str)
    .rw[h];rfl
    .simp[afH h])
   rw[hk] at hs;cases hs;have st:∀{c} {o},H c=some o->iZ o=false->H' c=some o:=λ{c o} e' mo=>aS.en c _ e' λm=>by
    obtain⟨o',w,lK⟩:=r0.cB c m;rw[e'] at w;cases w;rw[mo] at lK;cases lK
   exact q H' v bQ cJ ⟨λc xs e'=>st e' rfl,λc o u e'=>st e' rfl,λc φ e'=>st e' rfl⟩ (λc o n e'=>aS.en c o e' n) r1 zz.1 (λc m=>((aS.zd c 0 (zz.2 c m)).2).symm.imp id id) rr xV (λc m=>⟨(pU c m).1.symm.imp id id,λm'=>(pU c m).2 (zz.2 c m')⟩) hi
  have hl:=l_ e;unfold runM at e;rw[if_pos hl] at e;cases ho:b (Bk N.length d0 ds) with
  |none=>rw[ho] at e;cases e
  |some o=>
   rw[ho] at e;refine sd ok ho ?_;cases o with
   |rt p=>
    have hp:p=.tup [r,d1]:=by
     split at e<;>rename_i hh
     .cases e;cases hh;rfl
     .cases hh
     .cases e
    exact⟨r,[d1],hp,λz ρ σ H' v cJ aS h1 kp rr nd fr=>fin aS (Wr h1) kp rr nd λb m=>⟨(fr b m).1,(fr b m).2 0 aak⟩⟩
   |nx ρ'=>
    exists 59
    split at e
    .rename_i dd h1;cases e;exact λz σ H' aS kp=>fin aS h1 kp .aA acm (λb m=>nomatch m) λ_=>rfl
    .cases e
   |bk _=>cases e
   |ct _=>cases e
   |er _ _ _=>cases e
end
noncomputable def dR(f:Str)(d:D):List (Str×D)->List (Str×D)
 |[]=>[(f,d)]
 |(g,x)::r=>if g=f then(g,d)::r else(g,x)::dR f d r
theorem ML:∀{es} {fs},es.map (·.1)=fs.map (·.1)->(dR f d es).map (·.1)=(fB f v fs).map (·.1)
 |[],[],_=>rfl
 |[],_::_,k=>by simp at k
 |_::_,[],k=>by simp at k
 |(x,d0)::es,(y,v0)::fs,k=>by
  simp only[aan,afP] at k;obtain⟨rfl,k⟩:=k;unfold dR fB
  by_cases hx:x=f
  .rw[if_pos hx,if_pos hx,aan,aan,k]
  .rw[if_neg hx,if_neg hx,aan,aan,ML k]
theorem QG:∀{es},es.lookup f=some d0->(dR f d es).map (·.1)=es.map (·.1)
 |[],e=>by cases e
 |(x,d1)::es,e=>by
  unfold dR
  by_cases hx:x=f
  .rw[if_pos hx];rfl
  .have hb:=adu.mpr λq=>hx q.symm
   simp only[List.lookup,hb] at e;rw[if_neg hx,aan,QG e];rfl
section
variable{K:PySem.W.Frag}
theorem aB.fB(rd:Rep K H d v fd):∀{es} {fs} {g},es.map (·.1)=fs.map (·.1)->aB K H (es.map (·.2)) (fs.map (·.2)) g->
  ∃g',aB K H ((dR f d es).map (·.2)) ((L2.fB f v fs).map (·.2)) g'/\(∀a∈g',a∈g\/a∈fd)/\(g.Nodup->fd.Nodup->(∀a∈fd,a∉g)->g'.Nodup)
 |[],[],_,_,r=>by
  cases r;exact⟨fd++[],.cons rd .nil,λa m=>.inr (by simpa using m),λ_ n _=>by simpa using n⟩
 |[],_::_,_,k,_=>by simp at k
 |_::_,[],_,k,_=>by simp at k
 |(x,d0)::es,(y,v0)::fs,_,k,r=>by
  simp only[aan,afP] at k;obtain⟨rfl,k⟩:=k;cases r with
  | @cons _ _ _ _ f1 f2 r1 r2=>
   unfold dR L2.fB
   by_cases hx:x=f
   .rw[if_pos hx,if_pos hx];refine⟨fd++f2,.cons rd r2,λa m=>(abB.mp m).elim .inr λm=>.inl (aaw _ m),λn1 n2 n3=>?_⟩;exact ac3.mpr ⟨n2,(ac3.mp n1).2.1,λa ma b mb e=>n3 a ma (aaw _ (e ▸ mb))⟩
   .rw[if_neg hx,if_neg hx];obtain⟨g',h1,h2,h3⟩:=aB.fB rd k r2;refine⟨f1++g',.cons r1 h1,λa m=>?_,λn1 n2 n3=>?_⟩
    .rcases abB.mp m with m|m
     .exact .inl (abp _ m)
     .exact(h2 a m).imp (aaw _) id
    .obtain⟨a1,a2,a3⟩:=ac3.mp n1;refine ac3.mpr ⟨a1,h3 a2 n2 (λa m q=>n3 a m (aaw _ q)),λa ma b mb e=>?_⟩;rcases h2 b mb with q|q
     .exact a3 a ma b q e
     .exact n3 b q (abp _ (e ▸ ma))
theorem aB.place:∀{es}{fs:List (Str×V)} {g},es.map (·.1)=fs.map (·.1)->aB K H (es.map (·.2)) (fs.map (·.2)) g->g.Nodup->es.lookup f=some d0->
  ∃v gf,fs.lookup f=some v/\Rep K H d0 v gf/\gf.Nodup/\(∀a∈gf,a∈g)/\∀(H') (d1) (g1),aX H H'->(∀b o,b∉gf->H b=some o->H' b=some o)->Rep K H' d1 v g1->g1.Nodup->(∀b∈g1,b∈gf\/H b=none)->
   ∃g',aB K H' ((dR f d1 es).map (·.2)) (fs.map (·.2)) g'/\g'.Nodup/\∀b∈g',b∈g\/H b=none
 |[],_,_,_,_,_,e=>by cases e
 |_::_,[],_,k,_,_,_=>by simp at k
 |(x,d)::es,(y,v0)::fs,_,k,r,nd,e=>by
  simp only[aan,afP] at k;obtain⟨rfl,k⟩:=k;cases r with
  | @cons _ _ _ _ f1 f2 r1 r2=>
   obtain⟨a1,a2,a3⟩:=ac3.mp nd
   by_cases hx:x=f
   .subst hx;have hb:=afA x;simp only[List.lookup,hb] at e ⊢;cases e;refine⟨v0,f1,rfl,r1,a1,λa m=>abp _ m,λH' d1 g1 im kp rr n1 fr=>?_⟩;refine⟨g1++f2,?_,ac3.mpr ⟨n1,a2,λa ma b mb e=>?_⟩,λb m=>?_⟩
    .unfold dR;rw[if_pos rfl];refine .cons rr (r2.frame (λa m=>?_) im);obtain⟨o,w,_⟩:=r2.cB a m;rw[kp a o (λq=>a3 a q a m rfl) w,w]
    .subst e;obtain⟨o,w,_⟩:=r2.cB a mb;rcases fr a ma with q|q
     .exact a3 a q a mb rfl
     .rw[q] at w;cases w
    .rcases abB.mp m with m|m
     .exact(fr b m).imp (abp _) id
     .exact .inl (aaw _ m)
   .have hb:=adu.mpr λq=>hx q.symm
    simp only[List.lookup,hb] at e ⊢;obtain⟨v,gf,h1,h2,h3,h4,h5⟩:=aB.place k r2 a2 e;refine⟨v,gf,h1,h2,h3,λa m=>aaw _ (h4 a m),λH' d1 g1 im kp rr n1 fr=>?_⟩;obtain⟨g',c1,c2,c3⟩:=h5 H' d1 g1 im kp rr n1 fr;refine⟨f1++g',?_,ac3.mpr ⟨a1,c2,λa ma b mb e=>?_⟩,λb m=>?_⟩
    .unfold dR;rw[if_neg hx];refine .cons (r1.frame (λa m=>?_) im) c1;obtain⟨o,w,_⟩:=r1.cB a m;rw[kp a o (λq=>a3 a m a (h4 a q) rfl) w,w]
    .subst e;obtain⟨o,w,_⟩:=r1.cB a ma;rcases c3 a mb with q|q
     .exact a3 a ma a q rfl
     .rw[q] at w;cases w
    .rcases abB.mp m with m|m
     .exact .inl (abp _ m)
     .exact(c3 b m).imp (aaw _) id
theorem Rep.Pr(r:Rep K H (.ins cn es) v fp)(hn:PySem.W.nsIn K mainGlobals cn=some (some (.ref C)))(nd:fp.Nodup)(e:es.lookup f=some d0):
  ∃a dx fs u gf,(a∉gf/\dx∉gf)/\v=.ref a/\H a=some (.ins C dx fs)/\fs.lookup f=some u/\Rep K H d0 u gf/\gf.Nodup/\(∀b∈gf,b∈fp)/\∀(H':Hp) (d1) (g1),aX H H'->(∀b o,b∉gf->H b=some o->H' b=some o)->Rep K H' d1 u g1->g1.Nodup->(∀b∈g1,b∈gf\/H b=none)->
   ∃bQ,Rep K H' (.ins cn (dR f d1 es)) v bQ/\bQ.Nodup/\∀b∈bQ,b∈fp\/H b=none:=by
 obtain⟨a,dx,fs,g,rfl,rfl,h1,h2,h3,h4⟩:=r.lM hn;obtain⟨n1,n2⟩:=abZ.mp nd;obtain⟨n3,n4⟩:=abZ.mp n2;obtain⟨u,gf,c1,c2,c3,c4,c5⟩:=aB.place h3 h4 n4 e;refine⟨a,dx,fs,u,gf,⟨λm=>n1 (aaf _ (c4 _ m)),λm=>n3 (c4 _ m)⟩,rfl,h1,c1,c2,c3,λb m=>aaf _ (aaf _ (c4 b m)),λH' d1 g1 im kp rr m1 fr=>?_⟩;obtain⟨g',e1,e2,e3⟩:=c5 H' d1 g1 im kp rr m1 fr;have ka:=kp a _ (λq=>n1 (aaf _ (c4 a q))) h1;have kd:=kp dx _ (λq=>n3 (c4 dx q)) h2;refine⟨a::dx::g',.ins hn ka kd (by rw[QG e];exact h3) e1,?_,λb m=>?_⟩
 .refine abZ.mpr ⟨λm=>?_,abZ.mpr ⟨λm=>?_,e2⟩⟩
  .rcases aaQ.mp m with q|m
   .exact n1 (by rw[q];exact aak)
   .rcases e3 a m with q|q
    .exact n1 (aaf _ q)
    .rw[h1] at q;cases q
  .rcases e3 dx m with q|q
   .exact n3 q
   .rw[h2] at q;cases q
 .rcases aaQ.mp m with q|m
  .exact .inl (by rw[q];exact aak)
  .rcases aaQ.mp m with q|m
   .exact .inl (by rw[q];exact aaf _ aak)
   .exact(e3 b m).imp (λq=>aaf _ (aaf _ q)) id
theorem Rep.place(r:Rep K H (.ins cn es) v fp)(hn:PySem.W.nsIn K mainGlobals cn=some (some (.ref C)))(nd:fp.Nodup)(e:es.lookup f=some d0):
  ∃a dx fs u gf,v=.ref a/\H a=some (.ins C dx fs)/\fs.lookup f=some u/\Rep K H d0 u gf/\gf.Nodup/\(∀b∈gf,b∈fp)/\∀(H') (d1) (g1),aX H H'->(∀b o,b∉gf->H b=some o->H' b=some o)->Rep K H' d1 u g1->g1.Nodup->(∀b∈g1,b∈gf\/H b=none)->
   ∃bQ,Rep K H' (.ins cn (dR f d1 es)) v bQ/\bQ.Nodup/\∀b∈bQ,b∈fp\/H b=none:=
 let⟨a,dx,fs,u,gf,_,h⟩:=r.Pr hn nd e;⟨a,dx,fs,u,gf,h⟩
end
theorem Ok.fld{K:PySem.W.Frag}(hC:ClsAt K cn C)(ok:Ok K H0 S z aq ρ σ H)(h:ρ[i]? = some (some (.ins cn es,.own)))
  (hs:σ[i]? = some (some (.ref b))) (hb:H b=some (.ins C dx fs)) (s1:aG H H1) (r1:Rep K H1 d y fd) (nd:fd.Nodup) (fr:∀c∈fd,H c=none):∃z',Ok K H0 S z' aq (bT ρ i (.ins cn (dR f d es))) σ (upd H1 b (.ins C dx (L2.fB f y fs))):=by
 obtain⟨v,bH,cL,r0,zz⟩:=ok.sl i _ _ h;rw[hs] at cL;cases cL;obtain⟨b',xu,uO,g,e,rfl,h3,h4,h5,h6⟩:=(r0.same s1).lM hC.ns;cases e;rw[s1 _ _ hb] at h3;cases h3;have h3:=s1 _ _ hb;have AO:∀c∈fd,c∉b::dx::g:=λc m n=>by
  obtain⟨⟨o,w⟩,_⟩:=ok.zd c i (zz.2 c n);rw[fr c m] at w;cases w
 have me:b∈b::dx::g:=aak;have md:dx∈b::dx::g:=aaf _ aak;have mg:∀{c},c∈g->c∈b::dx::g:=λm=>aaf _ (aaf _ m)
 obtain⟨n1,n2⟩:=abZ.mp zz.1;obtain⟨n3,n4⟩:=abZ.mp n2;have ne:∀{c},c∈g->c≠b:=λm q=>n1 (q ▸ aaf _ m)
 have im:aX H1 (upd H1 b (.ins C dx (L2.fB f y fs))):=aX.upd h3 rfl;obtain⟨g',c1,c2,c3⟩:=aB.fB (r1.frame (λc m=>aO λq:c=b=>AO c m (q ▸ me)) im) h5 (h6.frame (λc m=>aO (ne m)) im);have out:∀{c},c∈g'->c∈g\/c∈fd:=λ{c} m=>c2 c m
 refine ok.put h hs zz ((aX.of s1).trans im) (λc o n e=>by rw[aO λq:c=b=>n (q ▸ me)];exact s1 c o e) (.ins hC.ns cz (by rw[aO λq:dx=b=>n1 (q ▸ aak)];exact h4) (ML h5) c1) ?_ λc m=>?_
 .refine abZ.mpr ⟨λm=>?_,abZ.mpr ⟨λm=>(out m).elim n3 λq=>AO dx q md,c3 n4 nd λc m n=>AO c m (mg n)⟩⟩;rcases aaQ.mp m with q|m
  .exact n1 (q ▸ aak)
  .exact(out m).elim (λq=>n1 (aaf _ q)) λq=>AO b q me
 .rcases aaQ.mp m with q|m
  .exact .inl (q ▸ me)
  .rcases aaQ.mp m with q|m
   .exact .inl (q ▸ md)
   .exact(out m).imp mg (fr c)
def yb(i:Nat)(cn f:Str)(fv:EF):SF:=λρ=>match fv ρ,ρ[i]? with
 |some (d,t),some (some (.ins c es,.own))=>if c=cn/\es.length<1000/\(jQ t||aC d)=true then some (.nx (bT ρ i (.ins c (dR f d es)))) else none
 |_,_=>none
theorem fM(i:Nat)(hC:ClsAt X.K cn C)(na:jj X.K C f)(hv:FP X a fv)(va:VA X i x:=by walk_at "va")(hs:swapsWith a (some (.Attribute (.Name x p1) f pos')) pos.line X.env=pure false:=by rfl):eT X (.Assign [.Attribute (.Name x p1) f pos'] a pos) (yb i cn f fv):=by
 obtain⟨t,p,q⟩:=hv;exists 23,ac1 va.pe p hs;unfold yb at e
 split at e
 .rename_i d tg c es h1 h2
  by_cases hc:c=cn/\es.length<1000/\(jQ tg||aC d)=true
  .rw[if_pos hc] at e;cases e;obtain⟨rfl,hl,ho⟩:=hc;obtain⟨v,bH,cL,r0,zz⟩:=ok.sl i _ _ h2;refine q ok h1 λH1 y fd s1 r1 g1=>⟨v,cL,?_⟩
   obtain⟨b,dx,fs,g,rfl,rfl,h3,h4,h5,h6⟩:=r0.lM hC.ns;have lf:fs.length<1000:=by have:=congrArg List.length h5;rw[List.length_map,List.length_map] at this;lia
   refine⟨b,C,dx,fs,rfl,s1 _ _ h3,hC.cl,na,lf,?_⟩;have g:fd.Nodup/\∀a∈fd,H a=none:=by
    rcases(ahi _ _).mp ho with h|h
    .cases tg<;>first|exact g1|cases h
    .rw[r1.aC h];exact⟨acm,λc m=>nomatch m⟩
   obtain⟨z',aS⟩:=ok.fld hC h2 cL h3 s1 r1 g.1 g.2;exact k z' σ _ aS (.refl _ _)
  .rw[if_neg hc] at e;cases e
 .cases e
noncomputable def Np:D->D->Option D
 |.int i,.int j=>some (.int (if j > i then j else i))
 |_,_=>none
theorem WE(hc:X.calm=true)(hm:X.mg "max"=none)(ha:FP X a fa)(hb:FP X b fb)(hg:Gl X "max":=by rfl)(hs:starEach [a,b] X.env=[(false,eval a X.env),(false,eval b X.env)]:=by rfl)(cG:Y1 X b:=by rfl)(hpl:(backTo pos (starEach [b] X.env)).any (·.1)=false:=by rfl):
  FP X (.Call (.Name "max" p) [a,b] [] pos) (e2 Np fa fb):=by
 exists 46;exists 21,lY (X4 hc) hg hm boot_max (cP pa (cP pb eW cG) (by rw[hs,cG])) (he:=by rw[hs,cG]) (hpl:=hpl);obtain⟨d1,t1,d2,t2,g1,g2,g3,rfl⟩:=pB e;refine sa ok g1 λH1 x f1 s1 r1 _=>?_
 refine sb (ok.same s1) g2 λH2 y f2 s2 r2 _=>?_
 unfold Np at g3
 split at g3
 .cases g3;exact⟨_,_,by rw[r1.iA.1,r2.iA.1],k H2 _ [] (s1.trans s2) (.int _) .nil⟩
 .cases g3
noncomputable def BP:D->Option D
 |.int i=>some (.int (-i))
 |_=>none
theorem aeV(ha:FP X a fa):FP X (.UnaryOp .USub a pos) (e1 BP fa):=by
 obtain⟨t,pa,q⟩:=ha;exists 21,ZT af2 pa;obtain⟨d1,t1,g1,g2,rfl⟩:=rR e;refine q ok g1 λH1 x f1 s1 r1 _=>?_
 cases r1<;>cases g2
 exact⟨_,rfl,k H1 _ [] s1 (.int _) .nil⟩
theorem aeG(hm:X.mg x=some (.int n tk))(hg:GD X x:=by exact⟨rfl,by decide⟩):FP X (.Name x pos) (eC (.int n)):=
 ⟨_,N6 hg.1 hm (v:=.int n) ⟨_,rfl⟩ hg.2,@λ_ _ _ _ _ _ H _ _ _ _ e q=>by cases e;exact q H _ _ (aG.refl H) (.int n) .nil⟩
noncomputable def ET(o o':D->D->Option D)(fa fb fc:EF):EF:=λρ=>match fa ρ,fb ρ with
 |some (d1,_),some (d2,_)=>match o d1 d2 with
  |some (.bl true)=>match fc ρ with
   |some (d3,_)=>(o' d2 d3).map λd=>(d,.own)
   |none=>none
  |some (.bl false)=>some (.bl false,.own)
  |_=>none
 |_,_=>none
theorem Xf(ho:dg X (compareOp op) r)(lO:dg X (compareOp yq) r')(dd:gz X.K r o)(oG:gz X.K r' o')(ha:FP X a fa)(hb:FP X b fb)(hc:FP X c fc)(hm:lastMarks [op,yq] [b,c]=false:=by with_unfolding_all rfl):
  FP X (.Compare a [op,yq] [b,c] pos) (ET o o' fa fb fc):=by
 exists 46;obtain⟨tc,pc,sc⟩:=hc;exists 21,WV ho lO pa pb pc hm;unfold ET at e
 split at e
 .rename_i d1 t1 d2 t2 e1 e2;refine sa ok e1 λH1 x f1 s1 r1 _=>?_
  refine sb (ok.same s1) e2 λH2 y f2 s2 r2 _=>?_
  exists h,o d1 d2,w,e,0;refine dd H2 x y d1 d2 f1 f2 w _ (r1.same s2) r2 h λH3 u s3 r3=>?_
  rw[h] at e;cases w<;>try (cases e;done)
  rename_i b';cases r3;refine⟨b',rfl,?_⟩;cases b' with
  |false=>
   cases e;rw[if_neg abu];exact k H3 _ [] ((s1.trans s2).trans s3) (.bl false) .nil
  |true=>
   rw[if_pos rfl];exists 59;exists h3,fc ρ,w3,e,0;obtain⟨d3,t3⟩:=w3;rw[h3] at e;exists 59;cases h4:o' d2 d3 with
   |none=>rw[h4] at e;cases e
   |some d4=>
    rw[h4] at e;cases e;refine sc (((ok.same s1).same s2).same s3) h3 λH4 w' f4 s4 r4 _=>?_
    exact oG H4 y w' d2 d3 f2 f4 d Q ((r2.same s3).same s4) r4 h4 λH5 v5 s5 r5=>k H5 v5 [] ((((s1.trans s2).trans s3).trans s4).trans s5) r5 .nil
 .cases e
theorem adB(ha:FP X a fa)(hb:FP X b fb)(hc:FP X c fc)(hm:lastMarks [.LtE,.LtE] [b,c]=false:=by with_unfolding_all rfl):FP X (.Compare a [.LtE,.LtE] [b,c] pos) (ET oLe oLe fa fb fc):=Xf zF zF o_ o_ ha hb hc hm
def qO(neg:Bool):D->D->Option D:=λkd dd=>match dd with
 |.bO es=>(iM kd).map λk=>.bl (if neg=true then !(bA es k).isSome else(bA es k).isSome)
 |_=>none
def KN(neg:Bool):R2:=λy x H Q=>∃a o,x=.ref a/\ic H a y o/\Q (.bl (if neg=true then !o.isSome else o.isSome)) H
theorem Hl{K:PySem.W.Frag}:gz K (KN neg) (qO neg):=by
 intro H y x d1 d2 f1 f2 d Q r1 r2 e k;cases r2 with
 | @bO a ak es fp h hk rs=>
  have e:((iM d1).map λk=>D.bl (if neg=true then !(bA es k).isSome else(bA es k).isSome))=some d:=e;exists yK,iM d1,key,e;cases e;have ek:=r1.key yK;subst ek;have ev:(eK ak key).isSome=(bA es key).isSome:=by
   obtain⟨h1,h2⟩:=qC hk rs;cases hv:bA es key with
   |none=>rw[h2 hv];rfl
   |some dv=>obtain⟨v,f,jV,_⟩:=h1 dv hv;rw[jV];rfl
  refine⟨a,eK ak key,rfl,ic.k h,?_⟩;rw[ev];exists 48
 |_=>cases e
theorem afh(hu:X.A.units+1<cLine)(ha:FP X a fa)(hb:FP X b fb)(hm:behindInMarks .In b=false:=by rfl):FP X (.Compare a [.In] [b] pos) (e2 (qO false) fa fb):=
 fp_2 Hl ha hb λta tb pa pb=>OY (L6 hu pa pb) hm
theorem Rr(hu:X.A.units+1<cLine)(ha:FP X a fa)(hb:FP X b fb)(hm:behindInMarks .In b=false:=by rfl):FT X (.Compare a [.In] [b] pos) (tV (e2 (qO false) fa fb)):=by
 exists 46;exists 22,afr (t:=tY (KN false) ta tb) (L6 hu pa pb) hm;obtain⟨tg,e0⟩:=J6 e;obtain⟨d1,t1,d2,t2,e1,jx,e3,rfl⟩:=pB e0;refine sa ok e1 λH1 x f1 s1 r1 _=>?_
 exists 49
 refine Hl H2 x y d1 d2 f1 f2 _ _ (r1.same s2) r2 e3 λH3 v s3 r3=>?_
 cases r3;exact⟨c,rfl,k H3 ((s1.trans s2).trans s3)⟩
def A4(i:Nat)(cn f:Str)(fv:EF):SF:=λρ=>match fv ρ,ρ[i]? with
 | some (d,_),some (some (.ins c es,.own))=>if c=cn then(match es.lookup f with
  |some (.lst ds)=>if(aC d&&aM ds&&decide (ds.length<sizeLine))=true then some (.nx (bT ρ i (.ins c (dR f (.lst (ds++[d])) es)))) else none
  |_=>none) else none
 |_,_=>none
theorem BG(i:Nat)(hC:ClsAt X.K cn C)(na:jj X.K C f)(hv:FP X a fv)(va:VA X i x:=by walk_at "va")(hs:Y1 X a:=by rfl)
  (hb:attributeBase (.Name x p) f X.env (eval (.Name x p) X.env)=eval (.Name x p) X.env:=by rfl)
  (lS:attributeBase (.Attribute (.Name x p) f p1) "append" X.env (eval (.Attribute (.Name x p) f p1) X.env)=eval (.Attribute (.Name x p) f p1) X.env:=by rfl)
  (lZ:((backTo p3 (starEach [a] X.env)).all (λx=>!x.1)&&(backToKw p3 (keywordEach [] X.env)).all (λx=>x.1.isSome)&&decide ([a].length+([]:List Keyword).length+(if([]:List Keyword).isEmpty then 0 else 1)<30))=true:=by rfl)
  (lN:(p2.endLine==p3.line)=true:=by rfl) (kq:swapsWith (.Call (.Attribute (.Attribute (.Name x p) f p1) "append" p2) [a] [] p3) none pos.line X.env=pure false:=by rfl) :
  eT X (.Expr (.Call (.Attribute (.Attribute (.Name x p) f p1) "append" p2) [a] [] p3) pos) (A4 i cn f fv):=by
 obtain⟨tv,lB,sv⟩:=hv;exists 25,Ar (yg PySem.F.plainAttrs_list PySem.F.slot_list_append PySem.F.type_list_append Gw (v7 va.pe hb) (cP lB eW hs) lS lZ lN hs rfl) kq;unfold A4 at e
 split at e
 .rename_i d td c es g1 g2
  by_cases hc:c=cn
  .subst hc;rw[if_pos rfl] at e
   split at e
   .rename_i ds hl;obtain⟨hc,e⟩:=ci e;cases e;obtain⟨c1,c3⟩:=(abe _ _).mp hc;obtain⟨c1,c2⟩:=(abe _ _).mp c1;obtain⟨xv,fp,cL,r,zz⟩:=ok.sl i _ _ g2;refine⟨xv,cL,?_⟩;obtain⟨b0,dx,fs,u,gf,rfl,h1,h2,h3,h4,h5,h6⟩:=r.place hC.ns zz.1 hl;refine⟨b0,C,dx,fs,u,rfl,h1,hC.cl,na,h2,?_⟩;obtain⟨l,xs,f0,rfl,hq,_,_⟩:=h3.dZ;refine⟨.inl ⟨rfl,_,hq⟩,?_⟩;refine sv ok g1 λH1 v fd s1 rv gv=>?_
    have hn:=rv.aC c1;subst hn;generalize hw:(V.ref l)=w at h3 h6;cases h3 with
    | @lst a' ys _ f' h rs=>
     cases hw;have hn:=rs.aC c2;subst hn;have Ir:=s1 _ _ h;refine⟨_,ys,v,rfl,rfl,Ir,by rw[<- rs.length];exact aa9 c3,?_⟩;have im:aX H1 (upd H1 l (.lst (ys++[v]))):=aX.upd Ir rfl;obtain⟨bQ,k1,k2,k3⟩:=h6 (upd H1 l (.lst (ys++[v]))) (.lst (ds++[d])) [l] ((aX.of s1).trans im) (λc o n e=>by rw[aO λq=>n (by rw[q];exact aak)];exact s1 c o e)
      (.lst cz (aB.append ((rs.same s1).frame (λa m=>nomatch m) im) (aB.cons (rv.frame (λa m=>nomatch m) im) .nil))) h4 (λc m=>.inl m)
     obtain⟨z',aS⟩:=ok.put g2 cL zz ((aX.of s1).trans im) (λc o n e=>by rw[aO λq=>n (by rw[q];exact h5 l aak)];exact s1 c o e) k1 k2 k3;exact q z' σ _ aS (.refl _ _)
   .cases e
  .rw[if_neg hc] at e;cases e
 .cases e
end L2.Ev
namespace L2
open PySem PySem.Spec PyProof.Rows
def Zn:V->List V->Hp->VK->Prop:=λx vs H Q=>∃(l:Addr) (ns:List Int) (n:Int),x=.ref l/\vs=[.int n]/\H l=some (.lst (ns.map V.int))/\n∈ns/\Q .aA (upd H l (.lst ((ns.erase n).map V.int)))
noncomputable def UB(n:Int):Value->Bool
 |.int a _=>a==n
 |_=>false
theorem DQ{ns:List Int}(r:aT (ns.map V.int) us)(h:m<us.length)(h2:m<ns.length):∃t,us[m]=.int ns[m] t:=by
 obtain⟨u,hu,ru⟩:=r.get (by rw[acn,abl h2];rfl);rw[abl h] at hu;obtain⟨t,rt⟩:=ru;exact⟨t,by rw[<- rt];exact ab4 hu⟩
theorem RI:∀{ns:List Int} {n} {m} (h:m<ns.idxOf n) (h2),ns[m]≠n
 |[],_,_,_,h2=>absurd h2 (Nat.not_lt_zero _)
 |a::ns,n,m,h,h2=>by
  rw[List.idxOf_cons] at h
  by_cases ha:(a==n)=true
  .rw[ha] at h;exact absurd h (Nat.not_lt_zero _)
  .have ha:(a==n)=false:=by simpa using ha
   rw[ha] at h;cases m with
   |zero=>exact adu.mp ha
   |succ m=>exact RI (Nat.lt_of_succ_lt_succ h) (Nat.lt_of_succ_lt_succ h2)
theorem aev{l:List α}:(l.map f).eraseIdx k=(l.eraseIdx k).map f:=by
 rw[List.eraseIdx_eq_take_drop_succ,List.eraseIdx_eq_take_drop_succ,adh,List.map_take,List.map_drop]
theorem Xh:PU X "list.remove" Zn:=by
 intro af s σ H x vs v us Q I rx rv h;obtain⟨l,ns,n,rfl,rfl,hH,hn,q⟩:=h;cases rx;obtain⟨u,rfl,ru⟩:=rv.one;obtain⟨t,rfl⟩:=ru;obtain⟨z,au,nn,r,hl,e⟩:=I.Ay hH;have hi:ns.idxOf n<ns.length:=List.idxOf_lt_length_of_mem hn;rw[List.length_map] at hl z;have hj:ns.idxOf n<au.toArray.size:=by rw[ab6];lia
 refine call_meets F.slot_list_remove ⟨_,e,rfl⟩ F.entry_list_remove (F.args_list_remove_2 _ _)
  (MeetsSeq.list_remove l au.toArray nn (.int n t) (UB n) (λy my=>?_) (ns.idxOf n) hj ?_ (λm hm h2=>?_) (by rw[ab6];lia)) ⟨e,?_⟩
 .obtain⟨m,hm,em⟩:=Array.mem_iff_getElem.mp my;rw[ab6] at hm;rw[List.getElem_toArray] at em;obtain⟨t',et⟩:=DQ r hm (by lia);rw[<- em,et];exact MeetsSeq.EqGives.int _ _ _ _
 .rw[List.getElem_toArray];obtain⟨t',et⟩:=DQ r (by lia) hi;rw[et];rw[List.getElem_idxOf hi];exact afA n
 .rw[List.getElem_toArray];rw[ab6] at hm;obtain⟨t',et⟩:=DQ r hm (by lia);rw[et];exact adu.mpr (RI h2 (by lia))
 .refine⟨.aA,_,I.RE (its':=au.eraseIdx (ns.idxOf n)) hH e ?_ ?_ ?_,rfl,q⟩
  .show au.toArray.eraseIdxIfInBounds _=(au.eraseIdx _).toArray;rw[List.eraseIdxIfInBounds_toArray]
  .rw[List.erase_eq_eraseIdx_of_idxOf rfl,<- aev];exact r.eraseIdx _
  .rw[List.length_map];have:=List.length_erase_le (a:=n) (l:=ns)
   lia
end L2
namespace L2.Ev
open PySem PySem.Spec PyProof.Rows
noncomputable def Af(env:Env):Str×NameKind->Str×NameKind:=λ(n,k)=>if(k==NameKind.free&&env.scope.kind == .function&&env.kindOf n==some .cell) then(n,NameKind.cell) else(n,k)
theorem Nt:∀{names:List (Str×NameKind)} {x},(names.lookup x=some .cell\/names.lookup x=some .free)->(names.map (Af env)).lookup x=some .cell\/(names.map (Af env)).lookup x=some .free
 |[],_,h=>by simp at h
 |(n,k)::r,x,h=>by
  rw[aan];have e:Af env (n,k)=(n,.cell)\/Af env (n,k)=(n,k):=by
   show(if(k==NameKind.free&&env.scope.kind == .function&&env.kindOf n==some .cell)=true then(n,NameKind.cell) else(n,k))=_\/(if(k==NameKind.free&&env.scope.kind == .function&&env.kindOf n==some .cell)=true then(n,NameKind.cell) else(n,k))=_
   split
   .exact .inl rfl
   .exact .inr rfl
  cases hx:x==n with
  |true=>
   simp only[aeJ,hx] at h;rcases e with e|e<;>rw[e]<;>simp only[aeJ,hx]
   .exact .inl trivial
   .exact h
  |false=>
   simp only[aeJ,hx] at h;have ih:=Nt (env:=env) h;rcases e with e|e<;>rw[e]<;>simp only[aeJ,hx]<;>exact ih
theorem afj(h:yY M0 MD sc M js=true):oV (fC X M0 MD s3 H3 fp) M js sc:=by
 unfold yY at h;obtain⟨h,a6⟩:=(abe _ _).mp h;obtain⟨h,a5⟩:=(abe _ _).mp h;obtain⟨h,a4⟩:=(abe _ _).mp h;obtain⟨h,a3⟩:=(abe _ _).mp h;obtain⟨a1,a2⟩:=(abe _ _).mp h;refine⟨?_,λy hy=>?_,λy hy hl=>?_,a4,λx hx=>?_,aa9 a6⟩
 .cases hk:sc.kind<;>rw[hk] at a1<;>first|rfl|exact absurd a1 (by decide)
 .have:=adf.mp a2 y hy;intro z;rw[z] at this;exact absurd this (by decide)
 .have:=adf.mp a3 y hy;rw[hl] at this;have this:=this;cases q:sc.names.lookup y.1 with
  |none=>rw[q] at this;exact absurd this (by decide)
  |some k=>rw[q] at this;cases k<;>first|rfl|exact absurd this (by decide)
 .have:=adf.mp a5 x hx;refine Nt ?_;cases q:MD.names.lookup x with
  |none=>rw[q] at this;exact absurd this (by decide)
  |some k=>rw[q] at this;cases k<;>first|exact .inl rfl|exact .inr rfl|exact absurd this (by decide)
def yw(i:Nat)(fv:EF):SF:=λρ=>match fv ρ,ρ[i]? with
 |some (.int n,_),some (some (.lst ds,.own))=>match dY ds with
  |some ns=>if n∈ns then some (.nx (bT ρ i (.lst ((ns.erase n).map D.int)))) else none
  |none=>none
 |_,_=>none
theorem Pa:∀{ds} {ns},dY ds=some ns->ds=ns.map D.int
 |[],_,e=>by cases e;rfl
 |d::ds,ns,e=>by
  cases d<;>try (cases e;done)
  rename_i i;unfold dY at e;exists h,dY ds,r,e;cases e;rw[Pa h];rfl
theorem ae3(i:Nat)(hv:FP X a fv)(va:VA X i x:=by walk_at "va")(hs:Y1 X a:=by rfl)
  (lS:attributeBase (.Name x p1) "remove" X.env (eval (.Name x p1) X.env)=eval (.Name x p1) X.env:=by rfl)
  (lZ:((backTo p3 (starEach [a] X.env)).all (λx=>!x.1)&&(backToKw p3 (keywordEach [] X.env)).all (λx=>x.1.isSome)&&decide ([a].length+([]:List Keyword).length+(if([]:List Keyword).isEmpty then 0 else 1)<30))=true:=by rfl)
  (lN:(p2.endLine==p3.line)=true:=by rfl) (kq:swapsWith (.Call (.Attribute (.Name x p1) "remove" p2) [a] [] p3) none pos.line X.env=pure false:=by rfl) :
  eT X (.Expr (.Call (.Attribute (.Name x p1) "remove" p2) [a] [] p3) pos) (yw i fv):=by
 obtain⟨tv,lB,sv⟩:=hv;exists 25,Ar (yg PySem.F.plainAttrs_list PySem.F.slot_list_remove PySem.F.type_list_remove Xh va.pe (cP lB eW hs) lS lZ lN hs rfl) kq;unfold yw at e
 split at e
 .rename_i n td ds g1 g2;exists hI,dY ds,ns,e;exists 59;obtain⟨hc,e⟩:=ci e;cases e;have:=Pa hI;subst this;obtain⟨xv,fp,cL,r,zz⟩:=ok.sl i _ _ g2;refine⟨xv,cL,?_⟩;obtain⟨l,xs,f,rfl,hq,_,_⟩:=r.dZ;refine⟨.inl ⟨rfl,_,hq⟩,?_⟩;refine sv ok g1 λH1 v fd s1 rv gv=>?_
  cases rv;have r':=r.same s1;have bB:=ok.same s1;generalize hw:(V.ref l)=w at r' cL;cases r' with
  | @lst a' ys _ f' h rs=>
   cases hw;have ey:=rH rs hI;subst ey;have hn:=rs.aC (eF ns);subst hn;refine⟨_,ns,n,rfl,rfl,h,hc,?_⟩;have im:aX H1 (upd H1 l (.lst ((ns.erase n).map V.int))):=aX.upd h rfl;exact q z σ _ (Ok.Gh bB g2 cL zz aak h rfl (.lst cz (v8 _))) (.refl _ _)
 .cases e
def lA(fa fh:EF):EF:=λρ=>match fa ρ,fh ρ with
 |some (.lst ds,_),some (.int i,_)=>if aM ds=true then some (.lst (cutD ds none (some i)),.own) else none
 |_,_=>none
theorem Bj(ha:FP X a fa)(hh:FP X b fh):FP X (.Subscript a (.Slice none (some b) none p2) pos) (lA fa fh):=by
 exists 58;obtain⟨th,ph,qh⟩:=hh;exists 21,DG Dg p GW (FU ph);unfold lA at e
 split at e
 .rename_i ds t1 i t2 e1 e2;obtain⟨hi,e⟩:=ci e;cases e;refine q ok e1 λH1 x f1 s1 r1 _=>?_
  refine qh (ok.same s1) e2 λH2 y f2 s2 r2 _=>?_
  cases r2;refine⟨i,rfl,?_⟩;obtain⟨w,xs,f,rfl,hq,rs,_⟩:=(r1.same s2).dZ;have hn:=rs.aC hi;subst hn;refine⟨w,xs,rfl,hq,λp hp=>?_⟩;have s3:aG H2 (upd H2 p (.lst (kR xs none (some i)))):=λb o e=>by rw[aO (cZ e hp)];exact e
  have rr:aB X.K H2 (cutD ds none (some i)) (kR xs none (some i)) []:=by
   unfold cutD kR;rw[rs.length];exact aB.A0 _ (aB.Aa _ rs)
  refine k _ _ [p] ((s1.trans s2).trans s3) (.lst cz (rr.same s3)) ⟨abZ.mpr ⟨(λm=>by cases m),acm⟩,λa m=>?_⟩;cases aaB.mp m;exact s1.free (s2.free hp)
 .cases e
theorem WT(h:l.Nodup):(dU l).Pairwise (· < ·):=by
 have n:=(sJ l).nodup_iff.mpr h;exact(List.Pairwise.and (A7 l) n).imp λ⟨a,b⟩=>Int.lt_iff_le_and_ne.mpr ⟨a,b⟩
end L2.Ev
namespace L2
open PySem PySem.Spec PyProof.Rows
theorem acz(I:Inv X af σ H s)(hN:X.N.Nodup)(hi:X.N[i]? = some n)(hk:X.env.scope.names.lookup n=some .local)
  (h:∀s',Inv X af (σ.set i none) H s'->Q () s'):wpAny M A (do bindName X.env n .none;unbindBehindTheSuite X.env n pos) Q E s:=by
 obtain⟨m,hn,hl⟩:=id I.loc;have yo:(X.env.scope.kind == .class||(X.env.scope.kind == .module&&X.env.locals != X.env.globals))=false:=by rw[I.ok.kind];rfl
 have jK:=I.jK;have lo:∀{b} {o},X.cI.heap.get? b=some o->b≠X.env.locals:=λ{b o} e=>acL (ac5 (abQ e) I.ok.above)
 refine wpAny_nameGoes_keeps hk hn yo λh' v Ep hs=>?_
 refine h _ ⟨I.ok,I.os,I.bare,⟨λb o e n hb hx=>(hs.2 b (lo e)).trans (I.base.keep b o e n hb hx),λb o e n hb hx=>?_,I.base.free,λb o e hx=>?_,I.base.jl,I.base.jk,I.base.kK⟩,⟨_,Ep,λj y v' e1 e2 e3=>?_⟩,λy c e=>?_,I.free,I.gW,λp hp=>?_,
  I.aF.tracked λb u o hb q=>(hs.2 b λz=>by rw[z,I.free] at hb;cases hb).trans q,by simpa using I.len,I.hq⟩
 .exists 62;exact⟨sl,(hs.2 b (lo e)).trans e1⟩
 .exists 56;exact⟨o',(hs.2 b (lo e)).trans e1⟩
 .have hj:j≠i:=λz=>by
   subst z;have cR:j<σ.length:=by rw[I.len];exact(abD.mp hi).1
   rw[aer cR] at e2;cases e2
  rw[acY (afH hj)] at e2;obtain⟨u',r',q⟩:=hl j y v' e1 e2 e3;refine⟨u',r',?_⟩;rcases q with⟨k,e⟩|⟨k,c,e,z⟩
  .refine .inl ⟨k,?_⟩;have:y≠n:=λe=>hj (Gp hN e1 (e ▸ hi))
   exact(if_neg this).trans e
  .exact .inr ⟨k,c,e,z.sameBut hs (jK y c e)⟩
 .obtain⟨w',z⟩:=I.cell y c e;exact⟨w',z.sameBut hs (jK y c e)⟩
 .obtain⟨e,n,ne,nf,d⟩:=I.pin p hp;exact⟨(hs.2 p.1 ne).trans e,n,ne,nf,d⟩
def xX(K:PySem.W.Frag)(C D:Addr):Prop:=∃N bm i N' sL i',tL K C N bm i/\tL K D N' sL i'/\sL.contains (.type "BaseException")=true/\(Value.ref C::bm).contains (.ref D)=true
theorem YL(L:fZ X af σ H a (.ref C) aP s)(cat:xX X.K C D)(hg:Gl X x)(hm:X.mg x=some (.ref D))(k:R (.ok .brk) s)(gj:(x==("__debug__":Str))=false:=by decide):
  codeAny (model X.prog X.w) (X.A.mark (some (.ref a))) (.handlers (.ref a) [.ExceptHandler (some (.Name x px)) none [] pos] X.env) R s:=by
 obtain⟨_,_,_,_,_,_,⟨hC⟩,⟨hD⟩,hb,hc⟩:=cat;have I:=L.known.choose_spec.2.mJ a L.known.choose_spec.1.hq;have KI:=L.inv.c8;obtain⟨oe,vs,a0,T,oT,ts,h1,h2,_⟩:=L.ob;refine codeAny_handlers_test (sC I hg hm ?_ gj);obtain⟨hh,g,d,t,os⟩:=s;refine abN (KI _ _ hC) (KI _ _ hD) h1 h2 hb ?_;rw[hc];exact k
theorem ab5(L:fZ X af σ H a (.ref C) aP s)(hc:X.calm=true)(hx:X.ex=[])(cV:X.stack=X.env::X.outer)(hf:X.env.frame=some X.env.locals)(cat:xX X.K C D)(hg:Gl X x)(hm:X.mg x=some (.ref D))
  (hN:X.N.Nodup) (hi:X.N[i]? = some n) (hk:X.env.scope.names.lookup n=some .local)
  (h:∀s5 H5,tS H H5 a (.ref C) aP->Inv (X.mJ a) af (σ.set i (some (.ref a))) H5 s5->
   wpAny (model X.prog X.w) (X.A.mark (some (.ref a))) (execs (b0::HH) X.env) (SP (X.mJ a) af { nx:=λσ H=>W.nx (σ.set i none) H,rt:=W.rt,bk:=λσ H=>W.bk (σ.set i none) H,ct:=λσ H=>W.ct (σ.set i none) H }) (λ_ _=>False) s5)
  (gj:(x==("__debug__":Str))=false:=by decide) :
  Z4 X X.A (noteFrame (.ref a) X.env) (λ_ s2=>Z4 X X.A (setFlight (.ref a) none) (λ_ s3=>Z4 X X.A (handleBy (.ref a) X.env [.ExceptHandler (some (.Name x px)) (some n) (b0::HH) pos]) (SP X af W) X.xe s3) X.xe s2) X.xe s:=by
 refine L.abP hx cV hf λs3 L3=>wpAny_handleBy_cons (YL L3 cat hg hm ?_ gj) (λz=>nomatch z)
 refine codeAny_handlers_suite_as (L3.again hx λs4 L4=>?_);obtain⟨H5,kn,I4⟩:=L4.known;have I4:=I4.mJ a kn.hq;refine zI (X:=X.mJ a) I4 hN hi (.inl hk) (show RelV (V.ref a) (Value.ref a) from rfl) (λs5 I5=>?_) (.inr hk);refine adW (h s5 H5 kn I5) (λf s6 q=>?_) λ_ _ z=>False.elim z
 have fin:∀{jd} {H6}{Z:Shared->Prop},Inv (X.mJ a) af jd H6 s6->(∀s7,Inv X af (jd.set i none) H6 s7->Z s7)->Z4 X X.A (do bindName X.env n .none;unbindBehindTheSuite X.env n pos) (λ_ s7=>Z s7) X.xe s6:=λ{jd H6 Z} I6 k=>
  acz (L4.inv.aaP hc I6) hN hi hk k
 cases f with
 |next=>obtain⟨jd,H6,I6,q6⟩:=q;exact fin I6 λs7 I7=>⟨_,H6,I7,q6⟩
 |brk=>obtain⟨jd,H6,I6,q6⟩:=q;exact fin I6 λs7 I7=>⟨_,H6,I7,q6⟩
 |cont=>obtain⟨jd,H6,I6,q6⟩:=q;exact fin I6 λs7 I7=>⟨_,H6,I7,q6⟩
 |ret u=>obtain⟨v,jd,H6,I6,r6,q6⟩:=q;exact fin I6 λs7 I7=>⟨v,_,H6,I7,r6,q6⟩
open PySem PySem.Spec PySem.W PySem.Calls PyProof.Rows Builtin Builtin.ObjectAttr Builtin.Getset_descriptor
structure pL(K:Frag)(C:Addr):Prop where
 ga:findIn K (.ref C) "__getattribute__"=some (some (.builtin "BaseException.__getattribute__"))
 gh:findIn K (.ref C) "__getattr__"=some none
 at_:findIn K (.ref C) "__class__"=some (some (.builtin "object.__class__"))
 get:specialIn K (.builtin "object.__class__") "__get__"=some (some (.builtin "getset_descriptor.__get__"))
 tk:takesIn K (.builtin "object.__class__")=some true
 mo:mroIn K C (.type "object")=some true
 mb:mroIn K C (.type "BaseException")=some true
 cl:(clsIn K C).isSome=true
section
variable{s:Shared}{K:Frag}
theorem Xz(X:K.In s.heap)(hx:s.heap.get? x=some ox)(hc:ox.cls=.ref C)(hm:mroIn K C (.type "object")=some true)
  (h:R (.ok (.ret (.ref C))) s):codeAny (model prog w) A (.call (.builtin "getset_descriptor.__get__") ⟨[.builtin "object.__class__",.ref x,tp],[]⟩) R s:=by
 obtain⟨hh,g,dr,t,os⟩:=s;exists 50;have L1:=looks_mroIn (M:=model prog w) X hm;refine codeAny_call_builtin KF.slot_gs.plain KF.entry_gs (KF.slot_gs.check _ _ _ _ _ _ _ _ KF.type_class (KF.args_gs _ _ _) ?_);unfold Builtin.«getset_descriptor.__get__» descrGet;rw[dga_obj];refine aaO (acA ?_);unfold descrGetter descrCheckInstance descrNameAndClass isInstance;simp only[KF.owner_class]
 repeat lk
 refine⟨Code.quiet_builtin _ (by decide +kernel),agp KF.entry_class ?_⟩;unfold Builtin.«object.__class__» shownTypeOf
 repeat lk
 exact h
theorem aad(X:K.In s.heap)(k:pL K C):Looks (model prog w) s.heap (find (.ref x) (.ref C) "__class__") (.bind (.builtin "getset_descriptor.__get__") (.builtin "object.__class__")):=by
 have L1:=looks_findIn (M:=model prog w) X k.at_;have L2:Looks (model prog w) s.heap (getOf (some (.builtin "object.__class__"))) (some (.builtin "getset_descriptor.__get__")):=looks_specialIn X k.get;have L3:=looks_takesIn (M:=model prog w) X k.tk;exact L1.andThen (L2.andThen ((show Looks (model prog w) s.heap (dataDescriptor? (some (.builtin "object.__class__")) (some (.builtin "getset_descriptor.__get__"))) (some (.builtin "getset_descriptor.__get__",.builtin "object.__class__")) from L3.andThen .now).andThen (Looks.tag .now)))
theorem Xe(X:K.In s.heap)(k:pL K C)(hx:s.heap.get? x=some ox)(hc:ox.cls=.ref C)(hq:Q () s):wpAny M A (checkBuiltinCall "BaseException.__getattribute__" ⟨[.ref x,S1],[]⟩) Q E s:=by
 obtain⟨hh,g,dr,t,os⟩:=s;have hk:builtinKind "BaseException.__getattribute__"=some .slot:=by decide +kernel
 have Zi:splitId "BaseException.__getattribute__"=some ("BaseException","__getattribute__"):=by decide +kernel
 have L0:Looks M hh (typeOf (.ref x)) (.ref C):=hc ▸ (Looks.ld hx).andThen .now;have L1:=looks_mroIn (M:=M) X k.mb;have LI:Looks M hh (isInstance (.ref x) (.type "BaseException")) true:=L0.andThen L1;have ha:=F.args_bexc_ga (.ref x) S1;simp only[checkBuiltinCall,hk,Zi];refine aaO (LI.at ?_)
 repeat (first|assumption|wp_step)
theorem Xi(X:K.In s.heap)(k:pL K C)(hx:s.heap.get? x=some ox)(hc:ox.cls=.ref C)(hq:Q (.done (.ret (.ref C))) s):
  wpAny (model prog w) A (Builtin.«object.__getattribute__» ⟨[.ref x,.str "__class__" tk],[]⟩) Q E s:=by
 obtain⟨hh,g,dr,t,os⟩:=s;exists 50;have L1:=aad (prog:=prog) (w:=w) (x:=x) X k;refine aaO (acA (aaO (acA (aaO (L0.at (aaO (L1.at ?_)))))));exact aaO (afG (wpAny_call (Xz X hx hc k.mo (acA hq))))
theorem Vx(X:K.In s.heap)(k:pL K C)(hx:s.heap.get? x=some ox)(hc:ox.cls=.ref C)(h:Q (some (.ref C)) { s with toks:=s.toks+1 }):wpAny (model prog w) A (getAttr? (.ref x) "__class__") Q E s:=by
 obtain⟨hh,g,dr,t,os⟩:=s;exists 50;have L1:=looks_findIn (M:=model prog w) X k.ga;have L2:=looks_findIn (M:=model prog w) X k.gh;have f3:=F.attr_ValueError.ga.bind (.ref x);have Xw:(false&&onTheHeap (Value.builtin "BaseException.__getattribute__"))=false:=rfl;have yW:(Value.builtin "BaseException.__getattribute__" == Value.builtin "object.__getattribute__")=false:=by decide +kernel
 have Tw:(onTheHeap (Value.ref C)&&Value.builtin "BaseException.__getattribute__" == Value.builtin "object.__getattribute__")=false:=by rw[yW];rfl
 unfold getAttr? getAttrBy? getAttrBy;refine aaO (wpAny_mkText (aaO (wpAny_attempt (afG (aaO (L0.at (aaO (L1.at ?_))))))));dsimp only;rw[if_neg (by rw[Tw];decide)];unfold getAttrByItsOwn hookBefore;refine aaO ?_;rw[if_pos (show onTheHeap (Value.ref C)=true from rfl)];refine L2.at ?_;refine aaO (wpAny_attempt (afG ?_));unfold callGetattribute;rw[if_neg (by rw[Xw];decide)];unfold boundAndCalled;rw[f3];refine aaO (acA (wpAny_call ?_));refine codeAny_call_builtin F.attr_ValueError.ga.plain F.entry_bexc_ga (Xe X k hx hc (Xi X k hx hc ?_));exact acA (acA h)
end
theorem XG{K:Frag}(k:pL K C):KitX K (.ref x) (.ref C) (λh=>∃o,h.get? x=some o/\o.cls=.ref C) where
 ty:=λ_ _ _ ⟨o,h1,h2⟩=>h2 ▸ (Looks.ld h1).andThen .now
 it:=λ_ _ X _=>by
  obtain⟨cd,ig⟩:=agv.mp k.cl;unfold clsIn at ig
  split at ig
  .rename_i c' d' cd' pY ho;intro A' Q' E' s' k q;unfold isType loadHead;exact aaO (wpAny_loadPart (k _ _ (X _ _ ho)) (acA q))
  .cases ig
 ne:=λh tp dd au n sl X Wl=>by
  obtain⟨cd,ig⟩:=agv.mp k.cl;refine agn.mpr λq=>?_
  have e:=Value.ref.inj (agg.mp q);subst e;unfold clsIn at ig
  split at ig
  .rename_i c' d' cd' pY ho;have z:=(X _ _ ho).symm.trans Wl;cases z
  .cases ig
 ca:=λX ⟨o,h1,h2⟩ q=>Vx X k h1 h2 q
theorem Us:f7 X (.builtin "isinstance") (λxs H Q=>∃a C c cv b de ob,xs=[V.ref a,c]/\(∀u,RelV c u->u=cv)/\H a=some (yt ob a (.ref C) de)/\pL X.K C/\kitOne X.K (.ref C) cv=some b/\Q (.bl b) H):=by
 exists 43;obtain⟨a,C,c,cv,bb,de,ob,rfl,hc,ha,k,e,q⟩:=h;obtain⟨u,w',rfl,ru,eU⟩:=vals2 r;obtain rfl:=hc w' eU;cases(show u=Value.ref a from ru);exact kia_one (XG k) I.c8 (SO I.aF ha) e (λz=>nomatch z) λtk=>⟨.bl bb,H,I.tok tk,rfl,q⟩
theorem UC(hg:Gl X x)(hm:X.mg x=some (.ref C))(gj:(x==("__debug__":Str))=false:=by decide):PE X (.Name x pos) (λ_ H Q=>Q (.ref C) H):=λaf s σ H Q I h=>sC I hg hm ⟨V.ref C,H,I,(rfl:Value.ref C=Value.ref C),h⟩ gj
end L2
namespace L2.Ev
open PySem PySem.Spec PyProof.Rows
def wk(X:Cx)(st:Stmt):TS:=λW σ H=>∀(af) (s),Inv X af σ H s->Z4 X X.A (exec st X.env) (SP X af W) X.xe s
theorem Cb{st:Stmt}:PS X st (wk X st):=λaf s _ _ _ I h=>h af s I
noncomputable def Ka(cn:Str)(g:AF):SF:=λρ=>match g ρ with
 |some _=>some (.er true (cn,none) ρ)
 |none=>none
theorem aez(hc:X.calm=true)(cl:BU X.K C)(hn:PySem.W.nsIn X.K mainGlobals cn=some (some (.ref C)))(hm:X.mg x=some (.ref C))(ha:FA X (e::es) g)(hl:(e::es).length<=1000:=by decide)(hx:X.ex=[]:=by rfl)(hg:GD X x:=by exact⟨rfl,by decide⟩)
  (he:SE X e es fP:=by exact⟨rfl,rfl⟩):eT X (.Raise (some (.Call (.Name x np) (e::es) [] fP)) none pos) (Ka cn g):=by
 obtain⟨t,pa,hz,qa⟩:=ha;refine⟨_,Cb,@λH0 S z aq ρ σ H E o ok e0 k=>?_⟩;unfold Ka at e0;cases h1:g ρ with
 |none=>rw[h1] at e0;cases e0
 |some qs=>
  rw[h1] at e0;cases e0;obtain⟨ES,th,kk⟩:=k;intro af s I;refine YI hc hx th cl hg.1 hm pa hg.2 he.1 he.2 af s σ H E I ?_;refine qa ok h1 λH1 vs fp s1 r1 _=>⟨?_,kk z σ H1 C (ok.same s1) (.refl _ _) hn⟩
  rw[<- r1.length,List.length_map,hz ρ qs h1];exact afk (xj hl)
inductive ER where
 |ok (d:D) (ρ:aN)|er (cn:XN) (ρ:aN)
def Zc(X:Cx)(H0:Hp)(S:List Addr)(aq:List qR)(σ:St)(Q:VK)(E:XK):ER->Prop
 |.ok d ρ=>∀z H1 H' v fp,Ok X.K H0 S z aq ρ σ H1->aG H1 H'->Rep X.K H' d v fp->cH z H1 .own fp->Q v H'
 |.er cn ρ=>∀z H' C,Ok X.K H0 S z aq ρ σ H'->PySem.W.nsIn X.K mainGlobals cn.1=some (some (.ref C))->E (.ref C) cn.2 H'
abbrev XR:=aN->Option ER
def FE(X:Cx)(e:Expr)(f:XR):Prop:=∃t,PX X e t/\∀{H0} {S} {z} {aq} {ρ} {σ} {H} {Q} {E} {r},
 Ok X.K H0 S z aq ρ σ H->f ρ=some r->Zc X H0 S aq σ Q E r->t σ H Q E
theorem Nm:tG X (λ_ _ _ _=>False):=λ_ _ _ _ _ _ _ _ z=>z.elim
def xY(i:Nat)(f:XR):SF:=λρ=>match f ρ with
 |some (.ok d ρ')=>some (.nx (iD ρ' i d .own))
 |some (.er cn ρ')=>some (.er false cn ρ')
 |none=>none
noncomputable def Au(f:XR):SF:=λρ=>match f ρ with
 |some (.ok d ρ')=>some (.nx ρ')
 |some (.er cn ρ')=>some (.er false cn ρ')
 |none=>none
theorem DH(i:Nat)(he:FE X e f)(hN:X.N.Nodup)(hi:X.N[i]? = some x:=by rfl)(hx:Loc X.env.scope x:=by first|exact Or.inl rfl|exact Or.inr rfl)
  (hs:swapsWith e (some (.Name x pos')) pos.line X.env=pure false:=by rfl) (hf:z5 X x:=by first|exact .inl rfl|exact .inr rfl) (kZ:j8 X x=false:=by rfl):eT X (.Assign [.Name x pos'] e pos) (xY i f):=by
 obtain⟨t,p,q⟩:=he;exists 23,Cb;unfold xY at e;cases h:f ρ with
 |none=>rw[h] at e;cases e
 |some r=>
  rw[h] at e;intro af s I;cases r with
  |ok d aR=>
   cases e;refine Qv Nm hN hi hx p hs hf af s σ H E I ?_;exact q ok h λz1 H1 H2 v fp bB s1 r1 g1=>bB.stored s1 r1 g1 λz' aS=>k z' _ H2 aS (.set hi kZ)
  |er cn aR=>
   cases e;obtain⟨ES,th,kk⟩:=k;refine Qv th hN hi hx p hs hf af s σ H E I ?_;exact q ok h λz1 H1 C bB hC=>kk z1 σ H1 C bB (.refl _ _) hC
theorem VH(he:FE X e f)(hs:swapsWith e none pos.line X.env=pure false:=by rfl):eT X (.Expr e pos) (Au f):=by
 obtain⟨t,p,q⟩:=he;exists 23,Cb;unfold Au at e;cases h:f ρ with
 |none=>rw[h] at e;cases e
 |some r=>
  rw[h] at e;intro af s I;cases r with
  |ok d aR=>
   cases e;refine NC Nm p hs af s σ H E I ?_;exact q ok h λz1 H1 H2 v fp bB s1 r1 g1=>k z1 σ H2 (bB.same s1) (.refl _ _)
  |er cn aR=>
   cases e;obtain⟨ES,th,kk⟩:=k;refine NC th p hs af s σ H E I ?_;exact q ok h λz1 H1 C bB hC=>kk z1 σ H1 C bB (.refl _ _) hC
noncomputable def E4(i:Nat)(sub:Str->Bool)(f g:SF):SF:=λρ=>match f ρ with
 | some (.er false cn ρ')=>if sub cn.1=true then(match g (ρ'.set i (some (.exc cn,.own))) with
  |some (.nx bg)=>some (.nx (bg.set i none))
  |some (.bk bg)=>some (.bk (bg.set i none))
  |some (.ct bg)=>some (.ct (bg.set i none))
  |some (.rt d)=>some (.rt d)
  |_=>none) else none
 |some (.er true _ _)=>none
 |o=>o
theorem adP{K:PySem.W.Frag}(hC:PySem.W.nsIn K mainGlobals cn.1=some (some (.ref C)))(k:tS H H' a (.ref C) cn.2):Rep K H' (.exc cn) (.ref a) []:=by
 obtain⟨c,aP⟩:=cn;obtain⟨ob,vs,_,_,k⟩:=k;cases aP with
 |none=>cases k;exact .exc hC cz λ_ e=>by cases e
 |some n=>obtain⟨dx,ne,_,rfl⟩:=k;exact .exc hC cz λm e=>by cases e;exact⟨dx,rfl,by rw[aO ne,cz]⟩
theorem Ok.unset{K:PySem.W.Frag}(ok:Ok K H0 S z aq ρ σ H)(i:Nat):Ok K H0 S z aq (ρ.set i none) (σ.set i none) H:=by
 have at_:∀{j} {w},(ρ.set i none)[j]? = some (some w)->j≠i/\ρ[j]? = some (some w):=λ{j w} e=>by
  have hj:j≠i:=λq=>by
   subst q
   by_cases hl:j<ρ.length
   .rw[aer hl] at e;cases e
   .rw[List.getElem?_eq_none (by rw[ags];exact Nat.le_of_not_lt hl)] at e;cases e
  exact⟨hj,by rw[acY (afH hj)] at e;exact e⟩
 refine⟨λj d t e=>?_,λp m=>?_,ok.zd,ok.en,by rw[ags,ags];exact ok.ln⟩
 .obtain⟨hj,e⟩:=at_ e;obtain⟨v,fp,a,b,c⟩:=ok.sl j d t e;exact⟨v,fp,by rw[acY (afH hj)];exact a,b,c⟩
 .obtain⟨r,h⟩:=ok.hl p m;exact⟨r,λa ha j q=>let⟨h1,h2⟩:=h a ha j q;⟨h1,λd e=>h2 d (at_ e).2⟩⟩
theorem SH(q:SP (X.kG af R) [] E fl s):SP X af E fl s:=by
 cases fl with
 |next=>obtain⟨az,H',I,q⟩:=q;exact⟨az,H',I.nQ,q⟩
 |brk=>obtain⟨az,H',I,q⟩:=q;exact⟨az,H',I.nQ,q⟩
 |cont=>obtain⟨az,H',I,q⟩:=q;exact⟨az,H',I.nQ,q⟩
 |ret u=>obtain⟨v,az,H',I,r,q⟩:=q;exact⟨v,az,H',I.nQ,r,q⟩
theorem Wc(hb:∀af R,FS (X.kG af R) body f)(I:Inv X af σ H s)(ok:Ok X.K H0 S z aq ρ σ H)(hf:f ρ=some o1)
  (k:match o1 with
   |.er true _ _=>False
   |.er false cn ρ'=>∀z' az H' C a s',Ok X.K H0 S z' aq ρ' az H'->Kp X σ az->PySem.W.nsIn X.K mainGlobals cn.1=some (some (.ref C))->fZ X af az H' a (.ref C) cn.2 s'->
    Z4 X X.A (noteFrame (.ref a) X.env) (λ_ s2=>Z4 X X.A (setFlight (.ref a) none) (λ_ s3=>Z4 X X.A (handleBy (.ref a) X.env [h0]) (SP X af E) X.xe s3) X.xe s2) X.xe s'
   |o=>nq X H0 S aq σ E o) :
  Z4 X X.A (exec (.Try body [h0] [] [] pos) X.env) (SP X af E) X.xe s:=by
 refine wpAny_Try_except ?_;obtain⟨tb,pb,sb⟩:=hb af (λcls aP az H'=>∀a s',fZ X af az H' a cls aP s'->
    Z4 X X.A (noteFrame (.ref a) X.env) (λ_ s2=>Z4 X X.A (setFlight (.ref a) none) (λ_ s3=>Z4 X X.A (handleBy (.ref a) X.env [h0]) (SP X af E) X.xe s3) X.xe s2) X.xe s')
 have wH:tb E σ H:=by
  refine sb ok hf ?_;cases o1 with
  |nx ρ'=>exact k
  |rt d=>exact k
  |bk ρ'=>exact k
  |ct ρ'=>exact k
  |er raw cn ρ'=>
   cases raw with
   |true=>exact False.elim k
   |false=>exact⟨_,Tu,λz' az H' C aS kp hC a s' L=>k z' az H' C a s' aS kp hC L⟩
 refine adW (pb [] s σ H E I.kG wH) (λfl s1 q=>?_) (λev s1 q=>?_)
 .have q':=SH q;cases fl with
  |next=>exact ahf q'
  |brk=>exact q'
  |cont=>exact q'
  |ret u=>exact q'
 .obtain⟨az,H',a,cls,aP,rfl,L,r⟩:=q;exact r a s1 L
theorem aeF(i:Nat)(hb:∀af R,FS (X.kG af R) body f)(hs:∀a,FS (X.mJ a) (b0::HH) g)(acd:∀cn C,sub cn=true->PySem.W.nsIn X.K mainGlobals cn=some (some (.ref C))->xX X.K C Dc)(hm:X.mg x=some (.ref Dc))(hN:X.N.Nodup)
  (UY:X.calm=true:=by rfl) (hx:X.ex=[]:=by rfl) (cV:X.stack=X.env::X.outer:=by rfl) (n9:X.env.frame=some X.env.locals:=by rfl) (hg:Gl X x:=by rfl) (hi:X.N[i]? = some n:=by rfl) (hk:X.env.scope.names.lookup n=some .local:=by rfl) (kZ:j8 X n=false:=by rfl) (gj:(x==("__debug__":Str))=false:=by decide) :
  eT X (.Try body [.ExceptHandler (some (.Name x px)) (some n) (b0::HH) agP] [] [] pos) (E4 i sub f g):=by
 exists 23,Cb;intro af s I;unfold E4 at e;cases hf:f ρ with
 |none=>rw[hf] at e;cases e
 |some o1=>
  rw[hf] at e;refine Wc hb I ok hf ?_;cases o1 with
  |nx ρ'=>cases e;exact k
  |rt d=>cases e;exact k
  |bk ρ'=>cases e;exact k
  |ct ρ'=>cases e;exact k
  |er raw cn ρ'=>
   cases raw with
   |true=>cases e
   |false=>
    dsimp only at e ⊢
    by_cases Jr:sub cn.1=true
    .rw[if_pos Jr] at e;intro z' az H' C a s' aS kp hC L;refine ab5 L UY hx cV n9 (acd cn.1 C Jr hC) hg hm hN hi hk (λs5 H5 kn I5=>?_) gj;obtain⟨ts,ZR,ss⟩:=hs a;refine ZR af s5 _ _ _ I5 ?_;have sm:aG H' H5:=λb o q=>kn.same L.fr q
     refine aS.stored (i:=i) (t:=.own) sm (adP hC kn) .nil λz5 zx=>?_
     have zx:=zx;have iU:∀{jd},Kp X (az.set i (some (.ref a))) jd->Kp X σ (jd.set i none):=λ{jd} b=>((kp.trans (.set hi kZ)).trans b).trans (.set hi kZ)
     cases Jw:g (ρ'.set i (some (.exc cn,.own))) with
     |none=>rw[Jw] at e;cases e
     |some o2=>
      rw[Jw] at e;refine ss zx Jw ?_;cases o2 with
      |nx bg=>cases e;exact λz6 jd H6 xg b=>k z6 _ H6 (xg.unset i) (iU b)
      |bk bg=>cases e;exact λz6 jd H6 xg b=>k z6 _ H6 (xg.unset i) (iU b)
      |ct bg=>cases e;exact λz6 jd H6 xg b=>k z6 _ H6 (xg.unset i) (iU b)
      |rt d=>cases e;exact k
      |er _ _ _=>cases e
    .rw[if_neg Jr] at e;cases e
inductive Rz where
 |ok (d:D)|er (cn:XN)
def sQ(K:PySem.W.Frag)(F:List D->Option Rz):Sp:=λvs H Q E=>∃ds fp r,aB K H ds vs fp/\F ds=some r/\match r with
 |.ok d=>∀H' v gO,aG H H'->Rep K H' d v gO->gO.Nodup->(∀a∈gO,H a=none)->Q v H'
 |.er cn=>∀H' C,aG H H'->PySem.W.nsIn K mainGlobals cn.1=some (some (.ref C))->E (.ref C) cn.2 H'
def qd(n N:Nat)(b:SF):List D->Option Rz:=λds=>if ds.length=n then(match b (vL N ds) with
 |some (.rt d)=>some (.ok d)
 |some (.nx _)=>some (.ok .aA)
 |some (.er _ cn _)=>some (.er cn)
 |_=>none) else none
section
variable{K:PySem.W.Frag}
theorem Z3{x qual:Str}{st:Stmt}{f:Addr}{fd:FuncData}{N ps:List Str}{k:Nat}{b:SF}(F:i_ K x qual st f fd)(S:nU N ps (ck st))(pZ:ps.length<=N.length)
  (hb:∀(aQ) (A) (outer) (s) (H) (E),bh k (A.deeper (envOfC qual (ck st) s.heap.objs.size f aQ))->FS (fU (iH P w) P w K mg base N qual (ck st) f aQ A outer s H E) (gI st) b) :
  bU P w K mg base (iH P w) (k+1) f fd ps (sQ K (qd ps.length N.length b)):=by
 have l_:∀{ds} {r},qd ps.length N.length b ds=some r->ds.length=ps.length:=λ{ds d} e=>by
  unfold qd at e
  by_cases h:ds.length=ps.length
  .exact h
  .rw[if_neg h] at e;cases e
 obtain⟨oc,od,kV,doc,pm,an,aQ,ct,pS,rfl,lk,ig⟩:=F.ex;refine KP lk ig S (λvs H Q E ⟨ds,fp,r,rs,e,_⟩=>by rw[<- rs.length];exact l_ e) λA outer s H vs Q E hr ⟨ds,fp,r,rs,e,q⟩=>?_
 obtain⟨t,p,sd⟩:=hb aQ A outer s H E hr;refine⟨t,p,?_⟩;have hl:=l_ e;obtain⟨z,ok⟩:=Ok.kC .nil .nil rs λ_ _ m=>nomatch m
 unfold qd at e;rw[if_pos hl] at e;cases ho:b (vL N.length ds) with
 |none=>rw[ho] at e;cases e
 |some o=>
  rw[ho] at e;refine sd ok ho ?_;cases o with
  |rt d'=>
   cases e;exact λH' v gO en r nd fr=>q H' v gO (λa o e=>en a o e (λm=>nomatch m)) r nd λa m=>(fr a m).resolve_right λm=>nomatch m
  |nx ρ'=>
   cases e;exact λz' az H' aS _=>q H' .aA [] (λa o e=>aS.en a o e (λm=>nomatch m)) .aA acm λa m=>nomatch m
  |bk _=>cases e
  |ct _=>cases e
  |er raw cn ρ'=>
   cases e;cases raw with
   |true=>exact⟨_,UK,λz' az H' C aS _ hC=>q H' C (λa o e=>aS.en a o e (λm=>nomatch m)) hC⟩
   |false=>exact⟨_,VF,λz' az H' C aS _ hC=>q H' C (λa o e=>aS.en a o e (λm=>nomatch m)) hC⟩
end
noncomputable def HR(T:List (Str×Bool)):D->Option D
 |.exc cn=>(T.lookup cn.1).map .bl
 |_=>none
def Dm(K:PySem.W.Frag)(T:List (Str×Bool))(c:Value):Prop:=∀cn b C,T.lookup cn=some b->PySem.W.nsIn K mainGlobals cn=some (some (.ref C))->pL K C/\PySem.W.kitOne K (.ref C) c=some b
theorem WQ{cv:Value}{c:V}{tc:TE}(hc:∀u,RelV c u->u=cv)(hT:Dm X.K T cv)(hm:X.mg "isinstance"=none)(ha:FP X a fa)(pc:PE X (.Name x p2) (λ_ H Q=>Q c H))(hg:Gl X "isinstance":=by rfl)
  (hs:starEach [a,.Name x p2] X.env=[(false,eval a X.env),(false,eval (.Name x p2) X.env)]:=by rfl) (hpl:(backTo pos (starEach [.Name x p2] X.env)).any (·.1)=false:=by rfl):FP X (.Call (.Name "isinstance" p) [a,.Name x p2] [] pos) (e1 (HR T) fa):=by
 obtain⟨ta,pa,sa⟩:=ha;have cG:starEach [.Name x p2] X.env=[(false,eval (.Name x p2) X.env)]:=rfl;exists 21,lY Us hg hm (show bootBuiltins "isinstance"=some (.builtin "isinstance") by decide +kernel) (cP pa (cP pc eW) (by rw[hs,cG])) (he:=by rw[hs,cG]);obtain⟨d1,t1,h1,h2,rfl⟩:=rR e;refine sa ok h1 λH1 v fp s1 r1 _=>?_
 unfold HR at h2
 split at h2
 .rename_i cn;cases hl:T.lookup cn.1 with
  |none=>rw[hl] at h2;cases h2
  |some b=>
   rw[hl] at h2;cases h2;cases r1 with
   | @exc _ a' C de ob hn ho _=>
    obtain⟨kk,ke⟩:=hT cn.1 b C hl hn;exact⟨a',C,c,cv,b,de,ob,rfl,hc,ho,kk,ke,k H1 _ [] s1 (.bl _) .nil⟩
 .cases h2
theorem agd{C:Addr}(hT:Dm X.K T (.ref C))(hm:X.mg "isinstance"=none)(Tf:X.mg x=some (.ref C))(ha:FP X a fa)(hg:Gl X "isinstance":=by rfl)(OH:GD X x:=by exact⟨rfl,by decide⟩)
  (hs:starEach [a,.Name x p2] X.env=[(false,eval a X.env),(false,eval (.Name x p2) X.env)]:=by rfl) (hpl:(backTo pos (starEach [.Name x p2] X.env)).any (·.1)=false:=by rfl):FP X (.Call (.Name "isinstance" p) [a,.Name x p2] [] pos) (e1 (HR T) fa):=
 WQ (tc:=λ_ H Q=>Q (.ref C) H) (c:=.ref C) (λu r=>r) hT hm ha (UC OH.1 Tf OH.2) hg hs hpl
noncomputable def j7:List D->Option (List Str)
 |[]=>some []
 |.str x::r=>(j7 r).map λm=>x::m
 |_::_=>none
theorem yr{K:PySem.W.Frag}:∀{ds} {xs} {fp} {ys},aB K H ds xs fp->j7 ds=some ys->xs=ys.map V.str
 |_,_,_,_,.nil,e=>by cases e;rfl
 |_,_,_,ys,.cons (d:=d) h t,e=>by
  cases d with
  |str x=>
   unfold j7 at e;cases q:j7 _ with
   |none=>rw[q] at e;cases e
   |some m=>
    rw[q] at e;cases e;cases h;rw[yr t q];rfl
  |_=>cases e
theorem Qe:∀ys:List Str,j7 (ys.map D.str)=some ys
 |[]=>rfl
 |y::ys=>by
  show(j7 (ys.map D.str)).map (λm=>y::m)=_;rw[Qe ys];rfl
theorem QU:∀{ys} {us},aT (ys.map V.str) us->StrsAre us ys
 |[],_,r=>by cases r;exact .nil
 |y::ys,_,r=>by
  cases r with
  |cons h t=>
   obtain⟨tk,rfl⟩:=h;exact .cons y tk (QU t)
noncomputable def dG(k:Str)(ys:List Str):Nat:=ys.countP (· == k)
theorem count_eq(k:Str):∀ys:List Str,countIn (.str k) (ys.map PyData.str)=(dG k ys:Int)
 |[]=>rfl
 |y::ys=>by
  rw[aan,countIn,count_eq k ys];unfold dG;rw[List.countP_cons];have e:same (.str y) (.str k)=(y==k):=by simp[same]
  rw[e];cases h:(y==k)
  .simp
  .simp;omega
def X3(K:PySem.W.Frag):V->List V->Hp->VK->Prop:=λx vs H Q=>∃(l:Addr) (ys:List Str) (k:Str),x=.ref l/\vs=[.str k]/\b7 K H l (ys.map V.str)/\Q (.int (dG k ys)) H
theorem aeW{X:Cx}:D7 X "list.count" (X3 X.K):=by
 intro af s σ H x vs v us Q I rx rv h;obtain⟨l,ys,k,rfl,rfl,hH,q⟩:=h;cases rx;obtain⟨u,rfl,ru⟩:=rv.one;obtain⟨t,rfl⟩:=ru;obtain⟨au,r,pl,hz⟩:=I.list hH;refine count_list_strs pl.isList (QU r) ?_;rw[count_eq];exact⟨.int (dG k ys),H,I.tok _,⟨_,rfl⟩,q⟩
def uh:D->D->Option D
 |.lst ds,.str k=>(j7 ds).map λys=>.int (dG k ys)
 |_,_=>none
theorem Er(ho:FP X o fo)(ha:FP X a fa)(hs:Y1 X a:=by rfl)(lS:attributeBase o "count" X.env (eval o X.env)=eval o X.env:=by rfl)
  (lZ:((backTo p3 (starEach [a] X.env)).all (λx=>!x.1)&&(backToKw p3 (keywordEach [] X.env)).all (λx=>x.1.isSome)&&decide ([a].length+([]:List Keyword).length+(if([]:List Keyword).isEmpty then 0 else 1)<30))=true:=by rfl)
  (lN:(p2.endLine==p3.line)=true:=by rfl):FP X (.Call (.Attribute o "count" p2) [a] [] p3) (e2 uh fo fa):=by
 obtain⟨to,po,so⟩:=ho;obtain⟨ta,pa,sa⟩:=ha;refine⟨_,yg PySem.F.plainAttrs_list PySem.F.slot_list_count PySem.F.type_list_count aeW po (cP pa eW hs) lS lZ lN hs rfl,@λH0 S z aq ρ σ H Q dd tg ok e k=>?_⟩;obtain⟨d1,t1,d2,t2,e1,jx,e3,rfl⟩:=pB e;unfold uh at e3
 split at e3
 .rename_i ds ky;cases hS:j7 ds with
  |none=>rw[hS] at e3;cases e3
  |some ys=>
   rw[hS] at e3;cases e3;refine so ok e1 λH1 v fp s1 r1 _=>?_
   obtain⟨l,xs,f,rfl,hq,rs,_⟩:=r1.dZ;have ex:=yr rs hS;subst ex;refine⟨.inl ⟨rfl,_,hq⟩,?_⟩;refine sa (ok.same s1) jx λH2 u l6 s2 r2 _=>?_
   cases r2;obtain⟨l',YY,f',e',ZE,xA,_⟩:=(r1.same s2).dZ;cases e';have ex:=yr xA hS;subst ex;exact⟨l,ys,ky,rfl,rfl,ZE,k H2 _ [] (s1.trans s2) (.int _) .nil⟩
 .cases e3
def Co(K:PySem.W.Frag)(t:Addr)(ys:List Str):Prop:=∃(o:Obj) (au:Array Value) (n:Nat),K.lookup t=some o/\o.cls=.type "tuple"/\o.dict=none/\o.data=.seq au n/\au.size<=sizeLine/\aT (ys.map V.str) au.toList
theorem Lx{K:PySem.W.Frag}:∀ys:List Str,aB K H (ys.map D.str) (ys.map V.str) []
 |[]=>.nil
 |y::ys=>.cons (.str y) (Lx ys)
theorem agi(hm:X.mg x=some (.ref t))(ht:Co X.K t ys)(hg:GD X x:=by exact⟨rfl,by decide⟩):FP X (.Name x pos) (eC (.tup (ys.map D.str))):=
 ⟨_,N6 hg.1 hm (v:=.ref t) rfl hg.2,@λ_ _ _ _ _ _ H _ _ _ _ e q=>by cases e;exact q H _ _ (aG.refl H) (.tup (.inr ht) (Lx ys)) .nil⟩
def uP(neg:Bool):D->D->Option D
 |.str i,.lst ds=>(j7 ds).map λns=>.bl (if neg=true then !(ns.any (· == i)) else ns.any (· == i))
 |.str i,.tup ds=>(j7 ds).map λns=>.bl (if neg=true then !(ns.any (· == i)) else ns.any (· == i))
 |_,_=>none
theorem Kc(i:Str)(ns:List Str):uH (.str i) (ns.map V.str)=ns.any (· == i):=by
 unfold uH;rw[agO];rfl
theorem K3(ns:List Str):(ns.map V.str).all mW=true:=by
 rw[ahe];exact adf.mpr λ_ _=>rfl
theorem Mw{K:PySem.W.Frag}{neg:Bool}:gz K (Cs K neg) (uP neg):=by
 exists 41;unfold uP at e
 split at e
 .rename_i i ds;cases hS:j7 ds with
  |none=>rw[hS] at e;cases e
  |some ys=>
   rw[hS] at e;cases e;cases r1;obtain⟨l,xs,f,rfl,hq,rs,_⟩:=r2.dZ;have ex:=yr rs hS;subst ex;refine⟨l,_,rfl,.inl hq,rfl,K3 ys,?_⟩;rw[Kc];exists 48
 .rename_i i ds;cases hS:j7 ds with
  |none=>rw[hS] at e;cases e
  |some ys=>
   rw[hS] at e;cases e;cases r1;cases r2 with
   |tup hq rs=>
    have ex:=yr rs hS;subst ex;refine⟨_,_,rfl,.inr hq,rfl,K3 ys,?_⟩;rw[Kc];exists 48
 .cases e
theorem afz(ha:FP X a fa)(hb:FP X b fb)(hm:behindInMarks .In b=false:=by rfl):FT X (.Compare a [.In] [b] pos) (tV (e2 (uP false) fa fb)):=jg OI Mw ha hb hm
theorem V8(ha:FP X a fa)(hb:FP X b fb)(hm:behindInMarks .NotIn b=false:=by rfl):FT X (.Compare a [.NotIn] [b] pos) (tV (e2 (uP true) fa fb)):=jg Fk Mw ha hb hm
end L2.Ev
namespace L2.Ev
open PySem PySem.W
theorem Kq(q:w6 K C=true):∃N bm,tL K C N bm "ValueError.__new__"/\nsOkIn K N=true/\nsIn K N "__init__"=some none/\tailIn K Qx bm=true:=by
 unfold w6 at q;cases h:K.lookup C with
 |none=>rw[h] at q;cases q
 |some o=>
  obtain⟨c,dd,da,⟨sl⟩⟩:=o;rw[h] at q;cases da<;>try cases q
  rename_i cd;simp only[abe,agg] at q;obtain⟨⟨⟨⟨⟨⟨h1,h2⟩,h3⟩,h4⟩,h5⟩,h6⟩,h7⟩:=q;obtain⟨nm,bs,mro,ns,qn,hd,sn,sub,ab,col,del⟩:=cd;cases h4;dsimp only at h2;rw[h1,h2,h3] at h;exact⟨ns,_,⟨h⟩,h6,h7,h5⟩
theorem adj(q:w6 K C=true):BU K C:=by
 obtain⟨N,bm,h⟩:=Kq q;exact⟨⟨_,_,_,_,bm,N,PySem.F.excBase_ValueError,h⟩⟩
def Shape(K:Frag)(C:Addr):Prop:=∃N bm i,tL K C N bm i
theorem Pb(q:w6 K C=true):Shape K C:=by
 obtain⟨N,bm,h,_⟩:=Kq q;exact⟨N,bm,_,h⟩
theorem MA(h:tL K C N bm i)(m:mroIn K C v=some true):(Value.ref C::bm).contains v=true:=by
 obtain⟨h⟩:=h;unfold mroIn clsIn at m;rw[h] at m;dsimp only at m;rw[adb,if_neg (by simp)] at m;exact ab4 m
theorem V2{C D:Addr}(hC:Shape K C)(hD:Shape K D)(m:mroIn K C (.ref D)=some true)(b:mroIn K D (.type "BaseException")=some true):xX K C D:=by
 obtain⟨N,bm,i,h1⟩:=hC;obtain⟨N',sL,i',h2⟩:=hD;refine⟨N,bm,i,N',sL,i',h1,h2,?_,MA h1 m⟩;have:=MA h2 b;rw[List.contains_cons] at this;rcases(ahi _ _).mp this with q|q
 .cases agg.mp q
 .exact q
noncomputable def afR(names:List Str):Str->Bool:=λcn=>names.contains cn
def ach(K:Frag)(names:List Str)(Dc:Addr):Prop:=∀cn C,afR names cn=true->nsIn K mainGlobals cn=some (some (.ref C))->xX K C Dc
theorem acr(h:f ρ=some (.er raw cn ρ')):bZ f g ρ=some (.er raw cn ρ'):=by unfold bZ;rw[h]
theorem Xv(m:mroIn K C v=some b):(clsIn K C).isSome=true:=by
 unfold mroIn at m;cases h:clsIn K C with
 |none=>rw[h] at m;cases m
 |some _=>rfl
end L2.Ev
namespace L2
open PySem PySem.Spec PyProof.Rows
theorem L_(h:PE X.eZ e t):PX X e (λσ H Q _=>t σ H Q):=λaf s σ H Q E I hw=>
 adW (h af s σ H Q (I.j_ _) hw) (λ_ _ ⟨v,H',I',r,q⟩=>⟨v,H',I'.lU,r,q⟩) λ_ _ z=>False.elim z
end L2
namespace L2.Ev
open PySem PySem.Spec PyProof.Rows
noncomputable def zX(cn m:Str)(F:List D->Option Rz)(fo:EF)(g:AF):XR:=λρ=>match fo ρ,g ρ with
 | some (.ins c es,_),some ps=>if c=cn/\es.lookup m=none then(match F (.ins c es::ps.map (·.1)) with
  |some (.ok d)=>some (.ok d ρ)
  |some (.er en)=>some (.er en ρ)
  |none=>none) else none
 |_,_=>none
theorem acT(hC:ClsAt X.K cn C)(hm:kc X.K C m f)(GG:bU X.prog X.w X.K X.mg X.base (iH X.prog X.w) k f fd ps (sQ X.K F))(hr:bh k X.A)(hb:Binds X.K fd ps [])(ho:FP X.eZ o fo)(ha:FA X.eZ (e::es) g)(hx:X.ex=[]:=by rfl)
  (cV:SE X e es pos:=by exact⟨rfl,rfl⟩)
  (ht:vS X o m apos (e::es) pos pl:=by exact rfl):FE X (.Call (.Attribute o m apos) (e::es) [] pos) (zX cn m F fo g):=by
 obtain⟨to,po,so⟩:=ho;obtain⟨ta,pa,_,qa⟩:=ha;refine⟨_,Tp po hC.cl hm GG hr hx hb .nil pa cV.1 cV.2 ht,@λH0 S z aq ρ σ H Q E r ok e0 kk=>?_⟩;unfold zX at e0
 split at e0
 .rename_i c sU t0 qs h1 h2
  by_cases hc:c=cn/\sU.lookup m=none
  .rw[if_pos hc] at e0;obtain⟨rfl,VP⟩:=hc;cases h3:F (.ins c sU::qs.map (·.1)) with
   |none=>rw[h3] at e0;cases e0
   |some w=>
    rw[h3] at e0;refine so ok h1 λH1 v fp s1 r1 _=>?_
    obtain⟨b,dx,fs,gf,rfl,rfl,h4,h5,h6,h7⟩:=r1.lM hC.ns;refine⟨b,dx,fs,rfl,h4,qX h6 VP,?_⟩;refine qa (ok.same s1) h2 λH2 vs l6 s2 r2 _=>?_
    rw[acI];cases w with
    |ok d=>
     cases e0;exact⟨_,_,_,.cons (r1.same s2) r2,h3,λH3 u gO s3 r3 nd fr=>kk z H2 H3 u gO ((ok.same s1).same s2) s3 r3 ⟨nd,fr⟩⟩
    |er en=>
     cases e0;exact⟨_,_,_,.cons (r1.same s2) r2,h3,λH3 C3 s3 hn=>kk z H3 C3 (((ok.same s1).same s2).same s3) hn⟩
  .rw[if_neg hc] at e0;cases e0
 .cases e0
def Bc(fa fh:EF):EF:=λρ=>match fa ρ,fh ρ with
 |some (.lst ds,_),some (.int i,_)=>if aM ds=true then some (.lst (cutD ds (some i) none),.own) else none
 |_,_=>none
theorem aaa(ha:FP X a fa)(hh:FP X b fh):FP X (.Subscript a (.Slice (some b) none none p2) pos) (Bc fa fh):=by
 exists 58;obtain⟨th,ph,qh⟩:=hh;exists 21,DG Dg p (FU ph) GW;unfold Bc at e
 split at e
 .rename_i ds t1 i t2 e1 e2;obtain⟨hi,e⟩:=ci e;cases e;refine q ok e1 λH1 x f1 s1 r1 _=>?_
  refine qh (ok.same s1) e2 λH2 y f2 s2 r2 _=>?_
  cases r2;refine⟨i,rfl,?_⟩;obtain⟨w,xs,f,rfl,hq,rs,_⟩:=(r1.same s2).dZ;have hn:=rs.aC hi;subst hn;refine⟨w,xs,rfl,hq,λp hp=>?_⟩;have s3:aG H2 (upd H2 p (.lst (kR xs (some i) none))):=λb o e=>by rw[aO (cZ e hp)];exact e
  have rr:aB X.K H2 (cutD ds (some i) none) (kR xs (some i) none) []:=by
   unfold cutD kR;rw[rs.length];exact aB.A0 _ (aB.Aa _ rs)
  refine k _ _ [p] ((s1.trans s2).trans s3) (.lst cz (rr.same s3)) ⟨abZ.mpr ⟨(λm=>by cases m),acm⟩,λa m=>?_⟩;cases aaB.mp m;exact s1.free (s2.free hp)
 .cases e
def xr(fa fb:EF):EF:=λρ=>match fa ρ,fb ρ with
 |some (.tup ds,.sh o),some (.int i,_)=>(dQ ds i).map λd=>(d,.sh o)
 |_,_=>none
theorem AY(ha:FP X a fa)(hb:FP X b fb)(hs:Ji b:=by exact λ_ _=>rfl):FP X (.Subscript a b pos) (xr fa fb):=by
 exists 46;exists 20,MB OS pa pb hs;unfold xr at e
 split at e
 .rename_i ds o i t2 e1 jx;cases h3:dQ ds i with
  |none=>rw[h3] at e;cases e
  |some d3=>
   rw[h3] at e;cases e;refine sa ok e1 λH1 x f1 s1 r1 g1=>?_
   exists 49
   have r1:=r1.same s2;obtain⟨p,xs,rfl,hq,rs⟩:=r1.jh;cases r2;unfold dQ at h3;cases h:lu ds.length i with
   |none=>rw[h] at h3;cases h3
   |some j=>
    rw[h,adb] at h3;obtain⟨v,f',hv,rv,hm⟩:=rs.get h3;refine .inr (.inl ⟨p,xs,i,v,rfl,rfl,hq,?_,q H2 v f' (s1.trans s2) rv λa m=>g1 a (hm a m)⟩);unfold dQ;rw[<- rs.length,h,adb];exact hv
 .cases e
def pO(X:Cx)(e:Expr)(f:aN->Option (Bool×aN)):Prop:=∃t,PT X e t/\∀{H0} {S} {z} {aq} {ρ} {σ} {H} {Q} {b} {ρ'},
 Ok X.K H0 S z aq ρ σ H->f ρ=some (b,ρ')->(∀z' H',Ok X.K H0 S z' aq ρ' σ H'->Q b H')->t σ H Q
def GJ(fx:XF)(fb:EF):aN->Option (Bool×aN):=λρ=>match fx ρ with
 |some (d1,ρ')=>match fb ρ' with
  |some (d2,_)=>match jC d1 d2 with
   |some (.bl b)=>some (b,ρ')
   |_=>none
  |none=>none
 |none=>none
noncomputable def vv(c:aN->Option (Bool×aN))(f g:SF):SF:=λρ=>match c ρ with
 |some (true,ρ')=>f ρ'
 |some (false,ρ')=>g ρ'
 |none=>none
theorem aaY(ha:FZ X a fx)(hb:FP X b fb):pO X (.Compare a [.NotEq] [b] pos) (GJ fx fb):=by
 exists 46;exists 26,Nl MX pa pb (ie _);unfold GJ at e;cases h1:fx ρ with
 |none=>rw[h1] at e;cases e
 |some w=>
  obtain⟨d1,aR⟩:=w;rw[h1] at e;exists 59;cases h2:fb aR with
  |none=>rw[h2] at e;cases e
  |some w2=>
   obtain⟨d2,t2⟩:=w2;rw[h2] at e;exists 59
   split at e
   .rename_i bb h3;cases e;refine sa ok h1 λz1 H1 x bB r1=>?_
    refine sb bB h2 λH2 y f2 s2 r2 _=>?_
    refine Qn H2 x y d1 d2 [] f2 _ _ (r1.same s2) r2 h3 λH3 v s3 r3=>?_
    cases r3;exact⟨_,rfl,k z1 H3 ((bB.same s2).same s3)⟩
   .cases e
theorem aao(hc:pO X c tc)(ha:FS X s1 f)(hb:FS X s2 g):eT X (.If c s1 s2 pos) (vv tc f g):=by
 obtain⟨t,p,q⟩:=hc;obtain⟨t1,p1,q1⟩:=ha;obtain⟨t2,p2,q2⟩:=hb;exists 23,zL p p1 p2;unfold vv at e;cases h:tc ρ with
 |none=>rw[h] at e;cases e
 |some w=>
  obtain⟨y,aR⟩:=w;rw[h] at e;refine q ok h λz1 H1 bB=>?_
  cases y with
  |true=>rw[if_pos rfl];exact q1 bB e k
  |false=>rw[if_neg abu];exact q2 bB e k
section
variable(P:Program)(w:World)(K:PySem.W.Frag)(mg:Str->Option Value)(base:Heap)(CX:pF)(k:Nat)
def FN(x:Str)(ps:List Str)(sp:Sp)(cm:Bool:=true):Prop:=∃a fd,bU P w K mg base CX k a fd ps sp cm/\mg x=some (.ref a)/\PySem.W.keepIn K (.ref a)=true/\Binds K fd ps []
def MT(C:Addr)(x:Str)(ps:List Str)(sp:Sp)(cm:Bool:=true):Prop:=∃a fd,bU P w K mg base CX k a fd ps sp cm/\Binds K fd ps []/\kc K C x a
def MI(C:Addr)(ps:List Str)(sp:Sp)(cm:Bool:=true):Prop:=∃a fd,bU P w K mg base CX k a fd ps sp cm/\Binds K fd ps []/\Mk K C a
end
def GL(K:PySem.W.Frag)(x q:Str)(st:Stmt)(f:Addr):Prop:=∃oc od kV dc pm an cd ct sl,K.lookup f=some ⟨oc,od,.func (PySem.W.fnOf x q (lP st) (gI st) (ck st) .none kV dc pm an cd ct),sl⟩/\PySem.W.codeIn K cd q=true/\PySem.W.keepIn K (.ref f)=true
def IC(K:PySem.W.Frag)(x:Str)(st:Stmt):Prop:=∃f,PySem.W.nsIn K mainGlobals x=some (some (.ref f))/\GL K x x st f
def GM(K:PySem.W.Frag)(C:Addr)(x q:Str)(st:Stmt):Prop:=∃f,PySem.W.findIn K (.ref C) x=some (some (.ref f))/\PySem.W.isFn K (.ref f)=true/\GL K x q st f
abbrev BA(x q:Str)(st:Stmt)(ps:List Str):Prop:=∀(kV doc pm) (an) (aQ ct) (us),us.length=ps.length->bindArgs (PySem.W.fnOf x q (lP st) (gI st) (ck st) .none kV doc pm an aQ ct) ⟨us,[]⟩=pure (ps.zip us)
theorem Ju{K:PySem.W.Frag}{x q:Str}{st:Stmt}{f:Addr}(l:GL K x q st f):PySem.W.keepIn K (.ref f)=true/\∃fd,i_ K x q st f fd:=by
 obtain⟨oc,od,kV,dc,pm,an,cd,ct,sl,h1,h2,h3⟩:=l;exact⟨h3,_,MN h1 h2 h3⟩
section
variable{K:PySem.W.Frag}{st:Stmt}
theorem fnW(X:K.In h)(G:h.Ns mainGlobals mg)(l:IC K x st)(ok:∀{f} {fd},i_ K x x st f fd->bU P w K mg base CX k f fd ps sp cm)(b:BA x x st ps):FN P w K mg base CX k x ps sp cm:=by
 obtain⟨f,a,l⟩:=l;obtain⟨kp,fd,F⟩:=Ju l;exact⟨f,fd,ok F,PySem.W.mg_of X G a,kp,F.binds b⟩
theorem Oc(l:GM K C x q st)(ok:∀{f} {fd},i_ K x q st f fd->bU P w K mg base CX k f fd ps sp cm)(b:BA x q st ps):MT P w K mg base CX k C x ps sp cm:=by
 obtain⟨f,a,i,l⟩:=l;obtain⟨kp,fd,F⟩:=Ju l;exact⟨f,fd,ok F,F.binds b,⟨a,i,kp⟩⟩
theorem abw{sp:Heap->Sp}(X:K.In h)(G:h.Ns mainGlobals mg)(E1:mg "law"=some (.ref fa))(l:IC K "law" st)
  (b:∀(kV doc pm) (an) (aQ ct) (s) (v),BindsTo s (PySem.W.fnOf "law" "law" (lP st) (gI st) (ck st) .none kV doc pm an aQ ct) ⟨[v],[]⟩ [(p,v)])
  (ok:∀base:Heap,K.In base->base.Ns mainGlobals mg->∀{f} {fd},i_ K "law" "law" st f fd->bU P w K mg base CX k f fd [p] (sp base) cm) :
  ∃fd:FuncData,(∀(s) (v),BindsTo s fd ⟨[v],[]⟩ [(p,v)])/\∀base:Heap,K.In base->base.Ns mainGlobals mg->bU P w K mg base CX k fa fd [p] (sp base) cm:=by
 obtain⟨f,a,oc,od,kV,dc,pm,an,cd,ct,sl,h1,h2,h3⟩:=l;have e:=E1.symm.trans (PySem.W.mg_of X G a);cases e;exact⟨_,b kV dc pm an cd ct,λbase K1 G1=>ok base K1 G1 (MN h1 h2 h3)⟩
end
theorem kP(h1:g d t ρ=some aR)(h2:f aR=some (.nx bg)):di g t f (d::ds) ρ=di g t f ds bg:=by
 conv=>lhs;unfold di
 rw[h1];dsimp only;rw[h2]
theorem Bs(h1:g d t ρ=some aR)(h2:f aR=some (.rt r)):di g t f (d::ds) ρ=some (.rt r):=by
 unfold di;rw[h1];dsimp only;rw[h2]
end L2.Ev
namespace L2
open PySem PySem.Spec PyProof.Rows
namespace Ev
noncomputable def F9(fx:XF):aN->Option (Bool×aN):=λρ=>match fx ρ with
 |some (.bl c,ρ')=>some (!c,ρ')
 |_=>none
theorem W_(h:FZ X a fx)(he:∀whole,isTrue a X.env whole=(do let v <- whole;standAt a.pos;holding [v] (truthy v)):=by intro _;rfl):pO X (.UnaryOp .Not a pos) (F9 fx):=by
 obtain⟨t,p,q⟩:=h;exists 26,RU (IY p he);unfold F9 at e
 split at e
 .rename_i c' aR h1;cases e;refine q ok h1 λz' H' v aS r=>?_
  cases r;exact⟨_,rfl,k z' H' aS⟩
 .cases e
noncomputable def yO(ft:TF)(fz:aN->Option (Bool×aN)):aN->Option (Bool×aN):=λρ=>match ft ρ with
 |some true=>fz ρ
 |some false=>some (false,ρ)
 |none=>none
theorem XW(ha:FT X a ft)(hb:pO X b fz):pO X (.BoolOp .And [a,b] pos) (yO ft fz):=by
 exists 58;obtain⟨t',p',q'⟩:=hb;exists 26,(Qa p (Ry p')).pt;unfold yO at e
 split at e
 .rename_i h1;refine q ok h1 λH1 s1=>?_
  rw[if_pos rfl];exact q' (ok.same s1) e k
 .rename_i h1;cases e;refine q ok h1 λH1 s1=>?_
  rw[if_neg abu];exact k z H1 (ok.same s1)
 .cases e
end Ev
end L2
namespace L2.Ev
open PySem PySem.Spec PyProof.Rows
section
variable{X:Cx}{elts:List Expr}{tp:Pos}{a b:Expr}{fa fb:EF}{p pos:Pos}
def Di(T:String):D->Option D
 |.tup _=>some (.bl ("tuple" == T))
 |.gG _=>some (.bl ("list" == T))
 |d=>B6 T d
def Li(T:String):Prop:=∀(K:PySem.W.Frag) (t:String),t∈["tuple","list"]->PySem.W.kitOne K (.type t) (.type T)=some (t==T)
theorem Vi:Li "tuple":=by
 intro K t m;simp only[aaQ,aeK,ahb] at m;rcases m with rfl|rfl<;>rfl
theorem To(T:String):f7 X (.builtin "isinstance") (λxs H Q=>(∃x t b,xs=[x,V.ty T]/\jA X.K H x t/\PySem.W.kitOne X.K t (.type T)=some b/\Q (.bl b) H)\/
  (∃a ys b,xs=[.ref a,V.ty T]/\cj X.K H a ys/\PySem.W.kitOne X.K (.type "tuple") (.type T)=some b/\Q (.bl b) H)\/(∃a ys b,xs=[.ref a,V.ty T]/\b7 X.K H a ys/\PySem.W.kitOne X.K (.type "list") (.type T)=some b/\Q (.bl b) H)):=by
 exists 43;rcases h with h|⟨a,ys,bb,rfl,hq,e,q⟩|⟨a,ys,bb,rfl,hq,e,q⟩
 .exact KH T af s σ H xs us Q I r h
 .obtain⟨u,w',rfl,ru,eU⟩:=vals2 r;cases eU;cases(show u=Value.ref a from ru);obtain⟨au,_,⟨o,h1,h2,_⟩,_⟩:=I.tuple hq;exact PySem.W.kia_one PySem.W.kitx_tuple I.c8 ⟨o,h1,h2⟩ e (λz=>nomatch z) λtk=>⟨.bl bb,H,I.tok tk,rfl,q⟩
 .obtain⟨u,w',rfl,ru,eU⟩:=vals2 r;cases eU;cases(show u=Value.ref a from ru);obtain⟨au,_,⟨o,n,h1,h2,_⟩,_⟩:=I.list hq;exact PySem.W.kia_one PySem.W.kitx_list I.c8 ⟨o,h1,h2⟩ e (λz=>nomatch z) λtk=>⟨.bl bb,H,I.tok tk,rfl,q⟩
theorem aae{T:String}{x:Str}(hT:uv T)(Pp:Li T)(hm:X.mg "isinstance"=none)(Ik:X.mg x=none)(ha:FP X a fa)(GV:bootBuiltins x=some (.type T):=by decide +kernel)(hg:Gl X "isinstance":=by rfl)(DY:Gl X x:=by rfl)(hn:x≠"__name__":=by decide)(gj:(x==("__debug__":Str))=false:=by decide)
  (hs:starEach [a,.Name x p2] X.env=[(false,eval a X.env),(false,eval (.Name x p2) X.env)]:=by rfl) (hpl:(backTo pos (starEach [.Name x p2] X.env)).any (·.1)=false:=by rfl):FP X (.Call (.Name "isinstance" p) [a,.Name x p2] [] pos) (e1 (Di T) fa):=by
 obtain⟨ta,pa,sa⟩:=ha;have cG:starEach [.Name x p2] X.env=[(false,eval (.Name x p2) X.env)]:=rfl;exists 21,lY (To T) hg hm (show bootBuiltins "isinstance"=some (.builtin "isinstance") by decide +kernel) (cP pa (cP (LX (v:=.ty T) DY Ik GV rfl hn gj) eW) (by rw[hs,cG])) (he:=by rw[hs,cG]) (hpl:=hpl);obtain⟨d1,t1,h1,h2,rfl⟩:=rR e;refine sa ok h1 λH1 v fp s1 r1 _=>?_
 unfold Di at h2
 split at h2
 .cases h2;obtain⟨w,xs,rfl,hq,_⟩:=r1.jh;exact .inr (.inl ⟨w,xs,_,rfl,hq,Pp X.K "tuple" (by decide),k H1 _ [] s1 (.bl _) .nil⟩)
 .cases h2;obtain⟨w,xs,rfl,hq,_⟩:=r1.tK;exact .inr (.inr ⟨w,xs,_,rfl,hq,Pp X.K "list" (by decide),k H1 _ [] s1 (.bl _) .nil⟩)
 .unfold B6 at h2;exists ht,BI d1,t,h2;cases h2;obtain⟨ty,mem⟩:=r1.ty ht;exact .inl ⟨v,_,_,rfl,ty,hT X.K t mem,k H1 _ [] s1 (.bl _) .nil⟩
end
def z8(fx:XF)(fb:EF):XF:=λρ=>match fx ρ with
 |some (d1,ρ')=>match fb ρ' with
  |some (d2,_)=>(oEq d1 d2).map λd=>(d,ρ')
  |none=>none
 |none=>none
theorem ac0(ha:FZ X a fx)(hb:FP X b fb):FZ X (.Compare a [.Eq] [b] pos) (z8 fx fb):=by
 exists 46;exists 27,GK Ge pa pb (ie _);unfold z8 at e;cases h1:fx ρ with
 |none=>rw[h1] at e;cases e
 |some w=>
  obtain⟨d1,aR⟩:=w;rw[h1] at e;exists 59;cases h2:fb aR with
  |none=>rw[h2] at e;cases e
  |some w2=>
   obtain⟨d2,t2⟩:=w2;rw[h2] at e;exists 59;cases h3:oEq d1 d2 with
   |none=>rw[h3] at e;cases e
   |some d3=>
    rw[h3] at e;cases e;refine sa ok h1 λz1 H1 x bB r1=>?_
    refine sb bB h2 λH2 y f2 s2 r2 _=>?_
    exact C7 H2 x y d1 d2 [] f2 _ _ (r1.same s2) r2 h3 λH3 v s3 r3=>k z1 H3 v ((bB.same s2).same s3) r3
end L2.Ev
namespace L2.Ev
open PySem
theorem sq(h:sf ρ=some (.nx ρ'))(h2:sg ρ'=r):bZ sf sg ρ=r:=by rw[jI,h,nJ,h2]
theorem k9(h:f ρ=some (d,t))(h2:sg (iD ρ i d t)=r):bZ (dF i f) sg ρ=r:=sq (by unfold dF;rw[h]) h2
theorem qB(h:tf ρ=some b)(h2:bZ (if b=true then sf else gP) sg ρ=r):bZ (eX tf sf gP) sg ρ=r:=by
 have e:eX tf sf gP ρ=(if b=true then sf else gP) ρ:=by rw[iW,h];cases b<;>rfl
 rw[jI,e,<- jI,h2]
theorem c9(h:tf ρ=some false)(h2:sg ρ=r):bZ (eX tf sf gP) sg ρ=r:=sq (by rw[iW,h];rfl) h2
theorem bf(h:f ρ=some (d,t))(h2:op d=some d1):e1 op f ρ=some (d1,.own):=by rw[xZ,h,OX,h2];rfl
theorem aK(h:f ρ=some (d1,t1))(h2:g ρ=some (d2,t2))(h3:op d1 d2=some d):e2 op f g ρ=some (d,.own):=by rw[ki,h,h2,yi,h3];rfl
theorem cT(h:g ρ=some ps)(h2:F (ps.map (·.1))=some d):cO F g ρ=some (d,.own):=by rw[s_call,h,R3,h2];rfl
theorem bu(h:f ρ=some (.bl b,t)):tV f ρ=some b:=by rw[wQ,h];rfl
theorem kN(h:tf ρ=some b):lE tf ρ=some (!b):=by rw[F3,h];rfl
open PySem PySem.Spec PyProof.Rows
def vB(i:Nat)(cn f:Str)(fk fv:EF):SF:=λρ=>match fv ρ,ρ[i]?,fk ρ with
 | some (d,_),some (some (.ins c es,.own)),some (kd,_)=>if c=cn then(match es.lookup f,iM kd with
  |some (.bO ak),some k=>if(aC d&&aM (ak.map (·.2))&&decide (ak.length<sizeLine))=true then some (.nx (bT ρ i (.ins c (dR f (.bO (putD ak k d)) es)))) else none
  |_,_=>none) else none
 |_,_,_=>none
theorem B0(i:Nat)(hu:X.A.units+1<cLine)(hC:ClsAt X.K cn C)(na:jj X.K C f)(hk:FP X k fk)(hv:FP X v fv)(va:VA X i x:=by walk_at "va")
  (hb:attributeBase (.Name x p) f X.env (eval (.Name x p) X.env)=eval (.Name x p) X.env:=by rfl)
  (hs:swapsWith v (some (.Subscript (.Attribute (.Name x p) f p1) k pos')) pos.line X.env=pure false:=by rfl) :
  eT X (.Assign [.Subscript (.Attribute (.Name x p) f p1) k pos'] v pos) (vB i cn f fk fv):=by
 obtain⟨tk,pk,sk⟩:=hk;obtain⟨tv,lB,sv⟩:=hv;exists 25,BB hu (v7 va.pe hb) pk lB hs;unfold vB at e
 split at e
 .rename_i d td c es kd ND g1 g2 g3
  by_cases hc:c=cn
  .subst hc;rw[if_pos rfl] at e
   split at e
   .rename_i ak key hl xQ
    by_cases hc:(aC d&&aM (ak.map (·.2))&&decide (ak.length<sizeLine))=true
    .rw[if_pos hc] at e;cases e;obtain⟨c1,c3⟩:=(abe _ _).mp hc;obtain⟨c1,c2⟩:=(abe _ _).mp c1;refine sv ok g1 λH1 v fd s1 rv gv=>?_
     have hn:=rv.aC c1;subst hn;obtain⟨xv,fp,cL,r,zz⟩:=(ok.same s1).sl i _ _ g2;refine⟨xv,cL,?_⟩;obtain⟨b0,dx,fs,u,gf,rfl,h1,h2,h3,h4,h5,h6⟩:=r.place hC.ns zz.1 hl;refine⟨b0,C,dx,fs,u,rfl,h1,hC.cl,na,h2,?_⟩;refine sk (ok.same s1) g3 λH2 y OU s2 rk _=>?_
     have ek:=rk.key xQ;subst ek;have r':=h3.same s2;generalize hw:u=w at r' h6;cases r' with
     | @bO l ks _ f' h gZ rs=>
      have hn:=rs.aC c2;subst hn;have hlen:ks.length=ak.length:=by have:=congrArg List.length gZ;simpa using this.symm
      refine⟨l,_,rfl,o6.k h (by rw[hlen];exact aa9 c3),?_⟩;have im:aX H2 (upd H2 l (.dK (putK ks key v))):=aX.upd h rfl;have kp:∀(c) o,c∉[l]->H1 c=some o->upd H2 l (.dK (putK ks key v)) c=some o:=λc o n e=>by rw[aO λq=>n (by rw[q];exact aak)];exact s2 c o e
      obtain⟨bQ,k1,k2,k3⟩:=h6 (upd H2 l (.dK (putK ks key v))) (.bO (putD ak key d)) [l] ((aX.of s2).trans im) kp
       (.bO cz (zw gZ) (JR gZ (rs.frame (λa m=>nomatch m) im) ((rv.same s2).frame (λa m=>nomatch m) im))) h4 (λc m=>.inl m)
      obtain⟨z',aS⟩:=(ok.same s1).put g2 cL zz ((aX.of s2).trans im) (λc o n e=>kp c o (λm=>n (h5 c m)) e) k1 k2 k3;exact q z' σ _ aS (.refl _ _)
    .rw[if_neg hc] at e;cases e
   .cases e
  .rw[if_neg hc] at e;cases e
 .cases e
def CA(i:Nat)(cn f:Str)(fv:EF):SF:=λρ=>match fv ρ,ρ[i]? with
 | some (.int j,_),some (some (.ins c es,.own))=>if c=cn/\es.length < 1000 then(match es.lookup f with
  |some (.int k)=>some (.nx (bT ρ i (.ins c (dR f (.int (k+j)) es))))
  |_=>none) else none
 |_,_=>none
theorem GN(i:Nat)(hC:ClsAt X.K cn C)(na:jj X.K C f)(hv:FP X a fv)(va:VA X i x:=by walk_at "va"):eT X (.AugAssign (.Attribute (.Name x p1) f pos') .Add a pos) (CA i cn f fv):=by
 obtain⟨t,p,q⟩:=hv;exists 23,acp va.pe p ad5;unfold CA at e
 split at e
 .rename_i j tg c es h1 h2
  by_cases hc:c=cn/\es.length<1000
  .rw[if_pos hc] at e;obtain⟨rfl,hl⟩:=hc
   split at e
   .rename_i m hf;cases e;obtain⟨v,bH,cL,r0,zz⟩:=ok.sl i _ _ h2;refine⟨v,cL,?_⟩;obtain⟨b,dx,fs,u,gf,rfl,h3,e2,e3,_⟩:=r0.place hC.ns zz.1 hf;obtain⟨b',xu,uO,g,ev,rfl,AH,h4,h5,h6⟩:=r0.lM hC.ns;cases ev;rw[h3] at AH;cases AH;cases e3;have lf:fs.length<1000:=by have:=congrArg List.length h5;rw[List.length_map,List.length_map] at this;omega
    refine⟨b,C,dx,fs,_,rfl,h3,hC.cl,na,e2,q ok h1 λH1 y fd s1 r1 g1=>?_⟩;cases r1;refine⟨m,j,rfl,rfl,dx,fs,s1 _ _ h3,lf,?_⟩;obtain⟨z',aS⟩:=ok.fld hC h2 cL h3 s1 (.int (m+j)) acm λc m=>nomatch m
    exact k z' σ _ aS (.refl _ _)
   .cases e
  .rw[if_neg hc] at e;cases e
 .cases e
noncomputable def s_(f:EF):TF:=λρ=>match f ρ with
 |some (.lst ds,_)=>some (!ds.isEmpty)
 |_=>none
theorem Ll(h:FP X a f)(he:∀whole,isTrue a X.env whole=(do let v <- whole;standAt a.pos;holding [v] (truthy v)):=by intro _;rfl):FT X a (s_ f):=by
 obtain⟨t,p,q⟩:=h;refine⟨_,SS p he,@λH0 S z aq ρ σ H Q b ok e k=>?_⟩;unfold s_ at e
 split at e
 .rename_i ds tg e1;cases e;refine q ok e1 λH1 v fp s1 r1 _=>?_
  obtain⟨w,xs,f,rfl,hq,rs,_⟩:=r1.dZ;have he:(!ds.isEmpty)=!xs.isEmpty:=by cases rs<;>rfl
  exact⟨_,.inl ⟨xs,hq,rfl⟩,he ▸ k H1 s1⟩
 .cases e
theorem WM(hu:X.A.units+1<cLine)(ha:FP X a fa)(hb:FP X b fb)(hm:behindInMarks .NotIn b=false:=by rfl):FP X (.Compare a [.NotIn] [b] pos) (e2 (qO true) fa fb):=
 fp_2 Hl ha hb λta tb pa pb=>OY (ado hu pa pb) hm
end L2.Ev
namespace L2
open PySem PySem.Spec PyProof.Rows
theorem NX(I:Inv X af σ H s)(h:cj X.K H a (ks.map kV)):(tupleKind (gY X.prog X.w)).is s.heap ks a:=by
 obtain⟨au,r,⟨o,h1,h2,_,n,h3⟩,_⟩:=I.M4 h;exact⟨o,au.toArray,n,h1,h2,h3,by simpa using D0 r⟩
def LR(K:PySem.W.Frag)(neg:Bool):R2:=λx y H Q=>∃b a k ak,x=.ref b/\y=.ref a/\cj K H b (List.map kV k)/\H a=some (.dT ak)/\Q (.bl (if neg=true then !(eK ak k).isSome else(eK ak k).isSome)) H
theorem Xr(hu:X.A.units+1<cLine):dg X (compareOp .In) (LR X.K false):=by
 rintro af s σ H x y v u Q I rx ry ⟨b,a,k,ak,rfl,rfl,hq,e,q⟩
 obtain rfl:v=Value.ref b:=rx;obtain rfl:u=Value.ref a:=ry;obtain⟨z,hd,xs,rel,dd⟩:=pq I.aF (.inl e);refine wpAny_in_heap (agw hu) (NX I hq) hd dd ?_;have w:=(rel.val k).uU;rw[agA] at w;rw[<- w];exact⟨.bl (eK ak k).isSome,H,I.tok _,rfl,q⟩
def Vj(K:PySem.W.Frag)(td ty:TE):TE:=λσ H Q=>td σ H λx H1=>ty σ H1 λy H2=>∃a b k ak v,x=.ref a/\y=.ref b/\cj K H2 b (List.map kV k)/\H2 a=some (.dT ak)/\eK ak k=some v/\Q v H2
theorem Uz(hu:X.A.units+1<cLine)(ho:PE X o td)(hi:PE X i ty)(hs:y_ i):PE X (.Subscript o i pos) (Vj X.K td ty):=by
 exists 44;refine OE PySem.F.slot_dict_getitem.lookup hs (ho.n I h λu s1 x H1 I1 rx q1=>cD (hi af s1 σ H1 _ I1 q1) λiv s2 hq=>?_);obtain⟨y,H2,I2,ry,a,b,k,ak,v,ex,ey,hq,e,l,q2⟩:=hq;subst ex;subst ey;exists 55;obtain rfl:iv=Value.ref b:=ry;obtain⟨z,hd,xs,rel,dd⟩:=pq I2.aF (.inl e);obtain⟨w',hw,eU⟩:=ia.some_of (by rw[<- l];exact rel.val k);obtain⟨p,hp,sY⟩:=acy.mp hw;refine⟨dd.typeIs,wpAny_getItem_heap (agw hu) (NX I2 hq) dd hp ?_⟩;rw[sY];exact⟨v,H2,I2.tok _,eU,q2⟩
namespace Ev
def iG:List D->Option (List Key)
 |[]=>some []
 |d::ds=>match iM d,iG ds with
  |some k,some ks=>some (k::ks)
  |_,_=>none
theorem aB.keys{K:PySem.W.Frag}:∀{ds} {xs} {fp} {ks},aB K H ds xs fp->iG ds=some ks->xs=ks.map L2.kV
 |[],_,_,_,.nil,e=>by cases e;rfl
 |d::ds,_,_,ks,.cons r rs,e=>by
  unfold iG at e
  split at e
  .rename_i k nV h1 h2;cases e;rw[r.key h1,aB.keys rs h2];rfl
  .cases e
def JH(neg:Bool):D->D->Option D
 |.tup ds,.cY es=>(iG ds).map λk=>.bl (if neg=true then !(bA es k).isSome else(bA es k).isSome)
 |_,_=>none
theorem adi{neg:Bool}{K:PySem.W.Frag}:gz K (LR K neg) (JH neg):=by
 exists 41;cases d1<;>try (cases e;done)
 cases d2<;>try (cases e;done)
 rename_i ds es;have e:((iG ds).map λk=>D.bl (if neg=true then !(bA es k).isSome else(bA es k).isSome))=some d:=e;obtain⟨w,xs,rfl,hq,rs⟩:=r1.jh;cases hk:iG ds with
 |none=>rw[hk] at e;cases e
 |some ks=>
  rw[hk] at e;cases e;obtain rfl:=aB.keys rs hk;cases r2 with
  | @cY a ak _ f h gZ xA=>
   have ev:(eK ak ks).isSome=(bA es ks).isSome:=by
    obtain⟨h1,h2⟩:=qC gZ xA;cases hv:bA es ks with
    |none=>rw[h2 hv];rfl
    |some dv=>obtain⟨v,f,jV,_⟩:=h1 dv hv;rw[jV];rfl
   refine⟨w,a,ks,ak,rfl,rfl,hq,h,?_⟩;rw[ev];exists 48
theorem aaj(hu:X.A.units+1<cLine)(ha:FP X a fa)(hb:FP X b fb)(hm:behindInMarks .In b=false:=by rfl):FT X (.Compare a [.In] [b] pos) (tV (e2 (JH false) fa fb)):=jg (Xr hu) adi ha hb hm
def BC(fa fb:EF):EF:=λρ=>match fa ρ,fb ρ with
 |some (.cY es,t),some (.tup ds,_)=>(iG ds).bind λk=>(bA es k).map λd=>(d,kM t)
 |_,_=>none
theorem Sd(hu:X.A.units+1<cLine)(ha:FP X a fa)(hb:FP X b fb)(hs:y_ b):FP X (.Subscript a b pos) (BC fa fb):=by
 exists 46;exists 20,Uz hu pa pb hs;unfold BC at e
 split at e
 .rename_i es t ds t2 e1 jx;cases hk:iG ds with
  |none=>rw[hk] at e;cases e
  |some ks=>
   rw[hk,adb] at e;cases hv:bA es ks with
   |none=>rw[hv] at e;cases e
   |some dv=>
    rw[hv] at e;cases e;refine sa ok e1 λH1 x f1 s1 r1 g1=>?_
    exists 49
    obtain⟨w,xs,rfl,hq,rs⟩:=r2.jh;obtain rfl:=aB.keys rs hk;have Dv:=r1.same s2;cases Dv with
    | @cY l ak _ f h gZ xA=>
     obtain⟨h1,_⟩:=qC gZ xA;obtain⟨v,f,jV,rv,sub⟩:=h1 _ hv;refine⟨l,w,ks,ak,v,rfl,rfl,hq,h,jV,?_⟩;exact q H2 v f (s1.trans s2) rv (cH.sub (λa j e=>(ok.zd a j e).1) g1 λa m=>aaf _ (sub a m))
 .cases e
def uz(neg:Bool):D->D->Option D
 |d1,.lst ds=>if(dD d1&&dD (.lst ds))=true then some (.bl (if neg=true then !(dO ds).any λy=>PyData.eqv y (py d1) else(dO ds).any λy=>PyData.eqv y (py d1))) else none
 |_,_=>none
def EX(K:PySem.W.Frag)(neg:Bool):R2:=λx y H Q=>∃d1 ds f1 f2,Rep K H d1 x f1/\Rep K H (.lst ds) y f2/\dD d1=true/\dD (.lst ds)=true/\Q (.bl (if neg=true then !(dO ds).any λy=>PyData.eqv y (py d1) else(dO ds).any λy=>PyData.eqv y (py d1))) H
theorem Ov(hu:X.A.units+64<cLine):dg X (compareOp .In) (EX X.K false):=by
 exists 42;obtain⟨d1,ds,f1,f2,r1,r2,l1,l2,q⟩:=h;obtain⟨a1,a2,a3⟩:=lay_of l1;obtain⟨b1,b2,b3⟩:=lay_of l2;obtain⟨as,ra⟩:=mL I r1 rx a1;obtain⟨bs,rb⟩:=mL I r2 ry b1;rw[py] at rb b2 b3;simp only[PyData.canLay0] at b2;exact SeqAt.in_list_reads rb ra b2 a2 (by have:=Nat.min_le_right (PyData.depthAll (dO ds)) (py d1).depth;omega) ⟨.bl _,H,I,rfl,q⟩
theorem Zy(hu:X.A.units+64<cLine):dg X (compareOp .NotIn) (EX X.K true):=by
 exists 42;obtain⟨d1,ds,f1,f2,r1,r2,l1,l2,q⟩:=h;obtain⟨a1,a2,a3⟩:=lay_of l1;obtain⟨b1,b2,b3⟩:=lay_of l2;obtain⟨as,ra⟩:=mL I r1 rx a1;obtain⟨bs,rb⟩:=mL I r2 ry b1;rw[py] at rb b2 b3;simp only[PyData.canLay0] at b2;exact SeqAt.notIn_list_reads rb ra b2 a2 (by have:=Nat.min_le_right (PyData.depthAll (dO ds)) (py d1).depth;omega) ⟨.bl _,H,I,rfl,q⟩
theorem Fv{K:PySem.W.Frag}:gz K (EX K neg) (uz neg):=by
 exists 41;cases d2<;>try (cases e;done)
 rename_i ds;have e:(if(dD d1&&dD (.lst ds))=true then some (D.bl (if neg=true then !(dO ds).any λy=>PyData.eqv y (py d1) else(dO ds).any λy=>PyData.eqv y (py d1))) else none)=some d:=by cases d1<;>exact e
 by_cases hc:(dD d1&&dD (.lst ds))=true
 .rw[if_pos hc] at e;cases e;obtain⟨c1,c2⟩:=(abe _ _).mp hc;exact⟨d1,ds,f1,f2,r1,r2,c1,c2,k H _ (aG.refl H) (.bl _)⟩
 .rw[if_neg hc] at e;cases e
theorem ad8(hu:X.A.units+64<cLine)(ha:FP X a fa)(hb:FP X b fb)(hm:behindInMarks .In b=false:=by rfl):FT X (.Compare a [.In] [b] pos) (tV (e2 (uz false) fa fb)):=jg (Ov hu) Fv ha hb hm
theorem PZ(hu:X.A.units+64<cLine)(ha:FP X a fa)(hb:FP X b fb)(hm:behindInMarks .NotIn b=false:=by rfl):FT X (.Compare a [.NotIn] [b] pos) (tV (e2 (uz true) fa fb)):=jg (Zy hu) Fv ha hb hm
theorem Wt(hu:X.A.units+64<cLine)(ha:FP X a fa)(hb:FP X b fb)(hm:behindInMarks .In b=false:=by rfl):FP X (.Compare a [.In] [b] pos) (e2 (uz false) fa fb):=nG (Ov hu) Fv ha hb hm
theorem O1:FP X (.Dict [] [] pos) (eC (.cY [])):=by
 refine⟨_,acF,@λH0 S z aq ρ σ H Q d tg ok e k p hp=>?_⟩;cases e;have s2:aG H (upd H p (.dT [])):=λb o e=>by rw[aO (cZ e hp)];exact e
 exact k _ _ [p] s2 (.cY cz rfl .nil) ⟨abZ.mpr ⟨(λm=>by cases m),acm⟩,λa m=>by cases aaB.mp m;exact hp⟩
end Ev
end L2
namespace L2
open PySem PySem.W PyProof.Rows
structure nX(r:Nat->Nat->Bool)(n:Nat):Prop where
 tr:∀i j k,i<n->j<n->k<n->r i j=true->r j k=true->r i k=true
 tt:∀i j,i<n->j<n->i≠j->r i j=false->r j i=true
def jJ(r:Nat->Nat->Bool)(p:Array Nat)(m:Nat):Prop:=∀i j,i<j->j<m->r (p.getD i 0) (p.getD j 0)=true
def ze(r:Nat->Nat->Bool)(p:Array Nat)(m:Nat):Prop:=∀i j,i<j->j<m->r (p.getD j 0) (p.getD i 0)=true
noncomputable abbrev bq(n:Nat)(p:Array Nat):Prop:=p.Perm (List.range n).toArray
section
variable{p:Array Nat}
theorem bq.sz(P:bq n p):p.size=n:=by rw[Array.Perm.size_eq P];simp
theorem getD_at(h:i<p.size):p.getD i 0=p[i]:=by simp[Array.getD,h]
theorem bq.lt(P:bq n p)(h:i<n):p.getD i 0<n:=by
 have hs:i<p.size:=by rw[bq.sz P];exact h
 rw[getD_at hs];have m:p[i]∈p.toList:=by simp
 have:=(agE.mp P).mem_iff.mp m;simpa using this
theorem bq.ne(P:bq n p)(hi:i<n)(hj:j<n)(h:i≠j):p.getD i 0≠p.getD j 0:=λe'=>by
 have hs:i<p.size:=by rw[bq.sz P];exact hi
 have cL:j<p.size:=by rw[bq.sz P];exact hj
 rw[getD_at hs,getD_at cL] at e';have nd:=(agE.mp P).nodup_iff.mpr (by simpa using List.nodup_range);have w:=ag9.mp nd;rcases Nat.lt_or_gt_of_ne h with q|q
 .exact w i j (by simpa using hs) (by simpa using cL) q (by simpa using e')
 .exact w j i (by simpa using cL) (by simpa using hs) q (by simpa using e'.symm)
def uA(cmp:Nat->Nat->(Bool->Shared->Prop)->Shared->Prop)(r:Nat->Nat->Bool)(n:Nat)(s:Shared):Prop:=∀i j C,i<n->j<n->C (r i j) s->cmp i j C s
theorem jJ.snoc(T:nX r n)(P:bq n p)(h:jJ r p m)(h1:1<=m)(hm:m<n)(h2:r (p.getD (m-1) 0) (p.getD m 0)=true):jJ r p (m+1):=λi j a b=>by
 by_cases e:j=m
 .subst e
  by_cases e':i=j-1
  .subst e';exact h2
  .exact T.tr _ _ _ (bq.lt P (by lia)) (bq.lt P (by lia)) (bq.lt P (by lia)) (h i (j-1) (by lia) (by lia)) h2
 .exact h i j a (by lia)
theorem ze.snoc(T:nX r n)(P:bq n p)(h:ze r p m)(h1:1<=m)(hm:m<n)(h2:r (p.getD m 0) (p.getD (m-1) 0)=true):ze r p (m+1):=λi j a b=>by
 by_cases e:j=m
 .subst e
  by_cases e':i=j-1
  .subst e';exact h2
  .exact T.tr _ _ _ (bq.lt P (by lia)) (bq.lt P (by lia)) (bq.lt P (by lia)) h2 (h i (j-1) (by lia) (by lia))
 .exact h i j a (by lia)
theorem Hz(T:nX r n)(A:uA cmp r n s)(P:bq n p):∀(f m) {G},1<=m->m+f<=n->jJ r p m->
  (∀m',m<=m'->m'<=m+f->jJ r p m'->(m'=m+f\/r (p.getD m' 0) (p.getD (m'-1) 0)=true)->G m' s)->(kas_asc p f m).kasWp cmp G s
 |0,m,G,_,_,hs,g=>g m (abW _) (abW _) hs (.inl rfl)
 |f+1,m,G,h1,h2,hs,g=>by
  exists 57;cases c:r (p.getD m 0) (p.getD (m-1) 0) with
  |true=>exact g m (abW _) (by lia) hs (.inr c)
  |false=>
   exact Hz T A P f (m+1) (by lia) (by lia) (hs.snoc T P h1 (by lia) (T.tt _ _ (bq.lt P (by lia)) (bq.lt P (by lia)) (bq.ne P (by lia) (by lia) (by lia)) c)) λm' a b c d=>g m' (by lia) (by lia) c (by rw[show m+1+f=m+(f+1) by lia] at d;exact d)
theorem Nu(T:nX r n)(A:uA cmp r n s)(P:bq n p):∀(f m) {G},1<=m->m+f<=n->ze r p m->
  (∀m',m<=m'->m'<=m+f->ze r p m'->G (p,m',0) s)->(kas_desc f p m 0).kasWp cmp G s
 |0,m,G,_,_,hs,g=>g m (abW _) (abW _) hs
 |f+1,m,G,h1,h2,hs,g=>by
  exists 57;cases c:r (p.getD m 0) (p.getD (m-1) 0) with
  |true=>exact Nu T A P f (m+1) (by lia) (by lia) (hs.snoc T P h1 (by lia) c) λm' a b d=>g m' (by lia) (by lia) d
  |false=>
   exists 57;rw[T.tt _ _ (bq.lt P (by lia)) (bq.lt P (by lia)) (bq.ne P (by lia) (by lia) (by lia)) c];exact g m (abW _) (by lia) hs
theorem rev_getD(hm:m<=p.size)(h:i<m):(kas_rev p 0 m).getD i 0=p.getD (m-1-i) 0:=by
 have e:=getElem?_mirror_all (i:=0) hm i;rw[if_pos ⟨aeC _,h⟩] at e;unfold kas_rev;rw[ae8,ae8,e]
 congr 2;lia
theorem afn(T:nX r n)(A:uA cmp r n s)(P:bq n p)(h:1<=n)(g:∀m q,1<=m->m<=n->bq n q->jJ r q m->G (m,q) s):(kas_count n p).kasWp cmp G s:=by
 unfold kas_count;rw[KasT.kasWp_bind];refine Hz T A P (n-1) 1 (abW _) (by lia) (λi j a b=>by lia) λm a b hs d=>?_
 by_cases e:m=n
 .subst e;rw[if_pos (by simp)];exact g m p a (abW _) P hs
 .rw[if_neg (by simpa using e)]
  by_cases e1:m > 1
  .rw[if_pos e1];exists 57;rw[hs 0 (m-1) (by lia) (by lia)];exact g m p a (by lia) P hs
  .rw[if_neg e1];obtain rfl:m=1:=by lia
   have d:=d.resolve_left (by lia);unfold kas_descPart;rw[KasT.kasWp_bind];refine Nu T A P (n - (1 + 1)) (1 + 1) (by lia) (by lia) (λi j a b=>by
    obtain⟨rfl,rfl⟩:i=0/\j=1:=by lia
    exact d) λm' a' b' hd=>?_
   dsimp only;rw[if_neg (by lia)];unfold kas_tail3;rw[KasT.kasWp_bind];have Q:bq n (kas_rev p 0 m'):=(mirror_perm _ _ _ _).trans P;refine Hz T A Q (n-m') m' (by lia) (by lia) (λi j a b=>?_) λm2 a2 b2 cG _=>g m2 _ (by lia) (by lia) Q cG
   rw[rev_getD (by rw[bq.sz P];lia) (by lia),rev_getD (by rw[bq.sz P];lia) (by lia)];exact hd _ _ (by lia) (by lia)
theorem Ii(T:nX r n)(A:uA cmp r n s)(P:bq n p)(hx:x<n)(hs:jJ r p x):∀(f l u) {G},u-l<=f->u<=x->l<=u->(∀i,i<l->r (p.getD i 0) (p.getD x 0)=true)->(∀i,u<=i->i<x->r (p.getD x 0) (p.getD i 0)=true)->
  (∀l,l<=x->(∀i,i<l->r (p.getD i 0) (p.getD x 0)=true)->(∀i,l<=i->i<x->r (p.getD x 0) (p.getD i 0)=true)->G l s)->(kas_place p x f l u).kasWp cmp G s
 |0,l,u,G,h1,h2,h3,lo,hi,g=>g l (by lia) lo λi a b=>hi i (by lia) b
 |f+1,l,u,G,h1,h2,h3,lo,hi,g=>by
  unfold kas_place
  by_cases c:l >= u
  .rw[if_pos c];exact g l (by lia) lo λi a b=>hi i (by lia) b
  .rw[if_neg c];refine A _ _ _ (bq.lt P hx) (bq.lt P (by lia)) ?_;cases d:r (p.getD x 0) (p.getD ((l+u) / 2) 0) with
   |true=>
    refine Ii T A P hx hs f l ((l+u) / 2) (by lia) (by lia) (by lia) lo (λi a b=>?_) g
    by_cases e:i=(l+u) / 2
    .rw[e];exact d
    .exact T.tr _ _ _ (bq.lt P (by lia)) (bq.lt P (by lia)) (bq.lt P (by lia)) d (hs _ i (by lia) b)
   |false=>
    have d:=T.tt _ _ (bq.lt P (by lia)) (bq.lt P (by lia)) (bq.ne P (by lia) (by lia) (by lia)) d;refine Ii T A P hx hs f ((l+u) / 2+1) u (by lia) h2 (by lia) (λi a=>?_) hi g
    by_cases e:i=(l+u) / 2
    .rw[e];exact d
    .exact T.tr _ _ _ (bq.lt P (by lia)) (bq.lt P (by lia)) (bq.lt P (by lia)) (hs i _ (by lia) (by lia)) d
theorem LA(hx:x<p.size)(hl:l<=x):(bubble p x (x-l)).getD i 0=if i=l then p.getD x 0 else if l<i/\i<=x then p.getD (i-1) 0 else p.getD i 0:=by
 have e:=getElem?_bubble hx (x-l) (by lia) i;rw[show x-(x-l)=l by lia] at e;rw[ae8,e]
 by_cases h1:i=l
 .rw[if_pos h1,if_pos h1,ae8]
 .rw[if_neg h1,if_neg h1]
  by_cases h2:l<i/\i<=x
  .rw[if_pos h2,if_pos h2,ae8]
  .rw[if_neg h2,if_neg h2,ae8]
theorem QA(T:nX r n)(A:uA cmp r n s):∀(f) (p) (x) {G},bq n p->1<=x->x+f=n->jJ r p x->(∀q,bq n q->jJ r q n->G q s)->(kas_bin f p x).kasWp cmp G s
 |0,p,x,G,P,_,e,hs,g=>g p P (by rw[<- e];exact hs)
 |f+1,p,x,G,P,h1,e,hs,g=>by
  unfold kas_bin;rw[KasT.kasWp_bind];refine Ii T A P (by lia) hs x 0 x (by lia) (abW _) (aeC _) (λi a=>by lia) (λi a b=>by lia) λl hl lo hi=>?_
  have hz:x<p.size:=by rw[bq.sz P];lia
  refine QA T A f _ (x+1) ((bubble_perm _ _ _).trans P) (by lia) (by lia) (λi j a b=>?_) g;rw[LA hz hl,LA hz hl]
  by_cases i1:i=l
  .rw[if_pos i1,if_neg (by lia),if_pos (by lia)];exact hi _ (by lia) (by lia)
  .rw[if_neg i1]
   by_cases j1:j=l
   .rw[if_pos j1,if_neg (by lia)];exact lo _ (by lia)
   .rw[if_neg j1]
    by_cases i2:l<i/\i<=x
    .rw[if_pos i2,if_pos (by lia)];exact hs _ _ (by lia) (by lia)
    .rw[if_neg i2]
     by_cases j2:l<j/\j<=x
     .rw[if_pos j2];exact hs _ _ (by lia) (by lia)
     .rw[if_neg j2];exact hs _ _ (by lia) (by lia)
theorem YU(T:nX r n)(A:uA cmp r n s)(h:1<=n)(g:∀q,bq n q->jJ r q n->G q s):(kas_sort n).kasWp cmp G s:=by
 unfold kas_sort;rw[KasT.kasWp_bind];refine afn T A (Array.Perm.refl _) h λm q a b Q hs=>?_
 by_cases e:m<n
 .dsimp only;rw[if_pos e,Nat.max_eq_left a];exact QA T A _ q m Q a (by lia) hs g
 .dsimp only;rw[if_neg e];obtain rfl:m=n:=by lia
  exact g q Q hs
end
open PySem PySem.Spec PySem.W PyProof.Rows
noncomputable def lex(x y:Int×Int):Bool:=decide (x.1<y.1\/x.1=y.1/\x.2<y.2)
def IsPair(h:Heap)(q:Addr)(x:Int×Int):Prop:=∃t u,IsTup h q #[.int x.1 t,.int x.2 u]
theorem U0{pr:Nat->Int×Int}(h:∀i j,i<n->j<n->pr i=pr j->i=j):nX (λi j=>lex (pr i) (pr j)) n where
 tr:=λi j k _ _ _ a b=>by
  have a:=aa9 a;have b:=aa9 b;exact aaA (by lia)
 tt:=λi j a b ne e=>by
  have e:=of_decide_eq_false e;have n2:¬((pr i).1=(pr j).1/\(pr i).2=(pr j).2):=λz=>ne (h i j a b (Prod.ext z.1 z.2))
  exact aaA (by lia)
theorem aeR(hx:IsPair s.heap x a)(hy:IsPair s.heap y b)(h:Q (lex a b) s):wpAny (model prog w) A (keyLt' (tuples' true) (.ref x) (.ref y)) Q E s:=by
 obtain⟨t,u,o,h1,_,n,h2⟩:=hx;obtain⟨t',u',o',g9,_,n',mK⟩:=hy;refine kat_lt h1 h2 g9 mK (kat_cons (wpAny_eqBool_int (kat_go (λe=>kat_yes (kat_cons (wpAny_eqBool_int (kat_go (λe2=>kat_yes (kat_nil ?_)) λe2=>kat_no (kat_one _ _ (lt_int ?_)))))) λe=>kat_no (oneLt_int ?_))))
 .have e:=eq_of_beq e;have e2:=eq_of_beq e2;have:lex a b=false:=abV (by omega);rw[this] at h;exact h
 .have e:=eq_of_beq e;have:lex a b=decide (a.2<b.2):=by unfold lex;congr 1;exact propext ⟨λz=>by omega,λz=>.inr ⟨e,z⟩⟩
  rw[this] at h;exact h
 .have e:=ne_of_beq_false e;have:lex a b=decide (a.1<b.1):=by unfold lex;congr 1;exact propext ⟨λz=>by omega,.inl⟩
  rw[this] at h;exact h
theorem NW:∀{qs} {ps},Paired (IsPair h) qs ps->∃fs,KatTups h (qs.map Value.ref) fs/\fs.length=qs.length/\∀v∈fs,∃i t,v=Value.int i t
 |_,_,.nil=>⟨[],.nil,rfl,λ_ m=>nomatch m⟩
 |_,_,.cons r t=>by
  obtain⟨fs,h1,h2,h3⟩:=NW t;obtain⟨t,u,o,e1,e2,n,e3⟩:=r;exact⟨_::fs,KatTups.cons e1 e2 e3 rfl h1,by rw[acj,acj,h2],λv m=>(aaQ.mp m).elim (λz=>⟨_,_,z⟩) (h3 v)⟩
theorem afT{a kS:Addr}{vs:List Value}(ly:vs.length<64)(hl:qs.length=vs.length)(hp:Paired (IsPair s.heap) qs ps)(nd:ps.Nodup)
  (hk:s.heap.get? kS=some (seqObj "list" (qs.map Value.ref).toArray e)) (ha:s.heap.get? a=some (seqObj "list" #[] e1)) (ne:a≠kS)
  (h:∀q:Array Nat,bq vs.length q->jJ (λi j=>lex (ps.getD i (0,0)) (ps.getD j (0,0))) q vs.length->
   P (.done (.ret .none)) { s with heap:=(s.heap.update kS (Obj.mapSeq λ_=>#[])).update a (Obj.mapSeq λ_=>(q.toList.map λi=>vs.getD i Value.none).toArray) }) :
  wpAny (model prog w) A (ksk_end a false vs.toArray e1 (.ref kS) (qs.map Value.ref).toArray) P E s:=by
 have BN:(qs.map Value.ref).length=vs.length:=by rw[List.length_map];exact hl
 have tail:∀(st) (q),bq vs.length q->jJ (λi j=>lex (ps.getD i (0,0)) (ps.getD j (0,0))) q vs.length->(arrOf st).map (·.2)=(q.toList.map λi=>vs.getD i Value.none).toArray->failedOf st=none->
   wpAny (model prog w) A (ksk_tail a false e1 (.ref kS) st) P E s:=by
  intro st q hq hs ho hf;have s1:=Heap.SameBut.update s.heap kS (Obj.mapSeq λ_=>(#[]:Array Value));have MJ:=(s1.2 a ne).trans ha;unfold ksk_tail;dsimp only;refine aaO (listUpdate_at hk rfl ?_ (by rw[ab6,BN,ae7];lia) (aeC _));refine aaO (wpAny_letGo ?_);refine aaO (seqEpoch_at MJ rfl ?_);refine aaO (listUpdate_at MJ rfl ?_ (aeC _) ?_)
  .rw[hf];simp only[bne_self_eq_false,agK,if_false];rw[ho];exact acA (h q hq hs)
  .simp only[agK,if_false];rw[ho,ab6,List.length_map,ae0,bq.sz hq,ae7];lia
 unfold ksk_end;dsimp only;rw[if_neg abu]
 by_cases h2:vs.toArray.size<2
 .rw[if_pos h2,if_pos h2];refine aaO (acA ?_);rw[StateT.run_pure];refine aaO (acA ?_);dsimp only;rw[ab6] at h2;refine tail _ (List.range vs.length).toArray (Array.Perm.refl _) (λi j a b=>by lia) ?_ rfl;have e:=kat_snds BN (st:=kas_st general' ((qs.map Value.ref).toArray.zip vs.toArray) (List.range vs.length).toArray) rfl;have er:(List.range vs.length).toArray.map (kas_item ((qs.map Value.ref).toArray.zip vs.toArray))=(qs.map Value.ref).toArray.zip vs.toArray:=by
   have:=kas_range ((qs.map Value.ref).toArray.zip vs.toArray);rw[show((qs.map Value.ref).toArray.zip vs.toArray).size=vs.length by simp[hl]] at this;exact this
  rw[<- e];show((qs.map Value.ref).toArray.zip vs.toArray).map (·.2)=((List.range vs.length).toArray.map (kas_item ((qs.map Value.ref).toArray.zip vs.toArray))).map (·.2);rw[er]
 .rw[if_neg h2,if_neg h2];rw[ab6] at h2;obtain⟨fs,k1,k2,k3⟩:=NW hp;refine aaO (kat_kind k1 (by lia) (λv m=>by obtain⟨i,t,rfl⟩:=k3 v m;exact Looks.of_pure rfl) (by decide) ?_);refine aaO (adW (kat_run (Q:=λst s'=>s'=s/\∃q:Array Nat,bq vs.length q/\jJ (λi j=>lex (ps.getD i (0,0)) (ps.getD j (0,0))) q vs.length/\(arrOf st).map (·.2)=(q.toList.map λi=>vs.getD i Value.none).toArray/\failedOf st=none)
   (G:=λq s'=>s'=s/\bq vs.length q/\jJ (λi j=>lex (ps.getD i (0,0)) (ps.getD j (0,0))) q vs.length) BN (by lia) ly (λq nF s' _ ha hf g=>⟨g.1,q,g.2.1,g.2.2,kat_snds BN ha,hf⟩) ?_) ?_ λ_ _ z=>z)
  .have lp:ps.length=vs.length:=by rw[<- Paired.length hp];exact hl
   refine YU (U0 λi j a b e=>?_) (λi j C hi hj hc=>?_) (by lia) λq a b=>⟨rfl,a,b⟩
   .have ei:i<ps.length:=by lia
    have ej:j<ps.length:=by lia
    simp only[adM,abl ei,abl ej,aha] at e;have w:=ag9.mp nd;rcases Nat.lt_trichotomy i j with q|q|q
    .exact absurd e (w i j ei ej q)
    .exact q
    .exact absurd e.symm (w j i ej ei q)
   .have at_:∀i,i<vs.length->∃x,(qs.map Value.ref).getD i Value.none=.ref x/\IsPair s.heap x (ps.getD i (0,0)):=λi hi=>by
     have lq:i<qs.length:=by lia
     have OQ:i<ps.length:=by lia
     refine⟨qs[i],by simp[adM,lq],?_⟩;rw[adM,abl OQ,aha];have go:∀{qs} {ps},Paired (IsPair s.heap) qs ps->∀(i) (a) (b:i<ps.length),IsPair s.heap qs[i] ps[i]:=by
      intro qs ps r
      induction r with
      |nil=>intro i a;exact absurd a (Nat.not_lt_zero _)
      |cons r t ih=>intro i a b;cases i with
       |zero=>exact r
       |succ i=>exact ih i (by simpa using a) (by simpa using b)
     exact go hp i lq OQ
    obtain⟨x,ex,hx⟩:=at_ i hi;obtain⟨y,ey,hy⟩:=at_ j hj;show wpAny (model prog w) A (keyLt' _ ((qs.map Value.ref).getD i Value.none) ((qs.map Value.ref).getD j Value.none)) C _ s;rw[ex,ey];exact aeR hx hy hc
  .rintro⟨⟨⟩,st⟩ s' ⟨rfl,q,h1,h3,h4,h5⟩
   exact tail st q h1 h3 h4 h5
theorem Cy:∀{K:PySem.W.Frag},K.lookup a=some o->(a,o)∈K
 |[],h=>by cases h
 |(b,u)::r,h=>by
  by_cases e:(a==b)=true
  .simp only[List.lookup,e] at h;cases h;rw[eq_of_beq e];exact aak
  .simp only[List.lookup,(by simpa using e:(a==b)=false)] at h;exact aaf _ (Cy h)
theorem Ve(I:Inv X af σ H s)(lk:X.K.lookup f0=some o0)(sh:vp o0=some (cv,q,jO)):∃cc P,cv=.ref cc/\codeHdIn X.K cc P=true/\H P=some (.iE q jO):=by
 obtain⟨bB,ok⟩:=(abe _ _).mp I.hq.ok;have bB:=adf.mp ((abe _ _).mp bB).2 (f0,o0) (Cy lk);have bB:=bB;rw[sh] at bB;obtain⟨⟨cc,P,q',pos'⟩,e⟩:=agv.mp (show(Ao X.K (f0,o0)).isSome=true from bB);have hm:(cc,P,q',pos')∈iX X.K:=agt.mpr ⟨_,Cy lk,e⟩;have e':=e;unfold Ao at e';dsimp only at e';rw[sh] at e'
 split at e'
 .rename_i h;cases h
  split at e'
  .split at e'
   .cases e';refine⟨cc,P,rfl,?_,I.hq.lm _ hm⟩
    split at ok
    .rename_i e;rw[e] at hm;cases hm
    .rename_i r e;rw[e] at hm;cases aaB.mp hm;exact((abe _ _).mp ok).1
    .cases ok
   .cases e'
  .cases e'
 .cases e'
theorem adS(I:Inv X af σ H s)(lk:X.K.lookup f0=some o0)(sh:vp o0=some (X.env.code,q,jO))(zA:defaultsOf args X.env=([],[]))(uu:closureFor sc X.env=pure oK)(hq:X.env.qual++"<lambda>"=q)
  (h:∀f c' iR pm H' s',Inv X ((f,kla_obj "<lambda>" q args body sc oK pm c' iR)::af) σ H' s'->aG H H'->H' c'=some (.ja q)->Q (.ref f) s'):wpAny (model X.prog X.w) A (eval (.Lambda args body sc jO) X.env) Q E s:=by
 refine kla_eval zA ?_;rw[hq];obtain⟨cc,P,Rq,hc,hP⟩:=Ve I lk sh;obtain⟨ps,eP,pZ⟩:=I.aF P _ hP;have C:=codeHd_of_K I.c8 hc;have g:=I.ok.mod.glob.keeps I.bk;obtain⟨bm,ob,b1,b2,b3,b4,b5,b6⟩:=I.ok.mod.VJ;have nP:∀{b} {o},X.base.get? b=some o->b≠P:=λ{b o} e z=>by
  have:=(I.bs b o e).2;rw[z,hP] at this;cases this
 obtain⟨om,es,ep,em,dm,_⟩:=id I.ok.mod.glob;have hb:s.heap.BuiltinsAt X.mg P:=⟨bm,ob,b1,b2,(λz=>by rw[z,em] at b3;cases b3;rw[dm] at b6;cases b6),nP b3,I.bk _ _ b3,b4,b5,b6⟩
 have fin:∀(f) (o) (H') (s'),Inv X af σ H' s'->s'.heap.get? f=some o->s.heap.objs.size<=f->H' f=none->(∀v,o.data≠.cell v)->Inv X ((f,o)::af) σ H' s':=λf o H' s' J e hf hn hd=>by
  refine J.tE λp hp=>?_
  rcases aaQ.mp hp with rfl|hp
  .exact⟨e,hn,agy (ac5 I.lt hf),I.RP hf,hd⟩
  .exact J.pin p (aaw _ hp)
 rcases pZ with rfl|⟨c',rfl,sD⟩
 .refine kla_makeFunction uu I.ok.glob g Rq C eP trivial rfl (nP em) hb λc' iR h' tk hx Bu cR abi LS=>?_
  have fc:=I.aF.fresh Bu;have ff:=I.aF.fresh (afk (agI Bu cR));have up:∀{b} {o},H b=some o->upd H c' (.ja q) b=some o:=λ{b o} e=>by rw[aO (cZ e fc)];exact e
  have pu:∀(b) (o),b≠P->s.heap.get? b=some o->(h'.push (kla_obj "<lambda>" q args body sc oK ((X.mg "__name__").getD .none) c' iR)).get? b=some o:=λb o n e=>aap _ (hx b o n e)
  have QE:∀{b},H b=none->b≠P:=λ{b} e z=>by rw[z,hP] at e;cases e
  have J:Inv X af σ (upd H c' (.ja q)) { s with heap:=h'.push (kla_obj "<lambda>" q args body sc oK ((X.mg "__name__").getD .none) c' iR),toks:=tk }:=by
   refine I.un ⟨λb o e n _ _=>pu b o (QE n) e,λb o e n _ _=>⟨o.slots,pu b o (QE n) e⟩,λb o e n _=>?_,λb o e _=>?_,λb t e=>up e,λb o u e=>up e,λb ps e=>⟨#[],by rw[up e];simp⟩⟩ λa o e=>?_
   .rw[aO (acL (ac5 (abQ e) Bu))];exact n
   .by_cases z:b=P
    .rw[z];exact⟨_,aap _ LS⟩
    .exact⟨o,pu b o z e⟩
   .by_cases z:a=c'
    .subst z;rw[cz] at e;cases e;exact abi.push _
    .rw[aO z] at e
     by_cases z2:a=P
     .subst z2;rw[hP] at e;cases e;exact⟨_,aap _ LS,.inr ⟨c',by simp,cz⟩⟩
     .refine(I.aF a o e).gx (λb u xw q=>pu b u ?_ q) (λb q=>up q) λb t q=>up q
      rcases xw with z3|z3
      .rw[z3];exact z2
      .intro z4;rw[z4,hP] at z3;cases z3
  refine h _ c' iR _ _ _ (fin _ _ _ _ J (ab8 _ rfl) (afk (agI Bu cR)) ?_ (λv z=>by cases z)) (λb o e=>up e) cz;rw[aO (agy cR)];exact ff
 .refine kla_makeFunctionHit uu I.ok.glob g Rq C eP (TriplesOk_snoc _ _ _ [] trivial) (codeAmong_snoc [] trivial rfl) hb λiR h' tk hk hsz=>?_
  exact h _ c' iR _ H _ (fin _ _ _ _ (I.kept λb u e=>aap _ (hk b u e)) (ab8 _ rfl) hsz (I.aF.fresh hsz) λv z=>by cases z) (aG.refl H) sD
noncomputable def rO(X:Cx)(A:Around)(x y:Str)(q:Str)(sc:Scope)(f:Addr)(cd:Value)(oK:List (Str×Addr))(s:Shared)(H:Hp):Cx where
 prog:=X.prog
 w:=X.w
 K:=X.K
 mg:=X.mg
 base:=X.base
 A:=A.deeper (envX q sc s.heap.objs.size f cd oK)
 N:=[x,y]
 cI:=s
 vd:=H
 env:=envX q sc s.heap.objs.size f cd oK
 outer:=X.stack
 stack:=envX q sc s.heap.objs.size f cd oK::X.stack
 ex:=[]
 fn:=λ_=>false
 calm:=X.calm
 pn:=[]
 xe:=λ_ _=>False
structure BF(sc:Scope)(args:Arguments)(x y:Str):Prop where
 kind:sc.kind=.function
 co:sc.isCoroutine=false
 gen:sc.isGenerator=false
 wu:∀z∈sc.names,z.2≠.cell
 loc:sc.names.lookup x=some .local
 xx:sc.names.lookup y=some .free
 one:∀z∈sc.names,z.2=.free->z.1=y
 bnd:∀(q) (body) (oK) (pm aQ iR u),bindArgs (kla_fn "<lambda>" q args body sc oK pm aQ iR) ⟨[u],[]⟩=pure [(x,u)]
theorem UO{j:Nat}(I:Inv X af σ H s)(S:BF sc args x y)(hf:(f,kla_obj "<lambda>" q args body sc [(y,c)] pm c' iR)∈af)(hc:H c'=some (.ja q))
  (nI:X.env.cells.lookup y=some c) (hj:X.N[j]? = some y) (hv:σ[j]? = some (some v1)) (qj:X.env.scope.names.lookup y=some .cell) (ru:RelV v0 u) (hA:A.frames=X.A.frames) (hh:A.handled=X.A.handled) (hr:A.depth<recursionLimit)
  (hb:PE (rO X A x y q sc f (.ref c') [(y,c)] s H) body te) (h:te [some v0,some v1] H Q):wpAny (model X.prog X.w) A (call (.ref f) [u]) (EP X af σ Q) E s:=by
 have Tr:=(I.pin _ (aaw _ hf)).1;refine wpAny_call (codeAny_mono (R:=λr s'=>match r with|.ok (.ret v)=>CE X.stack X.prog X.w H s Q v s'|_=>False) ?_ λr s' z=>?_)
 .refine kla_callFunE hr Tr rfl S.co S.gen rfl (I.aF c' _ hc) ?_;rw[S.bnd];refine acA (wpAny_newFunctionEnv S.wu (λz m=>by cases aaB.mp m;exact S.loc) (λBh uq E5=>?_) S.kind);have xK:∀b o,s.heap.get? b=some o->Bh.get? b=some o:=λb o e=>E5.extBut b o (acL (abQ e)) (aap _ e)
  refine⟨(I.ok.mod.nolimit.keeps I.bk).keeps xK,?_⟩;have cl:∀{z} {d},List.lookup z [(y,c)]=some d->z=y/\d=c:=λ{z d} e=>by
   by_cases w:(z==y)=true
   .simp only[List.lookup,w] at e;cases e;exact⟨eq_of_beq w,rfl⟩
   .simp only[List.lookup,(by simpa using w:(z==y)=false)] at e;cases e
  have cy:List.lookup y [(y,c)]=some c:=by simp[List.lookup]
  have tU:∀b:Addr,b∉(rO X A x y q sc f (.ref c') [(y,c)] s H).ex:=λb z=>absurd (show b∈([]:List Addr) from z) (by simp)
  have J:Inv (rO X A x y q sc f (.ref c') [(y,c)] s H) [] [some v0,some v1] H { s with heap:=Bh,toks:=s.toks+[(x,u)].length }:=by
   refine⟨⟨I.ok.mod,S.kind,rfl,rfl,abW _,λa b d h1 h2=>?_,λa ha=>?_,(λa d h _=>by cases h),λhc=>?_,Around.frames_deeper (hA.trans I.ok.frames),.inr ⟨rfl,rfl⟩,λb z=>absurd z (tU b),I.bs,adR I.ok.jb I.sz,λb _ _=>tU b,λb z=>absurd z (tU b),I.stack,I.ug⟩,
    rfl,I.bare,Un.kept xK,⟨_,uq,λi z v h1 h2 h3=>?_⟩,λz d e=>?_,I.aF.fresh (abW _),λz d e=>?_,λp hp=>absurd (show p∈([]:List (Addr×Obj)) from hp) (by simp),I.aF.kept xK,rfl,⟨?_,I.hq.ok,I.hq.lm⟩⟩
   .exact(cl h1).1.trans (cl h2).1.symm
   .have ha:=ha;rcases ha with ha|ha
    .exact absurd rfl (S.wu _ (PySem.mem_of_lookup ha))
    .have e:a=y:=S.one _ (PySem.mem_of_lookup ha) rfl;rw[e];exact⟨c,cy⟩
   .have:=I.ok.hd hc;exact hh.trans this
   .match i,h1,h2 with
    |0,h1,h2=>
     cases h1;cases h2;refine⟨u,ru,.inl ⟨S.loc,by simp[List.lookup]⟩⟩
    |1,h1,h2=>
     cases h1;cases h2;obtain⟨m,_,hl⟩:=I.loc;obtain⟨u1,r1,l⟩:=hl j y v1 hj hv (.inr (.inl qj));refine⟨u1,r1,.inr ⟨.inr S.xx,c,cy,?_⟩⟩;rcases l with⟨kk,_⟩|⟨_,d,e,o,ho,hd⟩
     .rw[show X.env.kindOf y=some .cell from qj] at kk;cases kk
     .rw[nI] at e;cases e;exact⟨o,xK _ _ ho,hd⟩
    |i+2,h1,h2=>exact absurd h2 (by simp)
   .rw[(cl e).2];obtain⟨w,o,ho,hd⟩:=I.cell y c nI;exact⟨w,o,xK _ _ ho,hd⟩
   .rw[(cl e).2];exact I.gW y c nI
   .have:=I.hq.hd;unfold sI at this ⊢;rw[show(rO X A x y q sc f (.ref c') [(y,c)] s H).A.handled=X.A.handled from hh];exact this
  refine kla_codeExpr (adW (hb [] _ _ H _ J h) (?_) λ_ _ z=>z.elim)
  rintro v s' ⟨v',H',J',rv,q'⟩
  exact⟨v',H',J'.os,J'.bare,J'.base,J'.aF,rv,q'⟩
 .cases r with
  |error e=>exact z.elim
  |ok fl=>
   cases fl with
   |ret w=>exact I.after z
   |next=>exact z
   |brk=>exact z
   |cont=>exact z
theorem aaG(r:aT [.int a,.int b] au):∃t u,au=[.int a t,.int b u]:=by
 cases r with
 |cons h1 r=>cases r with
  |cons h2 r=>cases r;obtain⟨t,rfl⟩:=h1;obtain⟨u,rfl⟩:=h2;exact⟨t,u,rfl⟩
theorem IntsAre.at{vs:List Value}{ns:List Int}(h:IntsAre vs ns):∀{j:Nat} {v},vs[j]? = some v->∃n t,ns[j]? = some n/\v=.int n t:=by
 induction h with
 |nil=>intro j v e;simp at e
 |cons n t _ ih=>
  intro j v e;cases j with
  |zero=>cases e;exact⟨n,t,rfl,rfl⟩
  |succ j=>exact ih (by simpa using e)
theorem Paired.XM{α β:Type}{R:α->β->Prop}{l:List α}{m:List β}{a:α}{b:β}(h:Paired R l m)(r:R a b):Paired R (l++[a]) (m++[b]):=by
 induction h with
 |nil=>exact .cons r .nil
 |cons r' _ ih=>exact .cons r' ih
theorem Pe(h:IntsAre au ns):∀(l:List Nat),(∀i∈l,i<ns.length)->aT ((l.map λi=>ns.getD i 0).map V.int) (l.map λi=>au.getD i Value.none)
 |[],_=>.nil
 |i::l,hl=>by
  have hi:=hl i aak;have Qj:i<au.length:=by rw[h.length];exact hi
  obtain⟨n,t,e1,e2⟩:=IntsAre.at h (abl Qj);refine .cons ?_ (Pe h l λj m=>hl j (aaf _ m));show RelV (V.int (ns.getD i 0)) (au.getD i Value.none);rw[adM,adM,e1,abl Qj,e2];exact⟨t,rfl⟩
theorem af0{ns:List Int}{q:Array Nat}(P:bq ns.length q):(q.toList.map λi=>ns.getD i 0).Perm ns:=by
 have h:=(agE.mp P).map λi=>ns.getD i 0
 have e:((List.range ns.length).toArray.toList.map λi=>ns.getD i 0)=ns:=by
  refine List.ext_getElem (by simp) λi h1 h2=>?_
  simp[adM,h2]
 rw[e] at h;exact h
section
variable{j:Nat}{te:Addr->Addr->Shared->Hp->TE}
theorem afD{H2:Hp}{p f c':Addr}{iR pm:Value}{v1:V}{ns:List Int}{pr:Int->Int×Int}{Q:VK}(I:Inv X ((f,kla_obj "<lambda>" q args body sc [(y,c)] pm c' iR)::af) σ H2 s)(S:BF sc args x y)(hc:H2 c'=some (.ja q))
  (nI:X.env.cells.lookup y=some c) (hj:X.N[j]? = some y) (hv:σ[j]? = some (some v1)) (qj:X.env.scope.names.lookup y=some .cell) (wV:X.A.in1.in1.depth<recursionLimit)
  (hb:∀f c' s H,PE (rO X X.A.in1.in1 x y q sc f (.ref c') [(y,c)] s H) body (te f c' s H)) (hq:b7 X.K H2 p (ns.map V.int)) (ly:ns.length<64) (nd:(ns.map pr).Nodup)
  (ht:∀s H3,aG H2 H3->∀n∈ns,te f c' s H3 [some (.int n),some v1] H3 λv H4=>∃k,v=.ref k/\cj X.K H4 k [.int (pr n).1,.int (pr n).2]/\aG H3 H4)
  (hQ:∀(Hf) (D) (eB:List Int),aG H2 Hf->H2 D=none->Hf D=some (.lst (eB.map V.int))->eB.Perm ns->eB.Pairwise (λa b=>lex (pr a) (pr b)=true)->Q (.ref D) Hf) :
  Z4 X X.A (call (.builtin "sorted") [.ref p] [(Str.ofString "key",.ref f)]) (EP X af σ Q) X.xe s:=by
 obtain⟨au,ri,pl,hz⟩:=I.list hq;have hi:=intsAre_of ri;have li:=hi.length;have zl:au.length<=sizeLine:=by rw[ae7];lia
 refine call_function_entry_kw kind_sorted plain_sorted entry_sorted (ksk_s1 _ _) ?_;unfold Builtin.«sorted»;refine aaO (acA ?_);refine aaO (collect_list pl.isList ?_ zl);refine aaO (wpAny_newList ?_ zl);generalize K7:(s.heap.push (seqObj "list" #[] 0)).update s.heap.objs.size (Obj.mapSeq (·++au.toArray))=h3;have k3:∀b o,s.heap.get? b=some o->h3.get? b=some o:=λb o e=>by
  rw[<- K7,agD _ _ _ _ (acL (abQ e))];exact aap _ e
 have z3:h3.objs.size=s.heap.objs.size+1:=by rw[<- K7,Heap.size_update,size_push']
 have hD:(h3.push (seqObj "list" au.toArray 0)).get? h3.objs.size=some (seqObj "list" au.toArray 0):=ab8 _ rfl;refine aaO (afG (wpAny_call_entry_kw slot_list_sort ⟨_,hD,rfl⟩ entry_list_sort ?body (ksk_l1 _ _)))
 case body=>
  rw[ksk_t1];obtain⟨e1,Ma⟩:∃e1,((h3.push (seqObj "list" au.toArray 0)).update h3.objs.size (Obj.mapSeq λ_=>(#[]:Array Value))).get? h3.objs.size=some (seqObj "list" #[] e1):=⟨_,get?_update_seq hD λ_=>#[]⟩
  unfold ksk_tree;refine aaO (listItems_at hD rfl ?_);refine aaO (listUpdate_at hD rfl ?_ (by rw[ab6];exact zl) (aeC _));refine aaO (seqEpoch_at Ma rfl ?_);refine aaO (wpAny_newTuple ?_ (by show au.length<=_;exact zl));refine aaO (wpAny_newList ?_ (aeC _));refine afG ?_;generalize Ft:((h3.push (seqObj "list" au.toArray 0)).update h3.objs.size (Obj.mapSeq λ_=>(#[]:Array Value))).push (seqObj "tuple" au.toArray 0)=h6;have z6:h6.objs.size=s.heap.objs.size+3:=by rw[<- Ft,size_push',Heap.size_update,size_push',z3]
  have k6:∀b o,s.heap.get? b=some o->h6.get? b=some o:=λb o e=>by
   have cR:=abQ e;rw[<- Ft];refine aap _ ?_;rw[agD _ _ _ _ (acL (ac5 cR (by rw[z3];exact ahl _)))];exact aap _ (k3 b o e)
  have YX:h6.get? h3.objs.size=some (seqObj "list" #[] e1):=by rw[<- Ft];exact aap _ Ma
  generalize hDe:h3.objs.size=D at *;generalize hKe:h6.objs.size=kS at *;have fD:=I.rP (H':=λ_=>none) (b:=D) (by lia) rfl;have fK:=I.rP (H':=λ_=>none) (b:=kS) (by lia) rfl;have C8:D≠kS:=by lia
  have Gz:∀{H:Hp}{s':Shared} {b} {o},iT X ((f,kla_obj "<lambda>" q args body sc [(y,c)] pm c' iR)::af) (λ_=>none) b->H b=none->s'.heap.get? b=some o->(∀v,o.data≠.cell v)->
    s'.heap.get? b=some o/\H b=none/\b≠X.env.locals/\b∉X.fs/\∀v,o.data≠.cell v:=λF a b d=>⟨b,a,F.2.1,F.2.2.1,d⟩
  have J0:Inv X ((kS,seqObj "list" (List.map Value.ref []).toArray 0)::(D,seqObj "list" #[] e1)::(f,kla_obj "<lambda>" q args body sc [(y,c)] pm c' iR)::af) σ H2 { s with heap:=h6.push (seqObj "list" #[] 0) }:=by
   have J:=I.kept (h':=h6.push (seqObj "list" #[] 0)) (t':=s.toks) λb o e=>aap _ (k6 b o e)
   refine J.tE λp hp=>?_
   rcases aaQ.mp hp with rfl|hp
   .exact Gz fK (I.aF.fresh (by lia)) (by rw[<- hKe];exact ab8 _ rfl) (λv z=>by cases z)
   .rcases aaQ.mp hp with rfl|hp
    .exact Gz fD (I.aF.fresh (by lia)) (aap _ YX) (λv z=>by cases z)
    .exact J.pin p (aaw _ hp)
  unfold ksk_rest;refine aaO (wpAny_rule ?_);rw[List.forIn_toArray];refine aaO (ksk_fold (λi s'=>∃(H:Hp) (qs:List Addr) (e:Nat),Inv X ((kS,seqObj "list" (qs.map Value.ref).toArray e)::(D,seqObj "list" #[] e1)::(f,kla_obj "<lambda>" q args body sc [(y,c)] pm c' iR)::af) σ H s'/\aG H2 H/\
   Paired (λk n=>cj X.K H k [.int (pr n).1,.int (pr n).2]) qs (ns.take i)) au 0 _ ⟨H2,[],0,J0,aG.refl _,.nil⟩ (λi u s' hu hI=>?_) λs' hI=>?_)
  .rw[ahd] at hI ⊢;obtain⟨H,qs,e,J,sm,pd⟩:=hI;obtain⟨n,t,en,rfl⟩:=IntsAre.at hi hu;have ln:=Paired.length pd;have uV:=(abD.mp en).1;rw[agT] at ln;refine aaO (wpAny_attempt (adW (UO (v0:=.int n) (E:=λ_ _=>False) J S (aaf _ (aaf _ aak)) (sm _ _ hc) nI hj hv qj ⟨t,rfl⟩ rfl rfl wV (hb f c' s' H) (ht s' H sm n (aeT en))) (λk gU hk=>?_) λ_ _ z=>z.elim));obtain⟨v,H',J',rv,k',rfl,sq,yR⟩:=hk;obtain rfl:k=.ref k':=rv;have pk:=(J'.pin _ (aaw _ aak))
   have ea:((qs.map Value.ref).toArray).push (.ref k')=((qs++[k']).map Value.ref).toArray:=by simp
   obtain⟨c2,IA⟩:∃c2,(gU.heap.update kS (Obj.mapSeq (·.push (.ref k')))).get? kS=some (seqObj "list" ((qs++[k']).map Value.ref).toArray c2):=⟨_,by rw[<- ea];exact get?_update_seq pk.1 (·.push (.ref k'))⟩
   dsimp only;refine aaO (listUpdate_at pk.1 rfl ?_ (by rw[ab6,List.length_map,ln,ae7];lia) (adR (Nat.le_of_eq (Array.size_push ..)) (by rw[ab6,List.length_map,ln,ae7];lia)));refine acA ⟨rfl,H',qs++[k'],c2,?_,sm.trans yR,?_⟩
   .have J1:=J'.tE λp hp=>J'.pin p (aaw _ (aaf _ hp))
    have J2:=J1.turned (h':=gU.heap.update kS (Obj.mapSeq (·.push (.ref k')))) (t':=gU.toks) (λb o n e=>(agD _ _ _ _ n).trans e) pk.2.1 fK.2.1 fK.2.2.2.1 fK.2.2.2.2.1 λp hp=>by
     rcases abB.mp hp with hp|hp
     .exact fK.2.2.2.2.2 p (abp _ hp)
     .rcases aaQ.mp hp with rfl|hp
      .exact C8
      .exact fK.2.2.2.2.2 p (aaw _ hp)
    refine J2.tE λp hp=>?_
    rcases aaQ.mp hp with rfl|hp
    .exact Gz fK pk.2.1 IA (λv z=>by cases z)
    .exact J2.pin p (aaw _ hp)
   .rw[List.take_succ,en];exact Paired.XM (Paired.Ac pd λk n r=>by
     rcases r with(r|⟨o,r⟩)|r
     .exact .inl (.inl (yR _ _ r))
     .exact .inl (.inr ⟨o,yR _ _ r⟩)
     .exact .inr r) sq
  .rw[ahd] at hI;obtain⟨H,qs,e,J,sm,pd⟩:=hI;rw[li,List.take_length] at pd;have lq:=Paired.length pd;have pk:=(J.pin _ (aaw _ aak))
   have pD:=(J.pin _ (aaw _ (aaf _ aak)))
   refine aaO (listItems_at pk.1 rfl ?_);have pp:∀{l} {qs},Paired (λk n=>cj X.K H k [.int (pr n).1,.int (pr n).2]) qs l->Paired (IsPair s'.heap) qs (l.map pr):=by
    intro l qs r
    induction r with
    |nil=>exact .nil
    |cons r _ ih=>
     refine .cons ?_ ih;obtain⟨it,rv,tp,_⟩:=J.tuple r;obtain⟨t,u,rfl⟩:=aaG rv;exact⟨t,u,tp⟩
   refine afT (by lia) (by rw[lq,li]) (pp pd) nd pk.1 pD.1 C8 λq2 P2 S2=>?_
   rw[li] at P2 S2;have ql:∀i∈q2.toList,i<ns.length:=λi m=>by
    have:=(agE.mp P2).mem_iff.mp m;simpa using this
   refine⟨_,rfl,acA ⟨_,rfl,?_⟩⟩;have J1:=J.tE λp hp=>J.pin p (aaw _ (aaf _ (aaf _ (aaf _ hp))))
   have np:∀{b},iT X ((f,kla_obj "<lambda>" q args body sc [(y,c)] pm c' iR)::af) (λ_=>none) b->∀p∈X.pn++af,p.1≠b:=λF p hp=>F.2.2.2.2.2 p ((abB.mp hp).elim (λz=>abp _ z) λz=>aaw _ (aaf _ z))
   have J2:=J1.turned (h':=s'.heap.update kS (Obj.mapSeq λ_=>#[])) (t':=s'.toks) (λb o n e=>(agD _ _ _ _ n).trans e) pk.2.1 fK.2.1 fK.2.2.2.1 fK.2.2.2.2.1 (np fK);have J3:=J2.turned (h':=(s'.heap.update kS (Obj.mapSeq λ_=>#[])).update D (Obj.mapSeq λ_=>(q2.toList.map λi=>au.getD i Value.none).toArray)) (t':=s'.toks) (λb o n e=>(agD _ _ _ _ n).trans e) pD.2.1 fD.2.1 fD.2.2.2.1 fD.2.2.2.2.1 (np fD);have hDf:=get?_update_seq (h:=s'.heap.update kS (Obj.mapSeq λ_=>#[])) ((agD _ _ _ _ C8).trans pD.1) λ_=>(q2.toList.map λi=>au.getD i Value.none).toArray
   refine⟨.ref D,upd H D (.lst ((q2.toList.map λi=>ns.getD i 0).map V.int)),J3.Cd pD.2.1 ⟨?_,fD.2.1,fD.2.2.2.2.1,np fD⟩ ⟨?_,_,_,Pe hi _ ql,hDf⟩,rfl,hQ _ D _ (λb o e=>?_) ?_ cz (af0 P2) ?_⟩
   .exact ag4 (by have:=I.sz;lia)
   .rw[List.length_map,List.length_map,ae0,bq.sz P2,ae7];lia
   .rw[aO (cZ (sm b o e) pD.2.1)];exact sm b o e
   .cases e:H2 D with
    |none=>rfl
    |some o=>have:=sm D o e;rw[pD.2.1] at this;cases this
   .rw[ag9];intro i k hi hk hik;have hq:∀i,i<ns.length->(hx:i<(q2.toList.map λi=>ns.getD i 0).length)->pr ((q2.toList.map λi=>ns.getD i 0)[i])=(ns.map pr).getD (q2.getD i 0) (0,0):=λi hi hx=>by
     have hs:i<q2.size:=by rw[bq.sz P2];exact hi
     have cR:=bq.lt P2 hi;rw[List.getElem_map,getD_at hs];rw[getD_at hs] at cR;simp[adM,cR]
    have hz:(q2.toList.map λi=>ns.getD i 0).length=ns.length:=by rw[List.length_map,ae0,bq.sz P2]
    rw[hq i (by lia) hi,hq k (by lia) hk];exact S2 i k hik (by lia)
def Sb(K:PySem.W.Frag)(j:Nat)(te:Addr->Addr->Shared->Hp->TE)(σ:St)(Q:VK)(x:V)(H1:Hp):Prop:=∃(p:Addr) (ns:List Int) (pr:Int->Int×Int) (v1:V),x=.ref p/\b7 K H1 p (ns.map V.int)/\ns.length<64/\(ns.map pr).Nodup/\σ[j]? = some (some v1)/\
 (∀f c' s H3,aG H1 H3->∀n∈ns,te f c' s H3 [some (.int n),some v1] H3 λv H4=>∃k,v=.ref k/\cj K H4 k [.int (pr n).1,.int (pr n).2]/\aG H3 H4)/\
 ∀(Hf) (D) (eB:List Int),aG H1 Hf->H1 D=none->Hf D=some (.lst (eB.map V.int))->eB.Perm ns->eB.Pairwise (λa b=>lex (pr a) (pr b)=true)->Q (.ref D) Hf
def tSK(K:PySem.W.Frag)(j:Nat)(ta:TE)(te:Addr->Addr->Shared->Hp->TE):TE:=λσ H Q=>ta σ H (Sb K j te σ Q)
theorem Wa{a:Expr}{ta:TE}{p kp pos jO:Pos}{f0:Addr}{o0:Obj}(hm:X.mg "sorted"=none)(ha:PE X a ta)(S:BF sc args x y)(lk:X.K.lookup f0=some o0)(sh:vp o0=some (X.env.code,q,jO))(hq:X.env.qual++"<lambda>"=q)(uu:closureFor sc X.env=pure [(y,c)])
  (nI:X.env.cells.lookup y=some c) (hj:X.N[j]? = some y) (qj:X.env.scope.names.lookup y=some .cell) (wV:X.A.in1.in1.depth<recursionLimit) (hb:∀f c' s H,PE (rO X X.A.in1.in1 x y q sc f (.ref c') [(y,c)] s H) body (te f c' s H))
  (zA:defaultsOf args X.env=([],[]):=by rfl) (hg:Gl X "sorted":=by rfl) (hs:Y1 X a:=by rfl)
  (h1:backTo pos (starEach [a] X.env)=(false,eval a X.env)::backTo pos (starEach [] X.env):=by rfl) (h2:(backTo pos (starEach [a] X.env)).any (·.1)=false:=by rfl)
  (h3:(backToKw pos (keywordEach [⟨some "key",.Lambda args body sc jO,kp⟩] X.env)).all (·.1.isSome)=true:=by rfl) (h4:(backToKw pos (keywordEach [⟨some "key",.Lambda args body sc jO,kp⟩] X.env)).any (·.1.isNone)=false:=by rfl)
  (h5:(backToKw pos (keywordEach [⟨some "key",.Lambda args body sc jO,kp⟩] X.env)).filterMap (·.1)=[("key":Str)]:=by rfl) :
  PE X (.Call (.Name "sorted" p) [a] [⟨some "key",.Lambda args body sc jO,kp⟩] pos) (tSK X.K j ta te):=by
 exists 44;refine afJ (qH I hg hm (show bootBuiltins "sorted"=some (.builtin "sorted") by decide +kernel) ?_ (by decide) (by decide));refine callWith_kw ?_ h1 h2 h3 h4;rw[h5];refine Ca (cP ha eW hs pos af s σ H (λvs H1=>match vs with|[x]=>Sb X.K j te σ Q x H1|_=>False) I h) λus s1 vs H1 I1 rv q1=>?_
 rcases vs with _|⟨x,_|⟨x2,r2⟩⟩
 .exact q1.elim
 .obtain⟨u,rfl,ru⟩:=vals1 rv;obtain⟨p,ns,pr,v1,rfl,o7,ly,nd,hv,ht,hQ⟩:=q1;cases ru;refine kws_cons (adS I1 lk sh zA uu hq λf c' iR pm H' s' J sm hc=>kws_nil ?_);refine afD J S hc nI hj hv qj wV hb (o7.elim (λz=>.inl (z.elim (λz=>.inl (sm _ _ z)) λ⟨o,z⟩=>.inr ⟨o,sm _ _ z⟩)) .inr) ly nd (λs H3 yR=>ht f c' s H3 (sm.trans yR)) λHf D eB s1 n1=>hQ Hf D eB (sm.trans s1) ?_
  cases e:H1 D with
  |none=>rfl
  |some o=>have:=sm D o e;rw[n1] at this;cases this
 .exact q1.elim
end
end L2
namespace L2.Ev
open PySem PySem.Spec PyProof.Rows
def vt(pr:Int->Int×Int)(x:Int):List Int->List Int
 |[]=>[x]
 |y::r=>if lex (pr x) (pr y)=true then x::y::r else y::vt pr x r
def jr(pr:Int->Int×Int):List Int->List Int
 |[]=>[]
 |x::r=>vt pr x (jr pr r)
theorem Fp(x:Int):∀l:List Int,(vt pr x l).Perm (x::l)
 |[]=>.refl _
 |y::r=>by
  unfold vt
  split
  .exact .refl _
  .exact((Fp x r).cons y).trans (.swap x y r)
theorem yp:∀l:List Int,(jr pr l).Perm l
 |[]=>.refl _
 |x::r=>(Fp x (jr pr r)).trans ((yp r).cons x)
theorem lex_trans(h:lex a b=true)(g:lex b c=true):lex a c=true:=by
 have h:=aa9 h;have g:=aa9 g;exact aaA (by lia)
theorem acK(h:a≠b)(g:¬lex a b=true):lex b a=true:=by
 have n2:¬(a.1=b.1/\a.2=b.2):=λz=>h (Prod.ext z.1 z.2)
 have g:¬(a.1<b.1\/a.1=b.1/\a.2<b.2):=λz=>g (aaA z)
 exact aaA (by omega)
theorem K4(x:Int):∀{l},(∀y∈l,pr x≠pr y)->l.Pairwise (λa b=>lex (pr a) (pr b)=true)->(vt pr x l).Pairwise (λa b=>lex (pr a) (pr b)=true)
 |[],_,_=>List.pairwise_singleton _ _
 |y::r,n,h=>by
  obtain⟨h1,h2⟩:=adV.mp h;unfold vt
  split
  .rename_i hx;exact adV.mpr ⟨λz m=>(aaQ.mp m).elim (λe=>e ▸ hx) λm=>lex_trans hx (h1 z m),h⟩
  .rename_i hx;refine adV.mpr ⟨λz m=>?_,K4 x (λy m=>n y (aaf _ m)) h2⟩;rcases aaQ.mp ((Fp x r).mem_iff.mp m) with e|m
   .rw[e];exact acK (n y aak) hx
   .exact h1 z m
theorem Se:∀{l},(l.map pr).Nodup->(jr pr l).Pairwise (λa b=>lex (pr a) (pr b)=true)
 |[],_=>.nil
 |x::r,n=>by
  rw[aan] at n;obtain⟨n1,n2⟩:=abZ.mp n;exact K4 x (λy m e=>n1 (ab1.mpr ⟨y,(yp r).mem_iff.mp m,e.symm⟩)) (Se n2)
theorem aeH(p:a.Perm b)(n:(b.map pr).Nodup)(s:a.Pairwise (λa b=>lex (pr a) (pr b)=true)):a=jr pr b:=by
 have q:a.Perm (jr pr b):=p.trans (yp b).symm;refine q.eq_of_pairwise (λx y _ _ h1 h2=>?_) s (Se n);have h1:=aa9 h1;have h2:=aa9 h2
 lia
noncomputable def sX(fb:EF)(dc:D)(n:Int):Option (Int×Int):=match fb [some (.int n,.own),some (dc,.sh [])] with
 |some (.tup [.int a,.int b],_)=>some (a,b)
 |_=>none
def vO(fb:EF)(dc:D)(n:Int):Int×Int:=(sX fb dc n).getD (0,0)
def HV(j:Nat)(fa fb:EF):EF:=λρ=>match fa ρ,ρ[j]? with
 |some (.lst ds,_),some (some (dc,_))=>match dY ds with
  |some ns=>if ns.length<64/\(ns.map (vO fb dc)).Nodup/\∀n∈ns,(sX fb dc n).isSome=true then some (.lst ((jr (vO fb dc) ns).map D.int),.own) else none
  |none=>none
 |_,_=>none
theorem YT(j:Nat)(hm:X.mg "sorted"=none)(ha:FP X a fa)(S:BF sc args x y)(lk:X.K.lookup f0=some o0)(sh:vp o0=some (X.env.code,q,jO))(wV:X.A.in1.in1.depth<recursionLimit)
  (hb:∀f c' s H,FP (rO X X.A.in1.in1 x y q sc f (.ref c') [(y,c)] s H) body fb) (hq:X.env.qual++"<lambda>"=q:=by rfl) (uu:closureFor sc X.env=pure [(y,c)]:=by rfl)
  (nI:X.env.cells.lookup y=some c:=by rfl) (hj:X.N[j]? = some y:=by rfl) (qj:X.env.scope.names.lookup y=some .cell:=by rfl)
  (zA:defaultsOf args X.env=([],[]):=by rfl) (hg:Gl X "sorted":=by rfl) (hs:Y1 X a:=by rfl)
  (h1:backTo pos (starEach [a] X.env)=(false,eval a X.env)::backTo pos (starEach [] X.env):=by rfl) (h2:(backTo pos (starEach [a] X.env)).any (·.1)=false:=by rfl)
  (h3:(backToKw pos (keywordEach [⟨some "key",.Lambda args body sc jO,kp⟩] X.env)).all (·.1.isSome)=true:=by rfl) (h4:(backToKw pos (keywordEach [⟨some "key",.Lambda args body sc jO,kp⟩] X.env)).any (·.1.isNone)=false:=by rfl)
  (h5:(backToKw pos (keywordEach [⟨some "key",.Lambda args body sc jO,kp⟩] X.env)).filterMap (·.1)=[("key":Str)]:=by rfl) :
  FP X (.Call (.Name "sorted" p) [a] [⟨some "key",.Lambda args body sc jO,kp⟩] pos) (HV j fa fb):=by
 obtain⟨ta,pa,sa⟩:=ha;refine⟨_,Wa hm pa S lk sh hq uu nI hj qj wV (λf c' s H=>(hb f c' s H).choose_spec.1) zA hg hs h1 h2 h3 h4 h5,@λH0 S' z aq ρ σ H Q d tg ok e k=>?_⟩;unfold HV at e
 split at e
 .rename_i ds t1 dc t2 e1 e2
  split at e
  .rename_i ns uq
   split at e
   .rename_i hc;cases e;obtain⟨ly,nd,hk⟩:=hc;refine sa ok e1 λH1 v fp s1 r1 g1=>?_
    obtain⟨l,xs,f',rfl,o7,rs,_⟩:=r1.dZ;have ex:=rH rs uq;subst ex;obtain⟨vc,fc,hvc,rc,_⟩:=ok.sl j dc t2 e2;refine⟨l,ns,vO fb dc,vc,rfl,o7,ly,nd,hvc,λf c' s H3 s3 n mn=>?_,λHf D eB sf nD hD pm st=>?_⟩
    .obtain⟨kk,ek⟩:=agv.mp (hk n mn);have Cj:=ek;unfold sX at Cj
     split at Cj
     .rename_i a b tb eb;cases Cj;have iV:Ok X.K H3 [] (λ_=>none) [] [some (.int n,.own),some (dc,.sh [])] [some (.int n),some vc] H3:=by
       refine⟨λi d t e=>?_,(λp m=>nomatch m),(λa j e=>nomatch e),λa o e _=>e,rfl⟩
       match i,e with
       |0,e=>cases e;exact⟨_,[],rfl,.int n,acm,λa m=>nomatch m⟩
       |1,e=>cases e;exact⟨vc,fc,rfl,(rc.same s1).same s3,λa m j e=>nomatch e⟩
       |i+2,e=>exact absurd e (by simp)
      refine(hb f c' s H3).choose_spec.2 iV eb λH4 v fp s4 r4 _=>?_
      obtain⟨w,xs,rfl,hw,eU⟩:=r4.jh;refine⟨w,rfl,?_,s4⟩;have e1:(vO fb dc n)=(a,b):=by unfold vO;rw[ek];rfl
      rw[e1];cases eU with
      |cons h1 r=>cases r with
       |cons h2 r=>cases r;cases h1;cases h2;exact hw
     .cases Cj
    .have eq:=aeH pm nd st;subst eq;refine k Hf _ [D] (s1.trans sf) (.lst hD (v8 _)) ⟨abZ.mpr ⟨(λm=>nomatch m),acm⟩,λa m=>?_⟩;cases aaB.mp m;exact s1.free nD
   .cases e
  .cases e
 .cases e
def FY(X:Cx)(e:Expr)(f:XF):Prop:=∃t,PE X e t/\∀{H0} {S} {z} {aq} {ρ} {σ} {H} {Q} {d} {ρ'},
 Ok X.K H0 S z aq ρ σ H->f ρ=some (d,ρ')->(∀z' H' v,Ok X.K H0 S z' aq ρ' σ H'->aX H H'->Rep X.K H' d v []->Q v H')->t σ H Q
theorem FY.fz(h:FY X e f):FZ X e f:=let⟨t,p,q⟩:=h;⟨t,p,@λH0 S z aq ρ σ H Q d ρ' ok e k=>q ok e λz' H' v o _ r=>k z' H' v o r⟩
theorem Ct(i:Nat)(hC:ClsAt X.K cn C)(hm:kc X.K C m fa)(GG:bU X.prog X.w X.K X.mg X.base c_ k fa fd ps (dM X.K G))(hr:bh k X.A)(hb:Binds X.K fd ps [])(ha:FA X (e::es) g)(va:VA X i x:=by walk_at "va")
  (cV:SE X e es pos:=by exact⟨rfl,rfl⟩)
  (ht:vS X (.Name x p1) m apos (e::es) pos pl:=by exact rfl):FY X (.Call (.Attribute (.Name x p1) m apos) (e::es) [] pos) (xO i cn m G g):=by
 obtain⟨ta,pa,_,qa⟩:=ha;refine⟨_,Bo va.pe hC.cl hm GG hr hb .nil m6 pa cV.1 cV.2 ht,@λH0 S z aq ρ σ H Q d ρ' ok e0 kk=>?_⟩;obtain⟨sU,qs,d1,h1,h2,hm,nY,hG,rfl⟩:=Rf e0;obtain⟨v,bH,hs,r0,zz⟩:=ok.sl i _ _ h1;refine⟨v,hs,?_⟩;obtain⟨b,dx,fs,gf,rfl,EE,h4,h5,h6,h7⟩:=r0.lM hC.ns;refine⟨b,dx,fs,rfl,h4,qX h6 hm,?_⟩;refine qa ok h2 λH2 vs l6 s2 r2 g2=>?_
 rw[acI];refine⟨b,vs,_,bH,_,l6,d,d1,rfl,r0.same s2,zz.1,r2,Ez ok nY g2 zz,hG,λH3 u bQ im kp r1 nd fr rr=>?_⟩;obtain⟨z',iV⟩:=(ok.same s2).put h1 hs zz im kp r1 nd fr;exact kk z' H3 u iV ((aX.of s2).trans im) rr
def Bq(i:Nat)(cn fl h_ m:Str)(G:MF)(g:AF):XF:=λρ=>match ρ[i]?,g ρ with
 |some (some (.ins c es,.own)),some ps=>match es.lookup fl with
  |some (.ins c2 g7)=>if c=cn/\c2=h_/\g7.lookup m=none/\apart i ps=true then(G (.ins c2 g7) (ps.map (·.1))).map λw=>(w.1,bT ρ i (.ins c (dR fl w.2 es))) else none
  |_=>none
 |_,_=>none
theorem aa1(i:Nat)(hC:ClsAt X.K cn C)(na:jj X.K C fl)(yJ:ClsAt X.K h_ C2)(hm:kc X.K C2 m fa)(GG:bU X.prog X.w X.K X.mg X.base c_ k fa fd ps (dM X.K G))(hr:bh k X.A)(hb:Binds X.K fd ps [])(ha:FA X (e::es) g)(va:VA X i x:=by walk_at "va")
  (A2:attributeBase (.Name x p1) fl X.env (eval (.Name x p1) X.env)=eval (.Name x p1) X.env:=by rfl)
  (cV:SE X e es pos:=by exact⟨rfl,rfl⟩)
  (ht:vS X (.Attribute (.Name x p1) fl p2) m apos (e::es) pos pl:=by exact rfl):FY X (.Call (.Attribute (.Attribute (.Name x p1) fl p2) m apos) (e::es) [] pos) (Bq i cn fl h_ m G g):=by
 obtain⟨ta,pa,_,qa⟩:=ha;refine⟨_,Bo (v7 va.pe A2) yJ.cl hm GG hr hb .nil m6 pa cV.1 cV.2 ht,@λH0 S z aq ρ σ H Q d ρ' ok e0 kk=>?_⟩;unfold Bq at e0
 split at e0
 .rename_i c es1 qs h1 h2
  split at e0
  .rename_i c2 g7 hl
   by_cases hc:c=cn/\c2=h_/\g7.lookup m=none/\apart i qs=true
   .rw[if_pos hc] at e0;obtain⟨rfl,rfl,hlm,nY⟩:=hc;obtain⟨w,hG,ew⟩:=acy.mp e0;cases ew;obtain⟨v,bH,hs,r0,zz⟩:=ok.sl i _ _ h1;refine⟨v,hs,?_⟩;obtain⟨b0,dx,fs,u,gf,rfl,a1,a2,a3,a4,a5,a6⟩:=r0.place hC.ns zz.1 hl;refine⟨b0,C,dx,fs,u,rfl,a1,hC.cl,na,a2,?_⟩;obtain⟨b,Xp,UM,g2,rfl,EE,c4,c5,c6,c7⟩:=a3.lM yJ.ns;refine⟨b,Xp,UM,rfl,c4,qX c6 hlm,?_⟩;refine qa ok h2 λH2 vs l6 s2 r2 gg=>?_
    rw[acI];refine⟨b,vs,_,gf,_,l6,w.1,w.2,rfl,a3.same s2,a4,r2,λx m n=>Ez ok nY gg zz x m (a5 x n),hG,λH3 u' bQ im kp r1 nd fr rr=>?_⟩;have i3:=(aX.of s2).trans im;have k3:∀b o,b∉gf->H b=some o->H3 b=some o:=λb o n e=>kp b o n (s2 b o e)
    obtain⟨Dk,k1,k2,k4⟩:=a6 H3 w.2 bQ i3 k3 r1 nd λb m=>(fr b m).imp id s2.free
    obtain⟨z',iV⟩:=ok.put h1 hs zz i3 (λb o n e=>k3 b o (λm=>n (a5 b m)) e) k1 k2 k4;exact kk z' H3 u' iV i3 rr
   .rw[if_neg hc] at e0;cases e0
  .cases e0
 .cases e0
noncomputable def tZ(f:XF):aN->Option (Bool×aN):=λρ=>match f ρ with
 |some (.bl b,ρ')=>some (b,ρ')
 |_=>none
theorem ZU(h:FZ X a f)(he:∀whole,isTrue a X.env whole=(do let v <- whole;standAt a.pos;holding [v] (truthy v)):=by intro _;rfl):pO X a (tZ f):=by
 obtain⟨t,p,q⟩:=h;exists 26,IY p he;unfold tZ at e
 split at e
 .rename_i c' aR h1;cases e;refine q ok h1 λz' H' v aS r=>?_
  cases r;exact⟨_,rfl,k z' H' aS⟩
 .cases e
noncomputable def k_(c:aN->Option (Bool×aN))(f:SF):Nat->SF
 |0,_=>none
 |n+1,ρ=>match c ρ with
  |some (false,aR)=>some (.nx aR)
  |some (true,aR)=>match f aR with
   |some (.nx ρ')=>k_ c f n ρ'
   |_=>none
  |none=>none
theorem UD(n:Nat)(hc:pO X c tc)(hb:FS X body fb)(hp:PassesOwn (model X.prog X.w) X.A X.env X.xe:=by exact PassesOwn.never):eT X (.While c body [] pos) (k_ tc fb n):=by
 obtain⟨t,p,q⟩:=hc;obtain⟨tb,pb,qb⟩:=hb;exists 23,L7 hp p pb;refine⟨λm az H'=>∃z' ρ',Ok X.K H0 S z' aq ρ' az H'/\k_ tc fb m ρ'=some o/\Kp X σ az,⟨n,z,ρ,ok,e,.refl _ _⟩,?_⟩
 rintro m az H' ⟨z',ρ',aS,e',kp⟩
 cases m with
 |zero=>cases e'
 |succ m=>
  unfold k_ at e'
  split at e'
  .rename_i aR hc;cases e';refine q aS hc λz1 H1 bB=>?_
   rw[if_neg abu];exact k z1 az H1 bB kp
  .rename_i aR hc;refine q aS hc λz1 H1 bB=>?_
   rw[if_pos rfl]
   split at e'
   .rename_i bg hf;refine⟨λiw H2=>∃z2 bg,Ok X.K H0 S z2 aq bg iw H2/\k_ tc fb m bg=some o/\Kp X σ iw,λiw H2 hn=>⟨m,agS m,hn⟩,?_⟩;exact qb bB hf λz3 cQ H3 iP b=>⟨z3,bg,iP,e',kp.trans b⟩
   .cases e'
  .cases e'
noncomputable def vP(f g:XF):XF:=λρ=>match f ρ with
 |some (.bl true,ρ')=>some (.bl true,ρ')
 |some (.bl false,ρ')=>match g ρ' with
  |some (.bl b,bg)=>some (.bl b,bg)
  |_=>none
 |_=>none
theorem Sw(ha:FZ X a f)(hb:FZ X b g):FZ X (.BoolOp .Or [a,b] pos) (vP f g):=by
 exists 58;obtain⟨t',p',q'⟩:=hb;exists 27,P_ p (O0 p');unfold vP at e
 split at e
 .rename_i aR h;cases e;refine q ok h λz1 H1 v bB r1=>?_
  cases r1;refine⟨true,rfl,?_⟩;rw[if_pos rfl];exact k z1 H1 _ bB (.bl _)
 .rename_i aR h
  split at e
  .rename_i c bg h2;cases e;refine q ok h λz1 H1 v bB r1=>?_
   cases r1;refine⟨false,rfl,?_⟩;rw[if_neg abu];exact q' bB h2 k
  .cases e
 .cases e
section
variable{K:PySem.W.Frag}
theorem Ru(h:cj K H a (ks.map L2.kV))(ni:pW K=true)(hi:ks.all (λk=>k.isLeft)=true)(hn:ks≠[]):Tk H a (ks.map L2.kV):=by
 rcases h with(h|⟨o,h⟩)|⟨o,au,n,hk,_,_,hd,_,rv⟩
 .exact⟨.tup _,rfl,h⟩
 .exact⟨.uN o _,rfl,h⟩
 .exfalso
  have q:=adf.mp ni (a,o) (Cy hk);dsimp only at q;rw[hd] at q;have len:=rv.length;have go:∀{ks:List Key} {vs},ks.all (λk=>k.isLeft)=true->aT (ks.map L2.kV) vs->∀v∈vs,∃i t,v=Value.int i t:=by
   intro ks
   induction ks with
   |nil=>intro vs _ r v m;cases r;cases m
   |cons k ks ih=>
    intro vs h r v m;obtain⟨h1,h2⟩:=(abe _ _).mp (by simpa only[ahg] using h);cases r with
    |cons r1 r2=>
     rcases aaQ.mp m with e|m
     .subst e;cases k with
      |inr _=>cases h1
      |inl i=>obtain⟨t,e⟩:=(show RelV (.int i) _ from r1);exact⟨i,t,e⟩
     .exact ih h2 r2 v m
  rcases(ahi _ _).mp (show(au.size==0||au.toList.any _)=true from q) with z|z
  .have z:au.size=0:=by simpa using z
   simp only[List.length_map,ae0] at len;exact hn (agV (len.trans z))
  .obtain⟨v,mv,e⟩:=ad9.mp z;obtain⟨i,t,rfl⟩:=go hi rv v mv;cases e
theorem Tk.aC(h:Tk H a xs)(i:aX H H'):Tk H' a xs:=by
 obtain⟨t,e1,e2⟩:=h;cases t with
 |tup ys=>exact⟨.tup ys,e1,i.1 _ _ e2⟩
 |uN o ys=>exact⟨.uN o ys,e1,i.2.1 _ _ _ e2⟩
 |iE _ _=>cases e1
 |ja _=>cases e1
variable[DecidableEq κ]
theorem wZ:∀{es:List (κ×α)},k∉es.map (·.1)->(es.map λkv=>if kv.1=k then(kv.1,d) else kv)=es
 |[],_=>rfl
 |(q,x)::es,n=>by
  rw[aan] at n ⊢;rw[if_neg (λe=>n (by rw[e];exact aak)),wZ λm=>n (aaf _ m)]
theorem aB.MU:∀{es}{ak:List (κ×V)} {g},es.map (·.1)=ak.map (·.1)->aB K H (es.map (·.2)) (ak.map (·.2)) g->g.Nodup->(es.map (·.1)).Nodup->bA es k=some d0->
  ∃v gf,eK ak k=some v/\Rep K H d0 v gf/\gf.Nodup/\(∀a∈gf,a∈g)/\∀(H') (d1) (g1),aX H H'->(∀b o,b∉gf->b∈g->H b=some o->H' b=some o)->Rep K H' d1 v g1->g1.Nodup->(∀b∈g1,b∈gf\/H b=none)->
   ∃g',aB K H' ((putD es k d1).map (·.2)) ((putK ak k v).map (·.2)) g'/\g'.Nodup/\∀b∈g',b∈g\/H b=none
 |[],_,_,_,_,_,_,e=>by cases e
 |_::_,[],_,k,_,_,_,_=>by simp at k
 |(x,d)::es,(y,v0)::ak,_,hk,r,nd,kd,e=>by
  simp only[aan,afP] at hk;obtain⟨rfl,hk⟩:=hk;rw[aan] at kd;obtain⟨N2,kd2⟩:=abZ.mp kd;have any:∀{α}{l:List (κ×α)}{d:α},k∈l.map (·.1)->(l.any λkv=>decide (kv.1=k))=true:=λ{α l d} m=>by
   obtain⟨p,m1,m2⟩:=ab1.mp m;exact ad9.mpr ⟨p,m1,aaA m2⟩
  cases r with
  | @cons _ _ _ _ f1 f2 r1 r2=>
   obtain⟨a1,a2,a3⟩:=ac3.mp nd
   by_cases hx:x=k
   .subst hx;have e1:bA ((x,d)::es) x=some d:=by simp[bA,adN]
    rw[e1] at e;obtain rfl:d=d0:=ab4 e;refine⟨v0,f1,wm rfl,r1,a1,λa m=>abp _ m,λH' d1 g1 im kp rr n1 fr=>?_⟩;refine⟨g1++f2,?_,ac3.mpr ⟨n1,a2,λa ma b mb e=>?_⟩,λb m=>?_⟩
    .have er:putD ((x,d)::es) x d1=(x,d1)::es:=by
      unfold putD;rw[any (d:=d1) (by simp),if_pos rfl,aan,wZ N2,if_pos rfl]
     have ev:putK ((x,v0)::ak) x v0=(x,v0)::ak:=by
      unfold putK;rw[any (d:=v0) (by simp),if_pos rfl,aan,wZ (show x∉ak.map (·.1) by rw[<- hk];exact N2),if_pos rfl]
     rw[er,ev,aan,aan];refine .cons rr (r2.frame (λa m=>?_) im);obtain⟨o,w,_⟩:=r2.cB a m;rw[kp a o (λq=>a3 a q a m rfl) (aaw _ m) w,w]
    .subst e;obtain⟨o,w,_⟩:=r2.cB a mb;rcases fr a ma with q|q
     .exact a3 a q a mb rfl
     .rw[q] at w;cases w
    .rcases abB.mp m with m|m
     .exact(fr b m).imp (abp _) id
     .exact .inl (aaw _ m)
   .have e1:bA ((x,d)::es) k=bA es k:=by simp[bA,adN,hx]
    rw[e1] at e;obtain⟨v,gf,h1,h2,h3,h4,h5⟩:=aB.MU hk r2 a2 kd2 e;have mk:k∈es.map (·.1):=by
     unfold bA at e;obtain⟨p,e2,e3⟩:=acy.mp e;exact ab1.mpr ⟨p,agL e2,aa9 (show decide (p.1=k)=true from ahj (p:=λkv:κ×D=>decide (kv.1=k)) e2)⟩
    refine⟨v,gf,by rw[yG hx];exact h1,h2,h3,λa m=>aaw _ (h4 a m),λH' d1 g1 im kp rr n1 fr=>?_⟩;obtain⟨g',c1,c2,c3⟩:=h5 H' d1 g1 im (λb o n m e=>kp b o n (aaw _ m) e) rr n1 fr;refine⟨f1++g',?_,ac3.mpr ⟨a1,c2,λa ma b mb e=>?_⟩,λb m=>?_⟩
    .have er:(putD ((x,d)::es) k d1)=(x,d)::putD es k d1:=by
      unfold putD;rw[any (d:=d1) (l:=(x,d)::es) (aaf _ mk),any (d:=d1) mk,if_pos rfl,if_pos rfl,aan,if_neg hx]
     have ev:(putK ((x,v0)::ak) k v)=(x,v0)::putK ak k v:=by
      unfold putK;rw[any (d:=v) (by rw[aan,<- hk];exact aaf _ mk),any (d:=v) (by rw[<- hk];exact mk),if_pos rfl,if_pos rfl,aan,if_neg hx]
     rw[er,ev,aan,aan];refine .cons (r1.frame (λa m=>?_) im) c1;obtain⟨o,w,_⟩:=r1.cB a m;rw[kp a o (λq=>a3 a m a (h4 a q) rfl) (abp _ m) w,w]
    .subst e;obtain⟨o,w,_⟩:=r1.cB a ma;rcases c3 a mb with q|q
     .exact a3 a ma a q rfl
     .rw[q] at w;cases w
    .rcases abB.mp m with m|m
     .exact .inl (abp _ m)
     .exact(c3 b m).imp (aaw _) id
theorem Ok.blank(ok:Ok K H0 S z aq ρ σ H)(h:ρ[i]? = some none):Ok K H0 S z aq ρ (σ.set i x) H:=
 ⟨λj d t e=>by
  have ne:i≠j:=λz=>by rw[<- z,h] at e;cases e
  obtain⟨v,fp,a,b,c⟩:=ok.sl j d t e;exact⟨v,fp,by rw[acY ne];exact a,b,c⟩,ok.hl,ok.zd,ok.en,by rw[ags];exact ok.ln⟩
end
noncomputable def zU(cn:Str):Option Slot->Option (List (Str×D))
 |some (some (.ins c es,.own))=>if c=cn then some es else none
 |_=>none
noncomputable def F0:Option Slot->Option (List D)
 |some (some (.tup ls,_))=>some ls
 |_=>none
noncomputable def Ew:Option Slot->Option Str
 |some (some (.str w,_))=>some w
 |_=>none
noncomputable def DF:Option D->Option (List (List Key×D))
 |some (.cY l)=>some l
 |_=>none
theorem Mr:∀{x} {es},zU cn x=some es->x=some (some (.ins cn es,.own)):=by
 rintro(_|_|⟨d,t⟩) es e
 any_goals cases e
 cases d
 any_goals cases e
 cases t
 any_goals cases e
 exact(Option.ite_none_right_eq_some.mp e).elim λa b=>by cases a;cases b;rfl
theorem V0:∀{x} {ls},F0 x=some ls->∃t,x=some (some (.tup ls,t)):=by
 rintro(_|_|⟨d,t⟩) es e
 any_goals cases e
 cases d
 all_goals cases e
 exact⟨_,rfl⟩
theorem Sl:∀{x} {w},Ew x=some w->∃t,x=some (some (.str w,t)):=by
 rintro(_|_|⟨d,t⟩) es e
 any_goals cases e
 cases d
 all_goals cases e
 exact⟨_,rfl⟩
theorem ac8:∀{x} {l},DF x=some l->x=some (.cY l):=by
 rintro(_|d) es e
 any_goals cases e
 cases d
 all_goals cases e
 rfl
def uR(cn fl h_ m:Str)(ft:EF)(G:MF):SF:=λρ=>
 (zU cn ρ[0]?).bind λes=>(F0 ρ[1]?).bind λls=>(Ew ρ[2]?).bind λwd=>(DF (es.lookup fl)).bind λak=>(iG ls).bind λks=>(ft ρ).bind λdn=>
  (zU h_ (some (some ((bA ak ks).getD dn.1,dn.2)))).bind λg7=>(G (.ins h_ g7) [.str wd]).bind λr=>
   if ρ[3]?.any Option.isNone=true/\g7.lookup m=none/\ks.all (λk=>k.isLeft)=true/\ks≠[]/\(ak.map (·.1)).Nodup/\ak.length<sizeLine/\aC r.1=true then some (.nx (iD (bT ρ 0 (.ins cn (dR fl (.cY (putD ak ks r.2)) es))) 4 r.1 .own)) else none
theorem adp(e:uR cn fl h_ m ft G ρ=some w):∃es ls lt wd wt ak ks dn g7 r d1,ρ[0]? = some (some (.ins cn es,.own))/\ρ[1]? = some (some (.tup ls,lt))/\ρ[2]? = some (some (.str wd,wt))/\ρ[3]? = some none/\es.lookup fl=some (.cY ak)/\iG ls=some ks/\ft ρ=some (dn,.own)/\
  (bA ak ks).getD dn=.ins h_ g7/\g7.lookup m=none/\ks.all (λk=>k.isLeft)=true/\ks≠[]/\(ak.map (·.1)).Nodup/\ak.length<sizeLine/\G (.ins h_ g7) [.str wd]=some (r,d1)/\aC r=true/\w=.nx (iD (bT ρ 0 (.ins cn (dR fl (.cY (putD ak ks d1)) es))) 4 r .own):=by
 obtain⟨es,h1,e⟩:=aeN.mp e;obtain⟨ls,h2,e⟩:=aeN.mp e;obtain⟨wd,h3,e⟩:=aeN.mp e;obtain⟨ak,h4,e⟩:=aeN.mp e;obtain⟨ks,h5,e⟩:=aeN.mp e;obtain⟨dn,h6,e⟩:=aeN.mp e;obtain⟨g7,h7,e⟩:=aeN.mp e;obtain⟨⟨r,d1⟩,h8,e⟩:=aeN.mp e;obtain⟨⟨a0,a1,a2,a3,a4,a5,a6⟩,e⟩:=Option.ite_none_right_eq_some.mp e;obtain⟨t2,h2⟩:=V0 h2;obtain⟨t3,h3⟩:=Sl h3;have h7:=Mr h7;have a0:ρ[3]? = some none:=by
  rcases h:ρ[3]? with _|_|_<;>rw[h] at a0<;>first|rfl|cases a0
 cases e;injection h7 with h7;injection h7 with h7;injection h7 with h7 h9;exact⟨es,ls,t2,wd,t3,ak,ks,dn.1,g7,r,d1,Mr h1,h2,h3,a0,ac8 h4,h5,by rw[h6,<- h9],h7,a1,a2,a3,a4,a5,h8,a6,rfl⟩
theorem TV(h0:ρ[0]? = some (some (.ins cn es,.own)))(h1:ρ[1]? = some (some (.tup ls,lt)))(h2:ρ[2]? = some (some (.str wd,wt)))(h3:ρ[3]? = some none)(h4:es.lookup fl=some (.cY ak))(h5:iG ls=some ks)(h6:ft ρ=some (dn,.own))(h7:(bA ak ks).getD dn=.ins h_ g7)(h8:G (.ins h_ g7) [.str wd]=some (r,d1))
  (hc:g7.lookup m=none/\ks.all (λk=>k.isLeft)=true/\ks≠[]/\(ak.map (·.1)).Nodup/\ak.length<sizeLine/\aC r=true):uR cn fl h_ m ft G ρ=some (.nx (iD (bT ρ 0 (.ins cn (dR fl (.cY (putD ak ks d1)) es))) 4 r .own)):=by
 unfold uR zU F0 Ew DF;simp only[h0,h1,h2,h3,h4,h5,h6,h7,h8,adb,if_pos];exact if_pos ⟨rfl,hc⟩
section
variable{cn fl h_ m x0 x1 x2 x3 x4:Str}{rest:List Stmt}
set_option maxHeartbeats 1000000 in
theorem Vp(hu:X.A.units+1<cLine)(ni:pW X.K=true)(hC:ClsAt X.K cn C)(na:jj X.K C fl)(yJ:ClsAt X.K h_ C2)(hm:kc X.K C2 m fa)(GG:bU X.prog X.w X.K X.mg X.base c_ k fa fd ps (dM X.K G))(hr:bh k X.A)(hb:Binds X.K fd ps [])
  (hT:FP X tc ft) (x6:FM X rest g) (hN:X.N.Nodup) (a0:VA X 0 x0:=by walk_at "va") (a1:VA X 1 x1:=by walk_at "va") (a2:VA X 2 x2:=by walk_at "va") (a3:VA X 3 x3:=by walk_at "va") (h4:X.N[4]? = some x4:=by rfl)
  (v3:Loc X.env.scope x3:=by first|exact Or.inl rfl|exact Or.inr rfl) (v4:Loc X.env.scope x4:=by first|exact Or.inl rfl|exact Or.inr rfl)
  (A2:attributeBase (.Name x0 p1) fl X.env (eval (.Name x0 p1) X.env)=eval (.Name x0 p1) X.env:=by rfl) (Zg:attributeBase (.Name x0 q1) fl X.env (eval (.Name x0 q1) X.env)=eval (.Name x0 q1) X.env:=by rfl)
  (mm:M2 X (.Attribute (.Name x0 p1) fl p2) "get" p3 (.Name x1 p4) tc p5:=by exact⟨rfl,rfl,rfl,rfl⟩)
  (s1:swapsWith (.Call (.Attribute (.Attribute (.Name x0 p1) fl p2) "get" p3) [.Name x1 p4,tc] [] p5) (some (.Name x3 p6)) p7.line X.env=pure false:=by rfl)
  (s2:swapsWith (.Call (.Attribute (.Name x3 q2) m q3) [.Name x2 q4] [] q5) (some (.Name x4 p8)) p9.line X.env=pure false:=by rfl)
  (s3:swapsWith (.Name x3 q6) (some (.Subscript (.Attribute (.Name x0 q1) fl q7) (.Name x1 q8) q9)) r1.line X.env=pure false:=by rfl)
  (f3:z5 X x3:=by first|exact .inl rfl|exact .inr rfl) (f4:z5 X x4:=by first|exact .inl rfl|exact .inr rfl) (k3:j8 X x3=false:=by rfl) (k4:j8 X x4=false:=by rfl)
  (cV:starEach [.Name x2 q4] X.env=[(false,eval (.Name x2 q4) X.env)]:=by rfl)
  (ht:eval (.Call (.Attribute (.Name x3 q2) m q3) [.Name x2 q4] [] q5) X.env=(do
   let ov <- eval (.Name x3 q2) X.env
   standAt q3.atName
   let(f,first) <- holding [ov] (getMethod ov m pl)
   callWith q5 f first (backTo q5 (starEach [.Name x2 q4] X.env)) (backToKw q5 (keywordEach [] X.env))):=by rfl) :
  FM X (.Assign [.Name x3 p6] (.Call (.Attribute (.Attribute (.Name x0 p1) fl p2) "get" p3) [.Name x1 p4,tc] [] p5) p7::.Assign [.Name x4 p8] (.Call (.Attribute (.Name x3 q2) m q3) [.Name x2 q4] [] q5) p9::.Assign [.Subscript (.Attribute (.Name x0 q1) fl q7) (.Name x1 q8) q9] (.Name x3 q6) r1::rest) (bZ (uR cn fl h_ m ft G) g):=by
 obtain⟨tT,pT,sT⟩:=hT;obtain⟨tr,pr,sr⟩:=x6;refine⟨_,yF (Cm hN a3.N v3 (GC hu (v7 a0.pe A2) a1.pe pT mm) s1 f3)
  (yF (Cm hN h4 v4 (Bo a3.pe yJ.cl hm GG hr hb .nil m6 (cP a2.pe eW cV) cV rfl ht) s2 f4)
  (yF (BB hu (v7 a0.pe Zg) a1.pe a3.pe s3) pr)),@λH0 S z aq ρ σ H E o ok e kE=>?_⟩
 cases hw:uR cn fl h_ m ft G ρ with
 |none=>unfold bZ at e;rw[hw] at e;cases e
 |some w=>
  obtain⟨es,ls,lt,wd,wt,ak,ks,dn,g7,r,d1,e0,e1,e2,e3,Yw,Yl,eft,vZ,elm,J8,tR,knd,hlen,eG,hir,rfl⟩:=adp hw;have e:g (iD (bT ρ 0 (.ins cn (dR fl (.cY (putD ak ks d1)) es))) 4 r .own)=some o:=by unfold bZ at e;rw[hw] at e;exact e
  obtain⟨v,bH,hs,r0,zz⟩:=ok.sl 0 _ _ e0;obtain⟨vl,E2,LK,rl,_⟩:=ok.sl 1 _ _ e1;obtain⟨bL,xs,rfl,hqL,rsL⟩:=rl.jh;obtain rfl:=aB.keys rsL Yl;have uW:=Ru hqL ni J8 tR;obtain⟨vw,fw,kq,eU,_⟩:=ok.sl 2 _ _ e2;obtain⟨rfl,rfl⟩:=eU.xm;have l3:3<σ.length:=by rw[<- ok.ln];exact(abD.mp e3).1
  obtain⟨b0,dx,fs,u,gf,⟨nb,nx⟩,rfl,a1,a2,a3,a4,a5,a6⟩:=r0.Pr hC.ns zz.1 Yw;cases a3 with
  | @cY l g8 _ g0 hl gZ rs=>
   obtain⟨lg,n0⟩:=abZ.mp a4;refine⟨.ref b0,hs,b0,C,dx,fs,.ref l,rfl,a1,hC.cl,na,a2,l,rfl,.inr ⟨g8,.inl hl⟩,.ref bL,LK,?_⟩;refine sT ok eft λH3 zv Dk s3 rn gn=>?_
   refine⟨eK g8 ks,.inr ⟨g8,ks,bL,.inl (s3 _ _ hl),rfl,(Tk.aC uW (.of s3)),rfl⟩,?_⟩;have hv:∃ji,Rep X.K H3 (.ins h_ g7) ((eK g8 ks).getD zv) ji/\ji.Nodup/\(∀b∈ji,b∈g0\/H b=none)/\∀H5 bQ,aX H3 H5->(∀b o,b∉ji->H3 b=some o->H5 b=some o)->Rep X.K H5 d1 ((eK g8 ks).getD zv) bQ->bQ.Nodup->(∀b∈bQ,b∈ji\/H3 b=none)->
     ∃g',aB X.K (upd H5 l (.dT (putK g8 ks ((eK g8 ks).getD zv)))) ((putD ak ks d1).map (·.2)) ((putK g8 ks ((eK g8 ks).getD zv)).map (·.2)) g'/\g'.Nodup/\l∉g'/\∀b∈g',b∈g0\/H b=none:=by
    cases qW:bA ak ks with
    |some dv=>
     rw[qW,aha] at vZ;subst vZ;obtain⟨v,gv,b1,b2,b3,b4,b5⟩:=aB.MU gZ rs n0 knd qW;rw[b1,aha];refine⟨gv,b2.same s3,b3,λb m=>.inl (b4 b m),λH5 bQ im kp r5 zj l5=>?_⟩;have nl:l∉gv:=λm=>lg (b4 l m)
     have oS:=kp l _ nl (s3 _ _ hl);have Ba:l∉bQ:=λm=>(l5 l m).elim nl λq=>by rw[s3 _ _ hl] at q;cases q
     obtain⟨g',c1,c2,c3⟩:=b5 (upd H5 l (.dT (putK g8 ks v))) d1 bQ (((aX.of s3).trans im).trans (aX.upd oS rfl)) (λb o n mb e=>by rw[aO (λq:b=l=>lg (q ▸ mb))];exact kp b o n (s3 b o e))
      (r5.frame (λb m=>aO (λq:b=l=>Ba (q ▸ m))) (aX.upd oS rfl)) zj (λb m=>(l5 b m).imp id s3.free)
     exact⟨g',c1,c2,(λm=>(c3 l m).elim lg λq=>by rw[hl] at q;cases q),c3⟩
    |none=>
     rw[qW] at vZ;have vZ:=vZ;subst vZ;have hn:=(qC gZ rs).2 qW;rw[hn];show ∃ji,Rep X.K H3 (.ins h_ g7) zv ji/\ji.Nodup/\(∀b∈ji,b∈g0\/H b=none)/\∀H5 bQ,aX H3 H5->(∀b o,b∉ji->H3 b=some o->H5 b=some o)->Rep X.K H5 d1 zv bQ->bQ.Nodup->(∀b∈bQ,b∈ji\/H3 b=none)->
      ∃g',aB X.K (upd H5 l (.dT (putK g8 ks zv))) ((putD ak ks d1).map (·.2)) ((putK g8 ks zv).map (·.2)) g'/\g'.Nodup/\l∉g'/\∀b∈g',b∈g0\/H b=none
     refine⟨Dk,rn,gn.1,λb m=>.inr (gn.2 b m),λH5 bQ im kp r5 zj l5=>?_⟩;have nl:l∉Dk:=λm=>by rw[gn.2 l m] at hl;cases hl
     have oS:=kp l _ nl (s3 _ _ hl);have xx:∀b∈bQ,H b=none:=λb m=>(l5 b m).elim (gn.2 b) s3.free
     have Ba:l∉bQ:=λm=>by rw[xx l m] at hl;cases hl
     have i6:aX H (upd H5 l (.dT (putK g8 ks zv))):=((aX.of s3).trans im).trans (aX.upd oS rfl);have n1:(ak.any λkv=>decide (kv.1=ks))=false:=by
      unfold bA at qW;rw[Option.map_eq_none_iff,afU] at qW;exact List.any_eq_false.mpr qW
     have n2:(g8.any λkv=>decide (kv.1=ks))=false:=by
      rw[Iq,hn];rfl
     refine⟨g0++(bQ++[]),?_,?_,λm=>?_,λb m=>?_⟩
     .unfold putD putK;rw[n1,n2,if_neg abu,if_neg abu,adh,adh];unfold putK at i6;rw[n2,if_neg abu] at i6;refine aB.append (rs.frame (λb m=>?_) i6) (.cons (r5.frame (λb m=>aO (λq:b=l=>Ba (q ▸ m))) (aX.upd oS rfl)) .nil);obtain⟨o,w,_⟩:=rs.cB b m;rw[aO (λq:b=l=>lg (q ▸ m)),kp b o (λq=>by rw[gn.2 b q] at w;cases w) (s3 b o w),w]
     .rw[acI];refine ac3.mpr ⟨n0,zj,λa ma b mb e=>?_⟩;obtain⟨o,w,_⟩:=rs.cB a ma;rw[e,xx b mb] at w;cases w
     .rw[acI] at m;exact(abB.mp m).elim lg Ba
     .rw[acI] at m;exact(abB.mp m).imp id (xx b)
   generalize(eK g8 ks).getD zv=v at hv ⊢;obtain⟨ji,rv,VB,F2,fin⟩:=hv;obtain⟨a,YA,Wo,gT,rfl,EE,t1,t2,t3,t4⟩:=rv.lM yJ.ns;refine⟨.ref a,aer l3,a,YA,Wo,rfl,t1,qX t3 elm,.str wd,(by rw[acY (by decide)];exact kq),?_⟩;refine⟨a,[.str wd],_,ji,[.str wd],[],r,d1,rfl,rv,VB,.cons (.str wd) .nil,(λb m=>nomatch m),eG,λH5 ut bQ im kp r5 zj l5 rr=>?_⟩;have nl:l∉ji:=λm=>(F2 l m).elim lg λq=>by rw[hl] at q;cases q
   have oS:=kp l _ nl (s3 _ _ hl);have nb0:b0∉ji:=λm=>(F2 b0 m).elim (λq=>nb (aaf _ q)) λq=>by rw[a1] at q;cases q
   have a15:=kp b0 _ nb0 (s3 _ _ a1);have WS:g8.length=ak.length:=by have:=congrArg List.length gZ;simpa using this.symm
   refine⟨.ref a,(by rw[acY (by decide)];exact aer l3),.ref b0,(by rw[acY (by decide),acY (by decide)];exact hs),b0,C,dx,fs,.ref l,rfl,a15,hC.cl,na,a2,.ref bL,(by rw[acY (by decide),acY (by decide)];exact LK),l,_,rfl,
    .inr ⟨g8,ks,bL,oS,rfl,(Tk.aC uW ((aX.of s3).trans im)),(by rw[WS];exact hlen),rfl⟩,?_⟩
   obtain⟨g',y1,y2,y3,y4⟩:=fin H5 bQ im kp r5 zj l5;have i6:aX H (upd H5 l (.dT (putK g8 ks (.ref a)))):=((aX.of s3).trans im).trans (aX.upd oS rfl);have k6:∀b o,b∉l::g0->H b=some o->upd H5 l (.dT (putK g8 ks (.ref a))) b=some o:=λb o n e=>by
    rw[aO (λq=>n (by rw[q];exact aak))];exact kp b o (λm=>(F2 b m).elim (λq=>n (aaf _ q)) λq=>by rw[e] at q;cases q) (s3 b o e)
   obtain⟨agr,z1,z2,z3⟩:=a6 _ (.cY (putD ak ks d1)) (l::g') i6 k6 (.cY cz (zw gZ) y1) (abZ.mpr ⟨y3,y2⟩) (λb m=>(aaQ.mp m).elim (λq=>.inl (by rw[q];exact aak)) λm=>(y4 b m).imp (aaf _) id);obtain⟨z',iV⟩:=ok.put e0 hs zz i6 (λb o n e=>k6 b o (λm=>n (a5 b m)) e) z1 z2 z3;have Zh:(bT ρ 0 (.ins cn (dR fl (.cY (putD ak ks d1)) es)))[3]? = some none:=by unfold bT;rw[acY (by decide),acn,e3];rfl
   refine(iV.blank (x:=some (.ref a)) Zh).stored (t:=.own) (i:=4) (aG.refl _) (rr.frame (λa m=>nomatch m) (aX.upd oS rfl)) .nil λz2 zx=>?_
   exact sr zx e (kE.of ((Kp.set a3.N k3).trans (Kp.set h4 k4)))
end
end L2.Ev
namespace L2
open PySem PySem.Spec PyProof.Rows
def aet(K:PySem.W.Frag):V->List V->Hp->VK->Prop:=λx vs H Q=>∃(l:Addr) (ts:List Int) (i:Int) (j:Nat),x=.ref l/\vs=[.int i]/\b7 K H l (ts.map V.int)/\ts[j]? = some i/\(∀m,m<j->ts[m]?≠some i)/\Q (.int j) H
theorem NZ(i y:Int)(t:Tok):iS (.int i) (.int y t)=(y==i):=rfl
theorem aeh:D7 X "list.index" (aet X.K):=by
 intro af s σ H x vs v us Q I rx rv h;obtain⟨l,ts,i,j,rfl,rfl,hq,hj,IL,q⟩:=h;cases rx;obtain⟨u,rfl,ru⟩:=vals1 rv;obtain⟨t,rfl⟩:=ru;obtain⟨au,r,pl,hz⟩:=I.list hq;have hlen:=r.length;rw[List.length_map] at hlen hz;obtain⟨o,ho,hc,n,hd⟩:=pl.isList;obtain⟨c,dd,da,sl⟩:=o;cases hc;cases hd;have hjl:=(abD.mp hj).1;have uK:∀(m) (hm:m<au.toArray.size),∃y t',ts[m]? = some y/\au.toArray[m]=.int y t':=λm hm=>by
  have jF:m<ts.length:=by simp at hm;omega
  obtain⟨w,hw,eU⟩:=r.get (by rw[acn,abl jF];rfl);obtain⟨t',rfl⟩:=eU;refine⟨ts[m],t',abl jF,?_⟩;have:=(abD.mp hw).2;simpa using this
 have hsz:j<au.toArray.size:=by simp;omega
 refine call_meets F.slot_list_index ⟨_,ho,rfl⟩ F.entry_list_index (F.args_list_index_2 _ _) (SeqAt.list_indexAt l au.toArray n dd sl (.int i t) (iS (.int i)) j hsz (by rw[ae7] at hz;omega) ?_ (λm hm cR=>?_)) ⟨ho,λw hw=>uY (x:=.int i) ⟨t,rfl⟩ rfl r (by rw[ahe];exact adf.mpr λ_ _=>rfl) w (by simpa using hw),⟨.int j,H,I.tok _,⟨_,rfl⟩,q⟩⟩
 .obtain⟨y,t',h1,h2⟩:=uK j hsz;rw[h2,NZ];rw[hj] at h1;cases h1;exact afA _
 .obtain⟨y,t',h1,h2⟩:=uK m hm;rw[h2,NZ];refine agn.mpr λe=>IL m cR ?_
  rw[h1,eq_of_beq e]
end L2
namespace L2
theorem bh.m(r:bh k A cm)(h:j<=k:=by decide):bh j A cm:=r.mono h
end L2
namespace L2.Ev
open PySem PySem.Spec PyProof.Rows
def E8:D->D->Option D
 |.lst ds,.int i=>match dY ds with
  |some ts=>(ts.findIdx? (· == i)).map λj:Nat=>.int j
  |none=>none
 |_,_=>none
theorem XT(ha:FP X a fa)(hb:FP X b fb)(hs:Y1 X b:=by rfl)(lS:attributeBase a "index" X.env (eval a X.env)=eval a X.env:=by rfl)
  (lZ:((backTo p3 (starEach [b] X.env)).all (λx=>!x.1)&&(backToKw p3 (keywordEach [] X.env)).all (λx=>x.1.isSome)&&decide ([b].length+([]:List Keyword).length+(if([]:List Keyword).isEmpty then 0 else 1)<30))=true:=by rfl)
  (lN:(p2.endLine==p3.line)=true:=by rfl):FP X (.Call (.Attribute a "index" p2) [b] [] p3) (e2 E8 fa fb):=by
 exists 46;exists 21,yg PySem.F.plainAttrs_list PySem.F.slot_list_index PySem.F.type_list_index aeh pa (cP pb eW hs) lS lZ lN hs rfl;obtain⟨d1,t1,d2,t2,e1,jx,e3,rfl⟩:=pB e;refine sa ok e1 λH1 x f1 s1 r1 _=>?_
 cases d1 with
 |lst ds=>
  cases d2 with
  |int i=>
   have e3:(match dY ds with|some ts=>(ts.findIdx? (· == i)).map λj:Nat=>D.int j|none=>none)=some d:=e3;cases h:dY ds with
   |none=>rw[h] at e3;cases e3
   |some ts=>
    rw[h] at e3;dsimp only at e3;cases h2:ts.findIdx? (· == i) with
    |none=>rw[h2] at e3;cases e3
    |some j=>
     rw[h2] at e3;cases e3;obtain⟨l0,xs0,f0,rfl,hq0,rs0,_⟩:=r1.dZ;refine⟨.inl ⟨rfl,_,hq0⟩,?_⟩;exists 49
     obtain⟨rfl,_⟩:=r2.iA;have Dv:=r1.same s2;obtain⟨l,xs,f,e0,hq,rs,_⟩:=Dv.dZ;cases e0;have hx:=rH rs h;subst hx;obtain⟨hj,hp,IL⟩:=List.findIdx?_eq_some_iff_getElem.mp h2;refine⟨l0,ts,i,j,rfl,rfl,hq,?_,λm hm em=>?_,k H2 _ [] (s1.trans s2) (.int _) ⟨acm,λa m=>nomatch m⟩⟩
     .rw[abl hj,eq_of_beq hp]
     .obtain⟨jF,e'⟩:=abD.mp em;exact IL m hm (by rw[e'];exact afA _)
  |_=>cases e3
 |_=>cases e3
end L2.Ev
namespace L2
open PySem PySem.Spec PyProof.Rows
theorem C6{K:PySem.W.Frag}(h:yX K=true):∀r∈iX K,iX K=[r]/\PySem.W.codeHdIn K r.1 r.2.1=true/\K.lookup r.2.1=none:=λr m=>by
 have ok:=((abe _ _).mp h).2
 split at ok
 .rename_i e;rw[e] at m;cases m
 .rename_i r' e;rw[e] at m;cases aaB.mp m;obtain⟨a,b⟩:=(abe _ _).mp ok;exact⟨e,a,by simpa using b⟩
 .cases ok
def uf(K:PySem.W.Frag):Hp:=λb=>match iX K with
 |[r]=>if b=r.2.1 then some (.iE r.2.2.1 r.2.2.2) else none
 |_=>none
theorem aeq{K:PySem.W.Frag}
  (KX:K.In bN.heap) (xN:yX K=true) (xR:∀r∈iX K,bN.heap.get? r.2.1=some (PySem.W.tabObj #[])) (uq:bN.heap.Ns mainGlobals mg) (hb:bN.heap.Ns builtinsNs mb) (hbb:∀x:Str,x≠"__name__"->mb x=bootBuiltins x) (adK:bN.heap.NoLimit)
  (hbm:∃bm ob,mg "__builtins__"=some (.ref bm)/\bm≠builtinsNs/\bN.heap.get? bm=some ob/\ob.cls=.type "module"/\ob.dict=some builtinsNs/\ob.data=.plain) (hg:bN.gens=#[])
  (ha:bN.heap.get? a=some { cls:=.type "list",data:=.seq vs.toArray }) (hi:IntsAre vs ns) (hl:ns.length<=sizeLine) (hr:bh k callerA)
  (F:∀base:Heap,K.In base->base.Ns mainGlobals mg->bU P w K mg base CX k fa fd [x] sp) (WN:∀(s) (u),BindsTo s fd ⟨[u],[]⟩ [(x,u)])
  (qA:∀H:Hp,Ev.qS K H a (ns.map V.int)->sp [.ref a] H (λv _=>v=.bl true) λ_ _ _=>False) (CJ:∀H e s',CX [] H bN (λ_ _ _=>False) e s'->False) :
  codeAny (model P w) callerA (.call (.ref fa) ⟨[.ref a],[]⟩) (λr s'=>r=.ok (.ret (.bool true))/\OldK bN.heap s'.heap/\s'.os=bN.os/\AllBare s'.gens) bN:=by
 have rv:=Jg hi;have abF:=hi.length;have tab_of:∀{b} {u},uf K b=some u->∃r∈iX K,b=r.2.1/\u=.iE r.2.2.1 r.2.2.2:=λ{b u} e=>by
  unfold uf at e
  split at e
  .rename_i r er;obtain⟨h,e⟩:=ci e;cases e;exact⟨r,by rw[er];exact List.mem_singleton_self r,h,rfl⟩
  .cases e
 have Na:∀r∈iX K,uf K r.2.1=some (.iE r.2.2.1 r.2.2.2):=λr m=>by
  unfold uf;rw[(C6 xN r m).1];exact if_pos rfl
 have na:∀r∈iX K,r.2.1≠a:=λr m z=>by
  have:=xR r m;rw[z,ha] at this;cases this
 have core:∀H:Hp,Ev.qS K H a (ns.map V.int)->(∀b u,H b=some u->(b=a/\K.lookup a=none/\u=.eV { cls:=.type "list",data:=.seq vs.toArray } (.lst (ns.map V.int)))\/∃r∈iX K,b=r.2.1/\u=.iE r.2.2.1 r.2.2.2)->(∀r∈iX K,H r.2.1=some (.iE r.2.2.1 r.2.2.2))->
   codeAny (model P w) callerA (.call (.ref fa) ⟨[.ref a],[]⟩) (λr s'=>r=.ok (.ret (.bool true))/\OldK bN.heap s'.heap/\s'.os=bN.os/\AllBare s'.gens) bN:=by
  intro H hS hA hL;have aF:cN P w H bN.heap:=λb u e=>by
   rcases hA b u e with⟨rfl,_,rfl⟩|⟨r,m,rfl,rfl⟩
   .exact⟨ha,by rw[List.length_map];exact hl,vs,_,rv,ha⟩
   .exact⟨#[],xR r m,.inl rfl⟩
  have free:∀{b} {o},bN.heap.get? b=some o->(∀xs n,o.data≠.seq xs n)->(∀xs,o.data≠.fields xs)->H b=none:=λ{b o} e d1 d2=>by
   cases q:H b with
   |none=>rfl
   |some u=>
    rcases hA b u q with⟨rfl,_,_⟩|⟨r,m,rfl,_⟩
    .rw[ha] at e;cases e;exact absurd rfl (d1 _ _)
    .rw[xR r m] at e;cases e;exact absurd rfl (d2 _)
  have Az:∀{b} {m},bN.heap.Ns b m->(p_ bN.heap H).Ns b m:=λ{b m} ⟨o,es,ep,e,d,r⟩=>⟨o,es,ep,GU e (free e (λ_ _ z=>by rw[d] at z;cases z) λ_ z=>by rw[d] at z;cases z),d,r⟩
  have Ln:K.In (p_ bN.heap H):=λb o e=>GU (KX b o e) (by
   cases q:H b with
   |none=>rfl
   |some u=>
    rcases hA b u q with⟨rfl,z,_⟩|⟨r,m,rfl,_⟩
    .rw[z] at e;cases e
    .rw[(C6 xN r m).2.2] at e;cases e)
  obtain⟨bm,ob,b1,b2,b3,b4,b5,b6⟩:=hbm;have hM:Mod K mg (p_ bN.heap H):=⟨Ln,Az uq,⟨mb,Az hb,hbb⟩,let⟨mc,h1,h2⟩:=adK;⟨mc,Az h1,h2⟩,bm,ob,b1,b2,GU b3 (free b3 (λ_ _ z=>by rw[b6] at z;cases z) λ_ z=>by rw[b6] at z;cases z),b4,b5,b6⟩
  have e0:rX P w K mg (p_ bN.heap H) callerA [] bN H:=⟨rfl,hM,λb o e=>Yu e,Nat.le_of_eq (aej _ _),trivial,λb hb=>absurd (show b∈([]:List Addr) from hb) (by simp),aF,.of_eq hg,⟨.inl rfl,xN,hL⟩⟩
  refine codeAny_mono ((F _ Ln (Az uq)).run callerA [] bN H ⟨[.ref a],[]⟩ [.ref a] [.ref a] _ _ hr e0 (WN bN (.ref a)) (.cons rfl .nil) (qA H hS)) λr s' h=>?_
  cases r with
  |error e=>exact(CJ H e s' h).elim
  |ok fl=>
   cases fl with
   |next=>exact False.elim h
   |brk=>exact False.elim h
   |cont=>exact False.elim h
   |ret u=>
    obtain⟨v,H',os,bare,un,LW,r',q⟩:=h;have q':=q;subst q';obtain rfl:u=Value.bool true:=r';refine⟨rfl,⟨λb o e=>?_,λb o e=>un.there b o e (by simp)⟩,os,bare⟩;cases q:H b with
    |none=>exact .inl (un.keep b o e q (by intro z;exact absurd (show b∈([]:List Addr) from z) (by simp)) (by simp))
    |some u=>
     rcases hA b u q with⟨rfl,_,rfl⟩|⟨r,m,rfl,rfl⟩
     .have z2:=un.jk b _ _ q;obtain⟨e1,_⟩:=aF b _ q;obtain⟨e2,_⟩:=LW b _ z2;rw[e] at e1;cases e1;exact .inl e2
     .have z2:=un.jl r.2.1 (.iE _ _) q;obtain⟨ps,e2,_⟩:=LW _ _ z2;rw[xR r m] at e;cases e;exact .inr (.inl ⟨((PySem.W.codeHd_of_K KX (C6 xN r m).2.1).tab (xR r m)).isCodeTable,rfl,#[],ps,rfl,by simpa using e2⟩)
 cases hk:K.lookup a with
 |some o=>
  have e:=KX a o hk;rw[ha] at e;cases e;refine core (uf K) (.inr ⟨_,vs.toArray,_,hk,rfl,rfl,rfl,by rw[ab6,abF];exact hl,by simpa using rv⟩) (λb u z=>.inr (tab_of z)) Na
 |none=>
  refine core (λb=>if b=a then some (.eV { cls:=.type "list",data:=.seq vs.toArray } (.lst (ns.map V.int))) else uf K b) (.inl ⟨{ cls:=.type "list",data:=.seq vs.toArray },if_pos rfl⟩) (λb u z=>?_) λr m=>(if_neg (na r m)).trans (Na r m)
  by_cases hb:b=a
  .have z':=(if_pos hb).symm.trans z;cases z';exact .inl ⟨hb,hk,rfl⟩
  .exact .inr (tab_of ((if_neg hb).symm.trans z))
theorem aby{l:PySem.W.OpenLaw}{K:Params->PySem.W.Frag}{CX:World->pF}{sp:World->Sp}
  (hn:l.most=some n) (r_:n<=sizeLine) (zD:d.params.defaults=[]) (hr:bh k callerA) (hY:∀(w) (h),YP w h->(K w.params).In h) (hT:∀(w) (h),YP w h->∀r∈iX (K w.params),h.get? r.2.1=some (PySem.W.tabObj #[])) (hL:∀w:World,yX (K w.params)=true)
  (F:∀(w) (mg) (fa) (h),(K w.params).In h->h.Ns mainGlobals mg->mg d.name=some (.ref fa)->
   ∃fd:FuncData,(∀(s) (u),BindsTo s fd ⟨[u],[]⟩ [(x,u)])/\∀base:Heap,(K w.params).In base->base.Ns mainGlobals mg->bU l.prog w (K w.params) mg base (CX w) k fa fd [x] (sp w))
  (qA:∀(w) (H) (a) (ns:List Int),ns.length<=n->Ev.qS (K w.params) H a (ns.map V.int)->sp w [.ref a] H (λv _=>v=.bl true) λ_ _ _=>False)
  (CJ:∀(w) (H) (s) (e) (s'),CX w [] H s (λ_ _ _=>False) e s'->False) :
  PySem.W.WalkO q loose XP YP l.row.toRowW d [] (λf vs=>PySem.call f vs):=by
 refine Ly.UQ hn zD λw cI bN mg mb fa o pm cd doc a vs ns G Y ho hd ig yN CZ hints hlen hg=>?_
 obtain⟨fd,hb,hF⟩:=F w mg fa _ (hY w _ Y) G.T.g yN;exact aeq (hY w _ Y) (hL w) (hT w _ Y) G.T.g G.T.b G.T.builtins G.T.nolimit G.T.bmain hg CZ hints (adR hlen r_) hr hF hb (λH hS=>qA w H a ns hlen hS) λH e s'=>CJ w H bN e s'
end L2
namespace L2.Ev
open PySem PySem.Spec PySem.W PyProof.Rows
structure Z where
 P:Program
 w:World
 K:Frag
 mg:Str->Option Value
 base:Heap
structure En(L:Ls)(z:Z):Prop where
 b:∀{x},L.bt.contains x=true->z.mg x=none
 i:∀{x} {n},L.gi.lookup x=some n->∃t,z.mg x=some (.int n t)
 t:∀{x} {l},L.tp.lookup x=some l->∃a,z.mg x=some (.ref a)/\Co z.K a l
 c:∀c:Str,L.cl.contains c=true->ClsAt z.K c (cA z.K c)
 m:∀{c},L.cl.contains c=true->z.mg c=some (.ref (cA z.K c))
 n:∀{c a},L.na.contains (c,a)=true->jj z.K (cA z.K c) a
 ni:L.ni=true->pW z.K=true
 g:∀{c},L.ex.contains c=true->nsIn z.K mainGlobals c=some (some (.ref (cA z.K c)))
 e:∀{c},L.ex.contains c=true->z.mg c=some (.ref (cA z.K c))
 x:∀{c},L.xc.contains c=true->BU z.K (cA z.K c)
 ct:∀{c} {ns},L.ct.lookup c=some ns->ach z.K ns (cA z.K c)
 kt:∀{c} {tb},L.kt.lookup c=some tb->Dm z.K tb (kv z.K c)
def kX(s:Stmt):List Str:=(lP s).args.map (·.arg)
theorem Kz:∀{l:List Str} {us},us.map strOf=l.map some->aT (l.map V.str) us
 |[],[],_=>.nil
 |[],_::_,e=>nomatch e
 |_::_,[],e=>nomatch e
 |a::l,u::us,e=>by
  obtain⟨e1,e2⟩:=List.cons.inj e;refine .cons ?_ (Kz e2);cases u<;>cases e1
  exact⟨_,rfl⟩
theorem Zk{K:Frag}(q:Jp K x l=true):∃a,nsIn K mainGlobals x=some (some (.ref a))/\Co K a l:=by
 unfold Jp at q
 split at q
 .rename_i a h;refine⟨a,h,?_⟩
  split at q
  .rename_i c au n sl h1;simp only[abe,agg,aho] at q;exact⟨_,au,_,h1,q.1.1,rfl,rfl,q.1.2,Kz q.2⟩
  .cases q
 .cases q
theorem uy:∀{l:List (Str×β)},l.lookup x=some y->(x,y)∈l
 |[],e=>nomatch e
 |(a,b)::l,e=>by
  rw[aeJ] at e
  by_cases h:(x==a)=true
  .rw[h] at e;cases e;rw[eq_of_beq h];exact .head _
  .rw[show(x==a)=false by simpa using h] at e;exact .tail _ (uy e)
theorem Ti{K:Frag}(h:ek K r=true):pL K (cA K r):=by
 unfold ek at h;simp only[abe,agg] at h;obtain⟨⟨⟨⟨⟨⟨h1,h2⟩,h3⟩,h4⟩,h5⟩,h6⟩,h7⟩:=h;exact⟨h1,h2,h3,h4,h5,h6,h7,Xv h6⟩
theorem aa6{L:Ls}{K:Frag}(X:K.In h)(G:h.Ns mainGlobals mg)(q:tP L K=true):En L ⟨P,w,K,mg,base⟩:=by
 unfold tP at q;simp only[abe,adf,agg] at q;obtain⟨⟨⟨⟨⟨⟨qi,qx⟩,q1⟩,q2⟩,q3⟩,q4⟩,q5⟩:=q;unfold OA at qx;simp only[abe,adf,agg,adO] at qx;obtain⟨⟨⟨x1,x2⟩,x3⟩,x4⟩:=qx;have cx:∀{r} {C},r∈L.ex->nsIn K mainGlobals r=some (some (.ref C))->C=cA K r:=λm e=>by
  rw[x1 _ m] at e;cases e;rfl
 have cl:∀c:Str,L.cl.contains c=true->yu K c=true:=λc h=>q4 c (adO.mp h)
 refine⟨λh=>mg_none_of X G (q1 _ (adO.mp h)),λ{x n} h=>?_,λh=>?_,λc h=>?_,λ{c} h=>?_,λh=>q5 _ (adO.mp h),λh=>?_,λh=>x1 _ (adO.mp h),λh=>mg_of X G (x1 _ (adO.mp h)),λh=>adj (x2 _ (adO.mp h)),λh cn C h1 hn=>?_,λh cn b C h1 hn=>?_⟩
 .have:=q2 _ (uy h);unfold Lz at this
  split at this
  .rename_i m t e;cases eq_of_beq this;exact⟨t,mg_of X G e⟩
  .cases this
 .obtain⟨a,e,t⟩:=Zk (q3 _ (uy h));exact⟨a,mg_of X G e,t⟩
 .have:=cl c h;unfold yu at this;simp only[abe,agg] at this;obtain⟨⟨⟨⟨⟨⟨h1,h2⟩,h3⟩,h4⟩,h5⟩,_⟩,_⟩:=this;exact⟨h1,⟨h2,h3,h4,h5⟩⟩
 .have:=cl c h;unfold yu at this;simp only[abe,agg] at this;exact mg_of X G this.1.1.1.1.1.1
 .rw[h] at qi;exact qi
 .obtain⟨⟨a1,a2⟩,a3⟩:=x3 _ (uy h);obtain⟨⟨b1,b2⟩,b3⟩:=a3 cn (adO.mp h1);cases cx b2 hn;exact V2 (Pb (x2 _ b1)) (Pb (x2 _ a1)) b3 a2
 .obtain⟨⟨a1,a2⟩,a3⟩:=x4 _ (uy h) _ (uy h1);cases cx a1 hn;exact⟨Ti a2,a3⟩
theorem ZS{K:Frag}(q:tP L K=true)(h:L.cl.contains c=true):makesIn K (cA K c)=true/\keepIn K (.ref (cA K c))=true:=by
 unfold tP at q;simp only[abe,adf] at q;have:=q.1.2 c (adO.mp h);unfold yu at this;simp only[abe] at this;exact⟨this.1.2,this.2⟩
theorem QT{K:Frag}(e:Hi K q v=some (fnOf x q (lP s) (gI s) (ck s) .none .none .none .none none .none .none)):∃f,v=some (some (.ref f))/\isFn K (.ref f)=true/\GL K x q s f:=by
 unfold Hi at e
 split at e
 .rename_i a
  split at e
  .rename_i oc od fd sl h;obtain⟨hc,e⟩:=ci e;simp only[abe] at hc;refine⟨a,rfl,hc.2,?_⟩;obtain⟨n,qn,pa,bo,sc,gl,cl,df,kw,dc,pm,an,cd,ct,bi⟩:=fd;unfold NN at e;injection e with e;injection e with e1 e2 e3 e4 e5 e6 e7 e8 e9 e10 N5 e12 e13 e14 ZA;subst e1 e2 e3 e4 e5 e6 e7 e8 ZA;exact⟨_,_,_,_,_,_,_,_,_,h,hc.1.1,hc.1.2⟩
  .cases e
 .cases e
theorem Nc{K:Frag}{tab:List (Str×Stmt)}{i:Nat}(t:tab.map (look K)=tab.map want)(e:tab[i]? = some p):look K p=want p:=by
 have:=congrArg (·[i]?) t;simp only[acn,e,Option.map_some] at this;exact ab4 this
theorem M5{K:Frag}{tab:List (Str×Stmt)}(i:Nat){s:Stmt}(t:tab.map (look K)=tab.map want)(e:tab[i]? = some (Str.empty,s)):IC K (iI s) s:=by
 obtain⟨f,h,_,g⟩:=QT (Nc t e);exact⟨f,h,g⟩
theorem Jb{K:Frag}{tab:List (Str×Stmt)}(i:Nat){c:Str}(t:tab.map (look K)=tab.map want)(e:tab[i]? = some (c,s))(n:(c==Str.empty)=false):GM K (cA K c) (iI s) (iu c s) s:=by
 obtain⟨f,h,i,g⟩:=QT (Nc t e);refine⟨f,?_,i,g⟩;rw[n] at h;exact h
section
variable(z:Z)(k:Nat)(c:Str)(s:Stmt)(sp:Frag->Sp)(cm:Bool:=true)
def Z.D:Prop:=∀(f) (fd),i_ z.K (iI s) (iu c s) s f fd->bU z.P z.w z.K z.mg z.base c_ k f fd (kX s) (sp z.K) cm
def Z.DR:Prop:=∀(f) (fd),i_ z.K (iI s) (iu c s) s f fd->bU z.P z.w z.K z.mg z.base (iH z.P z.w) k f fd (kX s) (sp z.K) cm
def Z.N:Prop:=FN z.P z.w z.K z.mg z.base c_ k (iI s) (kX s) (sp z.K) cm
def Z.M:Prop:=MT z.P z.w z.K z.mg z.base c_ k (cA z.K c) (iI s) (kX s) (sp z.K) cm
def Z.MR:Prop:=MT z.P z.w z.K z.mg z.base (iH z.P z.w) k (cA z.K c) (iI s) (kX s) (sp z.K) cm
def Z.I:Prop:=MI z.P z.w z.K z.mg z.base c_ k (cA z.K c) (kX s) (sp z.K) cm
end
section
variable{K:Frag}
theorem FN.G(W:FN P w K mg base CX k x ps sp cm):bU P w K mg base CX k W.choose W.choose_spec.choose ps sp cm:=W.choose_spec.choose_spec.1
theorem FN.m(W:FN P w K mg base CX k x ps sp cm):mg x=some (.ref W.choose):=W.choose_spec.choose_spec.2.1
theorem FN.kp(W:FN P w K mg base CX k x ps sp cm):keepIn K (.ref W.choose)=true:=W.choose_spec.choose_spec.2.2.1
theorem FN.b(W:FN P w K mg base CX k x ps sp cm):Binds K W.choose_spec.choose ps []:=W.choose_spec.choose_spec.2.2.2
theorem MT.G(W:MT P w K mg base CX k C x ps sp cm):bU P w K mg base CX k W.choose W.choose_spec.choose ps sp cm:=W.choose_spec.choose_spec.1
theorem MT.b(W:MT P w K mg base CX k C x ps sp cm):Binds K W.choose_spec.choose ps []:=W.choose_spec.choose_spec.2.1
theorem MT.t(W:MT P w K mg base CX k C x ps sp cm):kc K C x W.choose:=W.choose_spec.choose_spec.2.2
theorem MI.G(W:MI P w K mg base CX k C ps sp cm):bU P w K mg base CX k W.choose W.choose_spec.choose ps sp cm:=W.choose_spec.choose_spec.1
theorem MI.b(W:MI P w K mg base CX k C ps sp cm):Binds K W.choose_spec.choose ps []:=W.choose_spec.choose_spec.2.1
theorem MI.M(W:MI P w K mg base CX k C ps sp cm):Mk K C W.choose:=W.choose_spec.choose_spec.2.2
end
def jB(s:Stmt):List Str:=(ck s).names.filterMap λy=>if y.2 == .local||y.2 == .cell then some y.1 else none
def xM(n m:Nat)(s:Stmt):Prop:=nU (jB s) (kX s) (ck s)/\(kX s).length=n/\(jB s).length=m/\n<=m
section
variable{z:Z}
theorem Z.oF(S:xM n m s)(h:∀(f) (fd:FuncData) (aQ:{c:Value // c=fd.code}) (A) (o) (t) (H) (E),bh k (A.deeper (envOfC (iu c s) (ck s) t.heap.objs.size f aQ)) cm->(jB s).Nodup->FS (fU c_ z.P z.w z.K z.mg z.base (jB s) (iu c s) (ck s) f aQ A o t H E cm).eZ (gI s) b):
  z.D (k+1) c s (bx · (bJ n m b)) cm:=by
 obtain⟨S,rfl,rfl,_⟩:=S;exact λ_ _ F=>Ld F S λaQ A o t H E hr=>h _ _ aQ A o t H E hr S.nd
theorem Z.oQ(S:xM n m s)(h0:(jB s)[0]? = some x0)(h:∀(f) (aQ) (A) (o) (t) (H) (E),bh k (A.deeper (envOfC (iu c s) (ck s) t.heap.objs.size f aQ))->(jB s).Nodup->El im ((fU c_ z.P z.w z.K z.mg z.base (jB s) (iu c s) (ck s) f aQ A o t H E).eZ.kr [x0]) (gI s) b):
  z.D (k+1) c s (EA im · (runM n m b)):=by
 obtain⟨S,rfl,rfl,l⟩:=S;exact λ_ _ F=>S6 F S h0 λaQ A o t H E hr=>h _ aQ A o t H E hr S.nd
theorem Z.oM(S:xM n m s)(h0:(jB s)[0]? = some x0)(h:∀(f) (aQ) (A) (o) (t) (H) (E),bh k (A.deeper (envOfC (iu c s) (ck s) t.heap.objs.size f aQ))->(jB s).Nodup->El true ((fU c_ z.P z.w z.K z.mg z.base (jB s) (iu c s) (ck s) f aQ A o t H E).eZ.kr [x0]) (gI s) b):
  z.D (k+1) c s (dM · (runM n m b)):=λ_ _ F=>(Z.oQ S h0 h _ _ F).imp adk
theorem Z.oR(S:xM n m s)(h:∀(f) (aQ) (A) (o) (t) (H) (E),bh k (A.deeper (envOfC (iu c s) (ck s) t.heap.objs.size f aQ))->(jB s).Nodup->FS (fU (iH z.P z.w) z.P z.w z.K z.mg z.base (jB s) (iu c s) (ck s) f aQ A o t H E) (gI s) b):
  z.DR (k+1) c s (sQ · (qd n m b)):=by
 obtain⟨S,rfl,rfl,l⟩:=S;exact λ_ _ F=>Z3 F S l λaQ A o t H E hr=>h _ aQ A o t H E hr S.nd
end
section
variable{K:Frag}{tab:List (Str×Stmt)}
theorem ez(X:K.In h)(G:h.Ns mainGlobals mg)(t:tab.map (look K)=tab.map want)(i:Nat)(o:Z.D ⟨P,w,K,mg,base⟩ k Str.empty s sp cm)(b:BA (iI s) (iI s) s (kX s):=by walk_at "ba")(e:tab[i]? = some (Str.empty,s):=by rfl):Z.N ⟨P,w,K,mg,base⟩ k s sp cm:=fnW X G (M5 i t e) (λF=>o _ _ F) b
theorem cX(t:tab.map (look K)=tab.map want)(i:Nat)(o:Z.D ⟨P,w,K,mg,base⟩ k c s sp cm)(b:BA (iI s) (iu c s) s (kX s):=by walk_at "ba")(e:tab[i]? = some (c,s):=by rfl)(n:(c==Str.empty)=false:=by rfl):Z.M ⟨P,w,K,mg,base⟩ k c s sp cm:=Oc (Jb i t e n) (λF=>o _ _ F) b
theorem W_r(t:tab.map (look K)=tab.map want)(i:Nat)(o:Z.DR ⟨P,w,K,mg,base⟩ k c s sp cm)(b:BA (iI s) (iu c s) s (kX s):=by walk_at "ba")(e:tab[i]? = some (c,s):=by rfl)(n:(c==Str.empty)=false:=by rfl):Z.MR ⟨P,w,K,mg,base⟩ k c s sp cm:=Oc (Jb i t e n) (λF=>o _ _ F) b
theorem Eh(t:tab.map (look K)=tab.map want)(q:tP L K=true)(i:Nat)(o:Z.D ⟨P,w,K,mg,base⟩ k c s sp cm)(b:BA (iI s) (iu c s) s (kX s):=by walk_at "ba")(e:tab[i]? = some (c,s):=by rfl)(n:(c==Str.empty)=false:=by rfl)(y:iI s="__init__":=by rfl)(v:L.cl.contains c=true:=by rfl):Z.I ⟨P,w,K,mg,base⟩ k c s sp cm:=by
 have l:=Jb i t e n;obtain⟨a,b'⟩:=ZS q v;obtain⟨f,e1,i,l⟩:=l;obtain⟨kp,fd,F⟩:=Ju l;rw[y] at e1;exact⟨f,fd,o _ _ F,F.binds b,⟨a,e1,i,b'⟩⟩
end
section
variable{st:Stmt}
theorem ba_n(n:Nat)(h:ps.length=n)(e:∀(kV doc pm) (an) (aQ ct) (f:Fin n->Value),bindArgs (fnOf x q (lP st) (gI st) (ck st) .none kV doc pm an aQ ct) ⟨List.ofFn f,[]⟩=pure (ps.zip (List.ofFn f))):BA x q st ps:=λkV doc pm an aQ ct us hl=>by
 obtain rfl:=hl.trans h;have:=e kV doc pm an aQ ct λi=>us[(i:Nat)]
 rwa [List.ofFn_getElem] at this
end
theorem oj(h:∃t,X.mg x=some (.int n t))(hg:GD X x:=by exact⟨rfl,by decide⟩):FP X (.Name x pos) (eC (.int n)):=let⟨_,h⟩:=h;aeG h hg
theorem Qm(h:∃t,X.mg x=some (.ref t)/\Co X.K t ys)(hg:GD X x:=by exact⟨rfl,by decide⟩):FP X (.Name x pos) (eC (.tup (ys.map D.str))):=let⟨_,h,t⟩:=h;agi h t hg
theorem iz(h3:X.env.kindOf=λx=>X.env.scope.names.lookup x)(h:yY X.N X.env.scope sc M js=true):oV X M js sc:=V4 rfl rfl h3 h
section
variable{A:Z->Prop}
noncomputable abbrev wF{F:List D->Option D}(_:∀z,A z->z.D k c s (bx · F) cm)(z:Z):Prop:=z.N k s (bx · F) cm
noncomputable abbrev wG{F:List D->Option D}(_:∀z,A z->z.D k c s (bx · F) cm)(z:Z):Prop:=z.M k c s (bx · F) cm
noncomputable abbrev wO{F:MF}(_:∀z,A z->z.D k c s (dM · F) cm)(z:Z):Prop:=z.M k c s (dM · F) cm
noncomputable abbrev wI{F:MF}(_:∀z,A z->z.D k c s (dM · F) cm)(z:Z):Prop:=z.I k c s (dM · F) cm
noncomputable abbrev wR{F:List D->Option Rz}(_:∀z,A z->z.DR k c s (sQ · F) cm)(z:Z):Prop:=z.MR k c s (sQ · F) cm
noncomputable abbrev fF{F:List D->Option D}(_:∀z,A z->z.D k c s (bx · F) cm):List D->Option D:=F
noncomputable abbrev fO{F:MF}(_:∀z,A z->z.D k c s (dM · F) cm):MF:=F
noncomputable abbrev fR{F:List D->Option Rz}(_:∀z,A z->z.DR k c s (sQ · F) cm):List D->Option Rz:=F
end
end L2.Ev
namespace L2.Ev
open PySem PySem.Spec PyProof.Rows
noncomputable abbrev JF:=List D->Option (D×List D)
noncomputable def mX(J:List Nat):Nat->List D->aN
 |_,[]=>[]
 |i,d::r=>some (d,if J.contains i=true then Tag.own else Tag.sh [])::mX J (i+1) r
def m9(J:List Nat)(n N:Nat)(b:SF):JF:=λds=>if ds.length=n then(match b (mX J 0 ds++List.replicate (N - ds.length) none) with
 |some (.rt (.tup (r::es)))=>some (r,es)
 |some (.nx ρ)=>(jZ J ρ).map λes=>(.aA,es)
 |_=>none) else none
structure Yn(K:PySem.W.Frag)(H:Hp)(J:List Nat)(C:List Addr)(y:Addr->Option Nat)(ds:List D)(vs:List V):Prop where
 ln:ds.length=vs.length
 sl:∀i d,ds[i]? = some d->∃v f,vs[i]? = some v/\Rep K H d v f/\(i∈J->f.Nodup/\∀a∈f,y a=some i)/\(i∉J->∀a∈f,y a=none)
 dm:∀a j,y a=some j->a∈C
 mu:∀a∈C,∃o,H a=some o/\iZ o=true
def mZ(J:List Nat)(K:PySem.W.Frag)(G:JF):Sp:=λvs H Q _=>∃ds C y r es,Yn K H J C y ds vs/\G ds=some (r,es)/\
 ∀H' v cJ (nf:Nat->List Addr),aX H H'->(∀b o,b∉C->H b=some o->H' b=some o)->(∀k l a,a∈nf k->a∈nf l->k=l)->
  (∀k i,J[k]? = some i->∃d u,es[k]? = some d/\vs[i]? = some u/\Rep K H' d u (nf k)/\(nf k).Nodup/\∀a∈nf k,a∈C\/H a=none)->
  Rep K H' r v cJ->cJ.Nodup->(∀b∈cJ,(b∈C\/H b=none)/\∀k,b∉nf k)->es.length=J.length->Q v H'
theorem My:∀{ds} {k i},(mX J k ds)[i]? = (ds[i]?).map λd=>some (d,if J.contains (k+i)=true then Tag.own else Tag.sh [])
 |[],k,i=>by simp[mX]
 |d::ds,k,0=>rfl
 |d::ds,k,i+1=>by
  show(mX J (k+1) ds)[i]? = _;rw[My,Nat.add_right_comm];rfl
theorem AL:∀{ds} {k},(mX J k ds).length=ds.length
 |[],_=>rfl
 |d::ds,k=>by show(mX J (k+1) ds).length+1=_;rw[AL];rfl
theorem NP:∀{J} {ρ} {es},jZ J ρ=some es->es.length=J.length/\∀(k i:Nat),J[k]? = some i->∃d,es[k]? = some d/\ρ[i]? = some (some (d,Tag.own))
 |[],ρ,es,h=>by cases h;exact⟨rfl,λk i e=>by simp at e⟩
 |j::J,ρ,es,h=>by
  unfold jZ at h
  split at h
  .rename_i d e;obtain⟨d8,h',rfl⟩:=acy.mp h;obtain⟨l,c⟩:=NP h';refine⟨by rw[acj,acj,l],λk i e2=>?_⟩;cases k with
   |zero=>cases e2;exact⟨d,rfl,e⟩
   |succ k=>exact c k i e2
  .cases h
noncomputable def Ng(N xs:List Str)(J:List Nat):Bool:=J.all λi=>match N[i]? with
 |some x=>x==("self":Str)||(!(xs.contains ("self":Str))&&!(!(xs.contains x)))
 |none=>false
section
variable{K:PySem.W.Frag}
theorem Yj{st:Stmt}(F:i_ K x qual st f fd)(S:nU N ps (ck st))(h0:Ng N xs J=true)(hJ:J.Nodup)(pZ:ps.length<=N.length)
  (hb:∀(aQ) (A) (outer) (s) (H) (E),bh k (A.deeper (envOfC qual (ck st) s.heap.objs.size f aQ))->FJ J false ((fU c_ P w K mg base N qual (ck st) f aQ A outer s H E).eZ.kr xs) (gI st) b) :
  bU P w K mg base c_ (k+1) f fd ps (mZ J K (m9 J ps.length N.length b)):=by
 have l_:∀{ds} {r},m9 J ps.length N.length b ds=some r->ds.length=ps.length:=λ{ds r} e=>by
  unfold m9 at e
  split at e
  .assumption
  .cases e
 refine F.ok S (λvs H Q E h=>?_) λaQ A outer s H vs Q E hr h=>?_<;>obtain⟨ds,C,y,r,es,a,e,q⟩:=h
 .rw[<- a.ln,l_ e]
 .obtain⟨t,pt,sd⟩:=hb aQ A outer s H E hr;refine⟨t,pt.kr rfl,?_⟩;have hl:=l_ e;have ok:Ok K H C y [] (mX J 0 ds++List.replicate (N.length-ds.length) none) (start N vs) H:=by
   unfold start;refine⟨λi d t e=>?_,(λp m=>by cases m),(λa' j e=>⟨let⟨o,w,_⟩:=a.mu a' (a.dm a' j e);⟨o,w⟩,.inr (a.dm a' j e)⟩),(λa o e _=>e),?_⟩
   .by_cases hi:i<ds.length
    .rw[aea (by rw[AL];exact hi),My,abl hi] at e;cases e;obtain⟨v,g,hv,rv,h1,h2⟩:=a.sl i _ (abl hi);refine⟨v,g,(aea (by rw[List.length_map,<- a.ln];exact hi)).trans (by rw[acn,hv];rfl),rv,?_⟩;rw[ahd]
     by_cases hj:i∈J
     .rw[if_pos (adO.mpr hj)];exact h1 hj
     .rw[if_neg λq=>hj (adO.mp q)];intro a' m j e;rw[h2 hj a' m] at e;cases e
    .rw[aeL (by rw[AL];lia),agQ] at e
     split at e<;>cases e
   .simp only[abR,List.length_map,List.length_replicate,AL];have:=a.ln
    lia
  have fin:∀{z} {ρ} {σ} {H'} {v} {cJ},Ok K H C z [] ρ σ H'->jZ J ρ=some es->Kp ((fU c_ P w K mg base N qual (ck st) f aQ A outer s H E).eZ.kr xs) (start N vs) σ->Rep K H' r v cJ->cJ.Nodup->(∀b∈cJ,(H b=none\/b∈C)/\∀i∈J,z b≠some i)->Q v H':=by
   intro z ρ σ H' v cJ aS h1 kp rr xV pU;obtain⟨le,at_⟩:=NP h1;have ex:∀k:Nat,∃g:List Addr,(∀i,J[k]? = some i->∃d u,es[k]? = some d/\vs[i]? = some u/\Rep K H' d u g/\g.Nodup/\(∀a∈g,z a=some i))/\(J[k]? = none->g=[]):=λk=>by
    cases hk:J[k]? with
    |none=>exact⟨[],(λi e=>nomatch e),λ_=>rfl⟩
    |some i=>
     obtain⟨d,e1,e2⟩:=at_ k i hk;obtain⟨u,g,hs,r1,zz⟩:=aS.sl i d .own e2;refine⟨g,λi' e'=>?_,λe'=>nomatch e'⟩;cases e';refine⟨d,u,e1,?_,r1,zz.1,zz.2⟩;have hi:=adf.mp h0 i (aeT hk);cases hN:N[i]? with
     |none=>rw[hN] at hi;cases hi
     |some x=>
      rw[hN] at hi;have hk:=kp i x hN hi;rw[hs] at hk;have il:i<vs.length:=by
       by_cases hv:i<vs.length
       .exact hv
       .exfalso
        unfold start at hk;rw[aeL (by rw[List.length_map];lia),agQ] at hk
        split at hk<;>cases hk
      unfold start at hk;rw[aea (by rw[List.length_map];exact il),acn] at hk;cases hv:vs[i]? with
      |none=>rw[hv] at hk;cases hk
      |some u'=>rw[hv] at hk;cases hk;rfl
   obtain⟨nf,hn⟩:=Classical.axiomOfChoice ex;have zk:∀k a,a∈nf k->∃i,J[k]? = some i/\z a=some i:=λk a m=>by
    cases hk:J[k]? with
    |none=>rw[(hn k).2 hk] at m;cases m
    |some i=>obtain⟨_,_,_,_,_,_,c⟩:=(hn k).1 i hk;exact⟨i,rfl,c a m⟩
   have dw:∀{c} {o},H c=some o->iZ o=false->H' c=some o:=λ{c o} e' mo=>aS.en c _ e' λm=>by
    obtain⟨o',w,lK⟩:=a.mu c m;rw[e'] at w;cases w;rw[mo] at lK;cases lK
   refine q H' v cJ nf ⟨λc xs e'=>dw e' rfl,λc o u e'=>dw e' rfl,λc φ e'=>dw e' rfl⟩ (λc o n e'=>aS.en c o e' n) (λk l a m m'=>?_) (λk i e=>?_) rr xV (λc m=>⟨(pU c m).1.symm,λk m'=>?_⟩) le
   .obtain⟨i,h1,h2⟩:=zk k a m;obtain⟨j,h3,h4⟩:=zk l a m';rw[h2] at h4;cases h4;obtain⟨lk,ek⟩:=abD.mp h1;obtain⟨ll,el⟩:=abD.mp h3;exact(List.getElem_inj hJ).mp (ek.trans el.symm)
   .obtain⟨d,u,a1,a2,a3,a4,a5⟩:=(hn k).1 i e;exact⟨d,u,a1,a2,a3,a4,λa m=>((aS.zd a i (a5 a m)).2).symm⟩
   .obtain⟨i,h1,h2⟩:=zk k c m';exact(pU c m).2 i (aeT h1) h2
  unfold m9 at e;rw[if_pos hl] at e;cases ho:b (mX J 0 ds++List.replicate (N.length-ds.length) none) with
  |none=>rw[ho] at e;cases e
  |some o=>
   rw[ho] at e;refine sd ok ho ?_;cases o with
   |rt p=>
    have hp:p=.tup (r::es):=by
     split at e<;>rename_i hh
     .cases e;cases hh;rfl
     .cases hh
     .cases e
    exact⟨r,es,hp,λz ρ σ H' v cJ aS h1 kp rr nd fr _=>fin aS h1 kp rr nd fr⟩
   |nx ρ'=>
    obtain⟨d8,h1,e2⟩:=acy.mp e;cases e2;exact λz σ H' aS kp=>fin aS h1 kp .aA acm λb m=>nomatch m
   |bk _=>cases e
   |ct _=>cases e
   |er _ _ _=>cases e
end
def lG:aN->List Nat->List D->aN
 |ρ,j::js,e::es=>lG (bT ρ j e) js es
 |ρ,_,_=>ρ
theorem RC:∀{js} {es} {ρ},(lG ρ js es).length=ρ.length
 |[],_,_=>rfl
 |_::_,[],_=>rfl
 |j::js,e::es,ρ=>by show(lG (bT ρ j e) js es).length=_;rw[RC,Be]
theorem F6:∀{js} {es} {ρ} {j} {d} {t},js.length=es.length->j∉js->(lG ρ js es)[j]? = some (some (d,t))->ρ[j]? = some (some (d,t))/\∀o,t=.sh o->∀i∈js,i∉o
 |[],[],_,_,_,_,_,_,h=>⟨h,λ_ _ _ m=>nomatch m⟩
 |i::js,e::es,ρ,j,d,t,l,n,h=>by
  obtain⟨h1,h2⟩:=F6 (by simpa using l) (λm=>n (aaf _ m)) h;obtain⟨h3,h4⟩:=IP (λq=>n (by rw[q];exact aak)) h1;refine⟨h3,λo ho k m=>?_⟩;rcases aaQ.mp m with rfl|m
  .exact h4.resolve_left (λq=>q) o ho
  .exact h2 o ho k m
theorem PF:∀{js} {es} {ρ} {j} {d},j∉js->ρ[j]? = some (some (d,.own))->(lG ρ js es)[j]? = some (some (d,.own))
 |[],_,_,_,_,_,h=>h
 |_::_,[],_,_,_,_,h=>h
 | i::js,e::es,ρ,j,d,n,h=>PF (ρ:=bT ρ i e) (λm=>n (aaf _ m)) (by
  unfold bT;rw[acY λq=>n (by rw[q];exact aak),acn,h];rfl)
theorem Lg:∀{js} {es} {ρ}{k j:Nat} {d},js.Nodup->js[k]? = some j->es[k]? = some d->j<ρ.length->(lG ρ js es)[j]? = some (some (d,.own))
 |[],_,_,_,_,_,_,h,_,_=>by simp at h
 |_::_,[],_,_,_,_,_,_,h,_=>by simp at h
 |i::js,e::es,ρ,0,j,d,n,h1,h2,l=>by
  cases h1;cases h2;exact PF (js:=js) (abZ.mp n).1 (Jq (abl l))
 |i::js,e::es,ρ,k+1,j,d,n,h1,h2,l=>Lg (ρ:=bT ρ i e) (abZ.mp n).2 h1 h2 (by rw[Be];exact l)
section
variable{K:PySem.W.Frag}
theorem Ok.Vk{C:List Addr}{nf:Nat->List Addr}(ok:Ok K H0 S z aq ρ σ H)(nd:js.Nodup)(le:es.length=js.length)(old:∀j∈js,∃d,ρ[j]? = some (some (d,.own)))(im:aX H H')(hz:∀a∈C,∃j∈js,z a=some j)
  (keep:∀b o,b∉C->H b=some o->H' b=some o) (ap:∀k l a,a∈nf k->a∈nf l->k=l) (new:∀k j,js[k]? = some j->∃d v,es[k]? = some d/\σ[j]? = some (some v)/\Rep K H' d v (nf k)/\(nf k).Nodup/\∀a∈nf k,a∈C\/H a=none):∃z',Ok K H0 S z' aq (lG ρ js es) σ H':=by
 classical
 let N:Addr->Prop:=λa=>∃k,k<js.length/\a∈nf k
 let z':Addr->Option Nat:=λa=>if h:N a then js[Classical.choose h]? else if ∃j∈js,z a=some j then none else z a
 have z1:∀{a k j},js[k]? = some j->a∈nf k->z' a=some j:=λ{a k j} e m=>by
  have h:N a:=⟨k,(abD.mp e).1,m⟩
  show(if h:N a then js[Classical.choose h]? else _)=_;rw[dif_pos h,ap _ k a (Classical.choose_spec h).2 m,e]
 have z2:∀{a j},z' a=some j->(∃k,js[k]? = some j/\a∈nf k)\/(z a=some j/\j∉js):=λ{a j} e=>by
  have e:(if h:N a then js[Classical.choose h]? else if ∃j∈js,z a=some j then none else z a)=some j:=e
  by_cases h:N a
  .rw[dif_pos h] at e;exact .inl ⟨_,e,(Classical.choose_spec h).2⟩
  .rw[dif_neg h] at e
   by_cases h2:∃j∈js,z a=some j
   .rw[if_pos h2] at e;cases e
   .rw[if_neg h2] at e;exact .inr ⟨e,λm=>h2 ⟨j,m,e⟩⟩
 have at_:∀{k j},js[k]? = some j->j<ρ.length:=λ{k j} e=>let⟨_,h⟩:=old j (aeT e);(abD.mp h).1
 have nC:∀{a},(∀j∈js,z a≠some j)->a∉C:=λh m=>let⟨j,mj,e⟩:=hz _ m;h j mj e
 have fr:∀{d v fp},Rep K H d v fp->(∀a∈fp,∀j∈js,z a≠some j)->Rep K H' d v fp:=λr h=>r.frame (λa m=>by
  obtain⟨o,w,_⟩:=r.cB a m;rw[keep a o (nC (h a m)) w,w]) im
 have Hx:∀{a k},k<js.length->a∈nf k->a∈C\/H a=none:=λ{a k} l m=>let⟨_,_,_,_,_,_,h⟩:=new k _ (abl l);h a m
 refine⟨z',λi d t e=>?_,λp m=>?_,λa j e=>?_,λa o e n=>?_,RC.trans ok.ln⟩
 .by_cases hi:i∈js
  .obtain⟨k,hk⟩:=ag5 hi;obtain⟨d',v,e1,e2,e3,e4,_⟩:=new k i hk;rw[Lg nd hk e1 (at_ hk)] at e;cases e;exact⟨v,nf k,e2,e3,e4,λa m=>z1 hk m⟩
  .obtain⟨e1,e2⟩:=F6 le.symm hi e;obtain⟨v,fp,hs,r,zz⟩:=ok.sl i d t e1;have hn:∀a∈fp,∀j∈js,z a≠some j:=λa m j mj q=>by
    cases t with
    |sh o=>exact e2 o rfl j mj (zz a m j q)
    |own=>have:=zz.2 a m;rw[q] at this;cases this;exact hi mj
    |lk=>have:=zz.2 a m;rw[q] at this;cases this;exact hi mj
   have hN:∀a∈fp,∀j,z' a=some j->z a=some j:=λa m j q=>by
    rcases z2 q with⟨k,hk,mk⟩|⟨q,_⟩
    .rcases Hx (abD.mp hk).1 mk with c|c
     .exact(nC (hn a m) c).elim
     .obtain⟨o,w,_⟩:=r.cB a m;rw[c] at w;cases w
    .exact q
   have rK:∀a∈fp,z' a=z a:=λa m=>by
    have h1:¬N a:=by
     rintro⟨k,l,mk⟩
     rcases Hx l mk with c|c
     .exact nC (hn a m) c
     .obtain⟨o,w,_⟩:=r.cB a m;rw[c] at w;cases w
    show(if h:N a then js[Classical.choose h]? else if ∃j∈js,z a=some j then none else z a)=_;rw[dif_neg h1,if_neg λ⟨j,mj,q⟩=>hn a m j mj q]
   refine⟨v,fp,hs,fr r hn,?_⟩;cases t with
   |sh o=>exact λa m j q=>zz a m j (hN a m j q)
   |own=>exact⟨zz.1,λa m=>(rK a m).trans (zz.2 a m)⟩
   |lk=>exact⟨zz.1,λa m=>(rK a m).trans (zz.2 a m)⟩
 .obtain⟨r,h⟩:=ok.hl p m;have hn:∀a∈p.fp,∀j∈js,z a≠some j:=λa ma j mj q=>let⟨d,e⟩:=old j mj;(h a ma j q).2 d e
  refine⟨fr r hn,λa ma j q=>?_⟩;rcases z2 q with⟨k,hk,mk⟩|⟨q,nj⟩
  .rcases Hx (abD.mp hk).1 mk with c|c
   .exact(nC (hn a ma) c).elim
   .obtain⟨o,w,_⟩:=r.cB a ma;rw[c] at w;cases w
  .exact⟨(h a ma j q).1,λd e=>(h a ma j q).2 d (F6 le.symm nj e).1⟩
 .rcases z2 e with⟨k,hk,mk⟩|⟨q,nj⟩
  .obtain⟨d',v,e1,e2,e3,e4,e5⟩:=new k j hk;refine⟨let⟨o,w,_⟩:=e3.cB a mk;⟨o,w⟩,?_⟩;rcases e5 a mk with c|c
   .obtain⟨j,_,q⟩:=hz a c;exact(ok.zd a j q).2
   .cases h0:H0 a with
    |none=>exact .inl rfl
    |some o=>
     by_cases hS:a∈S
     .exact .inr hS
     .rw[ok.en a o h0 hS] at c;cases c
  .obtain⟨⟨o,w⟩,y⟩:=ok.zd a j q;exact⟨⟨o,keep a o (nC λi mi q'=>by rw[q] at q';cases q';exact nj mi) w⟩,y⟩
 .refine keep a o (λc=>?_) (ok.en a o e n);obtain⟨j,_,q⟩:=hz a c;rcases(ok.zd a j q).2 with w|w
  .rw[e] at w;cases w
  .exact n w
end
structure VO(K:PySem.W.Frag)(z:Addr->Option Nat)(H H':Hp)(ρ:aN)(σ:St)(sl:List (Option Nat))(ps:List (D×Tag))(vs:List V)(C:List Addr):Prop where
 ln:ps.length=vs.length
 at_:∀(i:Nat) (p),ps[i]? = some p->∃v f s,vs[i]? = some v/\sl[i]? = some s/\Rep K H' p.1 v f/\(∀j,s=some j->σ[j]? = some (some v)/\(∃d,ρ[j]? = some (some (d,.own)))/\f.Nodup/\∀a∈f,z a=some j/\a∈C)/\(s=none->cH z H p.2 f)
 cc:∀a∈C,∃(i j:Nat),sl[i]? = some (some j)/\z a=some j/\∃o,H' a=some o/\iZ o=true
def FB(X:Cx)(sl:List (Option Nat))(es:List Expr)(g:AF):Prop:=∃t,PA X es t/\∀{H0} {S} {z} {aq} {ρ} {σ} {H} {Q} {ps},
 Ok X.K H0 S z aq ρ σ H->g ρ=some ps->(∀H' vs C,aG H H'->VO X.K z H H' ρ σ sl ps vs C->Q vs H')->t σ H Q
noncomputable def DO(i:Nat)(g:AF):AF:=λρ=>match ρ[i]?,g ρ with
 |some (some (d,Tag.own)),some ps=>some ((d,.sh [i])::ps)
 |_,_=>none
theorem GP:FB X [] [] aJ:=⟨_,eW,@λ_ _ _ _ _ _ H _ _ _ e k=>by cases e;exact k H [] [] (.refl _) ⟨rfl,λi p e=>by simp at e,λa m=>nomatch m⟩⟩
theorem uF(i:Nat)(hr:FB X sl es g)(va:VA X i x:=by walk_at "va")(hs:starEach (.Name x p1::es) X.env=(false,eval (.Name x p1) X.env)::starEach es X.env:=by rfl):FB X (some i::sl) (.Name x p1::es) (DO i g):=by
 obtain⟨t,p,q⟩:=hr;refine⟨_,cP va.pe p hs,@λH0 S z aq ρ σ H Q ps ok e k=>?_⟩;unfold DO at e
 split at e
 .rename_i d r h1 h2;cases e;obtain⟨v,f,hv,rv,zz⟩:=ok.sl i _ _ h1;refine⟨v,hv,q ok h2 λH' vs C s a=>k H' (v::vs) (f++C) s ⟨by rw[acj,acj,a.ln],λn p e=>?_,λb m=>?_⟩⟩
  .cases n with
   |zero=>cases e;exact⟨v,f,_,rfl,rfl,rv.same s,(λj e=>by cases e;exact⟨hv,⟨_,h1⟩,zz.1,λa m=>⟨zz.2 a m,abp _ m⟩⟩),λe=>nomatch e⟩
   |succ n=>
    obtain⟨v',f',s',a1,a2,a3,a4,a5⟩:=a.at_ n p e;exact⟨v',f',s',a1,a2,a3,λj e=>let⟨b1,b2,b3,b4⟩:=a4 j e;⟨b1,b2,b3,λa m=>⟨(b4 a m).1,aaw _ (b4 a m).2⟩⟩,a5⟩
  .rcases abB.mp m with m|m
   .exact⟨0,i,rfl,zz.2 b m,(rv.same s).cB b m⟩
   .obtain⟨n,j,c1,c2,c3⟩:=a.cc b m;exact⟨n+1,j,c1,c2,c3⟩
 .cases e
theorem mz(ha:FP X e f)(hr:FB X sl es g)(hs:starEach (e::es) X.env=(false,eval e X.env)::starEach es X.env:=by rfl):FB X (none::sl) (e::es) (ay f g):=by
 exists 58;obtain⟨t',p',q'⟩:=hr;refine⟨_,cP p p' hs,@λH0 S z aq ρ σ H Q ps ok e k=>?_⟩;obtain⟨d,tg,r,e1,e2,rfl⟩:=F_ e;refine q ok e1 λH1 v f1 s1 r1 g1=>?_
 refine q' (ok.same s1) e2 λH2 vs C s2 a=>k H2 (v::vs) C (s1.trans s2) ⟨by rw[acj,acj,a.ln],λn p e=>?_,λb m=>?_⟩
 .cases n with
  |zero=>cases e;exact⟨v,f1,_,rfl,rfl,r1.same s2,(λj e=>nomatch e),λ_=>g1⟩
  |succ n=>
   obtain⟨v',f',s',a1,a2,a3,a4,a5⟩:=a.at_ n p e;refine⟨v',f',s',a1,a2,a3,a4,λe=>?_⟩;have:=a5 e;cases ht:p.2 with
   |sh o=>rw[ht] at this;exact this
   |own=>rw[ht] at this;exact⟨this.1,λa m=>s1.free (this.2 a m)⟩
   |lk=>rw[ht] at this;exact⟨this.1,λa m=>s1.free (this.2 a m)⟩
 .obtain⟨n,j,c1,c2,c3⟩:=a.cc b m;exact⟨n+1,j,c1,c2,c3⟩
noncomputable def oB(js:List Nat):List (Option Nat)->List (D×Tag)->Bool
 |none::sl,p::ps=>(match p.2 with|.sh o=>o.all λx=>!(js.contains x)|_=>true)&&oB js sl ps
 |some _::sl,_::ps=>oB js sl ps
 |_,_=>true
theorem Dl:∀{sl} {ps}{i:Nat} {p} {o},oB js sl ps=true->sl[i]? = some none->ps[i]? = some p->p.2=.sh o->∀x∈o,x∉js
 |[],_,_,_,_,_,h,_,_=>by simp at h
 |_::_,[],_,_,_,_,_,h,_=>by simp at h
 |none::sl,p::ps,0,_,o,h,_,e,e2=>by
  cases e;unfold oB at h;rw[e2] at h;intro x m q;have:=adf.mp (ag3.mp h).1 x m;rw[adO.mpr q] at this;cases this
 |none::sl,p::ps,i+1,_,o,h,e0,e,e2=>Dl (i:=i) (by unfold oB at h;exact(ag3.mp h).2) e0 e e2
 |some _::sl,p::ps,0,_,o,h,e0,_,_=>by cases e0
 |some _::sl,p::ps,i+1,_,o,h,e0,e,e2=>Dl (ps:=ps) h e0 e e2
def xJ(js:List Nat)(sl:List (Option Nat))(G:JF)(g:AF):XF:=λρ=>match g ρ with
 |some ps=>if oB js sl ps=true then(G (ps.map (·.1))).map λw=>(w.1,lG ρ js w.2) else none
 |none=>none
def AM(js:List Nat)(sl:List (Option Nat))(G:JF)(g:AF):XR:=λρ=>(xJ js sl G g ρ).map λw=>.ok w.1 w.2
def FK(X:Cx)(e:Expr)(f:XF):Prop:=∃t,PE X e t/\∀{H0} {S} {z} {aq} {ρ} {σ} {H} {Q} {d} {ρ'},
 Ok X.K H0 S z aq ρ σ H->f ρ=some (d,ρ')->(∀z H1 H' v fp,Ok X.K H0 S z aq ρ' σ H1->aG H1 H'->Rep X.K H' d v fp->cH z H1 .own fp->Q v H')->t σ H Q
noncomputable abbrev KE(J js:List Nat)(sl:List (Option Nat)):Prop:=(∀i,i<sl.length->((sl[i]?).join.isSome=true->i∈J))/\J.length=js.length/\(∀k,k<J.length->sl[(J[k]?).getD 0]? = some (js[k]?))/\js.Nodup/\J.Nodup
theorem Kg(js:List Nat)(sl:List (Option Nat))(GG:bU X.prog X.w X.K X.mg X.base c_ k f fd ps (mZ J X.K G))(hr:bh k X.A)(hm:X.mg x=some (.ref f))(hk:PySem.W.keepIn X.K (.ref f)=true)(hb:Binds X.K fd ps [])(ha:FB X sl (e::es) g)
  (hJ:KE J js sl:=by decide) (hg:GD X x:=by exact⟨rfl,by decide⟩) (he:starEach (e::es) X.env=(false,eval e X.env)::starEach es X.env:=by rfl) (hpl:(backTo pos (starEach es X.env)).any (·.1)=false:=by rfl) :
  FK X (.Call (.Name x p) (e::es) [] pos) (xJ js sl G g):=by
 classical
 obtain⟨t,pa,sa⟩:=ha;obtain⟨j1,j2,j3,j4,j5⟩:=hJ;refine⟨_,OJ GG hr hg.1 hm hk hb .nil m6 pa hg.2 he hpl,@λH0 S z aq ρ σ H Q d ρ' ok e0 kk=>?_⟩;unfold xJ at e0;cases h1:g ρ with
 |none=>rw[h1] at e0;cases e0
 |some qs=>
  rw[h1] at e0;dsimp only at e0
  by_cases nY:oB js sl qs=true
  .rw[if_pos nY] at e0;obtain⟨w,h3,e0⟩:=acy.mp e0;cases e0;refine sa ok h1 λH2 vs C s2 ai=>?_
   rw[acI];have nN:=ok.same s2;have kJ:∀{k i},J[k]? = some i->∃j,js[k]? = some j/\sl[i]? = some (some j):=λ{k i} e=>by
    have l:=(abD.mp e).1;have:=j3 k l;rw[e] at this;exact⟨js[k]'(j2 ▸ l),abl _,this.trans (by rw[abl (j2 ▸ l)])⟩
   have iJ:∀{i j},sl[i]? = some (some j)->∃k,J[k]? = some i/\js[k]? = some j:=λ{i j} e=>by
    obtain⟨k,hk⟩:=ag5 (j1 i (abD.mp e).1 (by rw[e];rfl));obtain⟨j',a1,a2⟩:=kJ hk;rw[e] at a2;cases a2;exact⟨k,hk,a1⟩
   have inj:∀{i i' j},sl[i]? = some (some j)->sl[i']? = some (some j)->i=i':=λ{i i' j} e e'=>by
    obtain⟨k,a1,a2⟩:=iJ e;obtain⟨k',b1,b2⟩:=iJ e';obtain⟨l1,c1⟩:=abD.mp a2;obtain⟨l2,c2⟩:=abD.mp b2;cases(List.getElem_inj j4).mp (c1.trans c2.symm);rw[a1] at b1;cases b1;rfl
   let M:Addr->Nat->Prop:=λa i=>a∈C/\∃j,sl[i]? = some (some j)/\z a=some j
   let y:Addr->Option Nat:=λa=>if h:∃i,M a i then some (Classical.choose h) else none
   have y1:∀{a i},M a i->y a=some i:=λ{a i} m=>by
    show(if h:∃i,M a i then some (Classical.choose h) else none)=_;rw[dif_pos ⟨i,m⟩];obtain⟨_,j,b1,b2⟩:=Classical.choose_spec (⟨i,m⟩:∃i,M a i);obtain⟨_,j',c1,c2⟩:=m;rw[b2] at c2;cases c2;rw[inj b1 c1]
   refine⟨_,C,y,w.1,w.2,⟨by rw[List.length_map,ai.ln],λi d e=>?_,λa j e=>?_,λa m=>let⟨_,_,_,_,c⟩:=ai.cc a m;c⟩,h3,λH3 u cJ nf im kp ap nw rr xV pU le=>?_⟩
   .rw[acn] at e;obtain⟨q,hq,rfl⟩:=acy.mp e;obtain⟨v,fp,s,a1,a2,a3,a4,a5⟩:=ai.at_ i q hq;refine⟨v,fp,a1,a3,λm=>?_,λn a m=>?_⟩
    .obtain⟨k,hk⟩:=ag5 m;obtain⟨j,_,b2⟩:=kJ hk;rw[a2] at b2;cases b2;obtain⟨_,_,c3,c4⟩:=a4 j rfl;exact⟨c3,λa m=>y1 ⟨(c4 a m).2,j,a2,(c4 a m).1⟩⟩
    .show(if h:∃i,M a i then some (Classical.choose h) else none)=_;rw[dif_neg]
     rintro⟨i',mc,j,b1,b2⟩
     cases s with
     |some j'=>obtain⟨k,hk,_⟩:=iJ a2;exact n (aeT hk)
     |none=>
      have tg:=a5 rfl;obtain⟨k,_,hj⟩:=iJ b1;cases ht:q.2 with
      |sh o=>rw[ht] at tg;exact Dl nY a2 hq ht j (tg a m j b2) (aeT hj)
      |own=>rw[ht] at tg;obtain⟨⟨o,hw⟩,_⟩:=ok.zd a j b2;rw[tg.2 a m] at hw;cases hw
      |lk=>rw[ht] at tg;obtain⟨⟨o,hw⟩,_⟩:=ok.zd a j b2;rw[tg.2 a m] at hw;cases hw
   .have e:(if h:∃i,M a i then some (Classical.choose h) else none)=some j:=e
    by_cases h:∃i,M a i
    .obtain⟨_,m,_⟩:=h;exact m
    .rw[dif_neg h] at e;cases e
   .have st:∀{c} {o},H3 c=some o->iZ o=false->(if c∈cJ then none else H3 c)=some o:=λ{c o} e mo=>by
     rw[if_neg λm=>?_]
     .exact e
     .obtain⟨o',w,lK⟩:=rr.cB c m;rw[e] at w;cases w;rw[mo] at lK;cases lK
    have i4:aX H2 (λc=>if c∈cJ then none else H3 c):=⟨λc xs e=>st (im.1 c xs e) rfl,λc o u e=>st (im.2.1 c o u e) rfl,λc φ e=>st (im.2.2 c φ e) rfl⟩
    have P:∃z',Ok X.K H0 S z' aq (lG ρ js w.2) σ (λc=>if c∈cJ then none else H3 c):=by
     refine nN.Vk (C:=C) j4 (le.trans j2) (λj m=>?_) i4 (λa m=>?_) (λb o n e=>?_) ap (λk j e=>?_)
     .obtain⟨k,hk⟩:=ag5 m;have l:=(abD.mp hk).1;obtain⟨j',c1,c2⟩:=kJ (abl (j2 ▸ l:k<J.length));rw[hk] at c1;cases c1;obtain⟨d,u',_,b2,_⟩:=nw k _ (abl (j2 ▸ l:k<J.length));have lv:=(abD.mp b2).1;obtain⟨v,fp,s,a1,a2,a3,a4,a5⟩:=ai.at_ _ _ (abl (ai.ln ▸ lv));rw[c2] at a2;cases a2;exact(a4 _ rfl).2.1
     .obtain⟨i,j,c1,c2,_⟩:=ai.cc a m;obtain⟨k,_,hj⟩:=iJ c1;exact⟨j,aeT hj,c2⟩
     .show(if b∈cJ then none else H3 b)=some o;rw[if_neg λm=>?_]
      .exact kp b o n e
      .rcases(pU b m).1 with q|q
       .exact n q
       .rw[e] at q;cases q
     .have l:=(abD.mp e).1;obtain⟨j',c1,c2⟩:=kJ (abl (j2 ▸ l:k<J.length));rw[e] at c1;cases c1;obtain⟨d,u',b1,b2,b3,b4,b5⟩:=nw k _ (abl (j2 ▸ l:k<J.length));have lv:=(abD.mp b2).1;obtain⟨v,fp,s,a1,a2,a3,a4,a5⟩:=ai.at_ _ _ (abl (ai.ln ▸ lv));rw[c2] at a2;cases a2;rw[b2] at a1;cases a1;refine⟨d,u',b1,(a4 _ rfl).1,b3.frame (λa m=>if_neg λq=>(pU a q).2 k m) ⟨λc xs e=>st e rfl,λc o u e=>st e rfl,λc φ e=>st e rfl⟩,b4,b5⟩
    obtain⟨z',iV⟩:=P;refine kk z' _ H3 u cJ iV (λc o e=>?_) rr ⟨xV,λa m=>if_pos m⟩;have e:(if c∈cJ then none else H3 c)=some o:=e
    by_cases m:c∈cJ
    .rw[if_pos m] at e;cases e
    .rw[if_neg m] at e;exact e
  .rw[if_neg nY] at e0;cases e0
theorem N7(js:List Nat)(sl:List (Option Nat))(GG:bU X.prog X.w X.K X.mg X.base c_ k f fd ps (mZ J X.K G))(hr:bh k X.A)(hm:X.mg x=some (.ref f))(hk:PySem.W.keepIn X.K (.ref f)=true)(hb:Binds X.K fd ps [])(ha:FB X.eZ sl (e::es) g)
  (hJ:KE J js sl:=by decide) (hg:GD X x:=by exact⟨rfl,by decide⟩) (he:starEach (e::es) X.env=(false,eval e X.env)::starEach es X.env:=by rfl) (hpl:(backTo pos (starEach es X.env)).any (·.1)=false:=by rfl) :
  FE X (.Call (.Name x p) (e::es) [] pos) (AM js sl G g):=by
 obtain⟨t,p,q⟩:=Kg (X:=X.eZ) js sl GG hr hm hk hb ha hJ hg he hpl;refine⟨_,L_ p,@λH0 S z aq ρ σ H Q E r ok e0 kk=>?_⟩;obtain⟨w,h,rfl⟩:=acy.mp e0;exact q ok h kk
open PySem PySem.Spec PySem.W PyProof.Rows
def pH:D->Option (List Key)
 |.tup ds=>match iG ds with
  |some ks=>if ks.all (λk=>k.isLeft)=true/\ks≠[] then some ks else none
  |none=>none
 |_=>none
theorem Rep.tk{K:Frag}(r:Rep K H d v fp)(ni:pW K=true)(h:pH d=some ks):∃b,v=.ref b/\Tk H b (ks.map L2.kV):=by
 cases d with
 |tup ds=>
  obtain⟨b,xs,rfl,hq,rs⟩:=r.jh;unfold pH at h;dsimp only at h;cases hk:iG ds with
  |none=>rw[hk] at h;cases h
  |some k=>
   rw[hk] at h;dsimp only at h
   by_cases hc:k.all (λk=>k.isLeft)=true/\k≠[]
   .rw[if_pos hc] at h;cases h;obtain rfl:=aB.keys rs hk;exact⟨b,rfl,Ru hq ni hc.1 hc.2⟩
   .rw[if_neg hc] at h;cases h
 |_=>cases h
def v9(ρ:aN)(j:Nat):aN:=(ρ.map (sA j)).set j none
theorem Ok.out{K:Frag}(ok:Ok K H0 S z aq ρ σ H)(hj:ρ[j]? = some (some (d,.own)))(r:Rep K H d v fp)(hz:∀a∈fp,z a=some j):
  ∃z',Ok K H0 S z' aq (v9 ρ j) σ (λc=>if c∈fp then none else H c):=by
 classical
 have im:aX H (λc=>if c∈fp then none else H c):=by
  have st:∀{c} {o},H c=some o->iZ o=false->(if c∈fp then none else H c)=some o:=λ{c o} e mo=>by
   rw[if_neg λm=>?_]
   .exact e
   .obtain⟨o',w,lK⟩:=r.cB c m;rw[e] at w;cases w;rw[mo] at lK;cases lK
  exact⟨λc xs e=>st e rfl,λc o u e=>st e rfl,λc φ e=>st e rfl⟩
 have fr:∀{d v g},Rep K H d v g->(∀a∈g,z a≠some j)->Rep K (λc=>if c∈fp then none else H c) d v g:=λr h=>r.frame (λa m=>if_neg λq=>h a m (hz a q)) im
 have at_:∀{a k},(if z a=some j then none else z a)=some k->z a=some k/\k≠j:=λ{a k} e=>by
  by_cases h:z a=some j
  .rw[if_pos h] at e;cases e
  .rw[if_neg h] at e;exact⟨e,λq=>h (q ▸ e)⟩
 refine⟨λa=>if z a=some j then none else z a,λk d t e=>?_,λp m=>?_,λa k e=>?_,λa o e n=>?_,?_⟩
 .unfold v9 at e
  by_cases hk:k=j
  .subst hk;rw[aer (by rw[List.length_map];exact(abD.mp hj).1)] at e;cases e
  .rw[acY (afH hk),acn] at e;obtain⟨s,e0,e⟩:=acy.mp e;obtain⟨rfl,h2⟩:=HB e;obtain⟨v,g,hs,r1,zz⟩:=ok.sl k d t e0;have own:(∀a∈g,z a=some k)->∀a∈g,z a≠some j:=λh a m q=>by rw[h a m] at q;exact hk (ab4 q)
   cases t with
   |sh o=>exact⟨v,g,hs,fr r1 λa m q=>h2 o rfl (zz a m j q),λa m i e=>zz a m i (at_ e).1⟩
   |own=>exact⟨v,g,hs,fr r1 (own zz.2),zz.1,λa m=>(if_neg (own zz.2 a m)).trans (zz.2 a m)⟩
   |lk=>exact⟨v,g,hs,fr r1 (own zz.2),zz.1,λa m=>(if_neg (own zz.2 a m)).trans (zz.2 a m)⟩
 .obtain⟨r1,h⟩:=ok.hl p m;refine⟨fr r1 λa m q=>(h a m j q).2 d hj,λa m k e=>?_⟩;obtain⟨h1,h2⟩:=h a m k (at_ e).1;refine⟨h1,λd' q=>h2 d' ?_⟩;unfold v9 at q;rw[acY (afH (at_ e).2),acn] at q;obtain⟨s,e0,q⟩:=acy.mp q;rw[e0,(HB q).1]
 .obtain⟨e1,e2⟩:=at_ e;obtain⟨⟨o,w⟩,y⟩:=ok.zd a k e1;exact⟨⟨o,(if_neg λm=>by rw[hz a m] at e1;exact e2 (ab4 e1).symm).trans w⟩,y⟩
 .show(if a∈fp then none else H a)=some o;rw[if_neg λm=>?_]
  .exact ok.en a o e n
  .rcases(ok.zd a j (hz a m)).2 with w|w
   .rw[e] at w;cases w
   .exact n w
 .unfold v9;rw[ags,List.length_map];exact ok.ln
def BY(f0:EF)(j:Nat)(f2:EF):XR:=λρ=>match f0 ρ,ρ[j]?,f2 ρ with
 |some (d0,_),some (some (d,.own)),some (d2,.own)=>if aC d0=true then some (.ok (.tup [d0,d,d2]) (v9 ρ j)) else none
 |_,_,_=>none
theorem ZM(j:Nat){y:Str}{p1:Pos}{x1}(h0:FP X.eZ a f0)(h2:FP X.eZ b f2)(va:VA X.eZ j y:=by walk_at "va")(hs:starEach [a,.Name y p1,b] X.env=(false,eval a X.env)::starEach [.Name y p1,b] X.env:=by rfl)(cG:starEach [.Name y p1,b] X.env=(false,eval (.Name y p1) X.env)::starEach [b] X.env:=by rfl)(AG:Y1 X b:=by rfl):
  FE X (.Tuple [a,.Name y p1,b] x1 pos) (BY f0 j f2):=by
 classical
 obtain⟨t0,p0,q0⟩:=h0;obtain⟨t2,p2,q2⟩:=h2;refine⟨_,L_ (KZ (cP p0 (cP va.pe (cP p2 eW AG) cG) hs)),@λH0 S z aq ρ σ H Q E r ok e k=>?_⟩;unfold BY at e
 split at e
 .rename_i d0 t d d2 e0 e1 e2
  by_cases hi:aC d0=true
  .rw[if_pos hi] at e;cases e;refine q0 ok e0 λH1 v0 g0 s1 r0 _=>?_
   have hn:=r0.aC hi;subst hn;obtain⟨v,fj,hv,rj,zz⟩:=ok.sl j _ _ e1;refine⟨v,hv,q2 (ok.same s1) e2 λH2 v2 g2 s2 r2 gg=>⟨by show(3:Nat)<=_;exact afk (xj (by decide)),λc hc=>?_⟩⟩;obtain⟨z',aS⟩:=ok.out e1 rj zz.2;have sc:aG H2 (upd H2 c (.tup [v0,v,v2])):=λb o e=>by rw[aO (cZ e hc)];exact e
   have sa:=(s1.trans s2).trans sc;refine k z' _ _ _ ([]++(fj++(g2++[]))) aS (λb o e=>?_) (.tup (cj.of cz) (.cons (r0.same (s2.trans sc)) (.cons (rj.same sa) (.cons (r2.same sc) .nil)))) ⟨?_,λb m=>?_⟩
   .by_cases m:b∈fj
    .rw[show(if b∈fj then none else H b)=none from if_pos m] at e;cases e
    .exact sa b o ((if_neg m).symm.trans e)
   .rw[List.nil_append,acI];refine ac3.mpr ⟨zz.1,gg.1,λa ma b mb e=>?_⟩;obtain⟨o,w,_⟩:=rj.cB a ma;have:=s1.free (gg.2 b mb);rw[<- e,w] at this;cases this
   .rw[List.nil_append,acI] at m;rcases abB.mp m with m|m
    .exact if_pos m
    .show(if b∈fj then none else H b)=none;rw[s1.free (gg.2 b m)];split<;>rfl
  .rw[if_neg hi] at e;cases e
 .cases e
section
variable{z:Z}
theorem Z.oJ(J:List Nat)(xs:List Str)(S:xM n m s)(h0:Ng (jB s) xs J=true)(hJ:J.Nodup)(h:∀(f) (aQ) (A) (o) (t) (H) (E),bh k (A.deeper (envOfC (iu c s) (ck s) t.heap.objs.size f aQ))->(jB s).Nodup->FJ J false ((fU c_ z.P z.w z.K z.mg z.base (jB s) (iu c s) (ck s) f aQ A o t H E).eZ.kr xs) (gI s) b):
  z.D (k+1) c s (mZ J · (m9 J n m b)):=by
 obtain⟨S,rfl,rfl,l⟩:=S;exact λ_ _ F=>Yj F S h0 hJ l λaQ A o t H E hr=>h _ aQ A o t H E hr S.nd
end
section
variable{A:Z->Prop}
noncomputable abbrev wJ{F:JF}(_:∀z,A z->z.D k c s (mZ J · F) cm)(z:Z):Prop:=z.N k s (mZ J · F) cm
noncomputable abbrev fJ{F:JF}(_:∀z,A z->z.D k c s (mZ J · F) cm):JF:=F
end
end L2.Ev
namespace L2
open PySem PySem.Spec PyProof.Rows
theorem KV.at{κ:Type}:∀{ak:List (κ×V)}{vs:List (κ×Value)}{i:Nat}{p:κ×V},KV ak vs->ak[i]? = some p->∃q,vs[i]? = some q/\p.1=q.1
 |_,_,i,p,.nil,e=>by simp at e
 |_,_,0,p,.cons r _,e=>by cases e;exact⟨_,rfl,r.1⟩
 |_,_,i+1,p,.cons _ t,e=>KV.at (i:=i) t e
end L2
namespace L2.Ev
open PySem PySem.Spec PyProof.Rows
noncomputable def Jv:D->Option Str
 |.tup (.str s::_)=>some s
 |_=>none
noncomputable def ae6:Key->D
 |.inl k=>.int k
 |.inr x=>.str x
def Sg(c:Str)(ak:List (Key×D)):List D:=(ak.filter λp=>decide ((Jv p.2).getD Str.empty=c)).map λp=>ae6 p.1
open PySem PySem.Spec PySem.W PyProof.Rows
def xI(f:XF):XF:=λρ=>match f ρ with
 |some (d,ρ')=>if aC d=true then some (d,ρ') else none
 |none=>none
theorem FK.fz(h:FK X e fx):FZ X e (xI fx):=by
 obtain⟨t,p,q⟩:=h;refine⟨t,p,@λH0 S z aq ρ σ H Q d ρ' ok e k=>?_⟩;unfold xI at e;cases h1:fx ρ with
 |none=>rw[h1] at e;cases e
 |some w=>
  rw[h1] at e;exists 59
  by_cases hi:aC w.1=true
  .rw[if_pos hi] at e;cases e;refine q ok h1 λz' H1 H' v fp bB s1 r1 _=>?_
   have hn:=r1.aC hi;subst hn;exact k z' H' v (bB.same s1) r1
  .rw[if_neg hi] at e;cases e
def Nf(fa fb fc:EF):EF:=λρ=>match fa ρ,fb ρ,fc ρ with
 |some (.cY es,.sh o),some (kd,_),some (d3,.own)=>(pH kd).map λk=>((bA es k).getD d3,.sh o)
 |_,_,_=>none
theorem aaz(hu:X.A.units+1<cLine)(ni:pW X.K=true)(ha:FP X a fa)(hb:FP X b fb)(hc:FP X c fc)(m:M2 X a "get" apos b c fP:=by exact⟨rfl,rfl,rfl,rfl⟩):FP X (.Call (.Attribute a "get" apos) [b,c] [] fP) (Nf fa fb fc):=by
 exists 46;obtain⟨tc,pc,sc⟩:=hc;exists 21,GC hu pa pb pc m;unfold Nf at e
 split at e
 .rename_i es o kd t2 d3 h1 h2 h3;obtain⟨ks,hk,e⟩:=acy.mp e;cases e;refine sa ok h1 λH1 x f1 s1 r1 g1=>?_
  cases r1 with
  | @cY p ak _ fp h he rs=>
   refine⟨p,rfl,.inr ⟨ak,.inl h⟩,?_⟩;refine sb (ok.same s1) h2 λH2 y f2 s2 r2 _=>?_
   refine sc ((ok.same s1).same s2) h3 λH3 w f3 s3 r3 g3=>?_
   obtain⟨bL,rfl,uW⟩:=r2.tk ni hk;refine⟨_,ic.t (s3 _ _ (s2 _ _ h)) (Tk.aC uW (.of s3)),?_⟩;have y9:=(s1.trans s2).trans s3;obtain⟨i1,i2⟩:=qC he ((rs.same s2).same s3);cases hv:bA es ks with
   |some d'=>
    rw[hv] at k;obtain⟨v,f,e1,r,sub⟩:=i1 d' hv;rw[e1];exact k H3 v f y9 r λa m j q=>g1 a (aaf _ (sub a m)) j q
   |none=>
    rw[hv] at k;rw[i2 hv];refine k H3 w f3 y9 r3 λa m j q=>?_
    obtain⟨⟨o',w'⟩,_⟩:=ok.zd a j q;rw[(s1.trans s2).free (g3.2 a m)] at w';cases w'
 .cases e
theorem Wf{K:Frag}[DecidableEq κ](rv:Rep K H d v fv)(nv:fv.Nodup):∀{es}{ak:List (κ×V)} {g},es.map (·.1)=ak.map (·.1)->aB K H (es.map (·.2)) (ak.map (·.2)) g->g.Nodup->(es.map (·.1)).Nodup->(∀a∈fv,a∉g)->
  ∃g',aB K H ((putD es k d).map (·.2)) ((putK ak k v).map (·.2)) g'/\g'.Nodup/\∀a∈g',a∈g\/a∈fv:=by
 intro es
 induction es with
 |nil=>
  intro ak g e rs ng _ dj;cases ak with
  |nil=>cases rs;exact⟨fv++[],.cons rv .nil,by rw[acI];exact nv,λa m=>.inr (by rwa [acI] at m)⟩
  |cons _ _=>cases e
 |cons p es ih=>
  intro ak g e rs ng nk dj;cases ak with
  |nil=>cases e
  |cons q ak=>
   obtain⟨e1,e2⟩:=List.cons.inj e;have e1:p.1=q.1:=e1;obtain⟨n1,n2⟩:=abZ.mp nk;cases rs with
   | @cons _ _ _ _ f1 f2 r1 r2=>
    obtain⟨a1,a2,a3⟩:=ac3.mp ng
    by_cases hk:p.1=k
    .have nk:k∉es.map (·.1):=hk ▸ n1;have o1:putD (p::es) k d=(p.1,d)::es:=by
      unfold putD;rw[afK,aaA hk,Bool.true_or,if_pos rfl,aan,if_pos hk,wZ nk]
     have o2:putK (q::ak) k v=(q.1,v)::ak:=by
      unfold putK;rw[afK,aaA (e1 ▸ hk),Bool.true_or,if_pos rfl,aan,if_pos (e1 ▸ hk),wZ (e2 ▸ nk)]
     rw[o1,o2];exact⟨fv++f2,.cons rv r2,ac3.mpr ⟨nv,a2,λa m b m' e=>dj a m (e ▸ aaw _ m')⟩,λa m=>(abB.mp m).elim .inr λm=>.inl (aaw _ m)⟩
    .obtain⟨g',b1,b2,b3⟩:=ih e2 r2 a2 n2 λa m q=>dj a m (aaw _ q)
     have o1:putD (p::es) k d=p::putD es k d:=by
      unfold putD;rw[afK,abV hk,Bool.false_or]
      split
      .rw[aan,if_neg hk]
      .rfl
     have o2:putK (q::ak) k v=q::putK ak k v:=by
      unfold putK;rw[afK,abV (e1 ▸ hk),Bool.false_or]
      split
      .rw[aan,if_neg (e1 ▸ hk)]
      .rfl
     rw[o1,o2];refine⟨f1++g',.cons r1 b1,ac3.mpr ⟨a1,b2,λa m b m' e=>?_⟩,λa m=>?_⟩
     .rcases b3 b m' with q|q
      .exact a3 a m b q e
      .exact dj b q (e ▸ abp _ m)
     .rcases abB.mp m with m|m
      .exact .inl (abp _ m)
      .exact(b3 a m).imp (aaw _) id
def AE(i:Nat)(fk fv:EF):SF:=λρ=>match fv ρ,ρ[i]?,fk ρ with
 |some (d,t),some (some (.cY es,.own)),some (kd,_)=>match pH kd with
  |some k=>if(jQ t||aC d)=true/\(es.map (·.1)).Nodup/\es.length<sizeLine then some (.nx (bT ρ i (.cY (putD es k d)))) else none
  |none=>none
 |_,_,_=>none
theorem Sz(i:Nat){x:Str}{k v:Expr}{p1 pos':Pos}(hu:X.A.units+1<cLine)(ni:pW X.K=true)(hk:FP X k fk)(hv:FP X v fv)(va:VA X i x:=by walk_at "va")(hs:swapsWith v (some (.Subscript (.Name x p1) k pos')) pos.line X.env=pure false:=by rfl):
  eT X (.Assign [.Subscript (.Name x p1) k pos'] v pos) (AE i fk fv):=by
 obtain⟨tk,pk,sk⟩:=hk;obtain⟨tv,lB,sv⟩:=hv;exists 25,BB hu va.pe pk lB hs;unfold AE at e
 split at e
 .rename_i d td es kd ND h1 h2 h3;cases h4:pH kd with
  |none=>rw[h4] at e;cases e
  |some key=>
   rw[h4] at e;exists 59
   split at e
   .rename_i hc;obtain⟨ho,nk,hz⟩:=hc;cases e;refine sv ok h1 λH1 v vo s1 rv gv=>?_
    have fr:vo.Nodup/\∀a∈vo,H a=none:=by
     cases hi:aC d with
     |true=>rw[rv.aC hi];exact⟨.nil,λa m=>nomatch m⟩
     |false=>
      rw[hi,Bool.or_false] at ho;cases td with
      |sh _=>cases ho
      |own=>exact gv
      |lk=>exact gv
    obtain⟨xv,fp,cL,r,zz⟩:=ok.sl i _ _ h2;refine⟨xv,cL,?_⟩;refine sk (ok.same s1) h3 λH2 y OU s2 rk _=>?_
    obtain⟨bL,rfl,uW⟩:=rk.tk ni h4;cases r with
    | @cY a ak _ f h gZ rs=>
     have R0:=s2 _ _ (s1 _ _ h);have hl:ak.length=es.length:=by have:=congrArg List.length gZ;simpa using this.symm
     refine⟨a,_,rfl,o6.t R0 uW (by rw[hl];exact hz),?_⟩;obtain⟨na,nf⟩:=abZ.mp zz.1;have rd:∀a∈f,∃o,H a=some o:=λa m=>let⟨o,w,_⟩:=rs.cB a m;⟨o,w⟩
     have dj:∀b∈vo,b∉f:=λb m n=>by obtain⟨o,w⟩:=rd b n;rw[fr.2 b m] at w;cases w
     have av:a∉vo:=λm=>by rw[fr.2 a m] at h;cases h
     have im:aX H2 (upd H2 a (.dT (putK ak key v))):=aX.upd R0 rfl;obtain⟨g',b1,b2,b3⟩:=Wf ((rv.same s2).frame (H':=upd H2 a (.dT (putK ak key v))) (λb m=>aO λq=>av (q ▸ m)) im) fr.1 gZ (((rs.same s1).same s2).frame (λb m=>aO λq=>na (q ▸ m)) im) nf nk dj;obtain⟨z',aS⟩:=ok.put h2 cL zz (((aX.of s1).trans (aX.of s2)).trans im) (λb o n e=>by rw[aO λq:b=a=>n (q ▸ aak)];exact s2 _ _ (s1 _ _ e)) (.cY cz (zw gZ) b1) (abZ.mpr ⟨λm=>(b3 a m).elim na av,b2⟩) (λb m=>by
      rcases aaQ.mp m with rfl|m
      .exact .inl aak
      .exact(b3 b m).imp (aaf _) (fr.2 b))
     exact q z' σ _ aS (.refl _ _)
   .cases e
 .cases e
end L2.Ev
namespace L2.Ev
open PySem PySem.Spec PyProof.Rows
noncomputable def AQ(o:D->D->Option D)(fx:XF)(fb:EF):XF:=λρ=>match fx ρ with
 |some (d1,ρ')=>match fb ρ' with
  |some (d2,_)=>(o d1 d2).map λd=>(d,ρ')
  |none=>none
 |none=>none
def EB(o:D->Option D)(fx:XF):XF:=λρ=>match fx ρ with
 |some (d1,ρ')=>match o d1 with
  |some d=>if aC d=true then some (d,ρ') else none
  |none=>none
 |none=>none
theorem GZ(ha:FZ X a fx)(hb:FP X b fb):FZ X (.Compare a [.Is] [b] pos) (AQ gR fx fb):=by
 exists 46;exists 27,GK JT pa pb (ie _);unfold AQ at e;cases h1:fx ρ with
 |none=>rw[h1] at e;cases e
 |some w=>
  obtain⟨d1,aR⟩:=w;rw[h1] at e;exists 59;cases h2:fb aR with
  |none=>rw[h2] at e;cases e
  |some w2=>
   rw[h2] at e;obtain⟨d3,h3,e⟩:=acy.mp e;cases e;refine sa ok h1 λz1 H1 x bB r1=>?_
   refine sb bB h2 λH2 y f2 s2 r2 _=>?_
   exact Gf H2 x y d1 w2.1 [] f2 _ _ (r1.same s2) r2 h3 λH3 v s3 r3=>k z1 H3 v ((bB.same s2).same s3) r3
noncomputable def zp:D->Option D
 |.bl b=>some (.str (if b then "True" else "False"))
 |.str x=>if(reprText x).length<=sizeLine then some (.str (reprText x)) else none
 |_=>none
def O6:List V->Hp->VK->Prop:=λxs H Q=>(∃b,xs=[.bl b]/\Q (.str (if b then "True" else "False")) H)\/∃x,xs=[.str x]/\(reprText x).length<=sizeLine/\Q (.str (reprText x)) H
theorem KW:f7 X (.builtin "repr") O6:=by
 exists 43;rcases h with⟨b,rfl,q⟩|⟨x,rfl,hz,q⟩
 .exists 67;cases ru;exact PySem.P.repr_of_bool ⟨.str _,H,I.tok _,⟨_,rfl⟩,q⟩
 .exists 67;obtain⟨t,rfl⟩:=ru;exact PySem.P.repr_of_str ⟨.str _,H,I.tok _,⟨_,rfl⟩,q⟩ hz
theorem Kv{K:PySem.W.Frag}:n5 K O6 zp:=by
 intro H x d1 f1 d Q r e k;cases d1 with
 |bl b=>cases e;cases r;exact .inl ⟨b,rfl,k H _ [] (aG.refl H) (.str _) acm λa m=>nomatch m⟩
 |str y=>
  have e:(if(reprText y).length<=sizeLine then some (D.str (reprText y)) else none)=some d:=e
  by_cases hz:(reprText y).length<=sizeLine
  .rw[if_pos hz] at e;cases e;cases r;exact .inr ⟨y,rfl,hz,k H _ [] (aG.refl H) (.str _) acm λa m=>nomatch m⟩
  .rw[if_neg hz] at e;cases e
 |_=>cases e
theorem Fq(hm:X.mg "repr"=none)(ha:FP X a fa)(hg:Gl X "repr":=by rfl)(hs:Y1 X a:=by rfl):FP X (.Call (.Name "repr" p) [a] [] pos) (e1 zp fa):=
 fp_1 Kv ha λta pa=>lY KW hg hm boot_repr (cP pa eW hs) (he:=hs)
theorem Wy(hm:X.mg "repr"=none)(ha:FZ X a fx)(hg:Gl X "repr":=by rfl)(hs:Y1 X a:=by rfl):FZ X (.Call (.Name "repr" p) [a] [] pos) (EB zp fx):=by
 obtain⟨ta,pa,sa⟩:=ha;exists 27,lY KW hg hm boot_repr (cP pa eW hs) (he:=hs);unfold EB at e;cases h1:fx ρ with
 |none=>rw[h1] at e;cases e
 |some w=>
  rw[h1] at e;exists 59;cases h2:zp w.1 with
  |none=>rw[h2] at e;cases e
  |some d2=>
   rw[h2] at e;exists 59
   by_cases hi:aC d2=true
   .rw[if_pos hi] at e;cases e;refine sa ok h1 λz1 H1 x bB r1=>?_
    refine Kv H1 x w.1 [] _ _ r1 h2 λH2 v fp s2 r2 _ _=>?_
    have hn:=r2.aC hi;subst hn;exact k z1 H2 v (bB.same s2) r2
   .rw[if_neg hi] at e;cases e
theorem adE(hc:pO X c tc)(ha:FJ J im X s1 f)(hb:FJ J im X s2 g):oz J im X (.If c s1 s2 pos) (vv tc f g):=by
 obtain⟨t,p,q⟩:=hc;obtain⟨t1,p1,q1⟩:=ha;obtain⟨t2,p2,q2⟩:=hb;exists 23,zL p p1 p2;unfold vv at e;cases h:tc ρ with
 |none=>rw[h] at e;cases e
 |some w=>
  obtain⟨y,aR⟩:=w;rw[h] at e;refine q ok h λz1 H1 bB=>?_
  cases y with
  |true=>rw[if_pos rfl];exact q1 bB e k
  |false=>rw[if_neg abu];exact q2 bB e k
end L2.Ev
namespace K90
open PySem L2 L2.Ev
local macro_rules | `(tactic| walk_at "s")=>`(tactic| exact ⟨⟨rfl,rfl,rfl,by decide +kernel,rfl,by decide +kernel,by decide +kernel⟩,rfl,rfl,by decide⟩)
set_option hygiene false
local macro_rules | `(tactic| exists 1,$a)=>`(tactic| exact Z.oF (by walk_at "s") fun _ _ _ _ _ _ _ _ hr nd=>by exact $a)
local macro_rules | `(tactic| exists 2,$a)=>`(tactic| exact Z.oM (by walk_at "s") rfl fun _ _ _ _ _ _ _ hr nd=>by exact $a)
local macro_rules | `(tactic| exists 5,$a)=>`(tactic| exact Z.oR (by walk_at "s") fun _ _ _ _ _ _ _ hr nd=>by exact $a)
local macro_rules | `(tactic| exists 6,$j,$x,$a)=>`(tactic| exact Z.oJ $j $x (by walk_at "s") rfl (by decide) fun _ _ _ _ _ _ _ hr nd=>by exact $a)
set_option hygiene true
theorem fT{z:Z}(E:En L z):ClsAt z.K "Changes" (cA z.K "Changes"):=E.c _ rfl
theorem aH{z:Z}(E:En L z):ClsAt z.K "Gate" (cA z.K "Gate"):=E.c _ rfl
theorem jw{z:Z}(E:En L z):ClsAt z.K "Tally" (cA z.K "Tally"):=E.c _ rfl
def Df:=λ(z:Z) (E:En L z)=>(by exists 1,(aL (bG 4 aD nd) (aL (b_ (yC (dX (E.b rfl) (ah 0)) aD) (aI (bG 4 (fq (ah 0) (yh (ah 1) (dX (E.b rfl) (ah 0)))) nd)) cg) (aI (aV (yh (yh (fY (vF (fY (ah 4) (vF (ah 1) (ah 1))) aD) aD) (ah 2)) (ah 3)))))):z.D 1 Str.empty (top 48) (bx · (bJ 4 5 _)))
abbrev sF:=fF Df
def sM:=wF Df
def CP:=λ(z:Z) (E:En L z/\sM z)=>(by obtain⟨E,p⟩:=E;exists 1,(aL (bG 2 (fY aD (bC p.G hr.m p.m p.kp p.b (ao (ah 0) (ao aD (ao aD (ao (ah 1) aE)))))) nd) (aL (bG 3 (fY aD (bC p.G hr.m p.m p.kp p.b (ao (ah 0) (ao aD (ao aD (ao aD aE)))))) nd) (aL (b_ (f_ (bC p.G hr.m p.m p.kp p.b (ao (ah 0) (ao aD (ao aD (ao aD aE))))) aD) (aI (bG 3 aD nd)) cg) (aL (bG 4 (fY aD (bC p.G hr.m p.m p.kp p.b (ao (ah 0) (ao aD (ao aD (ao aD aE)))))) nd) (aI (aV (jM (ao (ah 2) (ao (ah 3) (ao (ah 4) (ao (fY (ah 4) (bC p.G hr.m p.m p.kp p.b (ao (ah 0) (ao aD (ao aD (ao aD aE)))))) aE))))))))))):z.D 2 Str.empty (top 49) (bx · (bJ 2 5 _)))
abbrev WL:=fF CP
def afI:=wF CP
def Ei:=λ(z:Z) (E:En L z)=>(by exists 1,(aI (aV (oO (Im aav (E.b rfl) (E.b rfl) (ah 0)) (oO (Z7 (Im abS (E.b rfl) (E.b rfl) (ah 0))) (qT (adB (ah 1) (ah 0) (ah 2))))))):z.D 1 Str.empty (top 11) (bx · (bJ 3 3 _)))
abbrev mH:=fF Ei
def yS:=wF Ei
def Fj:=λ(z:Z) (E:En L z/\yS z)=>(by obtain⟨E,p⟩:=E;exists 1,(aI (aV (oO (bC p.G hr.m p.m p.kp p.b (ao (ah 1) (ao aD (ao (oj (E.i rfl)) aE)))) (qT (bC p.G hr.m p.m p.kp p.b (ao (ah 0) (ao aD (ao (ah 1) aE)))))))):z.D 2 Str.empty (top 41) (bx · (bJ 2 2 _)))
abbrev af4:=fF Fj
def MZ:=wF Fj
def Q3:=λ(z:Z) (E:En L z)=>(by exists 2,(cK (bz (fM 0 (fT E) (E.n rfl) (fQ aE)))):z.D 1 "Changes" (inClass (top 25) 0) (dM · (runM 1 1 _)))
def WB:=wI Q3
def Ib:=λ(z:Z) (E:En L z/\MZ z/\yS z/\WB z)=>(by obtain⟨E,p,q,u⟩:=E;exists 2,(a_ (gu (je (FW.ft (qE (fL (bC q.G hr.m q.m q.kp q.b (ao (ah 1) (ao aD (ao (oj (E.i rfl)) aE))))) (qE (fL (bC q.G hr.m q.m q.kp q.b (ao (ah 2) (ao aD (ao (oj (E.i rfl)) aE))))) (tQ (fL (bC p.G hr.m p.m p.kp p.b (ao (ah 3) (ao (ah 4) aE))))))))) (cK n8) g_) (a_ (bz (fM 0 (aH E) (E.n rfl) (jM (ao (ah 1) (ao (ah 2) (ao (ah 3) (ao (ah 4) aE))))))) (a_ (bz (fM 0 (aH E) (E.n rfl) (abU (fT E).ns u.M u.G hr.m (E.m rfl) u.b))) (a_ (bz (fM 0 (aH E) (E.n rfl) (fQ aE))) (a_ (bz (fM 0 (aH E) (E.n rfl) (fQ aE))) (a_ (bz (fM 0 (aH E) (E.n rfl) IJ)) (a_ (bz (fM 0 (aH E) (E.n rfl) O1)) (a_ (bz (fM 0 (aH E) (E.n rfl) (fQ aE))) (a_ (bz (fM 0 (aH E) (E.n rfl) gm)) (a_ (bz (fM 0 (aH E) (E.n rfl) (fQ aE))) (a_ (bz (fM 0 (aH E) (E.n rfl) (fQ aE))) (a_ (bz (fM 0 (aH E) (E.n rfl) aD)) (cK (bz (fM 0 (aH E) (E.n rfl) aD))))))))))))))):z.D 3 "Gate" (inClass (top 46) 0) (dM · (runM 5 5 _)))
abbrev Oj:=fO Ib
def Uv:=wI Ib
def Fg:=λ(z:Z) (E:En L z/\sM z)=>(by obtain⟨E,p⟩:=E;exists 1,(aL (bG 5 (bC p.G hr.m p.m p.kp p.b (ao (ah 0) (ao (ah 1) (ao aD (ao aD aE))))) nd) (aL (b_ (FW.ft (qE (fL (ah 2)) (tQ (yC (ah 5) aD)))) (aI (aV cC)) cg) (aL (b_ (FW.ft (kD (FW.ft (qE (pR (ah 5) aD) (tQ (pR (ah 1) aD)))) (kD (FW.ft (qE (pR (ah 5) aD) (tQ (f_ (dX (E.b rfl) (ah 3)) aD)))) (l9 (FW.ft (qE (f_ (ah 5) aD) (tQ (f_ (dX (E.b rfl) (ah 4)) aD)))))))) (aI (aV cC)) cg) (aL (b_ (pR (ah 5) aD) (aI (aV cC)) cg) (aL (b_ (f_ (ah 5) aD) (aI (aV cC)) cg) (aI (aV cC))))))):z.D 2 Str.empty (top 54) (bx · (bJ 5 6 _)))
abbrev Wu:=fF Fg
def abo:=wF Fg
def DW:=λ(z:Z) (E:En L z)=>(by exists 1,(aI (aV (dX (E.b rfl) (bK (fT E) (E.n rfl) (ah 0))))):z.D 1 "Changes" (inClass (top 25) 2) (bx · (bJ 1 1 _)))
abbrev DZ:=fF DW
def FF:=wG DW
def Ic:=λ(z:Z) (E:En L z)=>(by exists 1,(aI (aV (oO (OB (ah 1) (bK (aH E) (E.n rfl) (ah 0))) (oO (OB (ah 1) (bK (aH E) (E.n rfl) (ah 0))) (qT (WM (fV hr) (ah 1) (bK (aH E) (E.n rfl) (ah 0)))))))):z.D 1 "Gate" (inClass (top 46) 19) (bx · (bJ 2 2 _)))
abbrev aeO:=fF Ic
def UZ:=wG Ic
def Jj:=λ(z:Z) (E:En L z/\FF z/\UZ z)=>(by obtain⟨E,p,q⟩:=E;exists 1,(aI (aV (j9 (M:=["number","self"]) (js:=[none,some 0]) (iz rfl (by kernel_rfl)) rfl (BL (E.b rfl) aD (fY (d9 (fT E) p.t p.G hr.m p.b (bK (aH E) (E.n rfl) (ah 0))) aD)) (by decide) λs3 H3 fp=>⟨(bS 0 (aa9 rfl)),(oY (fL (gk (aH E) q.t q.G hr.m q.b (ah 1) (ao (ah 0) aE)))),(ah 0)⟩))):z.D 2 "Gate" (inClass (top 46) 8) (bx · (bJ 1 1 _)))
abbrev wj:=fF Jj
def uM:=wG Jj
def Gu:=λ(z:Z) (E:En L z)=>(by exists 1,(aI (aV (iY (E.b rfl) (bK (aH E) (E.n rfl) (ah 0))))):z.D 1 "Gate" (inClass (top 46) 7) (bx · (bJ 1 1 _)))
abbrev Nn:=fF Gu
def CO:=wG Gu
def JK:=λ(z:Z) (E:En L z)=>(by exists 1,(aI (aV (iY (E.b rfl) (bK (aH E) (E.n rfl) (ah 0))))):z.D 1 "Gate" (inClass (top 46) 10) (bx · (bJ 1 1 _)))
abbrev adA:=fF JK
def CV:=wG JK
def EL:=λ(z:Z) (E:En L z/\sM z)=>(by obtain⟨E,p⟩:=E;exists 1,(aL (bG 3 (ah 2) nd) (aL (jz rfl (eY (ah 1)) (bS 4 nd) (aI (bG 3 (yh (fY (vF (ah 3) aD) (ah 4)) aD) nd))) (aL (bG 5 (bC p.G hr.m p.m p.kp p.b (ao (ah 0) (ao (yh (ah 3) aD) (ao aD (ao aD aE))))) nd) (aL (b_ (pR (ah 5) (fY aD (bC p.G hr.m p.m p.kp p.b (ao (ah 0) (ao aD (ao aD (ao aD aE))))))) (aI (aV cC)) cg) (aL (b_ (f_ (ah 5) aD) (aI (aV cC)) cg) (aI (aV cC))))))):z.D 2 Str.empty (top 52) (bx · (bJ 3 6 _)))
abbrev V9:=fF EL
def UJ:=wF EL
def DL:=λ(z:Z) (E:En L z)=>(by exists 1,(aL (jz rfl (eY (fQ (ao cC (ao cC aE)))) (bS 2 nd) (aI (b_ (f_ (Er (ah 0) (ah 2)) (fq (ah 1) aD)) (aI (sR 2)) cg))) (aL (b_ (f_ (dX (E.b rfl) (ah 0)) (fq (ah 1) aD)) (aI (aV cC)) cg) (aI (aV cC)))):z.D 1 Str.empty (top 53) (bx · (bJ 2 3 _)))
abbrev XO:=fF DL
def Vd:=wF DL
def C0:=λ(z:Z) (E:En L z)=>(by exists 1,(aL (b_ (Al (Er (bK (jw E) (E.n rfl) (ah 0)) cC) (bK (jw E) (E.n rfl) (ah 0))) (aI (aV cC)) cg) (aL (b_ (Al (Er (bK (jw E) (E.n rfl) (ah 0)) cC) (bK (jw E) (E.n rfl) (ah 0))) (aI (aV cC)) cg) (aL (b_ (Al (dX (E.b rfl) (bK (jw E) (E.n rfl) (ah 0))) (bK (jw E) (E.n rfl) (ah 0))) (aI (aV cC)) cg) (aI (aV cC))))):z.D 1 "Tally" (inClass (top 40) 3) (bx · (bJ 1 1 _)))
abbrev Oe:=fF C0
def Kf:=wG C0
def G6:=λ(z:Z) (E:En L z/\Kf z)=>(by obtain⟨E,p⟩:=E;exists 2,(a_ (gu (V8 (ah 1) (Qm (E.t rfl))) (cK n8) g_) (a_ (gu (mF (d9 (jw E) p.t p.G hr.m p.b (ah 0)) cC) (cK n8) g_) (a_ (bz (BG 0 (jw E) (E.n rfl) (ah 1))) (cK (mC (d9 (jw E) p.t p.G hr.m p.b (ah 0))))))):z.D 2 "Tally" (inClass (top 40) 1) (dM · (runM 2 2 _)))
abbrev Lp:=fO G6
def acN:=wO G6
def Gk:=λ(z:Z) (E:En L z/\MZ z)=>(by obtain⟨E,p⟩:=E;exists 2,(a_ (gu (je (fL (bC p.G hr.m p.m p.kp p.b (ao (ah 1) (ao (ah 2) aE))))) (cK n8) g_) (a_ (bz (fM 0 (jw E) (E.n rfl) (ah 1))) (a_ (bz (fM 0 (jw E) (E.n rfl) (ah 2))) (cK (bz (fM 0 (jw E) (E.n rfl) (fQ aE))))))):z.D 3 "Tally" (inClass (top 40) 0) (dM · (runM 3 3 _)))
abbrev BQ:=fO Gk
def Vh:=wI Gk
def Fy:=λ(z:Z) (E:En L z)=>(by exists 2,(a_ (bz (fM 0 (aH E) (E.n rfl) (aaa (bK (aH E) (E.n rfl) (ah 0)) (uX (dX (E.b rfl) (ah 1)) (dX (E.b rfl) (bK (aH E) (E.n rfl) (ah 0))))))) (a_ (bz (fM 0 (aH E) (E.n rfl) (iY (E.b rfl) (ah 1)))) (cK (bz (BG 0 (aH E) (E.n rfl) (ah 1)))))):z.D 1 "Gate" (inClass (top 46) 22) (dM · (runM 2 2 _)))
abbrev rT:=fO Fy
def adH:=wO Fy
def DX:=λ(z:Z) (E:En L z/\yS z/\FF z)=>(by obtain⟨E,p,q⟩:=E;exists 1,(aI (aV (bC p.G hr.m p.m p.kp p.b (ao (ah 1) (ao aD (ao (d9 (fT E) q.t q.G hr.m q.b (ah 0)) aE)))))):z.D 2 "Changes" (inClass (top 25) 9) (bx · (bJ 2 2 _)))
abbrev G0:=fF DX
def Jy:=wG DX
def D_:=λ(z:Z) (E:En L z/\Jy z)=>(by obtain⟨E,p⟩:=E;exists 1,(aL (b_ (je (fL (gk (fT E) p.t p.G hr.m p.b (ah 0) (ao (ah 1) aE)))) (aI mY) cg) (aI (aV (fq (bK (fT E) (E.n rfl) (ah 0)) (uX (ah 1) aD))))):z.D 3 "Changes" (inClass (top 25) 10) (bx · (bJ 2 2 _)))
abbrev WI:=fF D_
def IT:=wG D_
def J9:=λ(z:Z) (E:En L z/\IT z)=>(by obtain⟨E,p⟩:=E;exists 1,(aI (aV (iY (E.b rfl) (fq (gk (fT E) p.t p.G hr.m p.b (ah 0) (ao (ah 1) aE)) aD)))):z.D 4 "Changes" (inClass (top 25) 4) (bx · (bJ 2 2 _)))
abbrev Dr:=fF J9
def P4:=wG J9
def IZ:=λ(z:Z) (E:En L z/\uM z/\P4 z)=>(by obtain⟨E,p,q⟩:=E;exists 2,(cK (bz (jz rfl (eY (d9 (aH E) p.t p.G hr.m p.b (ah 0))) (bS 1 nd) (aL (vm 2 (hN:=nd) (M:=["lean","self"]) (js:=[none,some 0]) (iz rfl (by kernel_rfl)) rfl (eY (gk (fT E) q.t q.G hr.m q.b (bK (aH E) (E.n rfl) (ah 0)) (ao (ah 1) aE))) (by decide) λs3 H3 fp=>⟨(bS 0 (aa9 rfl)),(oY (Rr (fV hr) (ah 0) (bK (aH E) (E.n rfl) (ah 1)))),(ah 0)⟩) (aI (b_ (Ll (ah 2)) (aI (B0 0 (fV hr) (aH E) (E.n rfl) (ah 1) (jM (ao cC (ao (fq (ah 2) aD) aE))))) cg)))))):z.D 5 "Gate" (inClass (top 46) 24) (dM · (runM 1 3 _)))
abbrev zO:=fO IZ
def af8:=wO IZ
def Il:=λ(z:Z) (E:En L z/\Kf z)=>(by obtain⟨E,p⟩:=E;exists 1,(aI (aV (OW (aaj (fV hr) (ah 1) (bK (aH E) (E.n rfl) (ah 0))) (d9 (jw E) p.t p.G hr.m p.b (Sd (fV hr) (bK (aH E) (E.n rfl) (ah 0)) (ah 1) (by exact λ_ _=>rfl))) cC))):z.D 2 "Gate" (inClass (top 46) 21) (bx · (bJ 2 2 _)))
abbrev BZ:=fF Il
def Jd:=wG Il
def CW:=λ(z:Z) (E:En L z)=>(by exists 1,(aI (aV (qu (E.b rfl) (mR (bK (aH E) (E.n rfl) (ah 0)) (Bj (bK (aH E) (E.n rfl) (ah 0)) (ah 1)))))):z.D 1 "Gate" (inClass (top 46) 20) (bx · (bJ 2 2 _)))
abbrev zc:=fF CW
def Dt:=wG CW
def GS:=λ(z:Z) (E:En L z/\Jd z/\Dt z)=>(by obtain⟨E,p,q⟩:=E;exists 1,(aL (jz rfl (BL (E.b rfl) aD (fY (dX (E.b rfl) (bK (aH E) (E.n rfl) (ah 0))) aD)) (bS 1 nd) (aI (b_ (afz (gk (aH E) p.t p.G hr.m p.b (ah 0) (ao (gk (aH E) q.t q.G hr.m q.b (ah 0) (ao (ah 1) aE)) aE)) (Qm (E.t rfl))) (aI (sR 1)) cg))) (aI (aV jR))):z.D 3 "Gate" (inClass (top 46) 11) (bx · (bJ 1 2 _)))
abbrev Bt:=fF GS
def H_:=wG GS
def Ea:=λ(z:Z) (E:En L z)=>(by exists 1,(aI (aV (aeo rfl (E.b rfl) (j9 (M:=["slot","old","new","values"]) (js:=[none,none,none,some 0]) (iz rfl (by kernel_rfl)) rfl (eY (ah 1)) (by decide) λs3 H3 fp=>⟨(qg rfl (gH (bS 0 (aa9 rfl)) (gH (bS 1 (aa9 rfl)) (gH (bS 2 (aa9 rfl)) qD)))),(oY (mF (Mf (fV hr) (ah 3) (ah 0) aD) (ah 1))),(ah 0)⟩) jR))):z.D 1 Str.empty (top 19) (bx · (bJ 2 2 _)))
abbrev Iz:=fF Ea
def FO:=wF Ea
def Fx:=λ(z:Z) (E:En L z)=>(by exists 1,(aI (aV (j9 (M:=["slot","values"]) (js:=[none,some 0]) (iz rfl (by kernel_rfl)) rfl (eY (Io rfl (E.b rfl) (ah 0))) (by decide) λs3 H3 fp=>⟨(bS 0 (aa9 rfl)),(oY (mF (CK (fV hr) (ah 1) (ah 0)) aD)),(jM (ao (ah 0) (ao (CK (fV hr) (ah 1) (ah 0)) aE)))⟩))):z.D 1 Str.empty (top 20) (bx · (bJ 1 1 _)))
abbrev V1:=fF Fx
def Zp:=wF Fx
def OD:=λ(z:Z) (E:En L z/\FO z/\Zp z)=>(by obtain⟨E,p,q⟩:=E;exists 1,(aL (bG 2 (Bp rfl (E.b rfl) (ah 0)) nd) (aL (jz rfl (eY (ah 1)) (bS 3 nd) (aL (bG 4 (bC p.G hr.m p.m p.kp p.b (ao (ah 2) (ao (ah 3) aE))) nd) (aL (b_ (Yd (ah 4) jR) (aI mY) cg) (aI (jz rfl (eY (ah 3)) (qg rfl (gH (bS 5 nd) (gH (bS 6 nd) (gH (bS 7 nd) qD)))) (aI (Cg 2 (fV hr) (ah 5) (ah 7)))))))) (aI (aV (bC q.G hr.m q.m q.kp q.b (ao (ah 2) aE)))))):z.D 2 Str.empty (top 17) (bx · (bJ 2 8 _)))
def aga:=wF OD
def Ih:=λ(z:Z) (E:En L z/\IT z)=>(by obtain⟨E,p⟩:=E;exists 1,(aI (aV (iY (E.b rfl) (fq (gk (fT E) p.t p.G hr.m p.b (ah 0) (ao (ah 1) aE)) aD)))):z.D 4 "Changes" (inClass (top 25) 5) (bx · (bJ 2 2 _)))
abbrev CC:=fF Ih
def A6:=wG Ih
def Gs:=λ(z:Z) (E:En L z/\aga z/\A6 z)=>(by obtain⟨E,p,q⟩:=E;exists 1,(aI (aV (bC p.G hr.m p.m p.kp p.b (ao (fQ aE) (ao (j9 (M:=["number","changes"]) (js:=[none,some 0]) (iz rfl (by kernel_rfl)) rfl (eY (ah 1)) (by decide) λs3 H3 fp=>⟨(bS 0 (aa9 rfl)),mP,(gk (fT E) q.t q.G hr.m q.b (ah 1) (ao (ah 0) aE))⟩) aE))))):z.D 5 Str.empty (top 26) (bx · (bJ 2 2 _)))
abbrev abf:=fF Gs
def Rv:=wF Gs
def Hr:=λ(z:Z) (E:En L z/\Rv z)=>(by obtain⟨E,p⟩:=E;exists 1,(aI (aV (Bp rfl (E.b rfl) (bC p.G hr.m p.m p.kp p.b (ao (ah 0) (ao (mR (iY (E.b rfl) (ah 1)) (iY (E.b rfl) (ah 2))) aE)))))):z.D 6 Str.empty (top 32) (bx · (bJ 3 3 _)))
abbrev ab2:=fF Hr
def aee:=wF Hr
def CN:=λ(z:Z) (E:En L z/\IT z)=>(by obtain⟨E,p⟩:=E;exists 1,(aI (aV (fq (gk (fT E) p.t p.G hr.m p.b (ah 0) (ao (ah 1) aE)) aD))):z.D 4 "Changes" (inClass (top 25) 3) (bx · (bJ 2 2 _)))
abbrev AA:=fF CN
def SK:=wG CN
def afo:SF:=(l7 (HV 0 (aj 1) (nA (ay (e1 BP (cE "Changes" "rank_of" AA (aj 1) (ay (aj 0) aJ))) (ay (aj 0) aJ)))))
def JV:=λ(z:Z) (E:En L z/\SK z)=>(by obtain⟨E,p⟩:=E;intro f fd F;obtain⟨oc,od,kV,doc,pm,an,cd0,ct,pS,rfl,lk,_⟩:=id F.ex;exact Ld (N:=["changes","numbers"]) F ⟨rfl,rfl,rfl,by decide +kernel,rfl,by decide +kernel,by decide +kernel⟩ λaQ A outer s H E' hr=>by exact(aI (aV (YT (x:="number") (y:="changes") 0 (E.b rfl) (ah 1) ⟨rfl,rfl,rfl,by decide +kernel,rfl,rfl,by decide +kernel,λ_ _ _ _ _ _ _=>rfl⟩ lk (congrArg (λc=>some (c,_,_)) aQ.2.symm) (bh.depth (k:=0) (bh.in1 (bh.in1 hr.m))) (λf c' s H=>(jM (ao (aeV (gk (fT E) p.t p.G (bh.deeper (bh.in1 (bh.in1 hr.m)) _) p.b (ah 1) (ao (ah 0) aE))) (ao (ah 0) aE))))))):z.D 8 Str.empty (top 31) (bx · (bJ 2 2 afo)))
abbrev OM:=fF JV
def Wg:=wF JV
def Eb:=λ(z:Z) (E:En L z/\FO z/\A6 z)=>(by obtain⟨E,p,q⟩:=E;exists 1,(aI (aV (Xo (bC p.G hr.m p.m p.kp p.b (ao (ah 1) (ao (gk (fT E) q.t q.G hr.m q.b (ah 0) (ao (ah 2) aE)) aE))) jR))):z.D 5 Str.empty (top 33) (bx · (bJ 3 3 _)))
abbrev JW:=fF Eb
def abc:=wF Eb
def Iw:=λ(z:Z) (E:En L z/\Wg z/\abc z)=>(by obtain⟨E,p,q⟩:=E;exists 1,(aL (jz rfl (eY (bC p.G hr.m p.m p.kp p.b (ao (ah 0) (ao (ah 2) aE)))) (bS 3 nd) (aI (b_ (fL (bC q.G hr.m q.m q.kp q.b (ao (ah 0) (ao (ah 1) (ao (ah 3) aE))))) (aI (sR 3)) cg))) (aI (aV jR))):z.D 9 Str.empty (top 30) (bx · (bJ 3 4 _)))
abbrev AV:=fF Iw
def adt:=wF Iw
def EG:=λ(z:Z) (E:En L z/\P4 z)=>(by obtain⟨E,p⟩:=E;exists 1,(aL (bG 4 (Bp rfl (E.b rfl) (j9 (M:=["number"]) (js:=[none]) (iz rfl (by kernel_rfl)) rfl (eY (mR (iY (E.b rfl) (ah 1)) (iY (E.b rfl) (ah 2)))) (by decide) λs3 H3 fp=>⟨(bS 0 (aa9 rfl)),mP,(jM (ao (ah 0) (ao gm aE)))⟩)) nd) (aI (aV (j9 (M:=["number","changes","here"]) (js:=[none,some 0,some 4]) (iz rfl (by kernel_rfl)) rfl (eY (ah 3)) (by decide) λs3 H3 fp=>⟨(bS 0 (aa9 rfl)),(oY (fL (Gy rfl (E.b rfl) (j9 (M:=["lean","here"]) (js:=[none,some 2]) (afj (by decide +kernel)) rfl (eY (gk (fT E) p.t p.G hr.m p.b (ah 1) (ao (ah 0) aE))) (by decide) λs3 H3 fp=>⟨(bS 0 (aa9 rfl)),mP,(afh (fV hr) (ah 0) (ah 1))⟩)))),(ah 0)⟩)))):z.D 5 Str.empty (top 28) (bx · (bJ 4 5 _)))
abbrev zM:=fF EG
def N1:=wF EG
def C5:=λ(z:Z) (E:En L z/\aee z/\adt z/\N1 z/\A6 z)=>(by obtain⟨E,p,q,u,v⟩:=E;exists 1,(aL (bG 5 (iY (E.b rfl) (ah 2)) nd) (aL (bG 6 (iY (E.b rfl) (ah 3)) nd) (aL (bG 7 (bC p.G hr.m p.m p.kp p.b (ao (ah 0) (ao (ah 1) (ao (ah 2) aE)))) nd) (aL (Pg 4000 (pR (dX (E.b rfl) (ah 5)) (ah 4)) (aL (bG 8 (bC q.G hr.m q.m q.kp q.b (ao (ah 0) (ao (ah 7) (ao (bC u.G hr.m u.m u.kp u.b (ao (ah 0) (ao (ah 1) (ao (ah 5) (ao (ah 6) aE))))) aE)))) nd) (aL (b_ (zB (ah 8) jR) (aI (sR 5)) cg) (aL (BD 5 (ah 8)) (aL (ae3 6 (ah 8)) (aI (jz rfl (eY (gk (fT E) v.t v.G hr.m v.b (ah 0) (ao (ah 8) aE))) (qg rfl (gH (bS 9 nd) (gH (bS 10 nd) (gH (bS 11 nd) qD)))) (aI (Cg 7 (fV hr) (ah 9) (ah 11)))))))))) (aI (sR 5)))))):z.D 10 Str.empty (top 29) (bx · (bJ 5 12 _)))
abbrev Jk:=fF C5
def Yo:=wF C5
def FQ:=λ(z:Z) (E:En L z/\H_ z/\Dt z/\Jd z)=>(by obtain⟨E,p,q,u⟩:=E;exists 2,(a_ (gu (Q4 hr.units (d9 (aH E) p.t p.G hr.m p.b (ah 0)) aD) (cK (mC gm)) g_) (a_ (bz (bG 1 (gk (aH E) q.t q.G hr.m q.b (ah 0) (ao aD aE)) nd)) (a_ (bz (B0 0 (fV hr) (aH E) (E.n rfl) (fq (bK (aH E) (E.n rfl) (ah 0)) aD) (jM (ao cC (ao (qu (E.b rfl) (bK (aH E) (E.n rfl) (ah 0))) (ao (ah 1) (ao (gk (aH E) u.t u.G hr.m u.b (ah 0) (ao (ah 1) aE)) aE))))))) (a_ (bz (fM 0 (aH E) (E.n rfl) (fQ aE))) (cK (mC gm)))))):z.D 4 "Gate" (inClass (top 46) 26) (dM · (runM 1 2 _)))
abbrev Rp:=fO FQ
def XZ:=wO FQ
def Ex:=λ(z:Z) (E:En L z/\Rv z)=>(by obtain⟨E,p⟩:=E;exists 1,(aI (aV (bC p.G hr.m p.m p.kp p.b (ao (bK (aH E) (E.n rfl) (ah 0)) (ao (bK (aH E) (E.n rfl) (ah 0)) aE))))):z.D 6 "Gate" (inClass (top 46) 13) (bx · (bJ 1 1 _)))
abbrev acO:=fF Ex
def adT:=wG Ex
def F1:=λ(z:Z) (E:En L z/\FO z)=>(by obtain⟨E,p⟩:=E;exists 1,(aI (aV (bC p.G hr.m p.m p.kp p.b (ao (Bp rfl (E.b rfl) (ah 0)) (ao (ah 1) aE))))):z.D 2 Str.empty (top 16) (bx · (bJ 2 2 _)))
abbrev R5:=fF F1
def UG:=wF F1
def G8:=λ(z:Z) (E:En L z/\N1 z/\uM z/\adT z/\UG z/\A6 z)=>(by obtain⟨E,p,q,u,v,y⟩:=E;exists 2,(a_ (gu (Ll (bK (aH E) (E.n rfl) (ah 0))) (cK (mC gm)) g_) (a_ (bz (bG 1 (bC p.G hr.m p.m p.kp p.b (ao (bK (aH E) (E.n rfl) (ah 0)) (ao (bK (aH E) (E.n rfl) (ah 0)) (ao (fQ aE) (ao (d9 (aH E) q.t q.G hr.m q.b (ah 0)) aE))))) nd)) (a_ (bz (bG 2 (d9 (aH E) u.t u.G hr.m u.b (ah 0)) nd)) (a_ (bz (jz rfl (eY (ah 1)) (bS 3 nd) (aI (B0 0 (fV hr) (aH E) (E.n rfl) (ah 3) (jM (ao cC (ao (bC v.G hr.m v.m v.kp v.b (ao (ah 2) (ao (gk (fT E) y.t y.G hr.m y.b (bK (aH E) (E.n rfl) (ah 0)) (ao (ah 3) aE)) aE))) aE))))))) (cK (mC (aeu hr.units (ah 1) (fQ aE)))))))):z.D 7 "Gate" (inClass (top 46) 27) (dM · (runM 1 4 _)))
abbrev Fc:=fO G8
def Z1:=wO G8
def GO:=λ(z:Z) (E:En L z/\H_ z/\Yo z/\uM z/\XZ z/\Z1 z)=>(by obtain⟨E,p,q,u,v,y⟩:=E;exists 2,(a_ (gu (zB (d9 (aH E) p.t p.G hr.m p.b (ah 0)) jR) (cK (bz (fM 0 (aH E) (E.n rfl) (bC q.G hr.m q.m q.kp q.b (ao (bK (aH E) (E.n rfl) (ah 0)) (ao (bK (aH E) (E.n rfl) (ah 0)) (ao (bK (aH E) (E.n rfl) (ah 0)) (ao (d9 (aH E) u.t u.G hr.m u.b (ah 0)) (ao (fq (bK (aH E) (E.n rfl) (ah 0)) aD) aE))))))))) g_) (cK (yL (Sw (kT 0 (aH E) v.t v.G hr.m v.b) (kT 0 (aH E) y.t y.G hr.m y.b))))):z.D 11 "Gate" (inClass (top 46) 25) (dM · (runM 1 1 _)))
abbrev A5:=fO GO
def adq:=wO GO
def HN:=λ(z:Z) (E:En L z/\Jd z)=>(by obtain⟨E,p⟩:=E;exists 1,(aI (aV (oO (Wt hr.units (ah 1) (bK (aH E) (E.n rfl) (ah 0))) (qT (yj (gk (aH E) p.t p.G hr.m p.b (ah 0) (ao (ah 1) aE)) cC))))):z.D 3 "Gate" (inClass (top 46) 29) (bx · (bJ 2 2 _)))
abbrev acS:=fF HN
def US:=wG HN
def Ec:SF:=(bZ (dF 1 (e2 dW (aj 0) (eC (.int 0)))) (bZ (dF 2 (aj 1)) (bZ (jD (qI (aj 0) (e1 (oE (some 1) none) (aj 0))) (gT (d_ (gN 3) (d_ (gN 4) lR))) (eX (tV (e2 qv (e2 j6 (aj 4) (aj 3)) (e2 j6 (aj 2) (aj 1)))) (bZ (dF 1 (aj 3)) (dF 2 (aj 4))) gP)) (l7 (e2 oDiv (e2 iN (aj 1) (aj 2)) (eC (.int 2)))))))
def J_:=λ(z:Z) (E:En L z)=>(by exists 1,(aL (bG 1 (fq (ah 0) aD) nd) (aL (bG 2 (ah 1) nd) (aL (jz rfl (M1 (E.b rfl) (ah 0) (Qq Ke Og (ah 0))) (qg rfl (gH (bS 3 nd) (gH (bS 4 nd) qD))) (aI (b_ (yC (uX (ah 4) (ah 3)) (uX (ah 2) (ah 1))) (aL (bG 1 (ah 3) nd) (aI (bG 2 (ah 4) nd))) cg))) (aI (aV (Wn (fY (ah 1) (ah 2)) aD)))))):z.D 1 Str.empty (top 36) (bx · (bJ 1 5 Ec)))
abbrev yc:=fF J_
def VC:=wF J_
def DV:SF:=(bZ (dF 4 (oN (tV (e2 gR (aj 1) (eC .aA))) (e2 iN (aj 0) (eC (.int 1))) (aj 1))) (bZ (dF 5 (i9 [none,some 4] (iy (aj 2)) (gN 0) (tV (e2 oLt (aj 0) (aj 1))) (aj 0))) (bZ (iF (tV (e2 oLt (e1 d7 (aj 5)) (e2 zh (aj 3) (e2 j6 (aj 4) (eC (.int 1)))))) (bZ (eX (jq (tV (e2 gR (aj 1) (eC .aA))) (tV (e2 (jN true) (aj 0) (aj 5)))) (lH 5 (aj 0)) (lH 5 (cO yc (ay (e2 fW (e2 fW (jW (ay (eC (.int 0)) aJ)) (aj 5)) (jW (ay (aj 4) aJ))) aJ)))) (dF 5 (e1 nh (aj 5)))) 4000) (pX 5))))
def EY:=λ(z:Z) (E:En L z/\VC z)=>(by obtain⟨E,p⟩:=E;exists 1,(aL (bG 4 (OW (zB (ah 1) jR) (fY (ah 0) aD) (ah 1)) nd) (aL (vm 5 (hN:=nd) (M:=["place","end"]) (js:=[none,some 4]) (iz rfl (by kernel_rfl)) rfl (eY (ah 2)) (by decide) λs3 H3 fp=>⟨(bS 0 (aa9 rfl)),(oY (pR (ah 0) (ah 1))),(ah 0)⟩) (aL (Pg 4000 (pR (dX (E.b rfl) (ah 5)) (Pc rfl (E.b rfl) (ah 3) (uX (ah 4) aD))) (aL (b_ (FW.ft (qE (zB (ah 1) jR) (tQ (aft (ah 0) (ah 5))))) (aI (BD 5 (ah 0))) (aI (BD 5 (bC p.G hr.m p.m p.kp p.b (ao (mR (mR (fQ (ao aD aE)) (ah 5)) (fQ (ao (ah 4) aE))) aE))))) (aI (bG 5 (Io rfl (E.b rfl) (ah 5)) nd)))) (aI (sR 5))))):z.D 2 Str.empty (top 35) (bx · (bJ 4 6 DV)))
abbrev JM:=fF EY
def acV:=wF EY
def Ds:=λ(z:Z) (E:En L z/\US z/\Dt z/\acV z/\H_ z)=>(by obtain⟨E,p,q,u,v⟩:=E;exists 1,(aL (bG 1 (dX (E.b rfl) (bK (aH E) (E.n rfl) (ah 0))) nd) (aL (vm 2 (hN:=nd) (M:=["place","self"]) (js:=[none,some 0]) (iz rfl (by kernel_rfl)) rfl (BL (E.b rfl) aD (fY (ah 1) aD)) (by decide) λs3 H3 fp=>⟨(bS 0 (aa9 rfl)),(oY (fL (gk (aH E) p.t p.G hr.m p.b (ah 1) (ao (gk (aH E) q.t q.G hr.m q.b (ah 1) (ao (ah 0) aE)) aE)))),(ah 0)⟩) (aI (aV (j9 (M:=["place","self"]) (js:=[none,some 0]) (iz rfl (by kernel_rfl)) rfl (eY (bC u.G hr.m u.m u.kp u.b (ao (ah 1) (ao (d9 (aH E) v.t v.G hr.m v.b (ah 0)) (ao (ah 2) (ao (fq (bK (aH E) (E.n rfl) (ah 0)) aD) aE)))))) (by decide) λs3 H3 fp=>⟨(bS 0 (aa9 rfl)),mP,(gk (aH E) q.t q.G hr.m q.b (ah 1) (ao (ah 0) aE))⟩))))):z.D 4 "Gate" (inClass (top 46) 28) (bx · (bJ 1 3 _)))
abbrev ZF:=fF Ds
def Xm:=wG Ds
def Je:=λ(z:Z) (E:En L z/\af8 z/\adq z/\Xm z)=>(by obtain⟨E,p,q,u⟩:=E;exists 2,(a_ (bz (pI (kT 0 (aH E) p.t p.G hr.m p.b))) (a_ (bz (UD 4000 (XW (je (fL (bK (aH E) (E.n rfl) (ah 0)))) (ZU (kT 0 (aH E) q.t q.G hr.m q.b))) (aI (pI (kT 0 (aH E) p.t p.G hr.m p.b))))) (cK (bz (fM 0 (aH E) (E.n rfl) (d9 (aH E) u.t u.G hr.m u.b (ah 0))))))):z.D 12 "Gate" (inClass (top 46) 23) (dM · (runM 1 1 _)))
abbrev mD:=fO Je
def yV:=wO Je
def HS:=λ(z:Z) (E:En L z/\acN z/\Vh z/\adH z/\yV z)=>(by obtain⟨E,p,q,u,v⟩:=E;exists 2,(a_ (gu (PZ hr.units (ah 1) (bK (aH E) (E.n rfl) (ah 0))) (cK n8) g_) (Vp (fV hr) (E.ni rfl) (aH E) (E.n rfl) (jw E) p.t p.G hr.m p.b (M8 (jw E).ns q.M q.G hr.m (E.m rfl) q.b (ao (fq (bK (aH E) (E.n rfl) (ah 0)) aD) (ao (fq (bK (aH E) (E.n rfl) (ah 0)) aD) aE))) (a_ (bz (GN 0 (aH E) (E.n rfl) aD)) (a_ (gu (mF (ah 4) cC) (cK (bz (BG 0 (aH E) (E.n rfl) (jM (ao (ah 1) (ao (ah 4) aE)))))) g_) (a_ (gu (f_ (ah 4) cC) (cK (bz (pI (FY.fz (Ct 0 (aH E) u.t u.G hr.m u.b (ao (ah 1) aE)))))) g_) (a_ (bz (pI (kT 0 (aH E) v.t v.G hr.m v.b))) (cK (mC (ah 4))))))) nd)):z.D 13 "Gate" (inClass (top 46) 3) (dM · (runM 3 5 _)))
abbrev K6:=fO HS
def Sm:=wO HS
def JS:=λ(z:Z) (E:En L z/\CV z/\sM z/\UJ z/\Vd z/\Sm z)=>(by obtain⟨E,p,q,u,v,y⟩:=E;exists 6,[2,3,4],["_law_gate","_law_record","_law_settled"],(a_ (bz (bG 6 (d9 (aH E) p.t p.G hr.m p.b (ah 2)) nd)) (a_ (bz (bG 7 (fq (ah 6) (bC q.G hr.m q.m q.kp q.b (ao (ah 0) (ao (ah 1) (ao aD (ao (dX (E.b rfl) (ah 6)) aE)))))) nd)) (a_ (bz (bG 8 (aaz (fV hr) (E.ni rfl) (ah 3) (ah 7) (fQ aE)) nd)) (a_ (bz (bG 9 (bC u.G hr.m u.m u.kp u.b (ao (ah 0) (ao (ah 7) (ao (dX (E.b rfl) (ah 8)) aE)))) nd)) (a_ (bz (Sz 3 (fV hr) (E.ni rfl) (ah 7) (mR (ah 8) (fQ (ao (ah 9) aE))))) (a_ (bz (bG 10 (bC v.G hr.m v.m v.kp v.b (ao (Sd (fV hr) (ah 3) (ah 7) (by exact λ_ _=>rfl)) (ao (ah 5) aE))) nd)) (a_ (adE (aaY (Wy (E.b rfl) (FY.fz (Ct 2 (aH E) y.t y.G hr.m y.b (ao (ah 7) (ao (ah 9) aE))))) (Fq (E.b rfl) (ah 10))) (cK (mC jR)) g_) (a_ (bz (b_ (mF (ah 10) cC) (aI (BD 4 (jM (ao (ah 7) (ao (ah 10) aE))))) cg)) (cK (mC (jM (ao (ah 7) (ao (ah 10) aE))))))))))))):z.D 14 Str.empty (top 58) (mZ [2,3,4] · (m9 [2,3,4] 6 11 _)))
abbrev adl:=fJ JS
def Vs:=wJ JS
def Jc:=λ(z:Z) (E:En L z/\sM z)=>(by obtain⟨E,p⟩:=E;exists 1,(aL (bG 3 IJ nd) (aL (jz rfl (Oi (E.b rfl) (bC p.G hr.m p.m p.kp p.b (ao (ah 0) (ao (ah 1) (ao aD (ao aD aE)))))) (bS 4 nd) (aL (bG 5 (bC p.G hr.m p.m p.kp p.b (ao (ah 0) (ao (fY (ah 1) (vF aD (ah 4))) (ao aD (ao aD aE))))) nd) (aL (bG 6 (Mf (fV hr) (ah 2) (ah 5) aD) nd) (aL (b_ (f_ (bC p.G hr.m p.m p.kp p.b (ao (ah 0) (ao (fY (ah 1) (ah 4)) (ao aD (ao aD aE))))) aD) (aI (bG 6 (bC p.G hr.m p.m p.kp p.b (ao (ah 0) (ao (fY (ah 1) (ah 4)) (ao aD (ao aD aE))))) nd)) cg) (aL (bG 7 (bC p.G hr.m p.m p.kp p.b (ao (ah 0) (ao (fY (ah 1) (vF aD (ah 4))) (ao aD (ao aD aE))))) nd) (aL (b_ (f_ (ah 7) (ah 6)) (aI (bG 7 (fY (ah 6) aD) nd)) cg) (aI (Cg 3 (fV hr) (ah 5) (jM (ao (ah 5) (ao (ah 6) (ao (ah 7) aE)))))))))))) (aI (aV (j9 (M:=["_law_slot","_law_news"]) (js:=[none,some 3]) (iz rfl (by kernel_rfl)) rfl (eY (Io rfl (E.b rfl) (ah 3))) (by decide) λs3 H3 fp=>⟨(bS 0 (aa9 rfl)),mP,(CK (fV hr) (ah 1) (ah 0))⟩))))):z.D 2 Str.empty (top 50) (bx · (bJ 3 8 _)))
abbrev PJ:=fF Jc
def age:=wF Jc
def IW:=λ(z:Z) (E:En L z/\sM z/\age z)=>(by obtain⟨E,p,q⟩:=E;exists 6,[2],["_law_values"],(a_ (bz (bG 4 (fQ aE) nd)) (a_ (bz (b_ (f_ (bC p.G hr.m p.m p.kp p.b (ao (ah 0) (ao (ah 1) (ao aD (ao aD aE))))) aD) (aI (vm 4 (hN:=nd) (M:=["_law_number","_law_script","_law_k"]) (js:=[none,some 0,some 1]) (iz rfl (by kernel_rfl)) rfl (BL (E.b rfl) aD (fY (ah 3) aD)) (by decide) λs3 H3 fp=>⟨(bS 0 (aa9 rfl)),(oY (f_ (bC p.G hr.m p.m p.kp p.b (ao (ah 1) (ao (fY (ah 2) (vF aD (ah 0))) (ao aD (ao aD aE))))) aD)),(ah 0)⟩)) cg)) (a_ (bz (DH 5 (ZM 4 (bC p.G hr.m p.m p.kp p.b (ao (ah 0) (ao (ah 1) (ao aD (ao aD aE))))) (bC q.G hr.m q.m q.kp q.b (ao (ah 0) (ao (ah 1) (ao (ah 2) aE))))) nd)) (a_ (bz (jz rfl (eY (AY (ah 5) aD)) (qg rfl (gH (bS 6 nd) (gH (bS 7 nd) (gH (bS 8 nd) qD)))) (aI (Cg 2 (fV hr) (ah 6) (ah 8))))) (cK (S4 5)))))):z.D 3 Str.empty (top 51) (mZ [2] · (m9 [2] 4 9 _)))
abbrev K5:=fJ IW
def aaS:=wJ IW
def Hw:=λ(z:Z) (E:En L z)=>(by exists 1,(aI (aV (Gy rfl (E.b rfl) (j9 (M:=["low","high"]) (js:=[none,none]) (iz rfl (by kernel_rfl)) rfl (M1 (E.b rfl) (ah 0) (Qq Ke Og (ah 0))) (by decide) λs3 H3 fp=>⟨(qg rfl (gH (bS 0 (aa9 rfl)) (gH (bS 1 (aa9 rfl)) qD))),mP,(SD (ah 0) (ah 1))⟩)))):z.D 1 Str.empty (top 12) (bx · (bJ 1 1 _)))
abbrev aaD:=fF Hw
def Q2:=wF Hw
def Gm:=λ(z:Z) (E:En L z/\yS z/\Q2 z)=>(by obtain⟨E,p,q⟩:=E;exists 1,(aL (jz rfl (eY (ah 0)) (qg rfl (gH (bS 1 nd) (gH (bS 2 nd) (gH (bS 3 nd) qD)))) (aL (b_ (je (FW.ft (qE (fL (bC p.G hr.m p.m p.kp p.b (ao (ah 1) (ao aD (ao (oj (E.i rfl)) aE))))) (tQ (fL (bC p.G hr.m p.m p.kp p.b (ao (ah 2) (ao aD (ao (oj (E.i rfl)) aE))))))))) (aI (aV gm)) cg) (aI (b_ (FW.ft (kD (je (fL (bC p.G hr.m p.m p.kp p.b (ao (ah 3) (ao aD (ao (oj (E.i rfl)) aE)))))) (l9 (f_ (ah 2) (ah 3))))) (aI (aV gm)) cg)))) (aI (aV (bC q.G hr.m q.m q.kp q.b (ao (j9 (M:=["edit"]) (js:=[none]) (iz rfl (by kernel_rfl)) rfl (eY (ah 0)) (by decide) λs3 H3 fp=>⟨(bS 0 (aa9 rfl)),mP,(fq (ah 0) aD)⟩) aE))))):z.D 2 Str.empty (top 18) (bx · (bJ 1 4 _)))
abbrev ae9:=fF Gm
def ZZ:=wF Gm
def J4:=λ(z:Z) (E:En L z/\yS z/\Q2 z/\Jy z/\ZZ z)=>(by obtain⟨E,p,q,u,v⟩:=E;exists 1,(aL (b_ (je (fL (bC p.G hr.m p.m p.kp p.b (ao (ah 1) (ao aD (ao (oj (E.i rfl)) aE)))))) (aI (aV gm)) cg) (aL (b_ (FW.ft (kD (je (fL (Gy rfl (E.b rfl) (j9 (M:=["lean","self"]) (js:=[none,some 0]) (iz rfl (by kernel_rfl)) rfl (eY (ah 2)) (by decide) λs3 H3 fp=>⟨(bS 0 (aa9 rfl)),mP,(gk (fT E) u.t u.G hr.m u.b (ah 1) (ao (ah 0) aE))⟩)))) (l9 (je (fL (bC q.G hr.m q.m q.kp q.b (ao (ah 2) aE))))))) (aI (aV gm)) cg) (aI (aV (oO (abx (dX (E.b rfl) (ah 3)) (oj (E.i rfl))) (qT (bC v.G hr.m v.m v.kp v.b (ao (ah 3) aE)))))))):z.D 3 "Changes" (inClass (top 25) 11) (bx · (bJ 4 4 _)))
abbrev SV:=fF J4
def afX:=wG J4
def GQ:=λ(z:Z) (E:En L z/\afX z/\FF z)=>(by obtain⟨E,p,q⟩:=E;exists 2,(a_ (gu (je (fL (gk (fT E) p.t p.G hr.m p.b (ah 0) (ao (ah 1) (ao (ah 2) (ao (ah 3) aE)))))) (cK n8) g_) (a_ (gu (Al (d9 (fT E) q.t q.G hr.m q.b (ah 0)) (oj (E.i rfl))) (cK n8) g_) (a_ (bz (BG 0 (fT E) (E.n rfl) (jM (ao (ah 1) (ao (qu (E.b rfl) (ah 2)) (ao (qu (E.b rfl) (j9 (M:=["edit"]) (js:=[none]) (iz rfl (by kernel_rfl)) rfl (eY (ah 3)) (by decide) λs3 H3 fp=>⟨(bS 0 (aa9 rfl)),mP,(qu (E.b rfl) (ah 0))⟩)) aE)))))) (cK (mC (d9 (fT E) q.t q.G hr.m q.b (ah 0))))))):z.D 4 "Changes" (inClass (top 25) 1) (dM · (runM 4 4 _)))
abbrev Cn:=fO GQ
def aeg:=wO GQ
def JG:=λ(z:Z) (E:En L z/\aeg z/\yV z)=>(by obtain⟨E,p,q⟩:=E;exists 2,(a_ (bz (SI 4 (FY.fz (aa1 0 (aH E) (E.n rfl) (fT E) p.t p.G hr.m p.b (ao (ah 1) (ao (ah 2) (ao (ah 3) aE))))) nd)) (a_ (bz (pI (kT 0 (aH E) q.t q.G hr.m q.b))) (cK (mC (ah 4))))):z.D 13 "Gate" (inClass (top 46) 1) (dM · (runM 4 5 _)))
abbrev Nq:=fO JG
def Z2:=wO JG
def G2:=λ(z:Z) (E:En L z/\Jy z/\yV z)=>(by obtain⟨E,p,q⟩:=E;exists 2,(a_ (gu (je (fL (gk (fT E) p.t p.G hr.m p.b (bK (aH E) (E.n rfl) (ah 0)) (ao (ah 1) aE)))) (cK n8) g_) (a_ (gu (FW.ft (kD (P1 (ah 1) (bK (aH E) (E.n rfl) (ah 0))) (l9 (Rr (fV hr) (ah 1) (bK (aH E) (E.n rfl) (ah 0)))))) (cK n8) g_) (a_ (gu (P1 (ah 1) (bK (aH E) (E.n rfl) (ah 0))) (cK (bz (fM 0 (aH E) (E.n rfl) (Bj (bK (aH E) (E.n rfl) (ah 0)) (XT (bK (aH E) (E.n rfl) (ah 0)) (ah 1)))))) g_) (a_ (bz (B0 0 (fV hr) (aH E) (E.n rfl) (ah 1) (jM (ao cC aE)))) (a_ (bz (GN 0 (aH E) (E.n rfl) aD)) (cK (bz (pI (kT 0 (aH E) q.t q.G hr.m q.b))))))))):z.D 13 "Gate" (inClass (top 46) 2) (dM · (runM 2 2 _)))
abbrev OG:=fO G2
def T_:=wO G2
def Ij:=λ(z:Z) (E:En L z/\yV z)=>(by obtain⟨E,p⟩:=E;exists 2,(a_ (bz (fM 0 (aH E) (E.n rfl) (fQ aE))) (a_ (bz (fM 0 (aH E) (E.n rfl) gm)) (a_ (bz (GN 0 (aH E) (E.n rfl) aD)) (cK (bz (pI (kT 0 (aH E) p.t p.G hr.m p.b))))))):z.D 13 "Gate" (inClass (top 46) 4) (dM · (runM 1 1 _)))
abbrev Ob:=fO Ij
def SA:=wO Ij
def CI:=λ(z:Z) (E:En L z/\yV z)=>(by obtain⟨E,p⟩:=E;exists 2,(a_ (bz (fM 0 (aH E) (E.n rfl) gm)) (cK (bz (pI (kT 0 (aH E) p.t p.G hr.m p.b))))):z.D 13 "Gate" (inClass (top 46) 5) (dM · (runM 1 1 _)))
abbrev Mt:=fO CI
def afe:=wO CI
def E9:=λ(z:Z) (E:En L z/\aaS z/\Z2 z/\uM z/\CO z/\T_ z/\sM z/\SA z/\afe z)=>(by obtain⟨E,p,q,u,v,y,g,h,j⟩:=E;exists 6,[3,4],["_law_gate","_law_values"],(a_ (gu (f_ (ah 2) cC) (a_ (bz (DH 6 (N7 [4] [none,none,some 4,none] p.G hr.m p.m p.kp p.b (mz (ah 0) (mz (ah 1) (uF 4 (mz (ah 5) GP))))) nd)) (cK (yL (ac0 (FY.fz (Ct 3 (aH E) q.t q.G hr.m q.b (ao (AY (ah 6) aD) (ao (AY (ah 6) aD) (ao (AY (ah 6) aD) aE))))) (fY (ah 5) aD))))) g_) (a_ (gu (f_ (ah 2) cC) (a_ (bz (bG 7 (mR (d9 (aH E) u.t u.G hr.m u.b (ah 3)) (d9 (aH E) v.t v.G hr.m v.b (ah 3))) nd)) (cK (yL (GZ (FY.fz (Ct 3 (aH E) y.t y.G hr.m y.b (ao (fq (ah 7) (bC g.G hr.m g.m g.kp g.b (ao (ah 0) (ao (ah 1) (ao aD (ao (dX (E.b rfl) (ah 7)) aE)))))) aE))) jR)))) g_) (a_ (gu (f_ (ah 2) cC) (cK (yL (GZ (kT 3 (aH E) h.t h.G hr.m h.b) jR))) g_) (cK (yL (GZ (kT 3 (aH E) j.t j.G hr.m j.b) jR)))))):z.D 14 Str.empty (top 59) (mZ [3,4] · (m9 [3,4] 6 8 _)))
abbrev Yg:=fJ E9
def aax:=wJ E9
def C_:=λ(z:Z) (E:En L z)=>(by exists 5,(aL (b_ (PZ hr.units (ah 1) (bK (aH E) (E.n rfl) (ah 0))) (aI (aez rfl (E.x rfl) (E.g rfl) (E.e rfl) (ao cC aE))) cg) (aL mY (aL mY (aL mY (aL mY (aL mY (aL mY (aL mY (aI mY))))))))):z.DR 1 "Gate" (inClass (top 46) 3) (sQ · (qd 3 5 _)))
abbrev z7:=fR C_
def Uq:=wR C_
def JJ:=λ(z:Z) (E:En L z/\Uq z)=>(by obtain⟨E,p⟩:=E;exists 1,(aL (bG 2 gm nd) (aL (aeF 3 (λaf R=>(aI (VH (acT (aH E) p.t p.G hr.m p.b (ah 0) (ao (ah 1) (ao cC aE)))))) (λa=>(aI (bG 2 (agd (E.kt (c:="NoLook") rfl) (E.b rfl) (E.e rfl) (ah 3)) nd))) (E.ct rfl) (E.e rfl) nd) (aI (sR 2)))):z.D 2 Str.empty (top 55) (bx · (bJ 2 4 _)))
abbrev Xy:=fF JJ
def YO:=wF JJ
def D5:=λ(z:Z) (E:En L z)=>(by exists 1,(aI (aV (bK (aH E) (E.n rfl) (ah 0)))):z.D 1 "Gate" (inClass (top 46) 12) (bx · (bJ 1 1 _)))
abbrev aaF:=fF D5
def Ri:=wG D5
def Jl:=λ(z:Z) (E:En L z)=>(by exists 1,(aI (aV (iY (E.b rfl) (bK (aH E) (E.n rfl) (ah 0))))):z.D 1 "Gate" (inClass (top 46) 15) (bx · (bJ 1 1 _)))
abbrev ZN:=fF Jl
def ZK:=wG Jl
def I_:=λ(z:Z) (E:En L z)=>(by exists 1,(aI (aV (iY (E.b rfl) (bK (aH E) (E.n rfl) (ah 0))))):z.D 1 "Gate" (inClass (top 46) 6) (bx · (bJ 1 1 _)))
abbrev Xs:=fF I_
def V6:=wG I_
def D3:=λ(z:Z) (E:En L z)=>(by exists 1,(aI (aV (iY (E.b rfl) (bK (aH E) (E.n rfl) (ah 0))))):z.D 1 "Gate" (inClass (top 46) 14) (bx · (bJ 1 1 _)))
abbrev Ys:=fF D3
def ad3:=wG D3
def DI:=λ(z:Z) (E:En L z/\CO z/\CV z/\Ri z/\uM z)=>(by obtain⟨E,p,q,u,v⟩:=E;exists 1,(aL (bG 4 (d9 (aH E) p.t p.G hr.m p.b (ah 0)) nd) (aL (bG 5 (d9 (aH E) q.t q.G hr.m q.b (ah 0)) nd) (aL (b_ (FW.ft (kD (je (fL (Im Zv (E.b rfl) (E.b rfl) (ah 5)))) (l9 (yC (dX (E.b rfl) (ah 5)) (WE rfl (E.b rfl) (fq (ah 3) aD) aD))))) (aI (aV gm)) cg) (aL (bG 6 (dX (E.b rfl) (ah 1)) nd) (aL (vm 7 (hN:=nd) (M:=["_law_one"]) (js:=[none]) (iz rfl (by kernel_rfl)) rfl (eY (ah 2)) (by decide) λs3 H3 fp=>⟨(bS 0 (aa9 rfl)),mP,(fq (ah 0) aD)⟩) (aL (jz rfl (eY (ah 5)) (bS 8 nd) (aL (b_ (FW.ft (kD (je (fL (aae adL Vi (E.b rfl) (E.b rfl) (ah 8)))) (kD (Yt (dX (E.b rfl) (ah 8)) (ah 6)) (l9 (ad8 hr.units (ah 8) (ah 7)))))) (aI (aV gm)) cg) (aL (bG 6 (dX (E.b rfl) (ah 8)) nd) (aI (b_ (FW.ft (kD (mF (pQ hr (E.b rfl) (ah 8)) (pQ hr (E.b rfl) (qu (E.b rfl) (mR (ah 1) (Bj (ah 4) (uX (ah 6) (dX (E.b rfl) (ah 1)))))))) (l9 (yC (ah 6) (fY (dX (E.b rfl) (ah 1)) (dX (E.b rfl) (ah 4))))))) (aI (aV gm)) cg))))) (aL (b_ (fL (d9 (aH E) u.t u.G hr.m u.b (ah 0))) (aI (aV (oO (JI hr.units (ah 4) (fQ aE)) (qT (JI hr.units (ah 5) (fQ aE)))))) cg) (aI (aV (oO (yj (yj (dX (E.b rfl) (ah 4)) aD) (yj (dX (E.b rfl) (ah 5)) aD)) (qT (TM (ac2 (dX (E.b rfl) (ah 4)) aD) (qT (JI hr.units (d9 (aH E) v.t v.G hr.m v.b (ah 0)) (fQ aE))))))))))))))):z.D 3 Str.empty (top 56) (bx · (bJ 4 9 _)))
abbrev LV:=fF DI
def Xb:=wF DI
def JN:=λ(z:Z) (E:En L z/\Ri z/\ZK z/\V6 z/\ad3 z/\Xb z)=>(by obtain⟨E,p,q,u,v,y⟩:=E;exists 1,(aL (b_ (FW.ft (kD (mF (pQ hr (E.b rfl) (d9 (aH E) u.t u.G hr.m u.b (ah 0))) (pQ hr (E.b rfl) (ah 1))) (kD (mF (pQ hr (E.b rfl) (d9 (aH E) q.t q.G hr.m q.b (ah 0))) (pQ hr (E.b rfl) (ah 2))) (l9 (mF (Fq (E.b rfl) (d9 (aH E) p.t p.G hr.m p.b (ah 0))) (Fq (E.b rfl) (ah 4))))))) (aI (aV gm)) cg) (aL (vm 5 (hN:=nd) (M:=["_law_look","_law_word_here"]) (js:=[none,none]) (iz rfl (by kernel_rfl)) rfl (eY (ah 2)) (by decide) λs3 H3 fp=>⟨(qg rfl (gH (bS 0 (aa9 rfl)) (gH (bS 1 (aa9 rfl)) qD))),(oY (f_ (ah 1) cC)),(ah 0)⟩) (aL (b_ (mF (pQ hr (E.b rfl) (d9 (aH E) v.t v.G hr.m v.b (ah 0))) (pQ hr (E.b rfl) (ah 5))) (aI (aV gm)) cg) (aI (aV (bC y.G hr.m y.m y.kp y.b (ao (ah 0) (ao (ah 1) (ao (ah 2) (ao (ah 3) aE)))))))))):z.D 4 Str.empty (top 57) (bx · (bJ 5 6 _)))
abbrev Qp:=fF JN
def ads:=wF JN
def o_law:=λ(z:Z) (E:En L z/\afI z/\Uv z/\abo z/\uM z/\CO z/\CV z/\Vs z/\aax z/\YO z/\ads z)=>(by obtain⟨E,p,q,u,v,y,g,h,j,l,m⟩:=E;exists 1,(aL (bG 1 (bC p.G hr.m p.m p.kp p.b (ao (ah 0) (ao aD aE))) nd) (aL (bG 2 (M8 (aH E).ns q.M q.G hr.m (E.m rfl) q.b (ao (fq (ah 1) aD) (ao (fq (ah 1) aD) (ao (fq (ah 1) aD) (ao (fq (ah 1) aD) aE))))) nd) (aL (bG 3 (fQ aE) nd) (aL (bG 4 O1 nd) (aL (bG 5 (fQ aE) nd) (aL (bG 6 IJ nd) (aL (bG 7 aD nd) (aL (bG 8 gm nd) (aL (jz rfl (Oi (E.b rfl) (Pc rfl (E.b rfl) aD (dX (E.b rfl) (ah 0)))) (bS 9 nd) (aL (bG 10 (bC u.G hr.m u.m u.kp u.b (ao (ah 0) (ao (ah 9) (ao (ah 8) (ao (d9 (aH E) g.t g.G hr.m g.b (ah 2)) (ao (mR (d9 (aH E) v.t v.G hr.m v.b (ah 2)) (d9 (aH E) y.t y.G hr.m y.b (ah 2))) aE)))))) nd) (aL (b_ (f_ (ah 10) cC) (aL (DH 11 (N7 [2,4,5] [none,none,some 2,some 4,some 5,none] h.G hr.m h.m h.kp h.b (mz (ah 0) (mz (ah 9) (uF 2 (uF 4 (uF 5 (mz (ah 1) GP))))))) nd) (aL (b_ (zB (ah 11) jR) (aI (aV gm)) cg) (aI (b_ (f_ (fq (ah 11) aD) cC) (aL (b_ (Q4 hr.units (Bj (iY (E.b rfl) (fq (ah 11) aD)) (dX (E.b rfl) (ah 3))) (ah 3)) (aI (aV gm)) cg) (aI (bG 3 (iY (E.b rfl) (fq (ah 11) aD)) nd))) cg)))) (aI (aao (W_ (FK.fz (Kg [2,6] [none,none,none,some 2,some 6,none] j.G hr.m j.m j.kp j.b (mz (ah 0) (mz (ah 9) (mz (ah 10) (uF 2 (uF 6 (mz (ah 7) GP))))))))) (aI (aV gm)) cg))) (aL (b_ (f_ (ah 10) cC) (aI (bG 7 (fY (ah 7) aD) nd)) cg) (aL (b_ (FW.ft (kD (f_ (ah 10) cC) (l9 (f_ (ah 10) cC)))) (aI (bG 8 (yj (ah 10) cC) nd)) cg) (aL (b_ (FW.ft (kD (je (fL (bC l.G hr.m l.m l.kp l.b (ao (ah 2) (ao (qu (E.b rfl) (ah 3)) aE))))) (l9 (je (fL (bC l.G hr.m l.m l.kp l.b (ao (ah 2) (ao (qu (E.b rfl) (mR (ah 3) (fQ (ao aD aE)))) aE)))))))) (aI (aV gm)) cg) (aI (b_ (je (fL (bC m.G hr.m m.m m.kp m.b (ao (ah 2) (ao (ah 3) (ao (ah 5) (ao (ah 1) (ao (ah 8) aE)))))))) (aI (aV gm)) cg)))))))) (aI (aV (bC m.G hr.m m.m m.kp m.b (ao (ah 2) (ao (ah 3) (ao (ah 5) (ao (ah 1) (ao (ah 8) aE))))))))))))))))):z.D 15 Str.empty (top 60) (bx · (bJ 1 12 _)))
abbrev yf:=fF o_law
end K90
namespace K90
open PySem L2 L2.Ev
theorem cM(h:f ρ=some (d,.own)):l7 f ρ=some (.rt d):=by rw[BO,h];rfl
theorem AI:mH [.int v,.int a,.int b]=some (.bl (decide (a<=v)&&decide (v<=b))):=by
 refine cu rfl (cM ?_);show(match some (D.bl (decide (a<=v))) with|some (.bl true)=>some (D.bl (decide (v<=b)),Tag.own)|some (.bl false)=>some (.bl false,.own)|_=>none)=_;cases decide (a<=v)<;>rfl
noncomputable def iL(l:List Int):D:=.lst (l.map D.int)
noncomputable abbrev Ed:=Int×Int×Int
noncomputable def dT(p:Ed):D:=.tup [.int p.1,.int p.2.1,.int p.2.2]
def eL(E:List Ed):D:=.lst (E.map dT)
theorem zC:∀E:List Ed,aM (E.map dT)=true
 |[]=>rfl
 |p::r=>by rw[aan];unfold aM;rw[zC r];rfl
theorem K_:∀bs:List Bool,mh (bs.map D.bl)=some bs
 |[]=>rfl
 |b::r=>by rw[aan];unfold mh;rw[K_ r];rfl
theorem NV{bs:List Bool}:xG (.lst (bs.map D.bl))=some (.bl (bs.all id)):=by
 show(mh (bs.map D.bl)).map (λbs=>D.bl (bs.all id))=_;rw[K_];rfl
theorem pV{α β:Type}(f:α->β):∀l:List α,l.filterMap (λx=>some (f x))=l.map f
 |[]=>rfl
 |a::l=>by rw[ael,aan];show _::_=_;rw[pV f l]
abbrev g2:GF:=gT (d_ (gN 0) (d_ (gN 1) lR))
theorem size_le{n:Nat}(h:n<=10000):n<sizeLine:=by unfold sizeLine;lia
theorem Rb{k:Nat}(hk:k<=ds.length):cutD ds (some (k:Int)) none=ds.drop k:=by
 unfold cutD;rw[HT.Gb,HT.Dh,Nat.min_eq_left hk,List.take_of_length_le (by rw[List.length_drop];exact abW _)]
theorem Cu{k:Nat}(hk:k<=ds.length):cutD ds none (some (k:Int))=ds.take k:=by
 unfold cutD;rw[HT.Gb,HT.Dh,Nat.min_eq_left hk];rfl
theorem aec{ds:List D}:cutD ds (some 1) none=ds.drop 1:=by
 cases ds with
 |nil=>rfl
 |cons a r=>exact Rb (by simp)
noncomputable def qw:List Int->Bool
 |x::y::r=>decide (x<y)&&qw (y::r)
 |_=>true
theorem RN:∀l:List Int,((l.zip (l.drop 1)).map λp=>decide (p.1<p.2)).all id=qw l
 |[]=>rfl
 |[_]=>rfl
 |x::y::r=>by
  have ih:=RN (y::r);show(decide (x<y)&&(((y::r).zip ((y::r).drop 1)).map λp=>decide (p.1<p.2)).all id)=_;rw[ih];rfl
theorem GI:∀{l},l.Pairwise (· < ·)->qw l=true
 |[],_=>rfl
 |[_],_=>rfl
 |x::y::r,h=>by
  obtain⟨h1,h2⟩:=adV.mp h;show(decide (x<y)&&qw (y::r))=true;rw[GI h2,aaA (h1 y aak)];rfl
theorem Lv{l:List Int}(hl:l.length<=100):aaD [iL l]=some (.bl (qw l)):=by
 have q1:e1 (oE (some 1) none) (aj 0) [some (iL l,.sh [])]=some (iL (l.drop 1),.own):=bf rfl (by
  show(if aM (l.map D.int)=true then some (D.lst (cutD (l.map D.int) (some 1) none)) else none)=_;rw[if_pos (eF l),aec,<- List.map_drop];rfl)
 have hz:qI (aj 0) (e1 (oE (some 1) none) (aj 0)) [some (iL l,.sh [])]=some (((l.zip (l.drop 1)).map λp=>D.tup [.int p.1,.int p.2]),jP [(iL l,.sh []),(iL (l.drop 1),.own)]):=by
  unfold qI;rw[q1];show(if(aM (l.map D.int)&&aM ((l.drop 1).map D.int))=true then some (((l.map D.int).zip ((l.drop 1).map D.int)).map λp=>D.tup [p.1,p.2],jP [(iL l,.sh []),(iL (l.drop 1),.own)]) else none)=_;rw[if_pos (by rw[eF,eF];rfl),List.zip_map,ade];rfl
 refine cu rfl (cM (bf (jH (k:=λd=>match d with | .tup [.int a,.int b]=>some (.bl (decide (a < b))) | _=>none) hz (by rw[List.length_map,List.length_zip];exact size_le (by lia)) (λd m=>by
  obtain⟨⟨a,b⟩,mi,rfl⟩:=ab1.mp m;exact qz rfl rfl (aK rfl rfl t_))) ?_))
 rw[aeY,<- RN,<- NV,ade];exact congrArg (λz=>xG (.lst z)) (pV (λp:Int×Int=>D.bl (decide (p.1<p.2))) _)
theorem Bb(hi:it ρ=some (ds,.sh []))(h:di g (.sh []) f ds ρ=some (.nx ρ')):jD it g f ρ=some (.nx ρ'):=vf hi h
theorem aaZ(hi:it ρ=some (ds,.sh []))(h:di g (.sh []) f ds ρ=some (.rt r)):jD it g f ρ=some (.rt r):=KD hi h
noncomputable def inR(v a b:Int):Bool:=decide (a<=v)&&decide (v<=b)
def qU(p:Ed):Bool:=inR p.1 0 999&&inR p.2.1 0 1000000000&&inR p.2.2 0 1000000000&&!(p.2.1==p.2.2)
def zg(E:List Ed):Bool:=E.all qU&&qw (E.map (·.1))
abbrev gE:GF:=gT (d_ (gN 1) (d_ (gN 2) (d_ (gN 3) lR)))
def bE:SF:=(bZ (eX (lE (jq (tV (cO mH (ay (aj 1) (ay (eC (.int 0)) (ay (eC (.int 999)) aJ))))) (tV (cO mH (ay (aj 2) (ay (eC (.int 0)) (ay (eC (.int 1000000000)) aJ))))))) (l7 (eC (.bl false))) gP) (eX (jU (lE (tV (cO mH (ay (aj 3) (ay (eC (.int 0)) (ay (eC (.int 1000000000)) aJ)))))) (tV (e2 oEq (aj 2) (aj 3)))) (l7 (eC (.bl false))) gP))
theorem wM(h:aj i ρ=some (.int v,t)):tV (cO mH (ay (aj i) (ay (eC (.int a)) (ay (eC (.int b)) aJ)))) ρ=some (inR v a b):=
 bu (cT (ps:=[(.int v,t),(.int a,.own),(.int b,.own)]) (by rw[aW,h];rfl) AI)
def rE(L:D)(a b c:Int):aN:=[some (L,.sh []),some (.int a,.own),some (.int b,.own),some (.int c,.own)]
theorem Za{L:D}{a b c:Int}:bE (rE L a b c)=some (if qU (a,b,c)=true then .nx (rE L a b c) else .rt (.bl false)):=by
 have w1:tV (cO mH (ay (aj 1) (ay (eC (.int 0)) (ay (eC (.int 999)) aJ)))) (rE L a b c)=some (inR a 0 999):=wM rfl;have w2:tV (cO mH (ay (aj 2) (ay (eC (.int 0)) (ay (eC (.int 1000000000)) aJ)))) (rE L a b c)=some (inR b 0 1000000000):=wM rfl;have w3:tV (cO mH (ay (aj 3) (ay (eC (.int 0)) (ay (eC (.int 1000000000)) aJ)))) (rE L a b c)=some (inR c 0 1000000000):=wM rfl;have w4:tV (e2 oEq (aj 2) (aj 3)) (rE L a b c)=some (b==c):=rfl;have c1:=ua w1 w2;have c2:=wY (show lE (tV (cO mH (ay (aj 3) (ay (eC (.int 0)) (ay (eC (.int 1000000000)) aJ))))) (rE L a b c)=some (!inR c 0 1000000000) by rw[F3,w3];rfl) w4;unfold bE qU;rw[jI,iW,F3,c1];cases inR a 0 999<;>cases inR b 0 1000000000<;>try rfl
 show Bf _ (gP _)=_;rw[UX,nJ,iW,c2];cases inR c 0 1000000000<;>cases(b==c)<;>rfl
theorem MK{L:D}:∀{E:List Ed} {s1 s2 s3},∃pJ DE x9,di gE (.sh []) bE (E.map dT) [some (L,.sh []),s1,s2,s3]=some (if E.all qU=true then .nx [some (L,.sh []),pJ,DE,x9] else .rt (.bl false))
 |[],s1,s2,s3=>⟨s1,s2,s3,rfl⟩
 |(a,b,c)::E,s1,s2,s3=>by
  obtain⟨t1,t2,t3,ih⟩:=MK;refine⟨t1,t2,t3,?_⟩;rw[aan];show(match bE (rE L a b c) with|some (.nx bg)=>di gE (.sh []) bE (E.map dT) bg|some (.ct bg)=>di gE (.sh []) bE (E.map dT) bg|some (.bk bg)=>some (.nx bg)|some (.rt r)=>some (.rt r)|some (.er raw cn bg)=>some (.er raw cn bg)|none=>none)=_;rw[Za,ahg];cases qU (a,b,c) with
  |true=>rw[if_pos rfl,Bool.true_and];exact ih
  |false=>rfl
theorem e_(h:sf ρ=some (.rt d)):bZ sf sg ρ=some (.rt d):=by rw[jI,h];rfl
theorem PD{js:List (Option Nat)}{it:IF}{g:GF}{te:EF}{ρ:aN}{t:Tag}{l:List Int}{p:Int->Bool}(hi:it ρ=some (l.map D.int,t))(hl:l.length<=10000)(h:∀x∈l,jf g uw te (jt js ρ) (.int x)=some (some (.bl (p x)))):
  e1 xG (i9 js it g uw te) ρ=some (.bl (l.all p),.own):=by
 have hc:=jH (k:=λd=>match d with | .int x=>some (.bl (p x)) | _=>none) hi (by rw[List.length_map];exact size_le hl) (λd m=>by
  exists 65;exact h x mx)
 rw[xZ,hc,OX,aeY];have e:l.filterMap ((λd=>match d with|D.int x=>some (D.bl (p x))|_=>none) ∘ D.int)=(l.map p).map D.bl:=by
  rw[ade];exact pV (λx=>D.bl (p x)) _
 rw[e,NV,ahe];rfl
theorem f_are{E:List Ed}(hl:E.length<=100):ae9 [eL E]=some (.bl (zg E)):=by
 obtain⟨t1,t2,t3,vC⟩:=MK;refine cu rfl ?_;unfold zg;cases ha:E.all qU with
 |false=>
  rw[ha] at vC;exact e_ (aaZ rfl vC)
 |true=>
  rw[ha] at vC;refine sq (Bb rfl vC) (cM (cT (ps:=[(iL (E.map λp:Ed=>p.1),.own)]) ?_ (Lv (by rw[List.length_map];exact hl))));rw[aW,jH (k:=λd=>match d with | .tup [.int a,.int _,.int _]=>some (.int a) | _=>none) rfl (by rw[List.length_map];exact size_le (by lia)) (λd m=>by
   obtain⟨⟨a,b,c⟩,mi,rfl⟩:=ab1.mp m;exact qz rfl rfl rfl),aeY]
  unfold iL;rw[ade,show E.filterMap ((λd=>match d with|D.tup [.int a,.int _,.int _]=>some (D.int a)|_=>none) ∘ dT)=E.map (D.int ∘ (·.1)) from pV (λp:Ed=>D.int p.1) _];rfl
abbrev Ch:=Int×List Int×List Ed
def ent(c:Ch):D:=.tup [.int c.1,.tup (c.2.1.map D.int),.tup (c.2.2.map dT)]
def obj(C:List Ch):D:=.ins "Changes" [("entries",.lst (C.map ent))]
theorem Fe(c:Ch):aC (ent c)=true:=by
 unfold ent;show aM [.int c.1,.tup (c.2.1.map D.int),.tup (c.2.2.map dT)]=true;unfold aM;unfold aM;unfold aM;unfold aM;show(aC (.int c.1)&&(aM (c.2.1.map D.int)&&(aM (c.2.2.map dT)&&true)))=true;rw[eF,zC];rfl
theorem Nx:∀C:List Ch,aM (C.map ent)=true
 |[]=>rfl
 |c::r=>by rw[aan];unfold aM;rw[Nx r,Fe];rfl
theorem pC{F:List D->Option D}{ps:List (D×Tag)}(h:fo ρ=some (.ins cn es,t))(hm:es.lookup m=none)(hg:g ρ=some ps)(hF:F (.ins cn es::ps.map (·.1))=some d):
  cE cn m F fo g ρ=some (d,.own):=by
 unfold cE;rw[h];dsimp only;rw[if_pos ⟨rfl,hm⟩,hg,adb,hF];rfl
theorem CH(h:(mm==("entries":Str))=false):([("entries",d)]:List (Str×D)).lookup mm=none:=by simp only[List.lookup,h]
theorem MG(C:List Ch):DZ [obj C]=some (.int C.length):=cu rfl (cM (bf rfl (by rw[Bw,List.length_map])))
theorem Ef(h:aj i ρ=some (obj C,t)):cE "Changes" "many" DZ (aj i) aJ ρ=some (.int C.length,.own):=
 pC h (CH (by decide)) wD (MG C)
theorem l8{F:List D->Option D}(h:aj i ρ=some (obj C,t))(ha:fa ρ=some (x,t2))(hF:F [obj C,x]=some d)(hm:(mm==("entries":Str))=false:=by decide):
  cE "Changes" mm F (aj i) (ay fa aJ) ρ=some (d,.own):=
 pC (ps:=[(x,t2)]) h (CH hm) (by rw[aW,ha,wD,An]) hF
theorem DA(C:List Ch)(m:Int):G0 [obj C,.int m]=some (.bl (inR m 1 C.length)):=
 cu rfl (cM (cT (ps:=[(.int m,.sh []),(.int 1,.own),(.int C.length,.own)]) (by rw[aW,aW,aW,Ef rfl];rfl) AI))
def vq(n:Nat)(r:Int)(l:List Int)(E:List Ed):Bool:=inR r 0 9&&(l.all (λx=>inR x 1 n)&&qw l)&&(decide ((E.length:Int)<=20)&&zg E)
theorem sP(h1:fa ρ=some (.bl b,t))(h2:fb ρ=some (.bl c,.own)):yH fa fb ρ=some (.bl (b&&c),.own):=by
 rw[acW,h1];cases b
 .rfl
 .exact h2
theorem WG{C:List Ch}{r:Int}{l:List Int}{E:List Ed}(hl:l.length<=100)(hE:E.length<=100):SV [obj C,.int r,iL l,eL E]=some (.bl (vq C.length r l E)):=by
 have q1:=kN (wM (ρ:=[some (obj C,.sh []),some (.int r,.sh []),some (iL l,.sh []),some (eL E,.sh [])]) (i:=1) (a:=0) (b:=9) rfl);have q2:=wY (kN (bu (PD (js:=[none,some 0]) (it:=iy (aj 2)) (g:=gN 0) (te:=cE "Changes" "has" G0 (aj 1) (ay (aj 0) aJ)) (ρ:=[some (obj C,.sh []),some (.int r,.sh []),some (iL l,.sh []),some (eL E,.sh [])]) (gX rfl) (by lia) (λx mx=>qz rfl rfl (l8 rfl rfl (DA C x)))))) (kN (bu (cT (g:=ay (aj 2) aJ) rfl (Lv hl))));refine cu rfl ?_;unfold vq;cases h0:inR r 0 9 with
 |false=>rw[h0] at q1;exact qB q1 (e_ rfl)
 |true=>
  rw[h0] at q1;refine c9 q1 ?_;cases h1:l.all λx=>inR x 1 C.length with
  |false=>rw[h1] at q2;exact qB q2 (e_ rfl)
  |true=>
   cases h2:qw l with
   |false=>rw[h1,h2] at q2;exact qB q2 (e_ rfl)
   |true=>
    rw[h1,h2] at q2;exact c9 q2 (cM (sP (c:=zg E) (aK (bf rfl (by unfold eL;rw[Bw,List.length_map])) rfl Oz) (cT rfl (f_are hE))))
theorem A_(h1:fv ρ=some (d,t))(h2:ρ[i]? = some (some (.ins cn es,.own)))(hl:es.lookup f=some (.lst ds))(hc:(aC d&&aM ds&&decide (ds.length<sizeLine))=true):
  A4 i cn f fv ρ=some (.nx (bT ρ i (.ins cn (dR f (.lst (ds++[d])) es)))):=by
 unfold A4;rw[h1,h2];dsimp only;rw[if_pos rfl,hl];dsimp only;rw[if_pos hc]
theorem iC(h:f ρ=some (.nx ρ')):ju f ρ=some (.nx ρ'):=by unfold ju;rw[h]
theorem k7(hl:ds.length+1=n)(h:b (Bk N d0 ds)=some (.rt (.tup [r,d1]))):runM n N b d0 ds=some (r,d1):=by unfold runM;rw[if_pos hl,h]
theorem Sx{C:List Ch}{r:Int}{l:List Int}{E:List Ed}(hl:l.length<=100)(hE:E.length<=100)(hm:vq C.length r l E=true)(hC:C.length<60):Cn (obj C) [.int r,iL l,eL E]=some (.int (C.length+1),obj (C++[(r,l,E)])):=by
 refine k7 rfl ?_;refine c9 (kN (b:=true) (bu (pC rfl (CH (by decide)) rfl ((WG hl hE).trans (by rw[hm]))))) ?_;refine c9 (bu (aK (Ef rfl) rfl (by rw[Y_,abV (by lia)]))) ?_;refine sq (ρ':=[some (obj (C++[(r,l,E)]),.own),some (.int r,.sh []),some (iL l,.sh []),some (eL E,.sh [])]) ((iC (A_ (d:=ent (r,l,E)) (t:=.sh []) ?_ rfl rfl (by rw[Fe,Nx,aaA (by rw[List.length_map];exact size_le (by lia))];rfl))).trans ?_) ?_
 .rw[tW,aW,aW,aW,bf rfl vM,bf (d:=eL E) (t:=.own) ?_ (if_pos (zC E))]
  .rfl
  .refine(jH (gX rfl) (by rw[List.length_map];exact size_le (by lia)) (λd m=>by
    obtain⟨⟨a,b,c⟩,mx,rfl⟩:=ab1.mp m;exact qz rfl rfl rfl)).trans ?_
   rw[pV (λd:D=>d),List.map_id'];rfl
 .unfold obj;rw[adh];rfl
 .show ur _ _ _=_;unfold ur;rw[Ef rfl,abR];rfl
theorem oW{i:Int}(h1:-1000<=i)(h2:i<=1000):small i=true:=by
 unfold small;rw[aaA (show -(2 ^ 62)<=i by lia),aaA (show i<2 ^ 62 by lia)];rfl
noncomputable def bY(a:Int)(n:Nat):List Int:=(List.range n).map λi:Nat=>a+(i:Int)
theorem i7{a x:Int}{n:Nat}:x∈bY a n↔a<=x/\x<a+n:=by
 unfold bY;rw[ab1];constructor
 .rintro⟨i,m,rfl⟩
  have:=ahp.mp m
  lia
 .intro h;exact⟨(x-a).toNat,ahp.mpr (by lia),by lia⟩
theorem Ab(a:Int)(n:Nat):(bY a n).Pairwise (· < ·):=by
 unfold bY;rw[afC];exact List.pairwise_lt_range.imp (λh=>by lia)
theorem zP(h:f ρ=some (.int i,t))(h2:g ρ=some (.int j,t2))(hi:small i=true)(hj:small j=true):qF f g ρ=some ((bY i (j-i).toNat).map D.int,.own):=by
 unfold qF;rw[h,h2];dsimp only;rw[if_pos (by rw[hi,hj];rfl)];unfold bY;rw[ade];rfl
theorem gu(p:Int->Bool)(f:Int->Int):∀l:List Int,l.filterMap (λx=>if p x=true then some (D.int (f x)) else none)=((l.filter p).map f).map D.int
 |[]=>rfl
 |a::r=>by
  rw[ael]
  by_cases hp:p a=true
  .rw[List.filter_cons_of_pos hp,if_pos hp,gu p f r];rfl
  .rw[List.filter_cons_of_neg hp,if_neg hp,gu p f r]
theorem Z6{js:List (Option Nat)}{it:IF}{g:GF}{tt:TF}{te:EF}{ρ:aN}{t:Tag}{l:List Int}{p:Int->Bool}{f:Int->Int}(hi:it ρ=some (l.map D.int,t))(hl:l.length<=10000)(h:∀x∈l,jf g tt te (jt js ρ) (.int x)=some (if p x=true then some (.int (f x)) else none)):
  i9 js it g tt te ρ=some (iL ((l.filter p).map f),.own):=by
 have hc:=jH (k:=λd=>match d with | .int x=>if p x=true then some (.int (f x)) else none | _=>none) hi (by rw[List.length_map];exact size_le hl) (λd m=>by
  exists 65;exact h x mx)
 rw[hc]
 congr 3
 clear hc h hi hl;rw[aeY];exact gu p f l
def lean(L:List (List Int))(m:Int):List Int:=if 1<=m then(L[(m-1).toNat]?).getD [] else[]
noncomputable abbrev sec(C:List Ch):List (List Int):=C.map (·.2.1)
theorem ZX{α:Type}{f:α->D}{L:List α}{m:Int}{l:α}(h1:1<=m)(h2:m<=L.length)(h:L[(m-1).toNat]? = some l):dQ (L.map f) (m-1)=some (f l):=by
 unfold dQ lu;rw[List.length_map];rw[if_pos (by omega),if_pos (by omega),adb,acn,h];rfl
def ch(L:List Ch)(m:Int):Ch:=(L[(m-1).toNat]?).getD (0,[],[])
theorem ady{L:List Ch}{m:Int}(h1:1<=m)(h2:m<=L.length):L[(m-1).toNat]? = some (ch L m):=by
 unfold ch;rw[abl (by lia)];rfl
theorem uD{L:List Ch}{m:Int}(h1:1<=m)(h2:m<=L.length):(ch L m).2.1=lean (sec L) m:=by
 unfold ch lean sec;rw[if_pos h1,acn,abl (by lia)];rfl
theorem FD{L:List Ch}{m:Int}(h1:1<=m)(h2:m<=L.length):WI [obj L,.int m]=some (ent (ch L m)):=
 cu rfl (c9 (kN (b:=true) (bu (l8 rfl rfl ((DA L m).trans (by unfold inR;rw[aaA h1,aaA h2];rfl))))) (cM (aK rfl rfl (u9 (ZX h1 h2 (ady h1 h2)) (Fe _)))))
theorem L8{L:List Ch}{m:Int}(h1:1<=m)(h2:m<=L.length):Dr [obj L,.int m]=some (iL (lean (sec L) m)):=
 cu rfl (cM (bf (aK (l8 rfl rfl (FD h1 h2)) rfl (if_pos (show aC (D.tup _)=true by simp only[aC,eF]))) (by rw[M7,uD h1 h2];rfl)))
def dJ(L:List Ch)(m:Int):List Ed:=(ch L m).2.2
theorem Cq{L:List Ch}{m:Int}(h1:1<=m)(h2:m<=L.length):CC [obj L,.int m]=some (eL (dJ L m)):=
 cu rfl (cM (bf (aK (l8 rfl rfl (FD h1 h2)) rfl (if_pos (show aC (D.tup _)=true from zC _))) (if_pos (zC _))))
theorem RJ{e:EF}{ρ:aN}{n:Nat}{t:Tag}(h:e ρ=some (.int n,t))(hs:n<=1000):xh e ρ=some ((bY 0 n).map D.int,.own):=by
 rw[V_ h (oW (by lia) (by lia)),Int.toNat_natCast];unfold bY;rw[ade];rfl
theorem IQ{l:List Int}:l.any (· == m)=decide (m∈l):=by
 by_cases h:m∈l
 .rw[aaA h];exact ad9.mpr ⟨m,h,by simp⟩
 .rw[abV h,agn];intro e;obtain⟨y,my,ey⟩:=ad9.mp e;exact h (by rw[<- (agg.mp ey)];exact my)
theorem Jm:x∈dU l↔x∈l:=(sJ l).mem_iff
structure EC(E:List Ed)(n:Nat):Prop where
 so:(E.map (·.1)).Pairwise (·<=·)
 ln:E.length<=n
theorem HP(h:n<4096):n<sizeLine:=by unfold sizeLine;lia
def pG(es:List (Int×Int))(p:Int×Int×Int):Bool:=!((bP es p.1).getD 0==p.2.1)
def bad(es:List (Int×Int))(E:List (Int×Int×Int)):List Int:=(E.filter (pG es)).map (·.1)
noncomputable def ya:List Int->D
 |[]=>.aA
 |x::_=>.int x
theorem afg:∀{x} {l},(x::l).Pairwise (·<=·)->kg (x::l)=x
 |x,l,h=>by
  obtain⟨h1,h2⟩:=Gg (l:=x::l) (by simp);have h3:=h2 x aak;rcases aaQ.mp h1 with e|m
  .exact e
  .have:=(adV.mp h).1 _ m;lia
def kW(es:List (Int×Int)):D->Option D
 |.tup [.int a,.int b,.int c]=>if pG es (a,b,c)=true then some (.int a) else none
 |_=>none
theorem X6:∀p,kW es (dT p)=if pG es p=true then some (D.int p.1) else none
 |(_,_,_)=>rfl
theorem Fi(hE:EC E n)(hn:n<64)(w:List D->D)(hw:iy (aj 1) [some (bI es,.sh []),some (w (E.map dT),.sh [])]=some (E.map dT,.sh [])):Iz [bI es,w (E.map dT)]=some (ya (bad es E)):=by
 have hc:=jH (js:=[none,none,none,some 0]) (g:=gT (d_ (gN 0) (d_ (gN 1) (d_ (gN 2) lR)))) (tt:=tV (e2 jC (e3 sG (aj 3) (aj 0) (eC (.int 0))) (aj 1))) (te:=aj 0) (k:=kW es) hw (by rw[List.length_map];exact HP (by have:=hE.ln;lia)) (λd m=>by
  obtain⟨⟨a,b,c⟩,mi,rfl⟩:=ab1.mp m;show _=some (if pG es (a,b,c)=true then some (D.int a) else none);have ht:(tV (e2 jC (e3 sG (aj 3) (aj 0) (eC (.int 0))) (aj 1))) [some (.int a,.own),some (.int b,.own),some (.int c,.own),some (bI es,.sh [])]=some (pG es (a,b,c)):=by
   rw[wQ,ki,LL];show Ev.kV (k2 jC ((sG (bI es) (.int a) (.int 0)).map _) _)=_;rw[Sa];rfl
  by_cases h:pG es (a,b,c)=true
  .rw[if_pos h];exact tO (aR:=[some (.int a,.own),some (.int b,.own),some (.int c,.own),some (bI es,.sh [])]) rfl (by rw[ht,h]) rfl rfl
  .rw[if_neg h];exact x8 (aR:=[some (.int a,.own),some (.int b,.own),some (.int c,.own),some (bI es,.sh [])]) rfl (by rw[ht,agn.mpr h]))
 have hb:(E.map dT).filterMap (kW es)=(bad es E).map D.int:=by
  clear hc hw hE;unfold bad
  induction E with
  |nil=>rfl
  |cons p r ih=>
   rw[aan,ael,agF,X6]
   by_cases h:pG es p=true
   .rw[if_pos h,if_pos h];dsimp only;rw[ih];rfl
   .rw[if_neg h,if_neg h];exact ih
 rw[hb] at hc;have hs:(bad es E).Pairwise (·<=·):=by
  unfold bad;have:=hE.so;rw[afC] at this ⊢;exact this.filter _
 refine cu rfl (cM (aK hc rfl ?_));show(match dY ((bad es E).map D.int) with|some []=>if aC .aA=true then some D.aA else none|some (n::r)=>some (D.int (kg (n::r)))|none=>none)=_;rw[ux];cases e:bad es E with
 |nil=>rfl
 |cons x l=>
  dsimp only;rw[afg (by rw[<- e];exact hs)];rfl
def sy(es:List (Int×Int)):List Int:=(dU (es.map (·.1))).filter λk=>!((bP es k).getD 0==0)
def nz(es:List (Int×Int)):List (Int×Int):=(sy es).map λk=>(k,(bP es k).getD 0)
def kS(es:List (Int×Int)):D->Option D
 |.int i=>if(!((bP es i).getD 0==0))=true then some (dP (i,(bP es i).getD 0)) else none
 |_=>none
theorem afS(hl:es.length<64):V1 [bI es]=some (.lst ((nz es).map dP)):=by
 have hs:(e1 nh (aj 0)) [some (bI es,.sh [])]=some (.lst ((dU (es.map (·.1))).map D.int),.own):=by
  rw[xZ];show(nh (bI es)).map _=_;rw[Wp (by omega)];rfl
 have hc:=jH (js:=[none,some 0]) (g:=gN 0) (tt:=tV (e2 jC (e2 oX (aj 1) (aj 0)) (eC (.int 0)))) (te:=nA (ay (aj 0) (ay (e2 oX (aj 1) (aj 0)) aJ))) (k:=kS es)
   (gX hs) (by rw[List.length_map,Cv,List.length_map];exact HP (by omega)) (λd m=>by
  obtain⟨i,mi,rfl⟩:=ab1.mp m;obtain⟨w,hw⟩:=sS.mpr (Jm.mp mi);have hg:=aaE hw;show _=some (if(!((bP es i).getD 0==0))=true then some (dP (i,(bP es i).getD 0)) else none);have ht:(tV (e2 jC (e2 oX (aj 1) (aj 0)) (eC (.int 0)))) [some (.int i,.sh []),some (bI es,.sh [])]=some (!((bP es i).getD 0==0)):=by
   rw[wQ,ki,ki];show Ev.kV (k2 jC ((oX (bI es) (.int i)).map _) _)=_;rw[hg,hw];rfl
  by_cases h:(!((bP es i).getD 0==0))=true
  .rw[if_pos h];refine tO (aR:=[some (.int i,.sh []),some (bI es,.sh [])]) (tg:=.sh []) rfl (by rw[ht,h]) ?_ rfl;rw[tW,aW,aW,ki];show Option.map _ (lF _ (lF ((oX (bI es) (.int i)).map _) _))=_;rw[hg,hw];rfl
  .rw[if_neg h];exact x8 (aR:=[some (.int i,.sh []),some (bI es,.sh [])]) rfl (by rw[ht,agn.mpr h]))
 refine(cu rfl (cM hc)).trans ?_
 congr 2
 unfold nz sy;generalize dU (es.map (·.1))=l;clear hs hc
 induction l with
 |nil=>rfl
 |cons x r ih=>
  rw[aan,ael,agF]
  by_cases h:(!((bP es x).getD 0==0))=true
  .rw[if_pos h,show kS es (.int x)=some (dP (x,(bP es x).getD 0)) from if_pos h];dsimp only;rw[ih];rfl
  .rw[if_neg h,show kS es (.int x)=none from if_neg h];exact ih
def eO(es:List (Int×Int))(E:List (Int×Int×Int)):List (Int×Int):=E.foldl (λm p=>gK m p.1 p.2.2) es
theorem RM:∀(E) (es),(es.map (·.1)).Nodup->((eO es E).map (·.1)).Nodup
 |[],_,h=>h
 |p::r,es,h=>RM r _ (P6 h)
theorem AK:∀(E) (es) (k),(E.map (·.1)).Nodup->(∀p∈E,p.1=k->bP (eO es E) k=some p.2.2)/\(k∉E.map (·.1)->bP (eO es E) k=bP es k)
 |[],es,k,_=>⟨λp m=>(nomatch m),λ_=>rfl⟩
 |q::r,es,k,h=>by
  obtain⟨h1,h2⟩:=abZ.mp h;obtain⟨a,b⟩:=AK r (gK es q.1 q.2.2) k h2;refine⟨λp m e=>?_,λm=>?_⟩
  .rcases aaQ.mp m with rfl|m
   .show bP (eO (gK es p.1 p.2.2) r) k=_;rw[b (by rw[<- e];exact h1),B_,if_pos e.symm]
   .exact a p m e
  .show bP (eO (gK es q.1 q.2.2) r) k=_;rw[aan] at m;rw[b λx=>m (aaf _ x),B_,if_neg λx=>m (by rw[x];exact aak)]
noncomputable abbrev iO:=List (Int×Int)
theorem Bg(S:iO->Slot->Slot->Slot->aN)(hg:∀v x y z (p:Ed),g (dT p) t (S v x y z)=some (S v (some (.int p.1,.own)) (some (.int p.2.1,.own)) (some (.int p.2.2,.own))))(hf:∀v (p:Ed),v.length<sizeLine->f (S v (some (.int p.1,.own)) (some (.int p.2.1,.own)) (some (.int p.2.2,.own)))=some (.nx (S (gK v p.1 p.2.2) (some (.int p.1,.own)) (some (.int p.2.1,.own)) (some (.int p.2.2,.own))))):
  ∀{E} {v} {x y z},v.length+E.length<4096->∃x' y' z',di g t f (E.map dT) (S v x y z)=some (.nx (S (eO v E) x' y' z'))
 |[],_,x,y,z,_=>⟨x,y,z,rfl⟩
 |p::E,v,x,y,z,hl=>by
  rw[acj] at hl;obtain⟨x',y',z',ih⟩:=Bg S hg hf (E:=E) (v:=gK v p.1 p.2.2) (by have:=Tn (es:=v) (k:=p.1) (v:=p.2.2);lia);exact⟨x',y',z',(kP (hg ..) (hf _ _ (HP (by lia)))).trans ih⟩
def wK(S L:D)(es:List (Int×Int))(s3 s4 s5 s6 s7:Slot):aN:=[some (S,.sh []),some (L,.sh []),some (bI es,.own),s3,s4,s5,s6,s7]
abbrev Q0:GF:=gT (d_ (gN 5) (d_ (gN 6) (d_ (gN 7) lR)))
abbrev Rj:SF:=qG 2 (aj 5) (aj 7)
theorem LZ:k∈sy es↔(bP es k).getD 0≠0:=by
 unfold sy;rw[acX];refine⟨λh=>by simpa using h.2,λh=>⟨Jm.mpr (sS.mp ?_),by simpa using h⟩⟩;cases e:bP es k with
 |none=>rw[e] at h;exact absurd rfl h
 |some v=>exact⟨v,rfl⟩
theorem RW(h:(es.map (·.1)).Nodup):(sy es).Nodup:=((sJ _).nodup_iff.mpr h).sublist afa
theorem Ra:(nz es).map (·.1)=sy es:=by
 unfold nz;rw[ade];exact List.map_id' _
theorem HZ(f:Int->Int)(k:Int):∀l:List Int,bP (l.map λk=>(k,f k)) k=if k∈l then some (f k) else none
 |[]=>rfl
 |x::r=>by
  have ih:=HZ f k r;rw[aan];unfold bP at ih ⊢;rw[adN]
  by_cases hx:x=k
  .rw[aaA hx,if_pos (by rw[hx];exact aak),hx];rfl
  .rw[abV hx];dsimp only;rw[ih];have:(k∈x::r)↔k∈r:=⟨λm=>(aaQ.mp m).elim (λe=>absurd e.symm hx) id,aaf _⟩
   simp only[this]
theorem Th(k:Int):(bP (nz es) k).getD 0=(bP es k).getD 0:=by
 unfold nz;rw[HZ]
 by_cases h:k∈sy es
 .rw[if_pos h];rfl
 .rw[if_neg h];have:=mt LZ.mpr h;simp only[ne_eq,Decidable.not_not] at this;rw[this];rfl
theorem acU(h:(es.map (·.1)).Nodup)(k:Int):(bP (jS (nz es)) k).getD 0=(bP es k).getD 0:=by
 rw[ME (by rw[Ra];exact RW h),Th]
theorem Vu(ps:List (Int×Int)):((jS ps).map (·.1)).Nodup:=by
 have go:∀(ps m:List (Int×Int)),(m.map (·.1)).Nodup->((ps.foldl (λm p=>gK m p.1 p.2) m).map (·.1)).Nodup:=by
  intro ps
  induction ps with
  |nil=>intro m h;exact h
  |cons p r ih=>intro m h;exact ih _ (P6 h)
 exact go ps [] acm
theorem sub_len[DecidableEq α]:∀{l m:List α},l.Nodup->(∀x∈l,x∈m)->l.length<=m.length
 |[],m,_,_=>aeC _
 |a::l,m,h,s=>by
  obtain⟨ha,hl⟩:=abZ.mp h;have ma:=s a aak;have:=sub_len (m:=m.erase a) hl λx mx=>(List.mem_erase_of_ne λe=>ha (by rw[<- e];exact mx)).mpr (s x (aaf _ mx))
  rw[List.length_erase_of_mem ma] at this;have:=List.length_pos_of_mem ma;rw[acj];omega
theorem Zf(h:k∈(gK es a c).map (·.1)):k=a\/k∈es.map (·.1):=by
 obtain⟨w,e⟩:=sS.mpr h;rw[B_] at e
 split at e
 .rename_i q;exact .inl q
 .exact .inr (sS.mp ⟨w,e⟩)
theorem NU{S:List Int}:∀{E} {es},(∀p∈E,p.1∈S)->(∀k∈es.map (·.1),k∈S)->∀k∈(eO es E).map (·.1),k∈S
 |[],es,_,h=>h
 |p::E,es,hE,h=>NU (es:=gK es p.1 p.2.2) (λq m=>hE q (aaf _ m)) λk m=>(Zf m).elim (λe=>by rw[e];exact hE p aak) (h k)
def f9:iO->List (List Ed)->Option iO
 |v,[]=>some v
 |v,E::r=>if bad v E=[] then f9 (eO v E) r else none
structure Kb(v:iO):Prop where
 nd:(v.map (·.1)).Nodup
 ks:∀k∈v.map (·.1),k∈bY 0 60
theorem Kb.len{v:iO}(h:Kb v):v.length<=60:=by
 have:=sub_len h.nd h.ks;rw[List.length_map] at this;unfold bY at this
 rwa [List.length_map,ahn] at this
theorem Kb.nil:Kb []:=⟨.nil,λk m=>nomatch m⟩
structure Ee(E:List Ed):Prop where
 ed:EC E 20
 nd:(E.map (·.1)).Nodup
 sl:∀p∈E,p.1∈bY 0 60
theorem Kb.eO{v:iO}(h:Kb v)(e:Ee E):Kb (eO v E):=⟨RM E v h.nd,NU e.sl h.ks⟩
abbrev Mi(Z:SF):SF:=bZ (dF 4 (cO Iz (ay (aj 2) (ay (aj 3) aJ)))) (bZ (eX (tV (e2 Cz (aj 4) (eC .aA))) Z gP) (jD (iy (aj 3)) Q0 Rj))
theorem Zz{Z:SF}{S L:D}(hE:EC E 20)(hb:bad v E=[])(hl:v.length<=3000):∃t5 t6 t7,Mi Z (wK S L v (some (eL E,.sh [])) s4 s5 s6 s7)=some (.nx (wK S L (eO v E) (some (eL E,.sh [])) (some (.aA,.own)) t5 t6 t7)):=by
 have hle:=hE.ln;obtain⟨t5,t6,t7,lp⟩:=Bg (g:=Q0) (f:=Rj) (λv x y z=>wK S L v (some (eL E,.sh [])) (some (.aA,.own)) x y z) (λ_ _ _ _ _=>rfl) (λv p h=>JP rfl rfl rfl h) (E:=E) (v:=v) (by lia);exact⟨t5,t6,t7,k9 (d:=.aA) (cT rfl (by show Iz [bI v,.lst (E.map dT)]=_;rw[Fi hE (by lia) D.lst rfl,hb];rfl)) (sq rfl (Bb rfl lp))⟩
theorem L5{Z:SF}{S L:D}:∀{Es} {v v'} {s3 s4 s5 s6 s7},(∀E∈Es,Ee E)->f9 v Es=some v'->Kb v->
  ∃t3 t4 t5 t6 t7,di (gN 3) (.sh []) (Mi Z) (Es.map eL) (wK S L v s3 s4 s5 s6 s7)=some (.nx (wK S L v' t3 t4 t5 t6 t7))/\Kb v'
 |[],v,v',s3,s4,s5,s6,s7,_,h,k=>by
  cases h;exact⟨s3,s4,s5,s6,s7,rfl,k⟩
 |E::Es,v,v',s3,s4,s5,s6,s7,hE,h,k=>by
  unfold f9 at h
  by_cases hb:bad v E=[]
  .rw[if_pos hb] at h;have QZ:=hE E aak;obtain⟨t5,t6,t7,hs⟩:=Zz QZ.ed hb (by have:=k.len;lia);obtain⟨u3,u4,u5,u6,u7,ih,k'⟩:=L5 (λE' m=>hE E' (aaf _ m)) h (k.eO QZ);exact⟨u3,u4,u5,u6,u7,(kP rfl hs).trans ih,k'⟩
  .rw[if_neg hb] at h;cases h
def dS(ps:iO):D:=.lst (ps.map dP)
def fX(C:List Ch)(row:List Int):List (List Ed):=row.map (dJ C)
noncomputable abbrev Row(C:List Ch)(ns:List Int):Prop:=∀x∈ns,1<=x/\x<=(C.length:Int)
structure GoodC(C:List Ch):Prop where
 ln:C.length<=60
 ed:∀m,Ee (dJ C m)
 bd:∀m x,1<=m->m<=(C.length:Int)->x∈lean (sec C) m->1<=x/\x<m
 few:∀m,(lean (sec C) m).length<=60
theorem Ga{C:List Ch}{row:List Int}(g:GoodC C)(hb:Row C row)(hl:row.length<=100)(h:f9 [] (fX C row)=some v):abf [obj C,iL row]=some (dS (nz v))/\Kb v:=by
 have hE:∀E∈fX C row,Ee E:=λE m=>by
  obtain⟨x,_,rfl⟩:=ab1.mp m;exact g.ed x
 obtain⟨t3,t4,t5,t6,t7,vC,kv⟩:=L5 hE h Kb.nil;have hc:=jH (js:=[none,some 0]) (it:=iy (aj 1)) (ρ:=[some (obj C,.sh []),some (iL row,.sh [])]) (g:=gN 0) (tt:=uw) (te:=cE "Changes" "edits_of" CC (aj 1) (ay (aj 0) aJ)) (k:=λd=>match d with | .int x=>some (eL (dJ C x)) | _=>none) (gX rfl) (by rw[List.length_map];exact size_le (by lia)) (λd m=>by
  exists 65;obtain⟨h1,h2⟩:=hb x mx;exact qz rfl rfl (l8 rfl rfl (Cq h1 h2)))
 rw[aeY,show(row.filterMap ((λd=>match d with|D.int x=>some (eL (dJ C x))|_=>none) ∘ D.int))=(fX C row).map eL from(pV _ _).trans (by unfold fX;rw[ade];rfl)] at hc;exact⟨cu rfl (cM (cT (by rw[aW,aW];show lF _ (lF (i9 _ _ _ _ _ [some (obj C,.sh []),some (iL row,.sh [])]) _)=_;rw[hc];rfl) (cu rfl (k9 rfl (sq (Bb rfl vC) (cM (cT (ps:=[(bI v,.sh [2])]) rfl (afS (by have:=kv.len;lia))))))))),kv⟩
abbrev gV(es:iO)(k:Int):Int:=(bP es k).getD 0
def jE(C:List Ch)(v:iO)(m:Int):Bool:=(bad v (dJ C m)).isEmpty
theorem ad7:jE C v m=true↔bad v (dJ C m)=[]:=List.isEmpty_iff
theorem ad6:gR (ya l) .aA=some (.bl l.isEmpty):=by cases l<;>rfl
theorem xB{l:List Int}(hi:it ρ=some (l.map D.int,t))(hl:l.length<=10000)(hr:∀x,gN 0 (.int x) (.sh []) (jt js ρ)=some (some (.int x,.sh [])::r))(h:∀x∈l,tt (some (.int x,.sh [])::r)=some (p x)):
  i9 js it (gN 0) tt (aj 0) ρ=some (iL (l.filter p),.own):=by
 have:=Z6 (tt:=tt) (te:=aj 0) hi hl (λx mx=>by
  by_cases hp:p x=true
  .rw[if_pos hp];exact tO (hr x) (by rw[h x mx,hp]) rfl rfl
  .rw[if_neg hp];exact x8 (hr x) (by rw[h x mx,agn.mpr hp]))
 rw[List.map_id'] at this;exact this
theorem aaM(h1:fv ρ=some (.int n,t))(h2:ρ[i]? = some (some (iL ns,.own)))(hm:n∈ns):yw i fv ρ=some (.nx (bT ρ i (iL (ns.erase n)))):=by
 unfold yw;rw[h1,h2];unfold iL;dsimp only;rw[ux];dsimp only;rw[if_pos hm]
noncomputable def kB(k:Int):Key×D:=(Sum.inl k,.bl true)
def dB(ks:List Int):D:=.bO (ks.map kB)
noncomputable def add(ks:List Int)(k:Int):List Int:=if k∈ks then ks else ks++[k]
theorem acJ:x∈add ks k↔x∈ks\/x=k:=by
 unfold add
 by_cases h:k∈ks
 .rw[if_pos h];exact⟨.inl,λe=>e.elim id λe=>by rw[e];exact h⟩
 .rw[if_neg h,abB,aaB]
theorem QM{ks:List Int}:((ks.map kB).any λkv=>decide (kv.1=(Sum.inl k:Key)))=decide (k∈ks):=by
 induction ks with
 |nil=>simp
 |cons a r ih=>
  rw[aan,afK,ih];have:decide ((kB a).1=(Sum.inl k:Key))=decide (a=k):=by
   exact agW.mpr uo
  rw[this]
  by_cases h:a=k
  .subst h;simp
  .simp[h,afH h]
theorem Ww{ks:List Int}:qO false (.int x) (dB ks)=some (.bl (decide (x∈ks))):=by
 show some (D.bl (if false=true then _ else(bA (ks.map kB) (Sum.inl x:Key)).isSome))=_;rw[if_neg abu,<- QM];unfold bA;rw[agA]
 congr 2
 rw[ag0,List.find?_isSome,ad9]
theorem Ua{ks:List Int}:putD (ks.map kB) (Sum.inl k:Key) (.bl true)=(add ks k).map kB:=by
 unfold putD add;rw[QM]
 by_cases h:k∈ks
 .rw[if_pos (aaA h),if_pos h,ade];refine agm λa _=>?_
  show(if(Sum.inl a:Key)=Sum.inl k then((Sum.inl a:Key),D.bl true) else kB a)=kB a
  split<;>rfl
 .rw[if_neg (by simpa using h),if_neg h,adh];rfl
def adds(m l:List Int):List Int:=l.foldl add m
theorem ON:∀{l m} {x},x∈adds m l↔x∈m\/x∈l
 |[],m,x=>by simp[adds]
 |a::l,m,x=>by
  have:=ON (l:=l) (m:=add m a) (x:=x);show x∈adds (add m a) l↔_;rw[this,acJ,aaQ,or_assoc]
noncomputable def qP(x:Int):D:=.tup [.int x,.bl true]
theorem LD:∀l:List Int,jT (l.map qP)=some (l.map kB)
 |[]=>rfl
 |p::r=>by
  rw[aan];show(match iM (.int p),jT (r.map qP) with|some k,some ps=>if aC (.bl true)=true then some ((k,D.bl true)::ps) else none|_,_=>none)=_;rw[LD r];rfl
theorem Rg:∀(l m),(l.map kB).foldl (λm p=>putD m p.1 p.2) (m.map kB)=(adds m l).map kB
 |[],_=>rfl
 |p::r,m=>by rw[aan,aeP];show(r.map kB).foldl _ (putD (m.map kB) (Sum.inl p:Key) (.bl true))=_;rw[Ua];exact Rg r _
theorem Yi:Ai (.lst (l.map qP))=some (dB (adds [] l)):=by
 show(jT (l.map qP)).map _=_;rw[LD];show some (D.bO ((l.map kB).foldl (λm p=>putD m p.1 p.2) []))=_;rw[show([]:List (Key×D))=([]:List Int).map kB from rfl,Rg];rfl
def nW(C:List Ch)(there:List Int)(m:Int):Bool:=(lean (sec C) m).all λx=>decide (x∈there)
theorem tw{g:SF}(ρ':aN)(h:g ρ'=r)(e:ρ=ρ':=by rfl):g ρ=r:=by rw[e,h]
theorem PY(h:f ρ=some (iL a,t))(h2:g ρ=some (iL b,t2))(hl:a.length+b.length<=1000):e2 fW (e1 qQ f) (e1 qQ g) ρ=some (iL (a++b),.own):=
 aK (bf h ue) (bf h2 ue) (qK (by rw[ae7];lia))
theorem NJ(g:GoodC C){a b wt:List Int}(hl:a.length+b.length<=1000)(hw:Row C wt)(B3:wt.length<=1000):zM [obj C,iL a,iL b,iL wt]=some (iL (wt.filter (nW C (a++b)))):=by
 refine cu rfl (k9 (bf (t:=.own) ?_ Yi) (tw [some (obj C,.sh []),some (iL a,.sh []),some (iL b,.sh []),some (iL wt,.sh []),some (dB (adds [] (a++b)),.own)] (cM (xB (gX rfl) (by lia) (λx=>rfl) (λx vz=>?_)))))
 .refine(jH (k:=λd=>match d with | .int x=>some (qP x) | _=>none) (gX (PY rfl rfl hl)) (by rw[List.length_map,abR];exact size_le (by lia)) (λd m=>by
   obtain⟨x,vz,rfl⟩:=ab1.mp m;exact tO rfl rfl rfl rfl)).trans ?_
  rw[aeY,show((a++b).filterMap ((λd=>match d with|D.int x=>some (qP x)|_=>none) ∘ D.int))=(a++b).map qP from pV qP _]
 .obtain⟨h1,h2⟩:=hw x vz;refine bu (PD (gX (l8 rfl rfl (L8 h1 h2))) (by have:=g.few x;lia) (λy my=>qz rfl rfl (aK rfl rfl ?_)));rw[Ww,show decide (y∈adds [] (a++b))=decide (y∈a++b) from agW.mpr (by rw[ON];simp)]
theorem Tt(g:GoodC C)(hl:a.length+b.length<=100)(hb:Row C (a++b))(h:f9 [] (fX C (a++b))=some v):ab2 [obj C,iL a,iL b]=some (bI (jS (nz v))):=
 cu rfl (cM (bf (cT (ps:=[(obj C,.sh []),(iL (a++b),.own)]) (by rw[aW,aW];show lF _ (lF (e2 fW _ _ [some (obj C,.sh []),some (iL a,.sh []),some (iL b,.sh [])]) _)=_;rw[PY rfl rfl (by lia)];rfl) (Ga g hb (by rw[abR];lia) h).1) Mn))
theorem Td(h:∀k,gV u k=gV v k)(E:List Ed):bad u E=bad v E:=by
 unfold bad
 congr 1
 refine List.filter_congr λp _=>?_
 unfold pG;have:=h p.1;unfold gV at this;rw[this]
theorem V7(g:GoodC C)(h1:1<=m)(h2:m<=(C.length:Int)):JW [obj C,bI v,.int m]=some (.bl (jE C v m)):=
 cu rfl (cM (aK (cT (ps:=[(bI v,.sh []),(eL (dJ C m),.own)]) (by rw[aW,aW];show lF _ (lF (cE _ _ _ _ _ [some (obj C,.sh []),some (bI v,.sh []),some (.int m,.sh [])]) _)=_;rw[l8 rfl rfl (Cq h1 h2)];rfl) (Fi (g.ed m).ed (by lia) D.lst rfl)) rfl ad6))
theorem afw{L:List Ch}{m:Int}(h1:1<=m)(h2:m<=L.length):AA [obj L,.int m]=some (.int (ch L m).1):=
 cu rfl (cM (aK (l8 rfl rfl (FD h1 h2)) rfl rfl))
abbrev kf:EF:=nA (ay (e1 BP (cE "Changes" "rank_of" AA (aj 1) (ay (aj 0) aJ))) (ay (aj 0) aJ))
abbrev pr(C:List Ch):Int->Int×Int:=vO kf (obj C)
theorem R7{C:List Ch}{x:Int}(h1:1<=x)(h2:x<=C.length):sX kf (obj C) x=some (-(ch C x).1,x):=by
 unfold sX;have e:e1 BP (cE "Changes" "rank_of" AA (aj 1) (ay (aj 0) aJ)) [some (.int x,.own),some (obj C,.sh [])]=some (.int (-(ch C x).1),.own):=bf (l8 rfl rfl (afw h1 h2)) rfl;show(match nA _ _ with|some (.tup [.int a,.int b],_)=>some (a,b)|_=>none)=_;rw[tW,aW,e];rfl
theorem Wd(h:Row C ns)(hn:ns.Nodup):(ns.map (pr C)).Nodup:=by
 have QS:∀x∈ns,pr C x=(-(ch C x).1,x):=λx m=>by
  show(sX kf (obj C) x).getD _=_;rw[R7 (h x m).1 (h x m).2];rfl
 unfold List.Nodup;rw[afC];refine hn.imp_of_mem λ{a b} ma mb ne e=>ne ?_
 rw[QS a ma,QS b mb] at e;exact(Prod.mk.injEq .. ▸ e).2
theorem YW(h:Row C ns)(hn:ns.Nodup)(hl:ns.length<64):OM [obj C,iL ns]=some (iL (jr (pr C) ns)):=by
 refine cu rfl (cM ?_);show(match dY (ns.map D.int) with|some ns=>if ns.length<64/\(ns.map (pr C)).Nodup/\∀n∈ns,(sX kf (obj C) n).isSome=true then some (D.lst ((jr (pr C) ns).map D.int),Tag.own) else none|none=>none)=_;rw[ux];dsimp only;rw[if_pos ⟨hl,Wd h hn,λx m=>by rw[R7 (h x m).1 (h x m).2];rfl⟩];rfl
noncomputable def PM:Option Int->D
 |none=>.aA
 |some x=>.int x
def wg:SF:=eX (tV (cO JW (ay (aj 0) (ay (aj 1) (ay (aj 3) aJ))))) (pX 3) gP
theorem Mx(g:GoodC C):∀{l} {s3},Row C l->match l.find? (jE C v) with
  |some x=>di (gN 3) (.sh []) wg (l.map D.int) [some (obj C,.sh []),some (bI v,.sh []),some (N,.sh []),s3]=some (.rt (.int x))
  |none=>∃t3,di (gN 3) (.sh []) wg (l.map D.int) [some (obj C,.sh []),some (bI v,.sh []),some (N,.sh []),s3]=some (.nx [some (obj C,.sh []),some (bI v,.sh []),some (N,.sh []),t3])
 |[],s3,_=>⟨s3,rfl⟩
 |x::l,s3,h=>by
  obtain⟨h1,h2⟩:=h x aak;have q:tV (cO JW (ay (aj 0) (ay (aj 1) (ay (aj 3) aJ)))) [some (obj C,.sh []),some (bI v,.sh []),some (N,.sh []),some (.int x,.sh [])]=some (jE C v x):=bu (cT rfl (V7 g h1 h2));have ih:=Mx g (v:=v) (N:=N) (s3:=some (.int x,.sh [])) λy m=>h y (aaf _ m)
  rw[adN];cases hf:jE C v x with
  |true=>
   rw[hf] at q;exact Bs (aR:=[some (obj C,.sh []),some (bI v,.sh []),some (N,.sh []),some (.int x,.sh [])]) rfl (by unfold wg;rw[iW,q];rfl)
  |false=>
   rw[hf] at q;have e:=kP (g:=gN 3) (t:=.sh []) (f:=wg) (ds:=l.map D.int) (ρ:=[some (obj C,.sh []),some (bI v,.sh []),some (N,.sh []),s3]) (aR:=[some (obj C,.sh []),some (bI v,.sh []),some (N,.sh []),some (.int x,.sh [])]) rfl (by unfold wg;rw[iW,q];rfl);dsimp only;rw[aan,e];exact ih
theorem S7(g:GoodC C)(h:Row C ns)(hn:ns.Nodup)(hl:ns.length<64):AV [obj C,bI v,iL ns]=some (PM ((jr (pr C) ns).find? (jE C v))):=by
 have hi:iy (cO OM (ay (aj 0) (ay (aj 2) aJ))) [some (obj C,.sh []),some (bI v,.sh []),some (iL ns,.sh []),none]=some ((jr (pr C) ns).map D.int,.own):=gX (cT rfl (YW h hn hl));have lp:=Mx g (v:=v) (N:=iL ns) (l:=jr (pr C) ns) (s3:=none) λx m=>h x ((yp ns).mem_iff.mp m)
 refine cu rfl ?_;cases e:(jr (pr C) ns).find? (jE C v) with
 |none=>
  rw[e] at lp;obtain⟨t3,lp⟩:=lp;exact sq (vE hi lp) rfl
 |some x=>
  rw[e] at lp;exact e_ (CD hi lp)
theorem Mj:∀{row} {v v'} {m},f9 v (fX C row)=some v'->bad v' (dJ C m)=[]->f9 v (fX C (row++[m]))=some (eO v' (dJ C m))
 |[],v,v',m,h,hb=>by
  cases h;show(if bad v (dJ C m)=[] then f9 (eO v (dJ C m)) [] else none)=_;rw[if_pos hb];rfl
 |x::r,v,v',m,h,hb=>by
  have h:(if bad v (dJ C x)=[] then f9 (eO v (dJ C x)) (fX C r) else none)=some v':=h;show(if bad v (dJ C x)=[] then f9 (eO v (dJ C x)) (fX C (r++[m])) else none)=_
  by_cases Nz:bad v (dJ C x)=[]
  .rw[if_pos Nz] at h ⊢;exact Mj h hb
  .rw[if_neg Nz] at h;cases h
theorem ae4(h1:c ρ=some true)(h2:b ρ=some (.nx ρ')):iF c b (n+1) ρ=iF c b n ρ':=by rw[iF,h1];dsimp only;rw[h2]
theorem WC(h1:c ρ=some false):iF c b (n+1) ρ=some (.nx ρ):=by rw[iF,h1]
theorem Zt(h1:c ρ=some true)(h2:b ρ=some (.rt d)):iF c b (n+1) ρ=some (.rt d):=by rw[iF,h1];dsimp only;rw[h2]
abbrev cF:TF:=tV (e2 oLt (e1 d7 (aj 5)) (aj 4))
abbrev bF:SF:=(bZ (dF 8 (cO AV (ay (aj 0) (ay (aj 7) (ay (cO zM (ay (aj 0) (ay (aj 1) (ay (aj 5) (ay (aj 6) aJ))))) aJ))))) (bZ (eX (tV (e2 gR (aj 8) (eC .aA))) (pX 5) gP) (bZ (lH 5 (aj 8)) (bZ (yw 6 (aj 8)) (jD (iy (cE "Changes" "edits_of" CC (aj 0) (ay (aj 8) aJ))) (gT (d_ (gN 9) (d_ (gN 10) (d_ (gN 11) lR)))) (qG 7 (aj 9) (aj 11)))))))
def rF(C:List Ch)(ln ld wt:List Int)(w:Int)(told left:List Int)(u:iO)(s8 s9 iB gA:Slot):aN:=[some (obj C,.sh []),some (iL ln,.sh []),some (iL ld,.sh []),some (iL wt,.sh []),some (.int w,.sh []),some (iL told,.own),some (iL left,.own),some (bI u,.own),s8,s9,iB,gA]
structure Fl(C:List Ch)(ln told left:List Int)(w:Int)(ex:List Int):Prop where
 nd:ex.Nodup
 sub:∀x∈ex,x∈left
 le:((told++ex).length:Int)<=w\/ex=[]
 fst:∀x r,ex=x::r->∃v,f9 [] (fX C (ln++told))=some v/\nW C (ln++told) x=true/\jE C v x=true
 run:∃v,f9 [] (fX C (ln++(told++ex)))=some v/\(w<=((told++ex).length:Int)\/∀x∈left,x∉ex->nW C (ln++(told++ex)) x=true->jE C v x=false)
theorem VG(g:GoodC C):∀{n} {told left} {u v} {s8 s9 iB gA},Row C left->left.Nodup->left.length<64->ln.length+told.length+left.length<=1000->f9 [] (fX C (ln++told))=some v->(∀k,gV u k=gV v k)->Kb u->left.length<n->
  ∃ex,bZ (iF cF bF n) (pX 5) (rF C ln ld wt w told left u s8 s9 iB gA)=some (.rt (iL (told++ex)))/\Fl C ln told left w ex:=by
 intro n
 induction n with
 |zero=>intros;omega
 |succ n ih=>
  intro told left u v s8 s9 iB gA hr nd hl hs hv hu ku hn;have c1:cF (rF C ln ld wt w told left u s8 s9 iB gA)=some (decide ((told.length:Int)<w)):=bu (aK (bf rfl (by show some (D.int (told.map D.int).length)=_;rw[List.length_map])) rfl rfl)
  by_cases hw:(told.length:Int)<w
  .rw[aaA hw] at c1;have ef:jE C u=jE C v:=funext λx=>by unfold jE;rw[Td hu]
   have q1:cO AV (ay (aj 0) (ay (aj 7) (ay (cO zM (ay (aj 0) (ay (aj 1) (ay (aj 5) (ay (aj 6) aJ))))) aJ))) (rF C ln ld wt w told left u s8 s9 iB gA)=some (PM ((jr (pr C) (left.filter (nW C (ln++told)))).find? (jE C v)),.own):=by
    refine cT (ps:=[(obj C,.sh []),(bI u,.sh [7]),(iL (left.filter (nW C (ln++told))),.own)]) ?_ ?_
    .rw[aW,aW,aW,cT rfl (NJ g (by lia) hr (by lia))];rfl
    .show AV [obj C,bI u,_]=_;rw[S7 g (λx m=>hr x (acX.mp m).1) (nd.sublist afa) (agI (afb _ _) hl),ef]
   have pm:=λx=>(yp (pr:=pr C) (left.filter (nW C (ln++told)))).mem_iff (a:=x)
   cases hb:(jr (pr C) (left.filter (nW C (ln++told)))).find? (jE C v) with
   |none=>
    rw[hb] at q1;refine⟨[],e_ ((Zt c1 (k9 q1 (e_ rfl))).trans (by rw[acI])),.nil,(λx m=>nomatch m),.inr rfl,(λx r e=>nomatch e),v,by rw[acI];exact hv,.inr λx m _ hf=>?_⟩;rw[acI] at hf;have:=afU.mp hb x ((pm x).mpr (acX.mpr ⟨m,hf⟩));simpa using this
   |some x=>
    rw[hb] at q1;have mf:=(pm x).mp (agL hb);have m:=(acX.mp mf).1;have f:=ad7.mp (ahj hb);obtain⟨h1,h2⟩:=hr x m;have hE:=(g.ed x).ed.ln;have hel:=List.length_erase_of_mem m;have hp:=List.length_pos_of_mem m;obtain⟨t9,S5,uI,lp⟩:=Bg (g:=gT (d_ (gN 9) (d_ (gN 10) (d_ (gN 11) lR)))) (f:=qG 7 (aj 9) (aj 11)) (λv x' y z=>rF C ln ld wt w (told++[x]) (left.erase x) v (some (.int x,.own)) x' y z) (λ_ _ _ _ _=>rfl) (λv p h=>JP rfl rfl rfl h) (E:=dJ C x) (v:=u) (by have:=ku.len;lia);have st:bF (rF C ln ld wt w told left u s8 s9 iB gA)=some (.nx (rF C ln ld wt w (told++[x]) (left.erase x) (eO u (dJ C x)) (some (.int x,.own)) t9 S5 uI)):=by
     refine k9 q1 (c9 rfl ?_);refine sq ((HL rfl rfl (size_le (by lia))).trans rfl) ?_;refine sq ((aaM rfl rfl m).trans rfl) ?_;exact vE (gX (l8 rfl rfl (Cq h1 h2))) lp
    obtain⟨ex,e,F⟩:=ih (told:=told++[x]) (λy my=>hr y (List.mem_of_mem_erase my)) (nd.erase x) (by lia) (by rw[abR,aek];lia) (by rw[<- afi];exact Mj hv f) (λk=>by
     obtain⟨a1,a2⟩:=AK (dJ C x) u k (g.ed x).nd;obtain⟨b1,b2⟩:=AK (dJ C x) v k (g.ed x).nd;unfold gV
     by_cases mk:k∈(dJ C x).map (·.1)
     .obtain⟨p,mp,rfl⟩:=ab1.mp mk;rw[a1 p mp rfl,b1 p mp rfl]
     .rw[a2 mk,b2 mk];exact hu k) (ku.eO (g.ed x)) (by lia)
    have ea:told++x::ex=told++[x]++ex:=by rw[afi];rfl
    refine⟨x::ex,?_,abZ.mpr ⟨λmx=>(nd.mem_erase_iff.mp (F.sub x mx)).1 rfl,F.nd⟩,λy my=>(aaQ.mp my).elim (λe=>e ▸ m) λmy=>List.mem_of_mem_erase (F.sub y my),.inl ?_,(λy r e=>by cases e;exact⟨v,hv,(acX.mp mf).2,ahj hb⟩),?_⟩
    .rw[jI,ae4 c1 st,<- jI,ea];exact e
    .rw[ea];rcases F.le with h|h
     .exact h
     .rw[h,acI,abR,aek];lia
    .rw[ea];obtain⟨v',r1,r2⟩:=F.run;refine⟨v',r1,r2.imp id λr y my ny=>?_⟩;exact r y (nd.mem_erase_iff.mpr ⟨λe=>ny (e ▸ aak),my⟩) λq=>ny (aaf _ q)
  .rw[abV hw] at c1;exact⟨[],(sq (WC c1) rfl).trans (by rw[acI];rfl),.nil,(λx m=>nomatch m),.inr rfl,(λx r e=>nomatch e),v,by rw[acI];exact hv,.inl (by rw[acI];lia)⟩
theorem adU(g:GoodC C)(hb:Row C (ln++ld))(hr:Row C wt)(nd:wt.Nodup)(hw:wt.length<64)(hl:ln.length+ld.length<=100)(hv:f9 [] (fX C (ln++ld))=some v):∃ex,Jk [obj C,iL ln,iL ld,iL wt,.int w]=some (iL (ld++ex))/\Fl C ln ld wt w ex:=by
 have kv:=(Ga g hb (by rw[abR];lia) hv).2;have kd:Kb (jS (nz v)):=⟨Vu _,λk m=>kv.ks k (sS.mp (by
  obtain⟨w,e⟩:=sS.mpr m;rw[ME (by rw[Ra];exact RW kv.nd)] at e;unfold nz at e;rw[HZ] at e
  split at e
  .rename_i mk;have:=LZ.mp mk;cases h:bP v k with
   |none=>rw[h] at this;exact absurd rfl this
   |some y=>exact⟨y,rfl⟩
  .cases e))⟩
 obtain⟨ex,e,F⟩:=VG g (n:=4000) hr nd hw (by lia) hv (acU kv.nd) kd (by lia);exact⟨ex,cu rfl (k9 (bf rfl ue) (k9 (bf rfl ue) (k9 (cT rfl (Tt g hl hb hv)) e))),F⟩
noncomputable def best:Int×Int->List (Int×Int)->Int×Int
 |p,[]=>p
 |p,q::r=>best (if p.2-p.1<q.2-q.1 then q else p) r
noncomputable def pairs(f:List Int):List (Int×Int):=f.zip f.tail
def mid(f:List Int):Int:=let p:=best (f.headD 0,f.headD 0) (pairs f);(p.1+p.2) / 2
theorem AU:∀(l:List (Int×Int)) (p:Int×Int),best p l=p\/best p l∈l
 |[],p=>.inl rfl
 |q::r,p=>by
  unfold best
  by_cases h:p.2-p.1<q.2-q.1
  .rw[if_pos h];rcases AU r q with e|e
   .rw[e];exact .inr aak
   .exact .inr (aaf _ e)
  .rw[if_neg h];rcases AU r p with e|e
   .exact .inl e
   .exact .inr (aaf _ e)
theorem zJ:∀(l:List (Int×Int)) (p:Int×Int),p.2-p.1<=(best p l).2-(best p l).1/\∀q∈l,q.2-q.1<=(best p l).2-(best p l).1
 |[],p=>⟨Int.le_refl _,λq m=>nomatch m⟩
 |x::r,p=>by
  unfold best
  by_cases h:p.2-p.1<x.2-x.1
  .rw[if_pos h];obtain⟨h1,h2⟩:=zJ r x;refine⟨by lia,λq m=>?_⟩;rcases aaQ.mp m with rfl|m
   .exact h1
   .exact h2 q m
  .rw[if_neg h];obtain⟨h1,h2⟩:=zJ r p;refine⟨h1,λq m=>?_⟩;rcases aaQ.mp m with rfl|m
   .lia
   .exact h2 q m
theorem DP:∀(r:List Int) (a:Int),(∀q∈pairs (a::r),q.2-q.1<=1)->(a::r).getLastD 0<=a+r.length
 |[],a,_=>by simp
 |b::r,a,h=>by
  have h1:b-a<=1:=h (a,b) (by unfold pairs;exact aak);have h2:=DP r b λq m=>h q (by unfold pairs at m ⊢;exact aaf _ m)
  have e:(a::b::r).getLastD 0=(b::r).getLastD 0:=by simp[List.getLastD]
  rw[e,acj]
  lia
noncomputable abbrev fence(ws:List Int)(e:Int):List Int:=0::(ws++[e])
theorem Ie(m:q∈pairs f):q.1∈f/\q.2∈f:=by
 unfold pairs at m;obtain⟨h1,h2⟩:=List.of_mem_zip m;exact⟨h1,List.mem_of_mem_tail h2⟩
theorem U9(hw:∀x∈ws,1<=x)(hl:(ws.length:Int)<e-1):1<=mid (fence ws e):=by
 have hf:∀x∈fence ws e,0<=x:=λx m=>by
  rcases aaQ.mp m with rfl|m
  .exact Int.le_refl _
  .rcases abB.mp m with m|m
   .have:=hw x m;lia
   .cases aaB.mp m;lia
 obtain⟨q,m,hq⟩:∃q∈pairs (fence ws e),2<=q.2-q.1:=by
  refine ago λhn=>?_
  have:=DP (ws++[e]) 0 λq m=>by
   refine ago λh=>hn ⟨q,m,by lia⟩
  have q1:(0::(ws++[e])).getLastD 0=e:=by rw[show(0::(ws++[e]))=(0::ws)++[e] from rfl,List.getLastD_concat]
  rw[q1,abR,aek] at this
  lia
 have hb:=(zJ (pairs (fence ws e)) ((fence ws e).headD 0,(fence ws e).headD 0)).2 q m;unfold mid;dsimp only;rcases AU (pairs (fence ws e)) ((fence ws e).headD 0,(fence ws e).headD 0) with h|h
 .rw[h] at hb;dsimp only at hb
  lia
 .obtain⟨h1,h2⟩:=Ie h;have:=hf _ h1
  lia
noncomputable def RZ(p:Int×Int):D:=.tup [.int p.1,.int p.2]
noncomputable def rM(f:List Int)(l h:Int)(t1 t2:Tag)(s3 s4:Slot):aN:=[some (.lst (f.map D.int),.sh []),some (.int l,t1),some (.int h,t2),s3,s4]
abbrev bM:SF:=eX (tV (e2 qv (e2 j6 (aj 4) (aj 3)) (e2 j6 (aj 2) (aj 1)))) (bZ (dF 1 (aj 3)) (dF 2 (aj 4))) gP
abbrev gM:GF:=gT (d_ (gN 3) (d_ (gN 4) lR))
theorem HU:∀(ps:List (Int×Int)) (p:Int×Int) (t1 t2:Tag) (s3 s4:Slot),∃t1' Yk x9 s4',di gM (.sh []) bM (ps.map RZ) (rM f p.1 p.2 t1 t2 s3 s4)=some (.nx (rM f (best p ps).1 (best p ps).2 t1' Yk x9 s4'))
 |[],p,t1,t2,s3,s4=>⟨t1,t2,s3,s4,rfl⟩
 |q::r,p,t1,t2,s3,s4=>by
  have hc:tV (e2 qv (e2 j6 (aj 4) (aj 3)) (e2 j6 (aj 2) (aj 1))) (rM f p.1 p.2 t1 t2 (some (.int q.1,.own)) (some (.int q.2,.own)))=some (decide (p.2-p.1<q.2-q.1)):=rfl
  by_cases h:p.2-p.1<q.2-q.1
  .have hb:bM (rM f p.1 p.2 t1 t2 (some (.int q.1,.own)) (some (.int q.2,.own)))=some (.nx (rM f q.1 q.2 (.sh [3]) (.sh [4]) (some (.int q.1,.own)) (some (.int q.2,.own)))):=by
    unfold bM;rw[iW,hc,aaA h,QK];rfl
   obtain⟨a,b,c,d,hh⟩:=HU r q (.sh [3]) (.sh [4]) (some (.int q.1,.own)) (some (.int q.2,.own));refine⟨a,b,c,d,(kP rfl hb).trans ?_⟩;unfold best;rw[if_pos h];exact hh
  .have hb:bM (rM f p.1 p.2 t1 t2 (some (.int q.1,.own)) (some (.int q.2,.own)))=some (.nx (rM f p.1 p.2 t1 t2 (some (.int q.1,.own)) (some (.int q.2,.own)))):=by
    unfold bM;rw[iW,hc,abV h,Pj];rfl
   obtain⟨a,b,c,d,hh⟩:=HU r p t1 t2 (some (.int q.1,.own)) (some (.int q.2,.own));refine⟨a,b,c,d,(kP rfl hb).trans ?_⟩;unfold best;rw[if_neg h];exact hh
theorem af7(a:Int)(r:List Int):oE (some 1) none (.lst ((a::r).map D.int))=some (.lst (r.map D.int)):=by
 show(if aM ((a::r).map D.int)=true then some (D.lst (cutD ((a::r).map D.int) (some 1) none)) else none)=_;rw[if_pos (eF _)];have:cutD ((a::r).map D.int) (some 1) none=r.map D.int:=by
  unfold cutD;have e:HT.gJ ((a::r).map D.int).length 0 (some 1)=1:=by
   have q:=HT.Gb ((a::r).map D.int).length 0 1;rw[show((1:Nat):Int)=1 from rfl] at q;rw[q,List.length_map,acj];lia
  rw[HT.Dh,e,aan,List.drop_succ_cons,List.drop_zero,acj,Nat.add_sub_cancel,List.take_length]
 rw[this]
theorem ZY(a:Int)(r:List Int):yc [.lst ((a::r).map D.int)]=some (.int (mid (a::r))):=by
 refine cu rfl ?_;show Ec [some (.lst ((a::r).map D.int),.sh []),none,none,none,none]=_;unfold Ec;have q1:dF 1 (e2 dW (aj 0) (eC (.int 0))) [some (.lst ((a::r).map D.int),.sh []),none,none,none,none]=some (.nx [some (.lst ((a::r).map D.int),.sh []),some (.int a,.own),none,none,none]):=by
  have hx:dW (.lst ((a::r).map D.int)) (.int 0)=some (.int a):=u9 (by rw[Kw (by lia) (by rw[acj];lia)];rfl) rfl;rw[jY,ki];show A8 1 _ ((dW (.lst ((a::r).map D.int)) (.int 0)).map _)=_;rw[hx];rfl
 have q2:dF 2 (aj 1) [some (.lst ((a::r).map D.int),.sh []),some (.int a,.own),none,none,none]=some (.nx (rM (a::r) a a .own (.sh [1]) none none)):=rfl;have hz:qI (aj 0) (e1 (oE (some 1) none) (aj 0)) (rM (a::r) a a .own (.sh [1]) none none)=some ((pairs (a::r)).map RZ,.sh []):=by
  unfold qI;have v0:aj 0 (rM (a::r) a a .own (.sh [1]) none none)=some (.lst ((a::r).map D.int),.sh []):=rfl;have v1:e1 (oE (some 1) none) (aj 0) (rM (a::r) a a .own (.sh [1]) none none)=some (.lst (r.map D.int),.own):=by
   rw[xZ,v0];show(oE (some 1) none (.lst ((a::r).map D.int))).map _=_;rw[af7];rfl
  rw[v0,v1];dsimp only;rw[if_pos (by rw[eF,eF];rfl)];refine congrArg some (Prod.ext ?_ rfl);rw[List.zip_map,ade];rfl
 obtain⟨t1,t2,s3,s4,hl⟩:=HU (pairs (a::r)) (a,a) .own (.sh [1]) none none;have hf:jD (qI (aj 0) (e1 (oE (some 1) none) (aj 0))) gM bM (rM (a::r) a a .own (.sh [1]) none none)=some (.nx (rM (a::r) (best (a,a) (pairs (a::r))).1 (best (a,a) (pairs (a::r))).2 t1 t2 s3 s4)):=vf hz hl;rw[jI,q1,nJ,jI,q2,nJ,jI];rw[hf,nJ];unfold mid;rw[show((a::r).headD 0,(a::r).headD 0)=(a,a) from rfl];generalize best (a,a) (pairs (a::r))=p;have v1:aj 1 (rM (a::r) p.1 p.2 t1 t2 s3 s4)=some (.int p.1,GX 1 t1):=rfl;have v2:aj 2 (rM (a::r) p.1 p.2 t1 t2 s3 s4)=some (.int p.2,GX 2 t2):=rfl;rw[BO,ki,ki,v1,v2,yi,kO,MQ,CU,yi,acZ (by lia) (by lia)];rfl
noncomputable def jL:Option Int->D
 |none=>.aA
 |some b=>.int b
noncomputable def endOf(size:Int):Option Int->Int
 |none=>size+1
 |some b=>b
def pick(size:Int)(bad:Option Int)(e:Int)(ws:List Int):Int:=if(bad.isNone&&!(ws.any (· == size)))=true then size else mid (fence ws e)
def kU(size:Int)(bad:Option Int)(e:Int)(ws:List Int):List Int:=dU (ws++[pick size bad e ws])
noncomputable def lim(e aZ:Int):Int:=if e-1<aZ then e-1 else aZ
def kh(size:Int)(bad:Option Int)(e aZ:Int):Nat->List Int->List Int
 |0,ws=>ws
 |n+1,ws=>if(ws.length:Int)<lim e aZ then kh size bad e aZ n (kU size bad e ws) else ws
theorem Ci{bad:Option Int}:(kU size bad e ws).length=ws.length+1:=by unfold kU;rw[Cv,abR];rfl
theorem Pz(b:Option Int):nH (jL b)=b.isNone:=by cases b<;>rfl
abbrev cW:TF:=tV (e2 oLt (e1 d7 (aj 5)) (e2 zh (aj 3) (e2 j6 (aj 4) (eC (.int 1)))))
abbrev bW:SF:=bZ (eX (jq (tV (e2 gR (aj 1) (eC .aA))) (tV (e2 (jN true) (aj 0) (aj 5)))) (lH 5 (aj 0)) (lH 5 (cO yc (ay (e2 fW (e2 fW (jW (ay (eC (.int 0)) aJ)) (aj 5)) (jW (ay (aj 4) aJ))) aJ)))) (dF 5 (e1 nh (aj 5)))
def Bm(t:Tag):Prop:=t=.own\/t=.sh []
def rW(size:Int)(bad:Option Int)(kd:D)(aZ e:Int)(t4:Tag)(ws:List Int):aN:=[some (.int size,.sh []),some (jL bad,.sh []),some (kd,.sh []),some (.int aZ,.sh []),some (.int e,t4),some (.lst (ws.map D.int),.own)]
section
variable{size aZ e:Int}{bad:Option Int}
theorem Py:cW (rW size bad kd aZ e t4 ws)=some (decide ((ws.length:Int)<lim e aZ)):=by
 show some (decide (((ws.map D.int).length:Int)<(if e-1<aZ then e-1 else aZ)))=_;rw[List.length_map];rfl
theorem We:(tV (e2 (jN true) (aj 0) (aj 5))) (rW size bad kd aZ e t4 ws)=some (!(ws.any (· == size))):=by
 rw[wQ,ki];show Ev.kV ((jN true (.int size) (.lst (ws.map D.int))).map _)=_;rw[BV];rfl
theorem Yh:(jq (tV (e2 gR (aj 1) (eC .aA))) (tV (e2 (jN true) (aj 0) (aj 5)))) (rW size bad kd aZ e t4 ws)=some (bad.isNone&&!(ws.any (· == size))):=by
 refine ua ?_ We;show some (nH (jL bad))=_;rw[Pz]
theorem Nd(h:Bm t4)(x:Int):bT (rW size bad kd aZ e t4 ws) 5 (.lst ((ws++[x]).map D.int))=rW size bad kd aZ e t4 (ws++[x]):=by
 rcases h with rfl|rfl<;>rfl
theorem afW(hl:ws.length<63):(e2 fW (e2 fW (jW (ay (eC (.int 0)) aJ)) (aj 5)) (jW (ay (aj 4) aJ))) (rW size bad kd aZ e t4 ws)=some (.lst ((fence ws e).map D.int),.own):=by
 have h1:fW (.lst (([0]:List Int).map D.int)) (.lst (ws.map D.int))=some (.lst (([0]++ws).map D.int)):=qK (by unfold PySem.sizeLine;show 1+ws.length<=_;lia);have h2:fW (.lst (([0]++ws).map D.int)) (.lst (([e]:List Int).map D.int))=some (.lst (([0]++ws++[e]).map D.int)):=qK (by unfold PySem.sizeLine;rw[abR];show 1+ws.length+1<=_;lia);rw[ki,ki];show k2 fW ((fW (.lst (([0]:List Int).map D.int)) (.lst (ws.map D.int))).map _) _=_;rw[h1,MQ];show(fW (.lst (([0]++ws).map D.int)) (.lst (([e]:List Int).map D.int))).map _=_;rw[h2];rfl
theorem ae2(ht:Bm t4)(hl:ws.length<63):bW (rW size bad kd aZ e t4 ws)=some (.nx (rW size bad kd aZ e t4 (kU size bad e ws))):=by
 have hz:ws.length<PySem.sizeLine:=by unfold PySem.sizeLine;lia
 have h1:eX (jq (tV (e2 gR (aj 1) (eC .aA))) (tV (e2 (jN true) (aj 0) (aj 5)))) (lH 5 (aj 0)) (lH 5 (cO yc (ay (e2 fW (e2 fW (jW (ay (eC (.int 0)) aJ)) (aj 5)) (jW (ay (aj 4) aJ))) aJ))) (rW size bad kd aZ e t4 ws)=some (.nx (rW size bad kd aZ e t4 (ws++[pick size bad e ws]))):=by
  rw[iW,Yh];unfold pick
  by_cases hb:(bad.isNone&&!(ws.any (· == size)))=true
  .rw[hb,QK,if_pos rfl,HL rfl rfl hz,Nd ht]
  .have xw:(bad.isNone&&!(ws.any (· == size)))=false:=by simpa using hb
   have hm:cO yc (ay (e2 fW (e2 fW (jW (ay (eC (.int 0)) aJ)) (aj 5)) (jW (ay (aj 4) aJ))) aJ) (rW size bad kd aZ e t4 ws)=some (.int (mid (fence ws e)),.own):=by
    rw[s_call,aW,afW hl,wD,An,R3];simp only[aan,ahc];have:=ZY 0 (ws++[e]);rw[aan] at this;rw[this];rfl
   rw[xw,Pj,if_neg abu,HL hm rfl hz,Nd ht]
 unfold bW;rw[jI,h1,nJ,jY,xZ];show A8 5 _ ((nh (.lst ((ws++[pick size bad e ws]).map D.int))).map _)=_;rw[aef (by rw[abR];show ws.length+1<64;lia)];rfl
theorem Ny(ht:Bm t4)(hh:aZ<=60):∀(n:Nat) (ws:List Int) (m:Nat),aZ-ws.length<=n->n<m->iF cW bW m (rW size bad kd aZ e t4 ws)=some (.nx (rW size bad kd aZ e t4 (kh size bad e aZ n ws)))
 |_,_,0,_,h=>absurd h (Nat.not_lt_zero _)
 |0,ws,m+1,h,_=>by
  have:¬((ws.length:Int)<lim e aZ):=by unfold lim;split<;>lia
  rw[iF,Py,abV this];rfl
 |n+1,ws,m+1,h,hm=>by
  rw[iF,Py];unfold kh
  by_cases hc:(ws.length:Int)<lim e aZ
  .have h1:(ws.length:Int)<aZ:=by unfold lim at hc;split at hc<;>lia
   rw[aaA hc,if_pos hc];dsimp only;rw[ae2 ht (by lia)];exact Ny ht hh n (kU size bad e ws) m (by rw[Ci];lia) (by lia)
  .rw[abV hc,if_neg hc]
end
noncomputable def kC(e:Int)(ks:List Int):List Int:=ks.filter λk=>decide (k<e)
noncomputable def kI(e:Int):D->Option D
 |.int i=>if decide (i<e)=true then some (.int i) else none
 |_=>none
theorem CQ(e:Int):∀ks:List Int,(ks.map D.int).filterMap (kI e)=(kC e ks).map D.int
 |[]=>rfl
 |k::r=>by
  unfold kC;rw[aan,ael,agF];have hk:kI e (D.int k)=if decide (k<e)=true then some (D.int k) else none:=rfl
  by_cases h:decide (k<e)=true
  .rw[hk,if_pos h,if_pos h,aan];dsimp only;rw[CQ e r];rfl
  .rw[hk,if_neg h,if_neg h];exact CQ e r
theorem Zl{js:List (Option Nat)}(hi:it ρ=some (ks.map D.int,t))(hj:jt js ρ=[none,some (.int e,.sh [])])(hl:ks.length<64):
  i9 js it (gN 0) (tV (e2 oLt (aj 0) (aj 1))) (aj 0) ρ=some (.lst ((kC e ks).map D.int),.own):=by
 have hc:=jH (g:=gN 0) (tt:=tV (e2 oLt (aj 0) (aj 1))) (te:=aj 0) (k:=kI e) hi (by rw[List.length_map];unfold PySem.sizeLine;lia) (λd m=>by
  obtain⟨i,mi,rfl⟩:=ab1.mp m;rw[hj];show _=some (if decide (i<e)=true then some (D.int i) else none)
  by_cases h:decide (i<e)=true
  .rw[if_pos h];refine tO rfl ?_ rfl rfl;show some (decide (i<e))=_;rw[h]
  .rw[if_neg h];refine x8 rfl ?_;show some (decide (i<e))=_;rw[agn.mpr h])
 rw[hc,CQ]
theorem acg{bad:Option Int}(h0:aj 0 ρ=some (.int size,.sh []))(h1:aj 1 ρ=some (jL bad,.sh [])):∃t,Bm t/\oN (tV (e2 gR (aj 1) (eC .aA))) (e2 iN (aj 0) (eC (.int 1))) (aj 1) ρ=some (.int (endOf size bad),t):=by
 have hc:tV (e2 gR (aj 1) (eC .aA)) ρ=some bad.isNone:=by
  rw[wQ,ki,h1,CU,yi,Wj,Pz];rfl
 cases bad with
 |none=>exact⟨.own,.inl rfl,by rw[Om (by rw[hc];rfl),ki,h0,CU,yi,kO];rfl⟩
 |some b=>exact⟨.sh [],.inr rfl,by rw[OL (by rw[hc];rfl),h1];rfl⟩
def W(size:Int)(bad:Option Int)(ks:List Int)(aZ:Int):List Int:=kh size bad (endOf size bad) aZ 100 (kC (endOf size bad) ks)
theorem Tc{bad:Option Int}(hh:aZ<=60)(hl:ks.length<64)(kd:D)(hk:iy (aj 2) [some (.int size,.sh []),some (jL bad,.sh []),some (kd,.sh []),some (.int aZ,.sh []),none,none]=some (ks.map D.int,.sh []))
  (hk2:∀t,iy (aj 2) [some (.int size,.sh []),some (jL bad,.sh []),some (kd,.sh []),some (.int aZ,.sh []),some (.int (endOf size bad),t),none]=some (ks.map D.int,.sh [])) :
  JM [.int size,jL bad,kd,.int aZ]=some (.lst ((W size bad ks aZ).map D.int)):=by
 refine cu rfl ?_;show DV [some (.int size,.sh []),some (jL bad,.sh []),some (kd,.sh []),some (.int aZ,.sh []),none,none]=_;unfold DV;obtain⟨t4,ht,h1⟩:=acg (ρ:=[some (.int size,.sh []),some (jL bad,.sh []),some (kd,.sh []),some (.int aZ,.sh []),none,none]) rfl rfl;have q1:dF 4 (oN (tV (e2 gR (aj 1) (eC .aA))) (e2 iN (aj 0) (eC (.int 1))) (aj 1)) [some (.int size,.sh []),some (jL bad,.sh []),some (kd,.sh []),some (.int aZ,.sh []),none,none]=some (.nx [some (.int size,.sh []),some (jL bad,.sh []),some (kd,.sh []),some (.int aZ,.sh []),some (.int (endOf size bad),t4),none]):=by
  rw[jY,h1];rcases ht with rfl|rfl<;>rfl
 have q2:dF 5 (i9 [none,some 4] (iy (aj 2)) (gN 0) (tV (e2 oLt (aj 0) (aj 1))) (aj 0)) [some (.int size,.sh []),some (jL bad,.sh []),some (kd,.sh []),some (.int aZ,.sh []),some (.int (endOf size bad),t4),none]=some (.nx (rW size bad kd aZ (endOf size bad) t4 (kC (endOf size bad) ks))):=by
  rw[jY,Zl (hk2 t4) rfl hl];rfl
 have q3:=Ny (size:=size) (bad:=bad) (kd:=kd) (e:=endOf size bad) ht hh 100 (kC (endOf size bad) ks) 4000 (by lia) (by lia);rw[jI,q1,nJ,jI,q2,nJ,jI,q3,nJ];rfl
theorem aew{bad:Option Int}(hh:aZ<=60)(hl:ks.length<64):JM [.int size,jL bad,.lst (ks.map D.int),.int aZ]=some (.lst ((W size bad ks aZ).map D.int)):=Tc hh hl _ rfl λ_=>rfl
theorem K8{bad:Option Int}(hh:aZ<=60):∀(n:Nat) (ws:List Int),ws.length<64->(kh size bad e aZ n ws).length<64
 |0,ws,h=>h
 |n+1,ws,h=>by
  unfold kh
  split
  .rename_i hc;refine K8 hh n _ ?_;rw[Ci];unfold lim at hc
   split at hc<;>lia
  .exact h
theorem UA{bad:Option Int}(hh:aZ<=60)(hl:ks.length<64):(W size bad ks aZ).length<64:=K8 hh _ _ (agI (afb _ _) hl)
structure lQ(e:Int)(ws:List Int):Prop where
 so:ws.Pairwise (· < ·)
 bd:∀x∈ws,1<=x/\x<e
theorem between:∀{f:List Int}{q:Int×Int}{x:Int},f.Pairwise (· < ·)->q∈pairs f->x∈f->x<=q.1\/q.2<=x
 |[],q,x,_,m,_=>by cases m
 |[a],q,x,_,m,_=>by cases m
 |a::b::r,q,x,hp,m,mx=>by
  obtain⟨h1,h2⟩:=adV.mp hp;have hs:pairs (a::b::r)=(a,b)::pairs (b::r):=rfl;rw[hs] at m;rcases aaQ.mp m with hq|m'
  .subst hq;rcases aaQ.mp mx with hx|vz
   .exact .inl (by show x<=a;lia)
   .rcases aaQ.mp vz with hx|mx2
    .exact .inr (by show b<=x;lia)
    .have:=(adV.mp h2).1 x mx2;exact .inr (by show b<=x;lia)
  .rcases aaQ.mp mx with hx|vz
   .have:=h1 q.1 (Ie m').1;exact .inl (by lia)
   .exact between h2 m' vz
theorem ac6(h:lQ e ws)(he:1<=e):(fence ws e).Pairwise (· < ·):=by
 refine adV.mpr ⟨λx m=>?_,List.pairwise_append.mpr ⟨h.so,List.pairwise_singleton _ _,λx m y my=>?_⟩⟩
 .rcases abB.mp m with m|m
  .have:=h.bd x m;lia
  .cases aaB.mp m;lia
 .cases aaB.mp my;exact(h.bd x m).2
theorem ZP(h:lQ e ws)(hl:(ws.length:Int)<e-1):mid (fence ws e)<e/\mid (fence ws e)∉ws:=by
 have hf:=ac6 h (by lia);obtain⟨q,m,hq⟩:∃q∈pairs (fence ws e),2<=q.2-q.1:=by
  refine ago λhn=>?_
  have:=DP (ws++[e]) 0 λq m=>by
   refine ago λh=>hn ⟨q,m,by lia⟩
  have q1:(0::(ws++[e])).getLastD 0=e:=by rw[show(0::(ws++[e]))=(0::ws)++[e] from rfl,List.getLastD_concat]
  rw[q1,abR,aek] at this
  lia
 have hb:=(zJ (pairs (fence ws e)) ((fence ws e).headD 0,(fence ws e).headD 0)).2 q m;unfold mid;dsimp only;rcases AU (pairs (fence ws e)) ((fence ws e).headD 0,(fence ws e).headD 0) with h'|h'
 .rw[h'] at hb;dsimp only at hb
  lia
 .generalize best ((fence ws e).headD 0,(fence ws e).headD 0) (pairs (fence ws e))=p at hb h';have h2:p.2<=e:=by
   have:=(Ie h').2;rcases aaQ.mp this with z|z
   .lia
   .rcases abB.mp z with z|z
    .have:=(h.bd _ z).2;lia
    .rw[aaB.mp z];exact Int.le_refl _
  refine⟨by lia,λmx=>?_⟩;rcases between hf h' (aaf _ (abp _ mx)) with z|z<;>lia
section
variable{size aZ e:Int}{bad:Option Int}
theorem acM(h:lQ e ws)(he:e=endOf size bad)(hl:(ws.length:Int)<e-1):1<=pick size bad e ws/\pick size bad e ws<e/\pick size bad e ws∉ws:=by
 unfold pick
 split
 .rename_i hc;cases bad with
  |none=>
   have he:e=size+1:=he;refine⟨by lia,by lia,λm=>?_⟩;have:ws.any (· == size)=true:=ad9.mpr ⟨size,m,afA size⟩;rw[this] at hc;cases hc
  |some b=>cases hc
 .obtain⟨h1,h2⟩:=ZP h hl;exact⟨U9 (λx m=>(h.bd x m).1) hl,h1,h2⟩
theorem af1(h:lQ e ws)(he:e=endOf size bad)(hl:(ws.length:Int)<e-1):lQ e (kU size bad e ws)/\∀x∈ws,x∈kU size bad e ws:=by
 obtain⟨p1,p2,p3⟩:=acM h he hl;have hp:(kU size bad e ws).Perm (ws++[pick size bad e ws]):=sJ _;have hn:(kU size bad e ws).Nodup:=by
  refine hp.nodup_iff.mpr (ac3.mpr ⟨h.so.imp λcR=>Int.ne_of_lt cR,abZ.mpr ⟨(λm=>by cases m),acm⟩,λa ma b mb e=>?_⟩);cases aaB.mp mb;exact p3 (e ▸ ma)
 refine⟨⟨?_,λx m=>?_⟩,λx m=>hp.mem_iff.mpr (abp _ m)⟩
 .have hs:(kU size bad e ws).Pairwise (·<=·):=A7 _;exact(List.pairwise_and_iff.mpr ⟨hs,hn⟩).imp λh=>by have h1:=h.1;have h2:=h.2;lia
 .rcases abB.mp (hp.mem_iff.mp m) with m|m
  .exact h.bd x m
  .rw[aaB.mp m];exact⟨p1,p2⟩
theorem NF(he:e=endOf size bad):∀(n:Nat) (ws:List Int),lQ e ws->lQ e (kh size bad e aZ n ws)/\∀x∈ws,x∈kh size bad e aZ n ws
 |0,ws,h=>⟨h,λx m=>m⟩
 |n+1,ws,h=>by
  unfold kh
  split
  .rename_i hc;have hl:(ws.length:Int)<e-1:=by unfold lim at hc;split at hc<;>lia
   obtain⟨a,b⟩:=af1 h he hl;obtain⟨c,d⟩:=NF he n (kU size bad e ws) a;exact⟨c,λx m=>d x (b x m)⟩
  .exact⟨h,λx m=>m⟩
end
theorem aaH{bad:Option Int}(h:ks.Pairwise (· < ·))(h1:∀x∈ks,1<=x):lQ (endOf size bad) (W size bad ks aZ)/\∀x∈ks,x<endOf size bad->x∈W size bad ks aZ:=by
 have hi:lQ (endOf size bad) (kC (endOf size bad) ks):=⟨h.sublist afa,λx m=>let q:=acX.mp m;⟨h1 x q.1,aa9 q.2⟩⟩
 obtain⟨a,b⟩:=NF rfl 100 _ hi;exact⟨a,λx m hx=>b x (acX.mpr ⟨m,aaA hx⟩)⟩
theorem LH{size e aZ:Int}{bad:Option Int}:∀(n:Nat) (ws:List Int),aZ-ws.length<=n->lim e aZ<=(kh size bad e aZ n ws).length/\((ws.length:Int)<=aZ->((kh size bad e aZ n ws).length:Int)<=aZ)
 |0,ws,h=>⟨by unfold kh lim;split<;>lia,id⟩
 |n+1,ws,h=>by
  unfold kh
  by_cases hc:(ws.length:Int)<lim e aZ
  .rw[if_pos hc];have h2:lim e aZ<=aZ:=by unfold lim;split<;>lia
   obtain⟨a,b⟩:=LH (aZ:=aZ) n (kU size bad e ws) (by rw[Ci];lia);exact⟨a,λ_=>b (by rw[Ci];lia)⟩
  .rw[if_neg hc];exact⟨by lia,id⟩
theorem qy(hl:ds.length+1=n)(h:b (Bk N d0 ds)=some (.nx ρ))(h0:ρ[0]? = some (some (d1,.own))):runM n N b d0 ds=some (.aA,d1):=by unfold runM;rw[if_pos hl,h];dsimp only;rw[h0]
noncomputable def hs(h:List Str):D:=.lst (h.map D.str)
def tob(n t:Int)(h:List Str):D:=.ins "Tally" [("need",.int n),("tries",.int t),("heard",hs h)]
theorem OP(h:1<=n/\n<=t/\t<=20):af4 [.int n,.int t]=some (.bl true):=
 cu rfl (cM (sP (b:=true) (cT rfl (AI.trans (by rw[aaA (show(1:Int)<=t by omega),aaA h.2.2];rfl))) (cT rfl (AI.trans (by rw[aaA h.1,aaA h.2.1];rfl)))))
theorem U5(h:1<=n/\n<=t/\t<=20):BQ (.ins "Tally" []) [.int n,.int t]=some (.aA,tob n t []):=
 qy rfl (c9 (kN (bu (cT (ps:=[(.int n,.sh []),(.int t,.sh [])]) rfl (OP h)))) rfl) rfl
theorem Rw:uh (hs h) (.str w)=some (.int (dG w h)):=by
 show(j7 (h.map D.str)).map (λys=>D.int (dG w ys))=_;rw[Qe];rfl
theorem RH:dG w (h++[v])=dG w h+(if(v==w)=true then 1 else 0):=by
 unfold dG;rw[List.countP_append,List.countP_cons,List.countP_nil,ahd]
theorem HE:d7 (hs h)=some (.int h.length):=by unfold hs;rw[Bw,List.length_map]
def word(n t:Int)(h:List Str):Str:=if(dG "yes" h:Int) >= n then "yes" else if(dG "no" h:Int) >= n then "no" else if(h.length:Int) >= t then "unsure" else "more"
theorem Km:Oe [tob n t h]=some (.str (word n t h)):=by
 have c1:∀w:Str,tV (e2 Ad (e2 uh (bX "Tally" "heard" (aj 0)) (eC (.str w))) (bX "Tally" "need" (aj 0))) [some (tob n t h,.sh [])]=some (decide ((dG w h:Int) >= n)):=λw=>bu (aK (aK rfl rfl Rw) rfl rfl)
 have c2:tV (e2 Ad (e1 d7 (bX "Tally" "heard" (aj 0))) (bX "Tally" "tries" (aj 0))) [some (tob n t h,.sh [])]=some (decide ((h.length:Int) >= t)):=bu (aK (bf rfl HE) rfl rfl);refine cu rfl ?_;unfold word
 by_cases a1:(dG "yes" h:Int) >= n
 .rw[if_pos a1];exact qB ((c1 _).trans (by rw[aaA a1])) (e_ rfl)
 .rw[if_neg a1];refine c9 ((c1 _).trans (by rw[abV a1])) ?_
  by_cases a2:(dG "no" h:Int) >= n
  .rw[if_pos a2];exact qB ((c1 _).trans (by rw[aaA a2])) (e_ rfl)
  .rw[if_neg a2];refine c9 ((c1 _).trans (by rw[abV a2])) ?_
   by_cases a3:(h.length:Int) >= t
   .rw[if_pos a3];exact qB (c2.trans (by rw[aaA a3])) (e_ rfl)
   .rw[if_neg a3];exact c9 (c2.trans (by rw[abV a3])) rfl
theorem Aq:∀h:List Str,aM (h.map D.str)=true
 |[]=>rfl
 |x::h=>by rw[aan];unfold aM;rw[Aq h];rfl
theorem ab3(hw:w∈(["yes","no","unsure"]:List Str))(hm:word n t h="more")(hl:h.length<=100):Lp (tob n t h) [.str w]=some (.str (word n t (h++[w])),tob n t (h++[w])):=by
 have m1:∀h:List Str,cE "Tally" "word" Oe (aj 0) aJ [some (tob n t h,.own),some (.str w,.sh [])]=some (.str (word n t h),.own):=λh=>pC rfl rfl rfl Km
 refine k7 rfl (c9 ?_ (c9 (bu (aK (m1 h) rfl (by rw[hm];rfl))) (sq (ρ':=[some (tob n t (h++[w]),.own),some (.str w,.sh [])]) (iC ?_) ?_)))
 .simp only[aaQ,aeK,ahb] at hw;rcases hw with rfl|rfl|rfl<;>rfl
 .refine(A_ rfl rfl rfl (by rw[Aq,List.length_map,aaA (size_le (by lia))];rfl)).trans ?_;unfold tob hs;rw[adh];rfl
 .unfold ur;rw[m1 (h++[w])];rfl
theorem Qy(hm:word n t h="more"):(h.length:Int)<t:=by
 unfold word at hm
 split at hm
 .exact absurd hm (by decide +kernel)
 .split at hm
  .exact absurd hm (by decide +kernel)
  .split at hm
   .exact absurd hm (by decide +kernel)
   .omega
noncomputable abbrev Ta:=List (List Int×List Str)
structure G where
 w:Int
 h:Int
 n:Int
 t:Int
 C:List Ch
 ln:List Int
 ld:List Int
 gr:List (Key×D)
 ta:Ta
 lk:List (List Int)
 ht:Bool
 gw:List (List Int)
 en:List D
 an:Int
 br:Int
noncomputable def tD(l:List Int):D:=.tup (l.map D.int)
noncomputable def kL(l:List Int):List Key:=l.map Sum.inl
def oH(n t:Int)(ta:Ta):List (List Key×D):=ta.map λp=>(kL p.1,tob n t p.2)
def gF(g:G):List (Str×D):=[("numbers",.tup [.int g.w,.int g.h,.int g.n,.int g.t]),("known",obj g.C),("on_line",iL g.ln),("laid_ones",iL g.ld),("grounds",.bO g.gr),("tallies",.cY (oH g.n g.t g.ta)),("looks",.lst (bR g.lk)),("halted",.bl g.ht),("grown",.lst (bR g.gw)),("ended",.lst g.en),("answers",.int g.an),("breaks",.int g.br)]
def gD(g:G):D:=.ins "Gate" (gF g)
theorem EN(h:fo ρ=some (obj C,t))(ha:fa ρ=some (x,t2))(hF:F [obj C,x]=some d)(hm:(mm==("entries":Str))=false:=by decide):cE "Changes" mm F fo (ay fa aJ) ρ=some (d,.own):=
 pC (ps:=[(x,t2)]) h (CH hm) (by rw[aW,ha,wD,An]) hF
theorem fl(h:fo ρ=some (gD g,t))(e:(gF g).lookup f=some d:=by rfl):bX "Gate" f fo ρ=some (d,kM t):=by
 unfold bX;rw[h];show(if("Gate":Str)="Gate" then((gF g).lookup f).map _ else none)=_;rw[if_pos rfl,e];rfl
theorem f6(h:fo ρ=some (gD g,t))(hF:F [gD g]=some d)(hm:(gF g).lookup mm=none:=by rfl):cE "Gate" mm F fo aJ ρ=some (d,.own):=pC h hm rfl hF
theorem pP(h:fo ρ=some (gD g,t))(ha:fa ρ=some (x,t2))(hF:F [gD g,x]=some d)(hm:(gF g).lookup mm=none:=by rfl):cE "Gate" mm F fo (ay fa aJ) ρ=some (d,.own):=
 pC (ps:=[(x,t2)]) h hm (by rw[aW,ha,wD,An]) hF
def bV(gr:List (Key×D))(x:Int):Bool:=(bA gr (Sum.inl x:Key)).isSome
abbrev gQ(g:G)(x:Int):Bool:=bV g.gr x
def A1(g:G)(x:Int):Bool:=!decide (x∈g.ln)&&(!decide (x∈g.ld)&&!gQ g x)
theorem RY(h:f ρ=some (.int x,t))(h2:f2 ρ=some (iL l,t2)):e2 (jN true) f f2 ρ=some (.bl (!decide (x∈l)),.own):=
 aK h h2 (by rw[<- IQ];exact BV)
theorem Zd:aeO [gD g,.int x]=some (.bl (A1 g x)):=
 cu rfl (cM (sP (RY rfl (fl rfl)) (sP (RY rfl (fl rfl)) (aK rfl (fl rfl) rfl))))
def wl(g:G):List Int:=(bY 1 g.C.length).filter (A1 g)
theorem mU:(bY a n).length=n:=by unfold bY;rw[List.length_map,ahn]
theorem uT(hR:g.C.length<=100):wj [gD g]=some (iL (wl g)):=by
 have hi:qF (eC (.int 1)) (e2 iN (cE "Changes" "many" DZ (bX "Gate" "known" (aj 0)) aJ) (eC (.int 1))) [some (gD g,.sh [])]=some ((bY 1 g.C.length).map D.int,.own):=by
  rw[zP rfl (aK (pC (fl rfl) rfl rfl (MG g.C)) rfl rfl) (oW (by lia) (by lia)) (oW (by lia) (by lia)),show((g.C.length:Int)+1-1).toNat=g.C.length by lia]
 exact cu rfl (cM (xB hi (by rw[mU];lia) (λx=>rfl) (λx mx=>bu (pP rfl rfl Zd))))
theorem iQ:x∈wl g↔(1<=x/\x<=(g.C.length:Int))/\x∉g.ln/\x∉g.ld/\gQ g x=false:=by
 unfold wl;rw[acX,i7];unfold A1;simp only[abe,Bool.not_eq_true',decide_eq_false_iff_not];exact and_congr_left λ_=>by lia
theorem qo:Row g.C (wl g):=λx m=>(iQ.mp m).1
theorem Cw:(wl g).Pairwise (· < ·):=(Ab 1 _).sublist afa
theorem DM:(wl g).Nodup:=Cw.imp (λh=>by lia)
theorem BJ:(wl g).length<=g.C.length:=by
 have:=afb (A1 g) (bY 1 g.C.length)
 rwa [mU] at this
def gv{κ α:Type}[DecidableEq κ](es:List (κ×α))(k:κ):Option α:=(es.find? λkv=>decide (kv.1=k)).map (·.2)
def gp{κ α:Type}[DecidableEq κ](es:List (κ×α))(k:κ)(d:α):List (κ×α):=if(es.any λkv=>decide (kv.1=k))=true then es.map (λkv=>if kv.1=k then(kv.1,d) else kv) else es++[(k,d)]
theorem Fb[DecidableEq κ]{es:List (κ×α)}:gv (gp es k d) k=some d:=by
 unfold gv gp
 by_cases h:(es.any λkv=>decide (kv.1=k))=true
 .rw[if_pos h]
  induction es with
  |nil=>cases h
  |cons a r ih=>
   rw[aan]
   by_cases z:a.1=k
   .rw[if_pos z,List.find?_cons_of_pos (by simpa using z)];rfl
   .rw[if_neg z,agl (by simpa using z)];exact ih (by rw[afK,abV z,Bool.false_or] at h;exact h)
 .rw[if_neg h,List.find?_append];have:es.find? (λkv=>decide (kv.1=k))=none:=by
   rw[afU];intro x m e;exact h (ad9.mpr ⟨x,m,e⟩)
  rw[this];simp
theorem Mv[DecidableEq κ]{es:List (κ×α)}(h:j≠k):gv (gp es k d) j=gv es j:=by
 unfold gv gp
 congr 1
 split
 .rename_i hh;clear hh
  induction es with
  |nil=>rfl
  |cons a r ih=>
   rw[aan]
   by_cases z:a.1=k
   .rw[if_pos z];have:¬a.1=j:=λe=>h (e.symm.trans z)
    rw[agl (by simpa using this),agl (by simpa using this)];exact ih
   .rw[if_neg z]
    by_cases y:a.1=j
    .rw[List.find?_cons_of_pos (by simpa using y),List.find?_cons_of_pos (by simpa using y)]
    .rw[agl (by simpa using y),agl (by simpa using y)];exact ih
 .rw[List.find?_append,agl (by simpa using λe:k=j=>h e.symm)];simp
theorem T3{κ:Type}{k:κ}[DecidableEq κ]{es:List (κ×D)}:(bA (putD es k d) k)=some d:=Fb
theorem ada{κ:Type}{j k:κ}[DecidableEq κ]{es:List (κ×D)}(h:j≠k):bA (putD es k d) j=bA es j:=Mv h
theorem m7{gr:List (Key×D)}:bV (putD gr (Sum.inl x) d) y=(decide (y=x)||bV gr y):=by
 unfold bV
 by_cases h:y=x
 .rw[h,T3,aaA rfl];rfl
 .rw[ada (λe=>by injection e with e;exact h e),abV h];rfl
theorem yE:aM ds=true↔∀d∈ds,aC d=true:=by
 induction ds with
 |nil=>exact⟨λ_ d m=>(nomatch m),λ_=>rfl⟩
 |cons a r ih=>
  unfold aM;rw[abe,ih];exact⟨λh d m=>(aaQ.mp m).elim (λe=>e ▸ h.1) (h.2 d),λh=>⟨h a aak,λd m=>h d (aaf _ m)⟩⟩
theorem YZ[DecidableEq κ]{es:List (κ×D)}(h:aM (es.map (·.2))=true)(hd:aC d=true):aM ((putD es k d).map (·.2))=true:=by
 rw[yE] at h ⊢;intro y m;obtain⟨kv,mk,rfl⟩:=ab1.mp m;unfold putD at mk
 split at mk
 .obtain⟨x,mx,rfl⟩:=ab1.mp mk
  split
  .exact hd
  .exact h _ (ab1.mpr ⟨x,mx,rfl⟩)
 .rcases abB.mp mk with mk|mk
  .exact h _ (ab1.mpr ⟨kv,mk,rfl⟩)
  .cases aaB.mp mk;exact hd
theorem KY[DecidableEq κ]{es:List (κ×α)}:(gp es k d).map (·.1)=if k∈es.map (·.1) then es.map (·.1) else es.map (·.1)++[k]:=by
 unfold gp
 by_cases h:(es.any λkv=>decide (kv.1=k))=true
 .rw[if_pos h,if_pos (by obtain⟨x,m,e⟩:=ad9.mp h;exact ab1.mpr ⟨x,m,aa9 e⟩),ade];refine agm λa _=>?_
  show(if a.1=k then(a.1,d) else a).1=a.1
  split<;>rfl
 .rw[if_neg h,if_neg (λm=>by obtain⟨x,m,e⟩:=ab1.mp m;exact h (ad9.mpr ⟨x,m,aaA e⟩)),adh];rfl
theorem EM[DecidableEq κ]{es:List (κ×α)}(h:(es.map (·.1)).Nodup):((gp es k d).map (·.1)).Nodup:=by
 rw[KY]
 split
 .exact h
 .rename_i hk;exact ac3.mpr ⟨h,by simp,λa ma b mb e=>by cases aaB.mp mb;exact hk (e ▸ ma)⟩
structure Gr(n:Nat)(gr:List (Key×D)):Prop where
 im:aM (gr.map (·.2))=true
 nd:(gr.map (·.1)).Nodup
 ks:∀k∈gr.map (·.1),∃x:Int,k=Sum.inl x/\x∈bY 1 n
 tp:∀p∈gr,(Jv p.2).isSome=true
theorem R1[DecidableEq κ]{es:List (κ×α)}(m:q∈gp es k d):q∈es\/q=(k,d):=by
 unfold gp at m
 split at m
 .obtain⟨p,mp,rfl⟩:=ab1.mp m
  split
  .rename_i e;exact .inr (by rw[e])
  .exact .inl mp
 .exact(abB.mp m).imp id aaB.mp
theorem Gr.put(h:Gr n gr)(hx:x∈bY 1 n)(hd:aC d=true)(ht:(Jv d).isSome=true:=by rfl):Gr n (putD gr (Sum.inl x) d):=⟨YZ h.im hd,EM h.nd,λk m=>by
 have m:k∈(gp gr (Sum.inl x) d).map (·.1):=m;rw[KY] at m
 split at m
 .exact h.ks k m
 .rcases abB.mp m with m|m
  .exact h.ks k m
  .exact⟨x,aaB.mp m,hx⟩,λp m=>(R1 m).elim (h.tp p) λe=>by rw[e];exact ht⟩
theorem E3(h:bV gr x=false):putD gr (Sum.inl x) d=gr++[(Sum.inl x,d)]:=by
 unfold putD;rw[if_neg];intro q;obtain⟨kv,m,e⟩:=ad9.mp q;unfold bV bA at h;rw[agA] at h;have:=(List.find?_isSome (p:=λkv:Key×D=>decide (kv.1=Sum.inl x))).mpr ⟨kv,m,e⟩;rw[h] at this;cases this
def cnt(gr:List (Key×D)):Nat:=(Sg "look" gr).length
theorem LC:cnt (a++b)=cnt a+cnt b:=by
 unfold cnt Sg;rw[List.filter_append,adh,abR]
theorem Ot(h:a <+: b):cnt a<=cnt b:=by
 obtain⟨r,rfl⟩:=h;rw[LC];lia
noncomputable def vG:List (Key×D)->List Int
 |[]=>[]
 |(.inl x,_)::r=>x::vG r
 |_::r=>vG r
theorem ye:∀{gr},(∀k∈gr.map (·.1),∃x:Int,k=Sum.inl x/\x∈bY 1 n)->gr.map (·.1)=(vG gr).map Sum.inl/\jn gr=some (vG gr)
 |[],_=>⟨rfl,rfl⟩
 |(k,d)::r,h=>by
  obtain⟨x,e,_⟩:=h k aak;obtain⟨a,b⟩:=ye λk m=>h k (aaf _ m)
  have e:=e;subst e;refine⟨by rw[aan,a];rfl,?_⟩;show(jn r).map _=_;rw[b];rfl
theorem WW{l:List Int}:(l.map (Sum.inl:Int->Key)).Nodup↔l.Nodup:=by
 unfold List.Nodup;rw[afC];exact⟨λh=>h.imp λq e=>q (by rw[e]),λh=>h.imp λq e=>q (ahk e)⟩
theorem Gr.nK{gr:List (Key×D)}(h:Gr n gr):(vG gr).Nodup:=WW.mp ((ye h.ks).1 ▸ h.nd)
theorem Gr.mem{gr:List (Key×D)}(h:Gr n gr):x∈vG gr↔bV gr x=true:=by
 have e:=(ye h.ks).1;unfold bV bA;rw[agA,List.find?_isSome];constructor
 .intro m;have:(Sum.inl x:Key)∈gr.map (·.1):=e ▸ ab1.mpr ⟨x,m,rfl⟩;obtain⟨kv,mk,q⟩:=ab1.mp this;exact⟨kv,mk,aaA q⟩
 .rintro⟨kv,mk,q⟩
  have:(Sum.inl x:Key)∈gr.map (·.1):=ab1.mpr ⟨kv,mk,aa9 q⟩;rw[e] at this;obtain⟨y,my,q⟩:=ab1.mp this;exact ahk q ▸ my
theorem Gr.bd{gr:List (Key×D)}(h:Gr n gr)(m:bV gr x=true):x∈bY 1 n:=by
 have:(Sum.inl x:Key)∈gr.map (·.1):=(ye h.ks).1 ▸ ab1.mpr ⟨x,h.mem.mpr m,rfl⟩;obtain⟨y,e,q⟩:=h.ks _ this;exact ahk e ▸ q
theorem Gr.len{gr:List (Key×D)}(h:Gr n gr):gr.length<=n:=by
 have:=sub_len h.nK λx m=>h.bd (h.mem.mp m)
 rw[mU] at this;have e:=congrArg List.length (ye h.ks).1;rw[List.length_map,List.length_map] at e
 lia
abbrev qN(ta:Ta)(l:List Int):Option (List Str):=gv ta l
def wd(g:G)(l:List Int):Str:=match qN g.ta l with
 |none=>"more"
 |some h=>word g.n g.t h
theorem vV:∀l:List Int,iG (l.map D.int)=some (kL l)
 |[]=>rfl
 |x::l=>by
  rw[aan];unfold iG;rw[vV l];rfl
theorem pM:∀{a b},kL a=kL b->a=b
 |[],[],_=>rfl
 |[],_::_,e=>by cases e
 |_::_,[],e=>by cases e
 |x::a,y::b,e=>by
  injection e with e1 e2;cases e1;rw[pM e2]
section
variable[DecidableEq κ][DecidableEq RT]{φ:κ->RT}{ψ:α->D}{k:κ}
theorem wL(yk:∀a b,φ a=φ b->a=b):∀es:List (κ×α),bA (es.map λp=>(φ p.1,ψ p.2)) (φ k)=(gv es k).map ψ
 |[]=>rfl
 |p::r=>by
  have ih:=wL yk r;unfold bA gv at ih ⊢;rw[aan,adN,adN,show decide ((φ p.1,ψ p.2).1=φ k)=decide (p.1=k) from agW.mpr ⟨yk _ _,λe=>by rw[<- e]⟩];cases decide (p.1=k) with
  |true=>rfl
  |false=>exact ih
theorem Ek(yk:∀a b,φ a=φ b->a=b):putD (es.map λp=>(φ p.1,ψ p.2)) (φ k) (ψ d)=(gp es k d).map λp=>(φ p.1,ψ p.2):=by
 unfold putD gp;rw[agO,show es.any ((λkv:RT×D=>decide (kv.1=φ k)) ∘ λp=>(φ p.1,ψ p.2))=es.any λp=>decide (p.1=k) from congrArg es.any (funext λp=>agW.mpr ⟨yk _ _,λe=>by rw[<- e]⟩)]
 split
 .rw[ade,ade];refine agm λp _=>?_
  simp only[Function.comp]
  by_cases z:p.1=k
  .rw[if_pos (by rw[z]),if_pos z]
  .rw[if_neg λq=>z (yk _ _ q),if_neg z]
 .rw[adh];rfl
end
theorem RQ(ta:Ta):bA (oH n t ta) (kL l)=(qN ta l).map (tob n t):=wL (λ_ _=>pM) ta
theorem JD:BZ [gD g,tD l]=some (.str (wd g l)):=by
 have v:=RQ (n:=g.n) (t:=g.t) (l:=l) g.ta;have uV:tV (e2 (JH false) (aj 1) (bX "Gate" "tallies" (aj 0))) [some (gD g,.sh []),some (tD l,.sh [])]=some (bA (oH g.n g.t g.ta) (kL l)).isSome:=bu (aK rfl (fl rfl) (by
  show(iG (l.map D.int)).map _=_;rw[vV];rfl))
 refine cu rfl (cM ?_);unfold wd;rw[v] at uV;cases e:qN g.ta l with
 |none=>rw[e] at uV;exact OL uV
 |some h=>
  rw[e] at uV v;refine(Om uV).trans (pC (t:=.sh []) ?_ rfl rfl Km);unfold BC;rw[fl rfl,show aj 1 [some (gD g,.sh []),some (tD l,.sh [])]=some (tD l,.sh []) from rfl];show(iG (l.map D.int)).bind _=_;rw[vV,adb,v];rfl
noncomputable def cU(g:G)(p:Nat):List Int:=g.ln++g.ld.take p
theorem f_look{p:Nat}(hp:p<=g.ld.length)(hl:g.ln.length+g.ld.length<=1000):zc [gD g,.int p]=some (tD (cU g p)):=by
 have hc:lA (bX "Gate" "laid_ones" (aj 0)) (aj 1) [some (gD g,.sh []),some (.int p,.sh [])]=some (iL (g.ld.take p),.own):=by
  unfold lA;rw[fl rfl,show aj 1 [some (gD g,.sh []),some (.int p,.sh [])]=some (.int p,.sh []) from rfl];show(if aM (g.ld.map D.int)=true then some (D.lst (cutD (g.ld.map D.int) none (some (p:Int))),Tag.own) else none)=_;rw[if_pos (eF _),Cu (by rw[List.length_map];exact hp),<- List.map_take];rfl
 have h1:=agT (i:=p) (l:=g.ld);exact cu rfl (cM (bf (aK (fl rfl) hc (qK (by rw[ae7];lia))) vM))
noncomputable def bw(s:Str):Bool:=(["no","unsure"]:List Str).any (· == s)
def mO(g:G)(p:Nat):Bool:=bw (wd g (cU g p))
def dh(g:G):Option Nat:=((List.range g.ld.length).map (· + 1)).find? (mO g)
noncomputable def bD:Option Nat->D
 |none=>.aA
 |some p=>.int p
theorem Pk(hl:g.ln.length+g.ld.length<=1000):∀{ps:List Nat} {s1},(∀p∈ps,p<=g.ld.length)->∃pJ,
  di (gN 1) (.sh []) (eX (tV (e2 (uP false) (cE "Gate" "word_of" BZ (aj 0) (ay (cE "Gate" "look_of" zc (aj 0) (ay (aj 1) aJ)) aJ)) (eC (.tup ((["no","unsure"]:List Str).map D.str))))) (pX 1) gP) (ps.map λp:Nat=>D.int p) [some (gD g,.sh []),s1]=some (match ps.find? (mO g) with|none=>.nx [some (gD g,.sh []),pJ]|some p=>.rt (.int p))
 |[],s1,_=>⟨s1,rfl⟩
 |p::ps,s1,h=>by
  obtain⟨a,e⟩:=Pk hl (λq m=>h q (aaf _ m));have ht:tV (e2 (uP false) (cE "Gate" "word_of" BZ (aj 0) (ay (cE "Gate" "look_of" zc (aj 0) (ay (aj 1) aJ)) aJ)) (eC (.tup ((["no","unsure"]:List Str).map D.str)))) [some (gD g,.sh []),some (.int p,.sh [])]=some (mO g p):=
   bu (aK (pP rfl (pP rfl rfl (f_look (h p aak) hl)) JD) rfl rfl)
  refine⟨a,?_⟩;rw[adN];cases eb:mO g p with
  |true=>
   rw[eb] at ht;exact Bs (aR:=[some (gD g,.sh []),some (.int p,.sh [])]) rfl (by rw[iW,ht];rfl)
  |false=>
   rw[eb] at ht;exact(kP (aR:=[some (gD g,.sh []),some (.int p,.sh [])]) rfl (by rw[iW,ht];rfl)).trans e
theorem Sk(n:Nat):(bY 1 n).map D.int=((List.range n).map (· + 1)).map λp:Nat=>D.int p:=by
 unfold bY;rw[ade,ade];refine agm λi _=>?_
 show D.int (1+(i:Int))=D.int ((i+1:Nat):Int);rw[show(1+(i:Int))=((i+1:Nat):Int) by lia]
theorem vN:p∈(List.range n).map (· + 1)↔1<=p/\p<=n:=by
 rw[ab1];exact⟨λ⟨i,m,e⟩=>by have:=ahp.mp m;lia,λh=>⟨p-1,ahp.mpr (by lia),by lia⟩⟩
theorem II{g:G}(hl:g.ln.length+g.ld.length<=900):Bt [gD g]=some (bD (dh g)):=by
 obtain⟨a,e⟩:=Pk (by lia) (ps:=(List.range g.ld.length).map (· + 1)) (λp m=>(vN.mp m).2);have hi:qF (eC (.int 1)) (e2 iN (e1 d7 (bX "Gate" "laid_ones" (aj 0))) (eC (.int 1))) [some (gD g,.sh []),none]=some (((List.range g.ld.length).map (· + 1)).map λp:Nat=>D.int p,.own):=by
  rw[zP rfl (aK (bf (fl rfl) (by show some (D.int (g.ld.map D.int).length)=_;rw[List.length_map])) rfl rfl) (oW (by lia) (by lia)) (oW (by lia) (by lia)),show((g.ld.length:Int)+1-1).toNat=g.ld.length by lia,Sk]
 refine cu rfl ?_;unfold dh;cases eb:((List.range g.ld.length).map (· + 1)).find? (mO g) with
 |none=>rw[eb] at e;exact sq (vE hi e) rfl
 |some p=>rw[eb] at e;exact e_ (CD hi e)
theorem zy(h:dh g=some p):1<=p/\p<=g.ld.length/\mO g p=true/\∀q,1<=q->q<p->mO g q=false:=by
 obtain⟨h1,as,bs,e,h2⟩:=List.find?_eq_some_iff_append.mp h;have hp:=vN.mp (show p∈(List.range g.ld.length).map (· + 1) from e ▸ aaw _ aak);refine⟨hp.1,hp.2,h1,λq q1 q2=>?_⟩;have so:((List.range g.ld.length).map (· + 1)).Pairwise (· < ·):=afC.mpr (List.pairwise_lt_range.imp λh=>by lia);have mq:q∈(List.range g.ld.length).map (· + 1):=vN.mpr (by lia);rw[e] at so mq;rcases abB.mp mq with m|m
 .simpa using h2 q m
 .rcases aaQ.mp m with m|m
  .lia
  .have:=(adV.mp (List.pairwise_append.mp so).2.1).1 q m;lia
theorem acC:dh g=none↔∀p,1<=p->p<=g.ld.length->mO g p=false:=by
 unfold dh;rw[afU];exact⟨λh p h1 h2=>by simpa using h p (vN.mpr ⟨h1,h2⟩),λh p m=>by simpa using h p (vN.mp m).1 (vN.mp m).2⟩
theorem DN:∀a b:List Int,PyData.eqvAll (a.map PyData.int) (b.map PyData.int)=decide (a=b)
 |[],[]=>rfl
 |[],_::_=>rfl
 |_::_,[]=>rfl
 |x::a,y::b=>by
  simp only[aan,PyData.eqvAll,PyData.eqv,DN a b]
  by_cases h:x=y<;>by_cases k:a=b<;>simp[h,k]
theorem Ol(l:List Int):py (tD l)=.tuple (l.map PyData.int):=by unfold tD;unfold py;rw[xW]
theorem afx(l:List Int):dD (tD l)=true:=by
 unfold dD;have c1:fN (tD l)=true:=by unfold tD;unfold fN;exact AJ _
 rw[c1,Ol];have c2:(PyData.tuple (l.map PyData.int)).canLay0=true:=by simp only[PyData.canLay0];exact Bd l
 have c3:(PyData.tuple (l.map PyData.int)).depth<=40:=by simp only[PyData.depth,depthAll_ints];lia
 rw[c2,aaA c3];rfl
theorem any_rows(l:List Int)(L:List (List Int)):((dO (bR L)).any λy=>PyData.eqv y (py (tD l)))=decide (l∈L):=by
 rw[Ey,Ol,agO];have:((λy=>PyData.eqv y (PyData.tuple (l.map PyData.int))) ∘ jG)=λr=>decide (r=l):=funext λr=>by
  simp only[Function.comp,jG,PyData.eqv,DN]
 rw[this]
 by_cases h:l∈L
 .rw[aaA h];exact ad9.mpr ⟨l,h,by simp⟩
 .rw[abV h,agn];intro e;obtain⟨y,my,ey⟩:=ad9.mp e;exact h ((aa9 ey) ▸ my)
theorem zV(neg:Bool)(l:List Int)(L:List (List Int)):uz neg (tD l) (.lst (bR L))=some (.bl (if neg=true then !decide (l∈L) else decide (l∈L))):=by
 show(if(dD (tD l)&&dD (.lst (bR L)))=true then some (D.bl (if neg=true then !(dO (bR L)).any λy=>PyData.eqv y (py (tD l)) else(dO (bR L)).any λy=>PyData.eqv y (py (tD l)))) else none)=_;rw[afx,LJ,any_rows];rfl
def kp(g:G)(l:List Int):Bool:=decide (l∈g.lk)&&(wd g l == "more")
theorem VL:acS [gD g,tD l]=some (.bl (kp g l)):=
 cu rfl (cM (sP (aK rfl (fl rfl) (zV false l g.lk)) (aK (pP rfl rfl JD) rfl rfl)))
def iU(g:G):List Int:=(bY 1 g.ld.length).filter λx=>kp g (cU g x.toNat)
def qV(g:G):Option Int:=(dh g).map λp:Nat=>(p:Int)
def uG(g:G):List Int:=W g.ld.length (qV g) (iU g) g.h
def zS(g:G):List (List Int):=(uG g).map λp=>cU g p.toNat
theorem aba(o:Option Nat):bD o=jL (o.map λp:Nat=>(p:Int)):=by cases o<;>rfl
theorem rq:(iU g).Pairwise (· < ·)/\(∀x∈iU g,1<=x/\x<=g.ld.length)/\(iU g).length<=g.ld.length:=by
 refine⟨(Ab 1 _).sublist afa,λx m=>by have:=i7.mp (acX.mp m).1;lia,?_⟩;have:=afb (λx=>kp g (cU g x.toNat)) (bY 1 g.ld.length)
 rwa [mU] at this
def eo(g:G):Int:=endOf g.ld.length (qV g)
theorem Mz:lQ (eo g) (uG g)/\(∀p∈iU g,p<eo g->p∈uG g):=
 aaH rq.1 (λx m=>(rq.2.1 x m).1)
theorem Ff:1<=eo g/\eo g<=g.ld.length+1:=by
 unfold eo qV;cases e:dh g with
 |none=>show 1<=(g.ld.length:Int)+1/\(g.ld.length:Int)+1<=_;lia
 |some p=>have:=zy e;show 1<=(p:Int)/\(p:Int)<=_;lia
theorem ZL(hl:g.ln.length+g.ld.length<=900)(h6:g.ld.length<64)(hh:g.h<=60):ZF [gD g]=some (.lst (bR (zS g))):=by
 have hi:qF (eC (.int 1)) (e2 iN (aj 1) (eC (.int 1))) [some (gD g,.sh []),some (.int g.ld.length,.own),none]=some ((bY 1 g.ld.length).map D.int,.own):=by
  rw[zP rfl rfl (oW (by lia) (by lia)) (oW (by lia) (by lia)),show((g.ld.length:Int)+1-1).toNat=g.ld.length by lia]
 have look:∀{x:Int},1<=x->x<=g.ld.length->cE "Gate" "look_of" zc (aj 1) (ay (aj 0) aJ) [some (.int x,.sh []),some (gD g,.sh [])]=some (tD (cU g x.toNat),.own):=λ{x} h1 h2=>
  pP rfl rfl (by
   have:=f_look (g:=g) (p:=x.toNat) (by lia) (by lia)
   rwa [show((x.toNat:Nat):Int)=x by lia] at this)
 refine cu rfl (k9 (bf (fl rfl) (by show some (D.int (g.ld.map D.int).length)=_;rw[List.length_map])) (k9 (xB hi (by rw[mU];lia) (λx=>rfl) (λx mx=>by
  have hx:=i7.mp mx;exact bu (pP rfl (look (by lia) (by lia)) VL))) (cM ?_)))
 have hw:cO JM (ay (aj 1) (ay (cE "Gate" "bad" Bt (aj 0) aJ) (ay (aj 2) (ay (e2 dW (bX "Gate" "numbers" (aj 0)) (eC (.int 1))) aJ)))) [some (gD g,.sh []),some (.int g.ld.length,.own),some (iL (iU g),.own)]=some (iL (uG g),.own):=
  cT (by
   rw[aW,aW,f6 rfl (II hl)];rfl) (by
   have:=aew (size:=g.ld.length) (bad:=qV g) (ks:=iU g) hh (by have:=rq (g:=g).2.2;lia);simp only[aan,ahc];rw[aba];exact this)
 have hc:=jH (js:=[none,some 0]) (g:=gN 0) (tt:=uw) (k:=λd=>match d with | .int p=>some (tD (cU g p.toNat)) | _=>none) (gX hw) (by rw[List.length_map];exact size_le (by have:=UA (size:=g.ld.length) (bad:=qV g) (ks:=iU g) hh (by have:=rq (g:=g).2.2;lia);show(W _ _ _ _).length<=_;lia)) (λd m=>by
  exists 65;have:=(Mz).1.bd x mx;have:=Ff (g:=g);exact qz rfl rfl (look (by lia) (by lia)))
 rw[aeY] at hc;have e:(uG g).filterMap ((λd=>match d with|.int p=>some (tD (cU g p.toNat))|_=>none) ∘ D.int)=bR (zS g):=by
  unfold zS bR;rw[ade];exact pV (λp:Int=>tD (cU g p.toNat)) _
 rw[e] at hc;exact hc
theorem n6(h:fv ρ=some (d,t))(h0:ρ[0]? = some (some (gD g,.own)))(ho:(jQ t||aC d)=true)(e:dR f d (gF g)=gF g'):ju (yb 0 "Gate" f fv) ρ=some (.nx (bT ρ 0 (gD g'))):=by
 refine iC ?_;unfold yb;rw[h,h0];show(if("Gate":Str)="Gate"/\(gF g).length<1000/\(jQ t||aC d)=true then some (Out.nx (bT ρ 0 (.ins "Gate" (dR f d (gF g))))) else none)=_;rw[if_pos ⟨rfl,by show 12<1000;decide,ho⟩,e];rfl
theorem xo(h0:ρ[0]? = some (some (gD g,.own)))(h:F (gD g) []=some (r,gD g'))(hm:(gF g).lookup m=none:=by rfl):xO 0 "Gate" m F aJ ρ=some (r,bT ρ 0 (gD g')):=by
 unfold xO;rw[h0];show(if("Gate":Str)="Gate"/\(gF g).lookup m=none/\apart 0 []=true then(F (gD g) []).map _ else none)=_;rw[if_pos ⟨rfl,hm,rfl⟩,h];rfl
theorem As(h:fv ρ=some (d,t))(hk:fk ρ=some (.int x,t2))(h0:ρ[0]? = some (some (gD g,.own)))(hi:aC d=true)(hG:aM (g.gr.map (·.2))=true)(hl:g.gr.length<=100):vB 0 "Gate" "grounds" fk fv ρ=some (.nx (bT ρ 0 (gD { g with gr:=putD g.gr (Sum.inl x) d }))):=by
 unfold vB;rw[h,h0,hk];show(if("Gate":Str)="Gate" then(if(aC d&&aM (g.gr.map (·.2))&&decide (g.gr.length<sizeLine))=true then some (Out.nx (bT ρ 0 (.ins "Gate" (dR "grounds" (.bO (putD g.gr (Sum.inl x) d)) (gF g))))) else none) else none)=_;rw[if_pos rfl,hi,hG,aaA (size_le (by lia)),if_pos (show(true&&true&&true)=true from rfl)];rfl
theorem CY(h:f ρ=some (d,t)):ju (dF i f) ρ=some (.nx (iD ρ i d t)):=iC (by unfold dF;rw[h])
theorem fG(h:tf ρ=some true)(h2:sf ρ=r):eX tf sf sg ρ=r:=by rw[iW,h];exact h2
theorem gq(h:tf ρ=some false)(h2:sg ρ=r):eX tf sf sg ρ=r:=by rw[iW,h];exact h2
theorem LO:dQ ((x::r).map D.int) 0=some (.int x):=by
 unfold dQ lu;rw[if_pos (by omega),if_pos (by rw[List.length_map,acj];omega)];rfl
def gone(C:List Ch)(gr:List (Key×D))(x:Int):List Int:=(lean (sec C) x).filter (bV gr)
def dN(C:List Ch)(gr:List (Key×D))(x:Int):List (Key×D):=match gone C gr x with
 |[]=>gr
 |y::_=>putD gr (Sum.inl x) (.tup [.str "leans",.int y])
theorem Hh{g:G}(gc:GoodC g.C):∀{l} {gr} {s1 s2},Row g.C l->Gr g.C.length gr->∃pJ DE,di (gN 1) (.sh []) (bZ (dF 2 (i9 [none,some 0] (iy (cE "Changes" "leans_of" Dr (bX "Gate" "known" (aj 0)) (ay (aj 1) aJ))) (gN 0) (tV (e2 (qO false) (aj 0) (bX "Gate" "grounds" (aj 1)))) (aj 0))) (eX (s_ (aj 2)) (vB 0 "Gate" "grounds" (aj 1) (nA (ay (eC (.str "leans")) (ay (e2 dW (aj 2) (eC (.int 0))) aJ)))) gP)) (l.map D.int) [some (gD { g with gr:=gr },.own),s1,s2]=some (.nx [some (gD { g with gr:=l.foldl (dN g.C) gr },.own),pJ,DE])
 |[],gr,s1,s2,_,_=>⟨s1,s2,rfl⟩
 |x::l,gr,s1,s2,h,k=>by
  have hx:=h x aak;have hc:i9 [none,some 0] (iy (cE "Changes" "leans_of" Dr (bX "Gate" "known" (aj 0)) (ay (aj 1) aJ))) (gN 0) (tV (e2 (qO false) (aj 0) (bX "Gate" "grounds" (aj 1)))) (aj 0) [some (gD { g with gr:=gr },.own),some (.int x,.sh []),s2]=some (iL (gone g.C gr x),.own):=
   xB (gX (EN (fl rfl) rfl (L8 hx.1 hx.2))) (by have:=gc.few x;lia) (λy=>rfl) (λy _=>bu (aK rfl (fl rfl) rfl))
  cases e:gone g.C gr x with
  |nil=>
   obtain⟨a,b,ih⟩:=Hh gc (λy m=>h y (aaf _ m)) k;refine⟨a,b,(kP rfl (k9 (e ▸ hc) rfl)).trans (ih.trans ?_)⟩;rw[aeP,show dN g.C gr x=gr by unfold dN;rw[e]]
  |cons y r=>
   have k':Gr g.C.length (dN g.C gr x):=by unfold dN;rw[e];exact k.put (i7.mpr (by lia)) rfl
   obtain⟨a,b,ih⟩:=Hh gc (λy m=>h y (aaf _ m)) k';refine⟨a,b,(kP rfl (k9 (e ▸ hc) (fG rfl ((As (d:=.tup [.str "leans",.int y]) (t:=.own) ?_ rfl rfl rfl k.im (by have:=k.len;have:=gc.ln;show gr.length<=100;lia)).trans ?_)))).trans ih⟩
   .rw[tW,aW,aW,aK rfl rfl (u9 LO rfl)];rfl
   .unfold dN;rw[e];rfl
def gS(g:G):G:={ g with gr:=(wl g).foldl (dN g.C) g.gr }
theorem abt(gc:GoodC g.C)(k:Gr g.C.length g.gr):zO (gD g) []=some (.aA,gD (gS g)):=by
 obtain⟨a,b,e⟩:=Hh gc qo k;exact qy rfl (iC (vE (gX (f6 rfl (uT (by have:=gc.ln;lia)))) e)) rfl
theorem zR:∀{l:List Int} {gr},Gr n gr->(∀x∈l,x∈bY 1 n)->Gr n (l.foldl (dN C) gr)/\(∀x,bV gr x=true->bV (l.foldl (dN C) gr) x=true)/\(∀x,bV (l.foldl (dN C) gr) x=true->bV gr x=true\/x∈l)
 |[],gr,k,_=>⟨k,λ_ h=>h,λ_ h=>.inl h⟩
 |x::l,gr,k,h=>by
  have k1:Gr n (dN C gr x)/\(∀y,bV gr y=true->bV (dN C gr x) y=true)/\∀y,bV (dN C gr x) y=true->bV gr y=true\/y=x:=by
   unfold dN
   split
   .exact⟨k,λ_ h=>h,λ_ h=>.inl h⟩
   .refine⟨k.put (h x aak) rfl,λy q=>by rw[m7,q,Bool.or_true],λy q=>?_⟩;rw[m7,ahi,aho] at q;exact q.symm
  obtain⟨a,b,c⟩:=zR k1.1 λy m=>h y (aaf _ m)
  refine⟨a,λy q=>b y (k1.2.1 y q),λy q=>?_⟩;rcases c y q with q|q
  .exact(k1.2.2 y q).imp id λe=>by rw[e];exact aak
  .exact .inr (aaf _ q)
theorem Sf:∀{l:List Int} {gr},l.Nodup->(∀x∈l,bV gr x=false)->gr <+: l.foldl (dN C) gr
 |[],gr,_,_=>agx _
 |x::l,gr,nd,h=>by
  obtain⟨n1,n2⟩:=abZ.mp nd;have h1:gr <+: dN C gr x/\∀y∈l,bV (dN C gr x) y=false:=by
   unfold dN
   split
   .exact⟨agx _,λy m=>h y (aaf _ m)⟩
   .refine⟨by rw[E3 (h x aak)];exact agZ _ _,λy m=>?_⟩;rw[m7,h y (aaf _ m),abV (show ¬y=x from λe=>n1 (e ▸ m))];rfl
  exact h1.1.trans (Sf n2 h1.2)
theorem EK(bd:∀m x,1<=m->m<=(C.length:Int)->x∈lean (sec C) m->1<=x/\x<m):∀{l:List Int} {gr},l.Pairwise (· < ·)->Row C l->Gr C.length gr->∀x∈l,bV (l.foldl (dN C) gr) x=false->∀y∈lean (sec C) x,bV (l.foldl (dN C) gr) y=false
 |[],gr,_,_,_,x,m,_=>nomatch m
 |z::l,gr,hp,hr,k,x,m,hx=>λy my=>by
  obtain⟨Ja,sY⟩:=adV.mp hp;have hz:=hr z aak;have kz:Gr C.length (dN C gr z):=(zR (l:=[z]) k λx m=>by rw[aaB.mp m];exact i7.mpr (by lia)).1;have rl:∀x∈l,x∈bY 1 C.length:=λx m=>by have:=hr x (aaf _ m);exact i7.mpr (by lia)
  obtain⟨_,b,c⟩:=zR kz rl;rcases aaQ.mp m with rfl|m
  .cases e:bV ((x::l).foldl (dN C) gr) y with
   |false=>rfl
   |true=>
    have yz:=(bd x y hz.1 hz.2 my).2;have jm:bV (dN C gr x) x=false:=by
     cases q:bV (dN C gr x) x with
     |false=>rfl
     |true=>rw[show bV ((x::l).foldl (dN C) gr) x=true from b x q] at hx;cases hx
    have e0:bV (dN C gr x) y=true:=by
     rcases c y e with q|q
     .exact q
     .have:=Ja y q;lia
    unfold dN at jm e0
    split at jm
    .rename_i q;rw[q] at e0;have:=List.filter_eq_nil_iff.mp q y my;exact absurd e0 this
    .rw[m7,aaA rfl] at jm;cases jm
  .exact EK bd sY (λx m=>hr x (aaf _ m)) kz x m hx y my
theorem lay_ints(l:List Int):dD (iL l)=true:=by
 unfold dD;have c1:fN (iL l)=true:=by unfold iL;unfold fN;exact AJ _
 have c0:py (iL l)=.list (l.map PyData.int):=by unfold iL;unfold py;rw[xW]
 rw[c1,c0];have c2:(PyData.list (l.map PyData.int)).canLay0=true:=by simp only[PyData.canLay0];exact Bd l
 have c3:(PyData.list (l.map PyData.int)).depth<=40:=by simp only[PyData.depth,depthAll_ints];lia
 rw[c2,aaA c3];rfl
theorem aab(a b:List Int):PyData.eqv (py (iL a)) (py (iL b))=decide (a=b):=by
 have c:∀l,py (iL l)=.list (l.map PyData.int):=λl=>by unfold iL;unfold py;rw[xW]
 rw[c,c];simp only[PyData.eqv,DN]
theorem O9(a b:List Int):mG (iL a) (iL b)=some (.bl (!decide (a=b))):=by
 unfold mG;rw[lay_ints,lay_ints,aab];rfl
structure Gd(g:G):Prop where
 w1:1<=g.w/\g.w<=16
 h1:1<=g.h/\g.h<=8
 nt:1<=g.n/\g.n<=g.t/\g.t<=20
 gc:GoodC g.C
 row:Row g.C (g.ln++g.ld)
 nd:(g.ln++g.ld).Nodup
 q_:(g.ld.length:Int)<=g.w
 kH:∀x∈g.ln++g.ld,gQ g x=false
 gr:Gr g.C.length g.gr
 run:∃v,f9 [] (fX g.C (g.ln++g.ld))=some v
theorem Gd.len(k:Gd g):g.ln.length+g.ld.length<=60:=by
 have:=sub_len k.nd λx m=>i7.mpr (show 1<=x/\x<1+(g.C.length:Int) by have:=k.row x m;lia)
 rw[mU,abR] at this;have:=k.gc.ln
 lia
theorem Rh:∀{a b} {v},(∃w,f9 v (fX C (a++b))=some w)->∃w,f9 v (fX C a)=some w
 |[],b,v,_=>⟨v,rfl⟩
 |x::a,b,v,⟨w,h⟩=>by
  have h:(if bad v (dJ C x)=[] then f9 (eO v (dJ C x)) (fX C (a++b)) else none)=some w:=h;show ∃w,(if bad v (dJ C x)=[] then f9 (eO v (dJ C x)) (fX C a) else none)=some w
  by_cases hb:bad v (dJ C x)=[]
  .rw[if_pos hb] at h ⊢;exact Rh ⟨w,h⟩
  .rw[if_neg hb] at h;cases h
theorem Gd.cut(k:Gd g){gr:List (Key×D)}(hp:ld <+: g.ld)(hg:Gr g.C.length gr)(hd:∀x∈g.ln++ld,bV gr x=false):Gd { g with ld:=ld,gr:=gr }:=by
 obtain⟨r,e⟩:=hp;have ea:g.ln++g.ld=(g.ln++ld)++r:=by rw[<- e,afi]
 refine⟨k.w1,k.h1,k.nt,k.gc,λx m=>k.row x (by rw[ea];exact abp _ m),?_,?_,hd,hg,Rh (by rw[<- ea];exact k.run)⟩
 .have:=k.nd;rw[ea] at this;exact(ac3.mp this).1
 .have:=k.q_;rw[<- e,abR] at this
  lia
theorem ne1:mG (bD o) (.int 1)=some (.bl (!decide (o=some 1))):=by
 cases o with
 |none=>kernel_rfl
 |some p=>
  show(if(dD (.int p)&&dD (.int 1))=true then some (D.bl (!PyData.eqv (py (.int p)) (py (.int 1)))) else none)=_;have e:dD (.int (p:Int))=true:=by unfold dD;simp[fN,py,PyData.canLay0,PyData.depth]
  have e1:dD (.int 1)=true:=by unfold dD;simp[fN,py,PyData.canLay0,PyData.depth]
  rw[e,e1];simp only[py,PyData.eqv,agc,if_true]
  by_cases h:p=1
  .subst h;rfl
  .rw[abV (λz=>h (ab4 z)),show(((p:Int)==1)=false) from adu.mpr (by lia)]
theorem N8(hl:g.ln.length+g.ld.length<=900):tV (e2 mG (cE "Gate" "bad" Bt (aj 0) aJ) (eC (.int 1))) (some (gD g,.own)::s)=some (!decide (dh g=some 1)):=
 bu (aK (f6 rfl (II hl)) rfl ne1)
theorem Nh(hl:g.ln.length+g.ld.length<=900)(h:dh g≠some 1):Rp (gD g) []=some (.bl false,gD g):=by
 have ht:=N8 hl (s:=[none]);rw[abV h] at ht;exact k7 rfl (qB ht (e_ rfl))
def m5(g:G):D:=.tup [.str "look",tD g.ln,tD (cU g 1),.str (wd g (cU g 1))]
theorem Pq:aC (m5 g)=true:=by
 unfold m5 tD;simp only[aC,aM,eF,agc]
def abJ(g:G)(x:Int):G:={ g with ld:=[],gr:=putD g.gr (Sum.inl x) (m5 g) }
theorem Mp(k:Gd g)(h:dh g=some 1)(hx:g.ld=x::r):Rp (gD g) []=some (.bl true,gD (abJ g x)):=by
 have hl:=k.len;have ht:=N8 (g:=g) (by lia) (s:=[none]);rw[aaA h] at ht;have h1:cE "Gate" "look_of" zc (aj 0) (ay (eC (.int 1)) aJ) [some (gD g,.own),none]=some (tD (cU g 1),.own):=pP rfl rfl (f_look (by rw[hx,acj];lia) (by lia));have e1:∃t,nA (ay (eC (.str "look")) (ay (e1 xU (bX "Gate" "on_line" (aj 0))) (ay (aj 1) (ay (cE "Gate" "word_of" BZ (aj 0) (ay (aj 1) aJ)) aJ)))) [some (gD g,.own),some (tD (cU g 1),.own)]=some (m5 g,t):=by
  rw[tW,aW,aW,aW,aW,bf (fl rfl) vM,pP rfl rfl JD];exact⟨_,rfl⟩
 obtain⟨t,e1⟩:=e1;exact k7 rfl (c9 ht (sq (CY h1) (sq (iC (As e1 (aK (fl rfl) rfl (u9 (by rw[hx];exact LO) rfl)) rfl Pq k.gr.im (by have:=k.gr.len;have:=k.gc.ln;lia))) (sq (n6 rfl rfl rfl rfl) rfl))))
theorem Lj:Ev.s_ (bX "Gate" "laid_ones" (aj 0)) (some (gD g,.own)::s)=some (!g.ld.isEmpty):=by
 unfold Ev.s_;rw[fl rfl];cases g.ld<;>rfl
theorem P9(h:g.ld≠[]):Fc (gD g) []=some (.bl false,gD g):=by
 have ht:=Lj (g:=g) (s:=[none,none,none]);rw[show g.ld.isEmpty=false from List.isEmpty_eq_false_iff.mpr h] at ht;exact k7 rfl (qB ht (e_ rfl))
theorem JA(l:List Int):aC (ya l)=true:=by cases l<;>rfl
def kF(C:List Ch)(u:iO)(gr:List (Key×D))(x:Int):List (Key×D):=putD gr (Sum.inl x) (.tup [.str "unfit",ya (bad u (dJ C x))])
theorem VY(g:GoodC C)(x:Int):R5 [dS (nz v),eL (dJ C x)]=some (ya (bad (jS (nz v)) (dJ C x))):=
 cu rfl (cM (cT (ps:=[(bI (jS (nz v)),.own),(eL (dJ C x),.sh [])]) (by rw[aW,aW,bf rfl Mn];rfl) (Fi (g.ed x).ed (by lia) D.lst rfl)))
theorem M9{g:G}(gc:GoodC g.C):∀{l} {gr} {s3},Row g.C l->Gr g.C.length gr->∃x9,di (gN 3) (.sh [1]) (vB 0 "Gate" "grounds" (aj 3) (nA (ay (eC (.str "unfit")) (ay (cO R5 (ay (aj 2) (ay (cE "Changes" "edits_of" CC (bX "Gate" "known" (aj 0)) (ay (aj 3) aJ)) aJ))) aJ)))) (l.map D.int) [some (gD { g with gr:=gr },.own),some (iL N,.lk),some (dS (nz v),.own),s3]=some (.nx [some (gD { g with gr:=l.foldl (kF g.C (jS (nz v))) gr },.own),some (iL N,.lk),some (dS (nz v),.own),x9])
 |[],gr,s3,_,_=>⟨s3,rfl⟩
 |x::l,gr,s3,h,k=>by
  have hx:=h x aak;obtain⟨a,ih⟩:=M9 gc (gr:=kF g.C (jS (nz v)) gr x) (λy m=>h y (aaf _ m)) (k.put (i7.mpr (by lia)) (by simp only[aC,aM,JA,agc]));refine⟨a,(kP (aR:=[some (gD { g with gr:=gr },.own),some (iL N,.lk),some (dS (nz v),.own),some (.int x,.sh [1])]) rfl ((As (g:={ g with gr:=gr }) (t:=.own) ?_ rfl rfl (by simp only[aC,aM,JA,agc]) k.im (by have:=k.len;have:=gc.ln;show gr.length<=100;lia)).trans rfl)).trans ih⟩;rw[tW,aW,aW,cT (by rw[aW,aW,EN (fl rfl) rfl (Cq hx.1 hx.2)];rfl) (VY gc x)];rfl
def aY(g:G):List Int:=(wl g).filter (nW g.C g.ln)
theorem YF(k:Gd g)(h:g.ld=[]):∃u,Fc (gD g) []=some (.bl (!decide (aY g=[])),gD { g with gr:=(aY g).foldl (kF g.C u) g.gr }):=by
 have hl:=k.len;have gl:=k.gc.ln;have ht:=Lj (g:=g) (s:=[none,none,none]);rw[h] at ht;obtain⟨v,hv⟩:=k.run;rw[h,acI] at hv;have hw:=BJ (g:=g);have h1:cO zM (ay (bX "Gate" "known" (aj 0)) (ay (bX "Gate" "on_line" (aj 0)) (ay (jW aJ) (ay (cE "Gate" "waiting" wj (aj 0) aJ) aJ)))) [some (gD g,.own),none,none,none]=some (iL (aY g),.own):=
  cT (by rw[aW,aW,aW,aW,f6 rfl (uT (by lia))];rfl) (by
   have:=NJ k.gc (a:=g.ln) (b:=[]) (by simp;lia) qo (by lia);rw[acI] at this;exact this)
 have h2:cE "Gate" "sheet" acO (aj 0) aJ [some (gD g,.own),some (iL (aY g),.own),none,none]=some (dS (nz v),.own):=f6 rfl (cu rfl (cM (cT rfl (Ga k.gc (λx m=>k.row x (abp _ m)) (by lia) hv).1)));obtain⟨s3,lp⟩:=M9 k.gc (λx m=>qo x (acX.mp m).1) k.gr;refine⟨jS (nz v),k7 rfl (c9 ht (sq (CY h1) (sq (CY h2) (sq (ρ':=[some (gD { g with gr:=(aY g).foldl (kF g.C (jS (nz v))) g.gr },.own),some (iL (aY g),.own),some (dS (nz v),.own),s3]) (iC ((vf (gX rfl) lp).trans rfl)) ?_))))⟩;unfold ur;have:e2 mG (aj 1) (jW aJ) [some (gD { g with gr:=(aY g).foldl (kF g.C (jS (nz v))) g.gr },.own),some (iL (aY g),.own),some (dS (nz v),.own),s3]=some (.bl (!decide (aY g=[])),.own):=aK (d2:=iL []) rfl rfl (O9 _ _);rw[this];rfl
theorem aay(hl:g.ln.length+g.ld.length<=900):tV (e2 gR (cE "Gate" "bad" Bt (aj 0) aJ) (eC .aA)) (some (gD g,.own)::s)=some (dh g).isNone:=
 bu (aK (f6 rfl (II hl)) rfl (by cases dh g<;>rfl))
theorem BR(h:f ρ=some (r,[some (gD g',.own)])):vR f [0] ρ=some (.rt (.tup [r,gD g'])):=by
 unfold vR;rw[h];rfl
theorem KQ(h:f ρ=some (.bl false,ρ'))(h2:f2 ρ'=some (.bl b,bg)):vP f f2 ρ=some (.bl b,bg):=by
 unfold vP;rw[h];dsimp only;rw[h2]
theorem LU(h:f ρ=some (.bl true,ρ')):vP f f2 ρ=some (.bl true,ρ'):=by
 unfold vP;rw[h]
def Lf(g:G):Prop:=∀x∈wl g,∀y∈lean (sec g.C) x,gQ g y=false
def Full(g:G):Prop:=g.w<=(g.ld.length:Int)\/∀x∈wl g,∀v,f9 [] (fX g.C (g.ln++g.ld))=some v->nW g.C (g.ln++g.ld) x=true->jE g.C v x=false
structure Fin(g:G):Prop where
 lf:Lf g
 go:g.ht=false->dh g≠some 1/\(g.ld=[]->wl g=[])/\(dh g=none->Full g)
theorem Wb(k:Gd g)(lf:Lf g)(hd:g.ld=[])(h:aY g=[]):wl g=[]:=by
 cases e:wl g with
 |nil=>rfl
 |cons x r=>
  have mx:=e ▸ aak;have hx:=iQ.mp mx;have:=List.filter_eq_nil_iff.mp h x mx;refine absurd (adf.mpr λy my=>aaA ?_) this;have hy:=k.gc.bd x y hx.1.1 hx.1.2 my;refine ago λn=>?_
  have Qs:=iQ.mpr ⟨⟨hy.1,by omega⟩,n,(by rw[hd];exact aeK),lf x mx y my⟩;rw[e] at Qs;have:=Cw (g:=g);rw[e] at this;rcases aaQ.mp Qs with q|q
  .omega
  .have:=(adV.mp this).1 y q;omega
theorem Pw:∀{l:List Int} {gr},Gr n gr->(∀x∈l,x∈bY 1 n)->Gr n (l.foldl (kF C u) gr)/\∀y,bV (l.foldl (kF C u) gr) y=(decide (y∈l)||bV gr y)
 |[],gr,k,_=>⟨k,λy=>rfl⟩
 |x::l,gr,k,h=>by
  obtain⟨a,b⟩:=Pw (gr:=kF C u gr x) (k.put (h x aak) (by simp only[aC,aM,JA,agc])) λy m=>h y (aaf _ m)
  refine⟨a,λy=>?_⟩;rw[aeP,b];unfold kF;rw[m7,<- Bool.or_assoc]
  congr 1
  rw[<- Bool.decide_or];exact agW.mpr (by rw[aaQ];exact or_comm)
theorem M3:∀{l:List Int} {gr},l.Nodup->(∀x∈l,bV gr x=false)->gr <+: l.foldl (kF C u) gr
 |[],gr,_,_=>agx _
 |x::l,gr,nd,h=>by
  obtain⟨n1,n2⟩:=abZ.mp nd;have h1:gr <+: kF C u gr x/\∀y∈l,bV (kF C u gr x) y=false:=by
   unfold kF;refine⟨by rw[E3 (h x aak)];exact agZ _ _,λy m=>?_⟩;rw[m7,h y (aaf _ m),abV (show ¬y=x from λe=>n1 (e ▸ m))];rfl
  exact h1.1.trans (M3 n2 h1.2)
noncomputable def ir(g:G)(ex:List Int):G:={ g with ld:=g.ld++ex }
structure Up(g:G)(ld:List Int)(gr:List (Key×D)):Prop where
 gd:Gd { g with ld:=ld,gr:=gr }
 mo:∀x,bV g.gr x=true->bV gr x=true
 pf:g.gr <+: gr
abbrev oA(g:G)(gr:List (Key×D)):Prop:=∃x,bV gr x=true/\gQ g x=false
theorem Rk(k:Gd g)(hx:g.ld=x::r):Up g [] (putD g.gr (Sum.inl x) (m5 g))/\oA g (putD g.gr (Sum.inl x) (m5 g))/\cnt g.gr+1<=cnt (putD g.gr (Sum.inl x) (m5 g)):=by
 have mx:=hx ▸ aak;have rx:=k.row x (aaw _ mx);have nw:putD g.gr (Sum.inl x) (m5 g)=g.gr++[(Sum.inl x,m5 g)]:=E3 (k.kH x (aaw _ mx));refine⟨⟨k.cut List.nil_prefix (k.gr.put (i7.mpr (by lia)) Pq) λy m=>?_,(λy q=>by rw[m7,q,Bool.or_true]),by rw[nw];exact agZ _ _⟩,⟨x,by rw[m7,aaA rfl];rfl,k.kH x (aaw _ mx)⟩,by rw[nw,LC];exact abW _⟩;rw[acI] at m;rw[m7,show bV g.gr y=false from k.kH y (abp _ m),abV λe=>(ac3.mp k.nd).2.2 y m x mx e];rfl
theorem Z5(k:Gd g)(lf:Lf g):∃b ld gr,A5 (gD g) []=some (.bl b,gD { g with ld:=ld,gr:=gr })/\Up g ld gr/\(b=true->oA g gr)/\(b=false->gr=g.gr/\(g.ht=false->Fin { g with ld:=ld,gr:=gr })/\(dh g≠none->ld=g.ld)/\(Full g->ld=g.ld))/\(Fin g->g.ht=false->b=false)/\(∀p,dh g=some p->p≠1->b=false)/\(dh g=some 1->cnt g.gr+1<=cnt gr):=by
 have hl:=k.len;have gl:=k.gc.ln;have ht:=aay (g:=g) (by lia) (s:=[]);cases hb:dh g with
 |some p=>
  rw[hb] at ht;have hm:=zy hb;have tR:g.ld≠[]:=λe=>by rw[e] at hm;simp at hm;lia
  by_cases hp:p=1
  .subst hp;obtain⟨x,r,ex⟩:=ag2 tR;obtain⟨u,n,cn⟩:=Rk k ex;exact⟨true,[],_,k7 rfl (c9 ht (BR (LU (xo rfl (Mp k hb ex))))),u,(λ_=>n),(λe=>nomatch e),(λf h=>absurd hb (f.go h).1),(λp e np=>absurd (ab4 e).symm np),λ_=>cn⟩
  .have hn:dh g≠some 1:=by rw[hb];exact λz=>hp (ab4 z)
   exact⟨false,g.ld,g.gr,k7 rfl (c9 ht (BR (KQ (xo rfl (Nh (by lia) hn)) (xo rfl (P9 tR))))),⟨k,λ_ q=>q,agx _⟩,(λe=>nomatch e),(λ_=>⟨rfl,λ_=>⟨lf,λ_=>⟨hn,λe=>absurd e tR,λe=>by rw[show dh g=none from e] at hb;cases hb⟩⟩,λ_=>rfl,λ_=>rfl⟩),(λ_ _=>rfl),(λ_ _ _=>rfl),λe=>absurd (ab4 e) hp⟩
 |none=>
  rw[hb] at ht;obtain⟨v,hv⟩:=k.run;have Yb:=BJ (g:=g);obtain⟨ex,hf,F⟩:=adU k.gc k.row qo DM (by lia) (by lia) hv;have hf:cO Jk (ay (bX "Gate" "known" (aj 0)) (ay (bX "Gate" "on_line" (aj 0)) (ay (bX "Gate" "laid_ones" (aj 0)) (ay (cE "Gate" "waiting" wj (aj 0) aJ) (ay (e2 dW (bX "Gate" "numbers" (aj 0)) (eC (.int 0))) aJ))))) [some (gD g,.own)]=some (iL (g.ld++ex),.own):=
   cT (ps:=[(obj g.C,.sh [0]),(iL g.ln,.sh [0]),(iL g.ld,.sh [0]),(iL (wl g),.own),(.int g.w,.own)]) (by rw[aW,aW,aW,aW,f6 rfl (uT (by lia))];rfl) hf
  have UR:Full g->ex=[]:=λfu=>by
    rcases fu with h|h
    .rcases F.le with q|q
     .have:=k.q_;rw[abR] at q;exact agV (by lia)
     .exact q
    .cases ee:ex with
     |nil=>rfl
     |cons x r=>
      exact absurd (F.fst x r ee) λ⟨v,h1,h2,h3⟩=>by
       rw[h x (F.sub x (ee ▸ aak)) v h1 h2] at h3;cases h3
  have same:Full g->g.ld++ex=g.ld:=λfu=>by rw[UR fu,acI]
  have fg:Fin g->g.ht=false->ir g ex=g:=λf h=>by
   unfold ir;rw[same ((f.go h).2.2 hb)]
  have k1:Gd (ir g ex):=by
   refine⟨k.w1,k.h1,k.nt,k.gc,λx m=>?_,?_,?_,λx m=>?_,k.gr,let⟨v,h,_⟩:=F.run;⟨v,h⟩⟩
   .have m:x∈g.ln++(g.ld++ex):=m;rw[<- afi] at m;exact(abB.mp m).elim (k.row x) λm=>qo (g:=g) x (F.sub x m)
   .show(g.ln++(g.ld++ex)).Nodup;rw[<- afi];refine ac3.mpr ⟨k.nd,F.nd,λa ma b mb e=>?_⟩;have:=iQ.mp (F.sub b mb);exact(abB.mp ma).elim (λm=>this.2.1 (e ▸ m)) λm=>this.2.2.1 (e ▸ m)
   .show(((g.ld++ex).length:Nat):Int)<=g.w;rcases F.le with q|q
    .exact q
    .rw[q,acI];exact k.q_
   .have m:x∈g.ln++(g.ld++ex):=m;rw[<- afi] at m;exact(abB.mp m).elim (k.kH x) λm=>(iQ.mp (F.sub x m)).2.2.2
  have FL:∀x∈wl (ir g ex),x∈wl g/\x∉ex:=λx m=>by
   have h:=iQ.mp m;have h3:=h.2.2.1;exact⟨iQ.mpr ⟨h.1,h.2.1,λq=>h3 (abp _ q),h.2.2.2⟩,λq=>h3 (aaw _ q)⟩
  have DU:Lf (ir g ex):=λx m y my=>lf x (FL x m).1 y my
  have RA:Full (ir g ex):=by
   obtain⟨v',r1,r2⟩:=F.run;rcases r2 with q|q
   .exact .inl q
   .refine .inr λx m v jV hf'=>?_
    obtain⟨m1,m2⟩:=FL x m;have jV:f9 [] (fX g.C (g.ln++(g.ld++ex)))=some v:=jV;rw[r1] at jV;cases jV;exact q x m1 m2 hf'
  have Ir:=k1.len;have st:ju (yb 0 "Gate" "laid_ones" (cO Jk (ay (bX "Gate" "known" (aj 0)) (ay (bX "Gate" "on_line" (aj 0)) (ay (bX "Gate" "laid_ones" (aj 0)) (ay (cE "Gate" "waiting" wj (aj 0) aJ) (ay (e2 dW (bX "Gate" "numbers" (aj 0)) (eC (.int 0))) aJ))))))) [some (gD g,.own)]=some (.nx [some (gD (ir g ex),.own)]):=n6 hf rfl rfl rfl
  by_cases h1:dh (ir g ex)=some 1
  .have hm:=zy h1;obtain⟨x,r,e1⟩:=ag2 (λe:(ir g ex).ld=[]=>by rw[e] at hm;simp at hm);obtain⟨u,n,_⟩:=Rk k1 e1;exact⟨true,[],putD g.gr (Sum.inl x) (m5 (ir g ex)),k7 rfl (sq (fG ht st) (BR (LU (xo rfl (Mp k1 h1 e1))))),⟨u.gd,u.mo,u.pf⟩,(λ_=>n),(λe=>nomatch e),(λf h=>by rw[fg f h,hb] at h1;cases h1),(λp e=>nomatch e),λe=>nomatch e⟩
  .have RD:∀b gr,Fc (gD (ir g ex)) []=some (.bl b,gD { ir g ex with gr:=gr })->A5 (gD g) []=some (.bl b,gD { g with ld:=g.ld++ex,gr:=gr }):=λb gr h=>k7 rfl (sq (fG ht st) (BR (KQ (xo rfl (Nh (by lia) h1)) (xo rfl h))))
   by_cases he:(ir g ex).ld=[]
   .obtain⟨u,h⟩:=YF k1 he;obtain⟨a,b⟩:=Pw (l:=aY (ir g ex)) k1.gr λx m=>by have:=qo x (acX.mp m).1;exact i7.mpr (show 1<=x/\x<1+((ir g ex).C.length:Int) by lia)
    refine⟨_,g.ld++ex,_,RD _ _ h,⟨k1.cut (agx _) a λx m=>?_,(λx q=>(b x).trans (by rw[show bV (ir g ex).gr x=true from q,Bool.or_true])),M3 (DM.sublist afa) λx m=>(iQ.mp (acX.mp m).1).2.2.2⟩,λe=>?_,λe=>?_,λf h=>?_,(λp e=>nomatch e),(λe=>nomatch e)⟩
    .rw[b,show bV (ir g ex).gr x=false from k1.kH x m,abV λq=>?_]
     .rfl
     .have:=iQ.mp (acX.mp q).1;exact(abB.mp m).elim this.2.1 this.2.2.1
    .obtain⟨x,r,e1⟩:=ag2 (λz:aY (ir g ex)=[]=>by rw[z] at e;cases e);have mx:=e1 ▸ aak;exact⟨x,(b x).trans (by rw[aaA mx];rfl),(iQ.mp (FL x (acX.mp mx).1).1).2.2.2⟩
    .have e2:aY (ir g ex)=[]:=by simpa using e
     rw[e2];exact⟨rfl,λhh=>⟨DU,λ_=>⟨h1,λ_=>Wb k1 DU he e2,λ_=>RA⟩⟩,λz=>absurd rfl z,same⟩
    .have e3:=fg f h;rw[e3] at he;rw[e3,show aY g=[] from(by unfold aY;rw[(f.go h).2.1 he];rfl)];rfl
   .exact⟨false,g.ld++ex,g.gr,RD _ _ (P9 he),⟨k1,λx q=>q,agx _⟩,(λe=>nomatch e),(λ_=>⟨rfl,λhh=>⟨DU,λ_=>⟨h1,λe=>absurd e he,λ_=>RA⟩⟩,λz=>absurd rfl z,same⟩),(λ_ _=>rfl),(λp e=>nomatch e),λe=>nomatch e⟩
def dw(g:G):G:={ g with lk:=zS g }
abbrev cS:aN->Option (Bool×aN):=yO (lE (tV (bX "Gate" "halted" (aj 0)))) (tZ (xO 0 "Gate" "put_out_more" A5 aJ))
theorem Ks:lE (tV (bX "Gate" "halted" (aj 0))) [some (gD g,.own)]=some (!g.ht):=kN (bu (fl rfl))
theorem adz(h:g.ht=true):cS [some (gD g,.own)]=some (false,[some (gD g,.own)]):=by
 have:=Ks (g:=g);rw[h] at this;unfold cS yO;rw[this];rfl
theorem SQ(h:f ρ=some (.bl b,ρ')):tZ f ρ=some (b,ρ'):=by unfold tZ;rw[h]
theorem Kh(h:g.ht=false)(hm:A5 (gD g) []=some (.bl b,gD g1)):cS [some (gD g,.own)]=some (b,[some (gD g1,.own)]):=by
 have:=Ks (g:=g);rw[h] at this;refine Eq.trans ?_ (SQ (xo (ρ:=[some (gD g,.own)]) (m:="put_out_more") rfl hm));unfold cS yO;rw[this];rfl
theorem Oa(h:c ρ=some (false,aR)):k_ c f (n+1) ρ=some (.nx aR):=by rw[k_,h]
theorem Xc(h:c ρ=some (true,aR))(h2:f aR=some (.nx bg)):k_ c f (n+1) ρ=k_ c f n bg:=by
 rw[k_,h];dsimp only;rw[h2]
theorem Ou(k:Gd g):sZ (xO 0 "Gate" "put_out_leaning" zO aJ) [some (gD g,.own)]=some (.nx [some (gD (gS g),.own)]):=by
 unfold sZ;rw[xo rfl (abt k.gc k.gr)];rfl
theorem Tv(m:x∈wl g):x∈bY 1 g.C.length:=(acX.mp m).1
theorem HD(k:Gd g):Up g g.ld (gS g).gr/\Lf (gS g):=by
 obtain⟨a,b,c⟩:=zR k.gr λx m=>Tv m
 have sub:∀x∈wl (gS g),x∈wl g:=λx m=>by
  have h:=iQ.mp m;refine iQ.mpr ⟨h.1,h.2.1,h.2.2.1,?_⟩;cases q:gQ g x with
  |false=>rfl
  |true=>rw[show gQ (gS g) x=true from b x q] at h;cases h.2.2.2
 refine⟨⟨k.cut (agx _) a λx m=>?_,b,Sf DM λx m=>(iQ.mp m).2.2.2⟩,λx m y my=>EK k.gc.bd Cw qo k.gr x (sub x m) (iQ.mp m).2.2.2 y my⟩;cases q:bV (gS g).gr x with
 |false=>rfl
 |true=>
  rcases c x q with q|q
  .rw[show bV g.gr x=false from k.kH x m] at q;cases q
  .have:=iQ.mp q;exact((abB.mp m).elim this.2.1 this.2.2.1).elim
theorem BE(k:Gd g)(lf:Lf g):gS g=g:=by
 have:∀l:List Int,(∀x∈l,x∈wl g)->l.foldl (dN g.C) g.gr=g.gr:=λl=>by
  induction l with
  |nil=>intro _;rfl
  |cons x l ih=>
   intro h;have e:dN g.C g.gr x=g.gr:=by
    unfold dN;rw[show gone g.C g.gr x=[] from List.filter_eq_nil_iff.mpr λy my=>by rw[show bV g.gr y=false from lf x (h x aak) y my];exact abu]
   rw[aeP,e];exact ih λy m=>h y (aaf _ m)
 unfold gS;rw[this (wl g) λx m=>m]
theorem Qd(k:Gd g)(h:¬Lf g):oA g (gS g).gr:=by
 have⟨x,hx⟩:=ag6.mp h;have⟨mx,hx⟩:=ag6.mp hx;have⟨y,hy⟩:=ag6.mp hx;have⟨my,hy⟩:=ag6.mp hy;obtain⟨u,_⟩:=HD k;refine⟨x,?_,(iQ.mp mx).2.2.2⟩;cases q:bV (gS g).gr x with
 |true=>rfl
 |false=>
  have h1:=EK k.gc.bd Cw qo k.gr x mx q y my;rw[show bV ((wl g).foldl (dN g.C) g.gr) y=true from u.mo y (by simpa using hy)] at h1;cases h1
theorem Up.trans(a:Up g ld gr)(b:Up { g with ld:=ld,gr:=gr } Z_ Vn):Up g Z_ Vn:=⟨b.gd,λx q=>b.mo x (a.mo x q),a.pf.trans b.pf⟩
def rm(g:G):Nat:=((bY 1 g.C.length).filter λx=>!gQ g x).length
theorem QX:(bY a n).Nodup:=(Ab a n).imp λh=>by lia
theorem YE(mo:∀x,bV g.gr x=true->bV gr x=true):rm { g with ld:=ld,gr:=gr }<=rm g:=sub_len (QX.sublist afa) λx m=>by
 obtain⟨m1,m2⟩:=acX.mp m;refine acX.mpr ⟨m1,?_⟩;cases q:gQ g x with
 |false=>rfl
 |true=>rw[show gQ ({ g with ld:=ld,gr:=gr }:G) x=true from mo x q] at m2;cases m2
theorem afc(u:Up g ld gr)(n:oA g gr):rm { g with ld:=ld,gr:=gr } < rm g:=by
 obtain⟨x,h1,h2⟩:=n;have:=sub_len (l:=x::(bY 1 g.C.length).filter λx=>!bV gr x) (m:=(bY 1 g.C.length).filter λx=>!gQ g x) (abZ.mpr ⟨(λm=>by have:=(acX.mp m).2;rw[h1] at this;cases this),QX.sublist afa⟩) λy m=>by
  rcases aaQ.mp m with rfl|m
  .exact acX.mpr ⟨u.gd.gr.bd h1,by rw[h2];rfl⟩
  .obtain⟨m1,m2⟩:=acX.mp m;refine acX.mpr ⟨m1,?_⟩;cases q:gQ g y with
   |false=>rfl
   |true=>rw[u.mo y q] at m2;cases m2
 exact this
theorem YG(m n:Nat)(g:G)(hm:rm g<=m)(hn:m<n)(k:Gd g)(lf:Lf g)(hh:g.ht=false):∃ld gr,k_ cS (sZ (xO 0 "Gate" "put_out_leaning" zO aJ)) n [some (gD g,.own)]=some (.nx [some (gD { g with ld:=ld,gr:=gr },.own)])/\Up g ld gr/\Fin { g with ld:=ld,gr:=gr }/\(oA g gr\/gr=g.gr/\(dh g≠none->ld=g.ld)/\(Full g->ld=g.ld))/\(Fin g->gr=g.gr/\ld=g.ld)/\(∀p,dh g=some p->p≠1->ld=g.ld)/\(dh g=some 1->cnt g.gr+1<=cnt gr):=by
 induction n generalizing m g with
 |zero=>omega
 |succ n ih=>
  obtain⟨b,ld,gr,e,u,ht,hf,hs,IE,r_⟩:=Z5 k lf;cases b with
  |false=>
   obtain⟨f1,f2,f3,f4⟩:=hf rfl;refine⟨ld,gr,Oa (Kh hh e),u,f2 hh,.inr ⟨f1,f3,f4⟩,λf=>⟨f1,?_⟩,(λp e _=>f3 (by rw[e];exact λz=>by cases z)),λe=>by have:=r_ e;rw[f1] at this;omega⟩;cases hb:dh g with
   |none=>exact f4 ((f.go hh).2.2 hb)
   |some p=>exact f3 (by rw[hb];exact λz=>by cases z)
  |true=>
   have nw:=ht rfl;have l1:=afc u nw;obtain⟨u2,lf2⟩:=HD u.gd;cases m with
   |zero=>omega
   |succ m=>
    have l2:=YE (ld:=ld) u2.mo;obtain⟨ld3,gr3,e3,u3,f3,_⟩:=ih m (gS { g with ld:=ld,gr:=gr }) (adR l2 (by omega)) (by omega) u2.gd lf2 hh;have u4:=(u.trans u2).trans u3;refine⟨ld3,gr3,(Xc (Kh hh e) (Ou u.gd)).trans e3,u4,f3,.inl ?_,(λf=>absurd (hs f hh) (by decide)),(λp e np=>absurd (IE p e np) (by decide)),λe=>adR (r_ e) (Ot (u2.pf.trans u3.pf))⟩;obtain⟨x,h1,h2⟩:=nw;exact⟨x,u3.mo x (u2.mo x h1),h2⟩
theorem afE(k:Gd g):∃ld gr,mD (gD g) []=some (.aA,gD (dw { g with ld:=ld,gr:=gr }))/\Up g ld gr/\Fin { g with ld:=ld,gr:=gr }/\(g.ht=true->ld=g.ld)/\(oA g gr\/gr=g.gr/\(dh g≠none->ld=g.ld)/\(Full g->ld=g.ld))/\(Fin g->gr=g.gr/\ld=g.ld)/\(∀p,dh g=some p->p≠1->ld=g.ld)/\(dh g=some 1->g.ht=false->cnt g.gr+1<=cnt gr):=by
 obtain⟨u,lf⟩:=HD k;have fin:∀{ld} {gr},Up g ld gr->k_ cS (sZ (xO 0 "Gate" "put_out_leaning" zO aJ)) 4000 [some (gD (gS g),.own)]=some (.nx [some (gD { g with ld:=ld,gr:=gr },.own)])->mD (gD g) []=some (.aA,gD (dw { g with ld:=ld,gr:=gr })):=λ{ld gr} u e=>by
  have hl:=u.gd.len;have hl:=hl;exact qy rfl (sq (iC (Ou k)) (sq (iC e) (n6 (f6 rfl (ZL (by show g.ln.length+ld.length<=900;lia) (by show ld.length<64;lia) (by have:=k.h1;show g.h<=60;lia))) rfl rfl rfl))) rfl
 have old:(∀z,oA (gS g) z->oA g z):=λz ⟨x,h1,h2⟩=>⟨x,h1,by
  cases q:gQ g x with
  |false=>rfl
  |true=>rw[show gQ (gS g) x=true from u.mo x q] at h2;cases h2⟩
 by_cases hh:g.ht=true
 .refine⟨g.ld,(gS g).gr,fin u (Oa (adz hh)),u,⟨lf,λh=>by rw[show g.ht=true from hh] at h;cases h⟩,λ_=>rfl,?_,λf=>?_,λ_ _ _=>rfl,λ_ h=>by rw[hh] at h;cases h⟩
  .by_cases l:Lf g
   .exact .inr ⟨by rw[BE k l],λ_=>rfl,λ_=>rfl⟩
   .exact .inl (Qd k l)
  .rw[BE k f.lf];exact⟨rfl,rfl⟩
 .have hh:g.ht=false:=by simpa using hh
  have nl:rm (gS g)<=60:=by
   have:=afb (λx=>!gQ (gS g) x) (bY 1 g.C.length);rw[mU] at this;have:=k.gc.ln;unfold rm;show((bY 1 g.C.length).filter λx=>!gQ (gS g) x).length<=60
   lia
  obtain⟨ld,gr,e,u3,f3,d,s,n1,n2⟩:=YG 60 4000 (gS g) nl (by lia) u.gd lf hh;refine⟨ld,gr,fin (u.trans u3) e,u.trans u3,f3,(λh=>by rw[hh] at h;cases h),?_,λf=>?_,n1,λe _=>adR (Nat.add_le_add_right (Ot u.pf) 1) (n2 e)⟩
  .by_cases l:Lf g
   .rw[BE k l] at d;exact d
   .obtain⟨x,h1,h2⟩:=Qd k l;exact .inl ⟨x,u3.mo x h1,h2⟩
  .rw[BE k f.lf] at s;exact s f
theorem G5(h:fv ρ=some (.int j,t))(h0:ρ[0]? = some (some (gD g,.own)))(hl:(gF g).lookup f=some (.int i))(e:dR f (.int (i+j)) (gF g)=gF g'):ju (CA 0 "Gate" f fv) ρ=some (.nx (bT ρ 0 (gD g'))):=by
 refine iC ?_;unfold CA;rw[h,h0];show(if("Gate":Str)="Gate"/\(gF g).length<1000 then(match(gF g).lookup f with|some (.int k)=>some (Out.nx (bT ρ 0 (.ins "Gate" (dR f (.int (k+j)) (gF g)))))|_=>none) else none)=_;rw[if_pos ⟨rfl,by show 12<1000;decide⟩,hl];dsimp only;rw[e];rfl
theorem xH(h0:ρ[0]? = some (some (gD g,.own)))(h:F (gD g) []=some (r,gD g'))(hm:(gF g).lookup m=none:=by rfl):ju (sZ (xO 0 "Gate" m F aJ)) ρ=some (.nx (bT ρ 0 (gD g'))):=iC (by
 unfold sZ;rw[xo h0 h hm];rfl)
noncomputable def HF(g:G):G:={ g with ld:=[],ht:=true,br:=g.br+1 }
theorem abA(h:mD (gD (HF g)) []=some (.aA,gD g3)):Ob (gD g) []=some (.aA,gD g3):=
 qy rfl (sq (n6 rfl rfl rfl rfl) (sq (n6 (g:={ g with ld:=[] }) rfl rfl rfl rfl)
  (sq (G5 (g:={ g with ld:=[],ht:=true }) rfl rfl rfl rfl) (xH rfl h)))) rfl
theorem Vf(h:mD (gD { g with ht:=false }) []=some (.aA,gD g3)):Mt (gD g) []=some (.aA,gD g3):=
 qy rfl (sq (n6 rfl rfl rfl rfl) (xH rfl h)) rfl
noncomputable def u0(g:G)(c:Ch):G:={ g with C:=g.C++[c] }
theorem Ud(hl:l.length<=100)(hE:E.length<=100)(hm:vq g.C.length q l E=true)(hC:g.C.length<60)(h:mD (gD (u0 g (q,l,E))) []=some (.aA,gD g3)):Nq (gD g) [.int q,iL l,eL E]=some (.int (g.C.length+1),gD g3):=by
 have h1:Bq 0 "Gate" "known" "Changes" "added" Cn (ay (aj 1) (ay (aj 2) (ay (aj 3) aJ))) [some (gD g,.own),some (.int q,.sh []),some (iL l,.sh []),some (eL E,.sh []),none]=some (.int (g.C.length+1),[some (gD (u0 g (q,l,E)),.own),some (.int q,.sh []),some (iL l,.sh []),some (eL E,.sh []),none]):=by
  show(if("Gate":Str)="Gate"/\("Changes":Str)="Changes"/\([("entries",D.lst (g.C.map ent))]:List (Str×D)).lookup ("added":Str)=none/\apart 0 [(.int q,.sh []),(iL l,.sh []),(eL E,.sh [])]=true then(Cn (obj g.C) [.int q,iL l,eL E]).map _ else none)=_;rw[if_pos ⟨rfl,rfl,rfl,rfl⟩,Sx hl hE hm hC];rfl
 refine k7 rfl (sq (ρ':=[some (gD (u0 g (q,l,E)),.own),some (.int q,.sh []),some (iL l,.sh []),some (eL E,.sh []),some (.int (g.C.length + 1),.own)]) (iC (by
  show(match Bq 0 "Gate" "known" "Changes" "added" Cn (ay (aj 1) (ay (aj 2) (ay (aj 3) aJ))) [some (gD g,.own),some (.int q,.sh []),some (iL l,.sh []),some (eL E,.sh []),none] with|some (d,ρ')=>some (Out.nx (iD ρ' 4 d .own))|none=>none)=_;rw[h1];rfl)) (sq (xH rfl h) rfl))
def mE(g:G)(x:Int):G:={ g with ld:=if x∈g.ld then g.ld.takeWhile (λy=>!(y==x)) else g.ld,gr:=putD g.gr (Sum.inl x) (.tup [.str "withdrawn"]),br:=g.br+1 }
theorem QN:∀{l:List Int} {x},x∈l->l.findIdx? (· == x)=some (l.takeWhile λy=>!(y==x)).length
 |[],x,m=>nomatch m
 |a::l,x,m=>by
  rw[List.findIdx?_cons,List.takeWhile_cons];cases e:(a==x) with
  |true=>rfl
  |false=>
   rw[QN ((aaQ.mp m).resolve_left λq=>by rw[q] at e;simp at e)];rfl
theorem Ag{x:Int}:l.takeWhile (λy=>!(y==x)) <+: l:=List.takeWhile_prefix _
theorem adg{l:List Int}:l.take (l.takeWhile λy=>!(y==x)).length=l.takeWhile λy=>!(y==x):=by
 obtain⟨r,e⟩:=Ag (l:=l) (x:=x)
 conv=>lhs;rw[<- e]
 rw[e];exact(List.prefix_iff_eq_take.mp (Ag)).symm
theorem Rl:∀{l:List Int} {x},x∉l.takeWhile (λy=>!(y==x))
 |[],x,m=>nomatch m
 |a::l,x,m=>by
  rw[List.takeWhile_cons] at m;cases e:(a==x) with
  |true=>rw[e] at m;cases m
  |false=>
   rw[e] at m;rcases aaQ.mp m with q|q
   .rw[<- q] at e;simp at e
   .exact Rl q
theorem ad2(k:Gd g)(hx:1<=x/\x<=(g.C.length:Int))(nl:x∉g.ln)(no:gQ g x=false)(h:mD (gD (mE g x)) []=some (.aA,gD g3)):OG (gD g) [.int x]=some (.aA,gD g3):=by
 have t1:lE (tV (cE "Changes" "has" G0 (bX "Gate" "known" (aj 0)) (ay (aj 1) aJ))) [some (gD g,.own),some (.int x,.sh [])]=some false:=kN (b:=true) (bu (EN (fl rfl) rfl ((DA g.C x).trans (by unfold inR;rw[aaA hx.1,aaA hx.2];rfl))));have t2:jU (tV (e2 (jN false) (aj 1) (bX "Gate" "on_line" (aj 0)))) (tV (e2 (qO false) (aj 1) (bX "Gate" "grounds" (aj 0)))) [some (gD g,.own),some (.int x,.sh [])]=some false:=
  (qL ((bu (aK rfl (fl rfl) (by unfold iL;rw[BV,if_neg abu,IQ]))).trans (by rw[abV nl]))).trans (bu (aK rfl (fl rfl) (by show some (D.bl (gQ g x))=_;rw[no])))
 have t3:tV (e2 (jN false) (aj 1) (bX "Gate" "laid_ones" (aj 0))) [some (gD g,.own),some (.int x,.sh [])]=some (decide (x∈g.ld)):=bu (aK rfl (fl rfl) (by unfold iL;rw[BV,if_neg abu,IQ]));refine qy rfl (c9 t1 (c9 t2 (sq (ρ':=[some (gD { g with ld:=(mE g x).ld },.own),some (.int x,.sh [])]) ?_ (sq (iC (As rfl rfl rfl rfl k.gr.im (by have:=k.gr.len;have:=k.gc.ln;show g.gr.length<=100;lia)))
  (sq (G5 rfl rfl rfl rfl) (xH rfl h)))))) rfl
 by_cases mx:x∈g.ld
 .rw[aaA mx] at t3;have e1:e2 E8 (bX "Gate" "laid_ones" (aj 0)) (aj 1) [some (gD g,.own),some (.int x,.sh [])]=some (.int (g.ld.takeWhile λy=>!(y == x)).length,.own):=aK (fl rfl) rfl (by
   show(match dY (g.ld.map D.int) with|some ts=>(ts.findIdx? (· == x)).map λj:Nat=>D.int j|none=>none)=_;rw[ux];dsimp only;rw[QN mx];rfl)
  have c:lA (bX "Gate" "laid_ones" (aj 0)) (e2 E8 (bX "Gate" "laid_ones" (aj 0)) (aj 1)) [some (gD g,.own),some (.int x,.sh [])]=some (iL (mE g x).ld,.own):=by
   unfold lA;rw[fl rfl,e1];show(if aM (g.ld.map D.int)=true then some (D.lst (cutD (g.ld.map D.int) none (some ((g.ld.takeWhile λy=>!(y==x)).length:Int))),Tag.own) else none)=_;rw[if_pos (eF _),Cu (by rw[List.length_map];exact List.IsPrefix.length_le Ag),<- List.map_take,adg];unfold mE;rw[if_pos mx];rfl
  exact fG t3 (n6 c rfl rfl rfl)
 .rw[abV mx] at t3;refine gq t3 ?_;unfold mE;rw[if_neg mx];rfl
abbrev hd(ta:Ta)(L:List Int):List Str:=(qN ta L).getD []
theorem adw{L:List Int}:(bA (oH n t ta) (kL L)).getD (tob n t [])=tob n t (hd ta L):=by
 rw[RQ];unfold hd;cases qN ta L<;>rfl
theorem YC{L:List Int}:putD (oH n t ta) (kL L) (tob n t h)=oH n t (gp ta L h):=Ek (λ_ _=>pM)
theorem aeI{L:List Int}(hL:L≠[])(k:Gd g)(tn:(g.ta.map (·.1)).Nodup)(tl:g.ta.length<=5000)(hw:w∈(["yes","no","unsure"]:List Str))(hm:word g.n g.t (hd g.ta L)="more"):
  uR "Gate" "tallies" "Tally" "tell" (vI "Tally" BQ (ay (e2 dW (bX "Gate" "numbers" (aj 0)) (eC (.int 2))) (ay (e2 dW (bX "Gate" "numbers" (aj 0)) (eC (.int 3))) aJ))) Lp [some (gD g,.own),some (tD L,.sh []),some (.str w,.sh []),none,none] =
   some (.nx [some (gD { g with ta:=gp g.ta L (hd g.ta L++[w]) },.own),some (tD L,.sh []),some (.str w,.sh []),none,some (.str (word g.n g.t (hd g.ta L++[w])),.own)]):=by
 have e1:vI "Tally" BQ (ay (e2 dW (bX "Gate" "numbers" (aj 0)) (eC (.int 2))) (ay (e2 dW (bX "Gate" "numbers" (aj 0)) (eC (.int 3))) aJ)) [some (gD g,.own),some (tD L,.sh []),some (.str w,.sh []),none,none]=some (tob g.n g.t [],.own):=by
  show(match BQ (.ins "Tally" []) [.int g.n,.int g.t] with|some (.aA,d)=>some (d,Tag.own)|_=>none)=_;rw[U5 k.nt]
 have n1:((oH g.n g.t g.ta).map (·.1)).Nodup:=by
  unfold oH;rw[ade,show((λkv:List Key×D=>kv.1) ∘ λp:List Int×List Str=>(kL p.1,tob g.n g.t p.2))=kL ∘ (·.1) from rfl,<- ade];unfold List.Nodup at tn ⊢;rw[afC];exact tn.imp λq e=>q (pM e)
 refine(TV rfl rfl rfl rfl rfl (vV _) e1 adw (ab3 hw hm (by have:=Qy hm;have:=k.nt;lia)) ⟨rfl,by unfold kL;rw[ahe];exact adf.mpr λ_ _=>rfl,λz=>hL (List.map_eq_nil_iff.mp z),n1,size_le (by unfold oH;rw[List.length_map];lia),rfl⟩).trans ?_;rw[YC];rfl
def i8(g:G)(L:List Int)(w:Str):G:={ g with ta:=gp g.ta L (hd g.ta L++[w]),an:=g.an+1,en:=if(word g.n g.t (hd g.ta L++[w]) == "more")=true then g.en else g.en++[.tup [tD L,.str (word g.n g.t (hd g.ta L++[w]))]] }
def vj(g:G)(L:List Int):G:={ g with ld:=g.ld.drop (L.length-g.ln.length),ln:=L,gw:=g.gw++[L] }
theorem HA(L:List (List Int)):aM (bR L)=true:=yE.mpr λd m=>by
 obtain⟨l,_,rfl⟩:=ab1.mp m;exact eF l
theorem VR{L:List Int}(h1:g.ln.length<=L.length)(h2:L.length<=g.ln.length+g.ld.length)(hg:g.gw.length<=5000):rT (gD g) [tD L]=some (.aA,gD (vj g L)):=by
 have c:Bc (bX "Gate" "laid_ones" (aj 0)) (e2 j6 (e1 d7 (aj 1)) (e1 d7 (bX "Gate" "on_line" (aj 0)))) [some (gD g,.own),some (tD L,.sh [])]=some (iL (g.ld.drop (L.length-g.ln.length)),.own):=by
  have e1:e2 j6 (e1 d7 (aj 1)) (e1 d7 (bX "Gate" "on_line" (aj 0))) [some (gD g,.own),some (tD L,.sh [])]=some (.int ((L.length-g.ln.length:Nat):Int),.own):=aK (bf rfl (by show some (D.int (L.map D.int).length)=_;rw[List.length_map])) (bf (fl rfl) (by show some (D.int (g.ln.map D.int).length)=_;rw[List.length_map])) (by show some (D.int (_-_))=_;rw[Int.natCast_sub h1]);unfold Bc;rw[fl rfl,e1];show(if aM (g.ld.map D.int)=true then some (D.lst (cutD (g.ld.map D.int) (some ((L.length-g.ln.length:Nat):Int)) none),Tag.own) else none)=_;rw[if_pos (eF _),Rb (by rw[List.length_map];lia),<- List.map_drop];rfl
 refine qy rfl (sq (n6 c rfl rfl rfl) (sq (n6 (g:={ g with ld:=g.ld.drop (L.length - g.ln.length) }) (bf rfl M7) rfl rfl rfl) (iC ((A_ (es:=gF { g with ld:=g.ld.drop (L.length - g.ln.length),ln:=L }) rfl rfl rfl ?_).trans (by
  have:gD (vj g L)=.ins "Gate" (dR "grown" (.lst (bR g.gw++[tD L])) (gF { g with ld:=g.ld.drop (L.length-g.ln.length),ln:=L })):=by
   unfold gD gF vj bR;rw[adh];rfl
  rw[<- this]))))) rfl
 rw[HA,show aC (tD L)=true from eF L,aaA (size_le (by unfold bR;rw[List.length_map];lia))];rfl
def aU(g:G)(L:List Int)(w:Str):G:=if(word g.n g.t (hd g.ta L++[w]) == "yes")=true then vj (i8 g L w) L else i8 g L w
theorem T7{L:List Int}(hk:L∈g.lk)(hL:L≠[])(k:Gd g)(tn:(g.ta.map (·.1)).Nodup)(tl:g.ta.length<=5000)(hw:w∈(["yes","no","unsure"]:List Str))(hm:word g.n g.t (hd g.ta L)="more")(em:aM g.en=true)(el:g.en.length<=5000)(gl:g.gw.length<=5000)(h1:g.ln.length<=L.length)(h2:L.length<=g.ln.length+g.ld.length)
  (hs:mD (gD (aU g L w)) []=some (.aA,gD g3)):K6 (gD g) [tD L,.str w]=some (.str (word g.n g.t (hd g.ta L++[w])),gD g3):=by
 generalize ew:word g.n g.t (hd g.ta L++[w])=u;have ft:=aeI hL k tn tl hw hm;rw[ew] at ft;have hu:∀g':G,ju (sZ (xO 0 "Gate" "grow" rT (ay (aj 1) aJ))) [some (gD g',.own),some (tD L,.sh []),some (.str w,.sh []),none,some (.str u,.own)]=(rT (gD g') [tD L]).map λv=>.nx [some (v.2,.own),some (tD L,.sh []),some (.str w,.sh []),none,some (.str u,.own)]:=λg'=>by
  show ju (λρ=>(xO 0 "Gate" "grow" rT (ay (aj 1) aJ) ρ).map λw=>.nx w.2) _=_;have:xO 0 "Gate" "grow" rT (ay (aj 1) aJ) [some (gD g',.own),some (tD L,.sh []),some (.str w,.sh []),none,some (.str u,.own)]=(rT (gD g') [tD L]).map λv=>(v.1,bT [some (gD g',.own),some (tD L,.sh []),some (.str w,.sh []),none,some (.str u,.own)] 0 v.2):=by
   show(if("Gate":Str)="Gate"/\(gF g').lookup ("grow":Str)=none/\apart 0 [(tD L,.sh [])]=true then _ else none)=_;rw[if_pos ⟨rfl,rfl,rfl⟩];rfl
  unfold ju;dsimp only;rw[this];cases rT (gD g') [tD L]<;>rfl
 refine k7 rfl (c9 (bu (aK rfl (fl rfl) ((zV true L g.lk).trans (by rw[aaA hk];rfl)))) (sq ft (sq (ρ':=[some (gD { g with ta:=gp g.ta L (hd g.ta L++[w]),an:=g.an+1 },.own),some (tD L,.sh []),some (.str w,.sh []),none,some (.str u,.own)]) (G5 rfl rfl rfl rfl) (sq (ρ':=[some (gD (i8 g L w),.own),some (tD L,.sh []),some (.str w,.sh []),none,some (.str u,.own)]) ?_ (sq (ρ':=[some (gD (aU g L w),.own),some (tD L,.sh []),some (.str w,.sh []),none,some (.str u,.own)]) ?_ (sq (xH rfl hs) rfl))))))
 .have ht:tV (e2 jC (aj 4) (eC (.str "more"))) [some (gD { g with ta:=gp g.ta L (hd g.ta L++[w]),an:=g.an+1 },.own),some (tD L,.sh []),some (.str w,.sh []),none,some (.str u,.own)]=some (!(u == "more")):=rfl;unfold i8;rw[ew];cases e:(u==("more":Str)) with
  |true=>rw[e] at ht;rw[iW,ht];rfl
  |false=>
   rw[e] at ht;refine fG ht (iC ((A_ (d:=.tup [tD L,.str u]) rfl rfl rfl ?_).trans ?_))
   .have:aC (.tup [tD L,.str u])=true:=by unfold tD;simp only[aC,aM,eF,agc]
    rw[this,em,aaA (size_le (by lia))];rfl
   .rfl
 .have ht:tV (e2 oEq (aj 4) (eC (.str "yes"))) [some (gD (i8 g L w),.own),some (tD L,.sh []),some (.str w,.sh []),none,some (.str u,.own)]=some (u == "yes"):=rfl;unfold aU;rw[ew];cases e:(u==("yes":Str)) with
  |true=>
   rw[e] at ht;refine fG ht ((hu (i8 g L w)).trans ?_);rw[VR (g:=i8 g L w) h1 h2 gl];rfl
  |false=>rw[e] at ht;rw[iW,ht];rfl
theorem Tg(n t:Int)(h:List Str):word n t h="yes"\/bw (word n t h)=true\/word n t h="more":=by
 unfold word
 split
 .exact .inl rfl
 .split
  .exact .inr (.inl rfl)
  .split
   .exact .inr (.inl rfl)
   .exact .inr (.inr rfl)
theorem Mg(h:1<=n/\n<=t/\t<=20):word n t []="more":=by
 unfold word;rw[if_neg (by show ¬((0:Nat):Int) >= n;omega),if_neg (by show ¬((0:Nat):Int) >= n;omega),if_neg (by show ¬((0:Nat):Int) >= t;omega)]
theorem Wx(k:Gd g)(l:List Int):wd g l=word g.n g.t (hd g.ta l):=by
 unfold wd hd;cases qN g.ta l with
 |none=>exact(Mg k.nt).symm
 |some h=>rfl
structure Gt(k:Nat)(g:G):Prop where
 tn:(g.ta.map (·.1)).Nodup
 tl:g.ta.length<=k
 yl:∀l,word g.n g.t (hd g.ta l)="yes"->l.length<=g.ln.length
 em:aM g.en=true
 el:g.en.length<=k
 gl:g.gw.length<=k
 lg:g.gw.getLastD []=g.ln
 st:g.ht=true->g.ld=[]
 ll:(g.lk.length:Int)<=g.h
structure Lk(g:G)(ps:List Int):Prop where
 ri:lQ (eo g) ps
 ge:lim (eo g) g.h<=ps.length
 le:(ps.length:Int)<=g.h
 eq:g.lk=ps.map λp=>cU g p.toNat
structure Gi(k:Nat)(g:G):Prop where
 gd:Gd g
 gt:Gt k g
 fin:Fin g
 JZ:∃ps,Lk g ps
theorem pK(h:p<=g.ld.length):(cU g p).length=g.ln.length+p:=by
 unfold cU;rw[abR,agT];lia
theorem TY(k:Gd g)(hl:(g.lk.length:Int)<=g.h):Lk (dw g) (uG g):=by
 have hk:(iU g).length<=g.lk.length:=by
  have:=sub_len (l:=(iU g).map λp=>cU g p.toNat) (m:=g.lk) ?_ λl m=>?_
  .rwa [List.length_map] at this
  .unfold List.Nodup;rw[afC];refine rq.1.imp_of_mem λ{a b} ma mb lt e=>?_
   have:=congrArg List.length e;have ha:=(rq).2.1 a ma;have hb:=(rq).2.1 b mb;rw[pK (by lia),pK (by lia)] at this
   lia
  .obtain⟨p,mp,rfl⟩:=ab1.mp m;exact aa9 ((abe _ _).mp (acX.mp mp).2).1
 have hi:(kC (eo g) (iU g)).length<=(iU g).length:=afb _ _;have hh:=k.h1;obtain⟨a,b⟩:=LH (aZ:=g.h) 100 (kC (eo g) (iU g)) (by lia);exact⟨(Mz (g:=g)).1,a,b (by lia),rfl⟩
theorem settled(gd:Gd g)(gt:Gt k g):∃ld gr,mD (gD g) []=some (.aA,gD (dw { g with ld:=ld,gr:=gr }))/\Gi k (dw { g with ld:=ld,gr:=gr })/\Up g ld gr/\(oA g gr\/gr=g.gr/\(dh g≠none->ld=g.ld)/\(Full g->ld=g.ld))/\(Fin g->gr=g.gr/\ld=g.ld)/\(∀p,dh g=some p->p≠1->ld=g.ld)/\(dh g=some 1->g.ht=false->cnt g.gr+1<=cnt gr):=by
 obtain⟨ld,gr,e,u,f,h,d,s⟩:=afE gd;have L:=TY (g:={ g with ld:=ld,gr:=gr }) u.gd gt.ll;have v:=u.gd;refine⟨ld,gr,e,⟨⟨v.w1,v.h1,v.nt,v.gc,v.row,v.nd,v.q_,v.kH,v.gr,v.run⟩,⟨gt.tn,gt.tl,gt.yl,gt.em,gt.el,gt.gl,gt.lg,λq=>(h q).trans (gt.st q),?_⟩,⟨f.lf,f.go⟩,_,L⟩,u,d,s⟩;rw[L.eq,List.length_map];exact L.le
theorem Gi.mem(i:Gi k g)(m:l∈g.lk):∃p:Nat,1<=p/\(p:Int)<eo g/\p<=g.ld.length/\l=cU g p/\word g.n g.t (hd g.ta l)="more":=by
 obtain⟨ps,L⟩:=i.JZ;rw[L.eq] at m;exists 65;have hx:=L.ri.bd x mx;have he:=Ff (g:=g);have hp:x.toNat<=g.ld.length:=by omega
 refine⟨x.toNat,by omega,by omega,hp,rfl,?_⟩;have nb:mO g x.toNat=false:=by
  cases e:dh g with
  |none=>exact acC.mp e _ (by omega) hp
  |some q=>
   refine(zy e).2.2.2 _ (by omega) ?_;unfold eo qV at hx;rw[e] at hx;have:x<(q:Int):=hx.2;omega
 unfold mO at nb;rw[Wx i.gd] at nb;rcases Tg g.n g.t (hd g.ta (cU g x.toNat)) with h|h|h
 .have:=i.gt.yl _ h;rw[pK hp] at this;omega
 .rw[h] at nb;cases nb
 .exact h
theorem Gd.re(k:Gd g)(ta:Ta)(lk:List (List Int))(ht:Bool)(gw:List (List Int))(en:List D)(an br:Int):Gd { g with ta:=ta,lk:=lk,ht:=ht,gw:=gw,en:=en,an:=an,br:=br }:=⟨k.w1,k.h1,k.nt,k.gc,k.row,k.nd,k.q_,k.kH,k.gr,k.run⟩
theorem JU{L l:List Int}:hd (gp ta L h) l=if l=L then h else hd ta l:=by
 unfold hd qN
 by_cases e:l=L
 .rw[if_pos e,e,Fb];rfl
 .rw[if_neg e,Mv e]
theorem NK[DecidableEq κ]{es:List (κ×α)}:(gp es q d).length<=es.length+1:=by
 unfold gp
 split
 .rw[List.length_map];lia
 .rw[abR];exact abW _
theorem uS(v:Gd g)(t:Gt k g):∃ld gr,mD (gD g) []=some (.aA,gD (dw { g with ld:=ld,gr:=gr }))/\Gi k (dw { g with ld:=ld,gr:=gr }):=let⟨ld,gr,a,b,_⟩:=settled v t;⟨ld,gr,a,b⟩
theorem acq(i:Gi k g):∃ld gr,Ob (gD g) []=some (.aA,gD (dw { HF g with ld:=ld,gr:=gr }))/\Gi k (dw { HF g with ld:=ld,gr:=gr }):=by
 have v:=(i.gd.cut List.nil_prefix i.gd.gr λx m=>i.gd.kH x (abp _ (by rwa [acI] at m))).re g.ta g.lk true g.gw g.en g.an (g.br+1);have t:=i.gt;obtain⟨ld,gr,e,i'⟩:=uS v ⟨t.tn,t.tl,t.yl,t.em,t.el,t.gl,t.lg,λ_=>rfl,t.ll⟩;exact⟨ld,gr,abA e,i'⟩
theorem ae1(i:Gi k g):∃ld gr,Mt (gD g) []=some (.aA,gD (dw { g with ht:=false,ld:=ld,gr:=gr }))/\Gi k (dw { g with ht:=false,ld:=ld,gr:=gr }):=by
 have v:=i.gd.re g.ta g.lk false g.gw g.en g.an g.br;have t:=i.gt;obtain⟨ld,gr,e,i'⟩:=uS v ⟨t.tn,t.tl,t.yl,t.em,t.el,t.gl,t.lg,(λq=>by cases q),t.ll⟩;exact⟨ld,gr,Vf e,i'⟩
theorem Vt(i:Gi k g)(hx:x∈wl g\/x∈g.ld):∃ld gr,OG (gD g) [.int x]=some (.aA,gD (dw { mE g x with ld:=ld,gr:=gr }))/\Gi k (dw { mE g x with ld:=ld,gr:=gr }):=by
 have kd:=i.gd;have jm:(1<=x/\x<=(g.C.length:Int))/\x∉g.ln/\gQ g x=false:=by
  rcases hx with h|h
  .have:=iQ.mp h;exact⟨this.1,this.2.1,this.2.2.2⟩
  .exact⟨kd.row x (aaw _ h),λm=>(ac3.mp kd.nd).2.2 x m x h rfl,kd.kH x (aaw _ h)⟩
 have pre:(mE g x).ld <+: g.ld/\x∉(mE g x).ld:=by
  unfold mE
  by_cases m:x∈g.ld
  .dsimp only;rw[if_pos m];exact⟨Ag,Rl⟩
  .dsimp only;rw[if_neg m];exact⟨agx _,m⟩
 have v:=(kd.cut (gr:=putD g.gr (Sum.inl x) (.tup [.str "withdrawn"])) pre.1 (kd.gr.put (i7.mpr (by lia)) rfl) λy m=>by
  have ny:y≠x:=λe=>(abB.mp m).elim (λq=>jm.2.1 (e ▸ q)) λq=>pre.2 (e ▸ q)
  rw[m7,abV ny,Bool.false_or];exact kd.kH y ((abB.mp m).elim (abp _) λq=>aaw _ (pre.1.subset q))).re g.ta g.lk g.ht g.gw g.en g.an (g.br+1)
 have t:=i.gt;obtain⟨ld,gr,e,i'⟩:=uS v ⟨t.tn,t.tl,t.yl,t.em,t.el,t.gl,t.lg,(λq=>by
  have:=pre.1;rw[t.st q] at this;exact List.prefix_nil.mp this),t.ll⟩
 exact⟨ld,gr,ad2 kd jm.1 jm.2.1 jm.2.2 e,i'⟩
structure Gc(n:Nat)(c:Ch):Prop where
 ee:Ee c.2.2
 bd:∀x∈c.2.1,1<=x/\x<=(n:Int)
 few:c.2.1.length<=60
 ok:vq n c.1 c.2.1 c.2.2=true
theorem NL(h1:1<=m)(h2:m<=(C.length:Int)):ch (C++[c]) m=ch C m:=by
 unfold ch;rw[aea (by omega)]
theorem SN(h1:1<=m)(h2:m<=(C.length:Int)):lean (sec (C++[c])) m=lean (sec C) m:=by
 rw[<- uD h1 (by rw[abR,aek];lia),NL h1 h2,uD h1 h2]
theorem Ee.nil:Ee []:=⟨⟨.nil,aeC _⟩,.nil,λp m=>nomatch m⟩
theorem aa8(g:GoodC C)(k:Gc C.length c)(hl:C.length<60):GoodC (C++[c]):=by
 have at_:∀(Q:Ch->Prop),Q (0,[],[])->Q c->(∀m,Q (ch C m))->∀m,Q (ch (C++[c]) m):=λQ q0 qc h m=>by
  unfold ch;rw[List.getElem?_append]
  split
  .exact h m
  .cases e:([c]:List Ch)[(m-1).toNat-C.length]? with
   |none=>exact q0
   |some x=>
    have:=aeT e;rw[aaB.mp this];exact qc
 refine⟨by rw[abR,aek];lia,λm=>at_ (λc=>Ee c.2.2) Ee.nil k.ee (λm=>g.ed m) m,λm x h1 h2 mx=>?_,λm=>?_⟩
 .rw[abR,aek] at h2
  by_cases h3:m<=(C.length:Int)
  .rw[SN h1 h3] at mx;exact g.bd m x h1 h3 mx
  .have e:(ch (C++[c]) m)=c:=by
    unfold ch;rw[show(m-1).toNat=C.length by lia,aeL (abW _),Nat.sub_self];rfl
   rw[<- uD h1 (by rw[abR,aek];lia),e] at mx;have:=k.bd x mx
   lia
 .by_cases h1:1<=m
  .by_cases h2:m<=((C++[c]).length:Int)
   .rw[<- uD h1 h2];refine at_ (λc=>c.2.1.length<=60) (aeC _) k.few (λm=>?_) m;unfold ch;cases e:C[(m-1).toNat]? with
    |none=>exact aeC _
    |some x=>
     have cR:=(abD.mp e).1;have:=g.few (((m-1).toNat:Int)+1);rw[<- uD (by lia) (by lia)] at this;unfold ch at this;rw[show((((m-1).toNat:Int)+1-1).toNat)=(m-1).toNat by lia,e] at this;exact this
   .unfold lean;rw[if_pos h1,List.getElem?_eq_none (by rw[List.length_map];lia)];exact aeC _
  .unfold lean;rw[if_neg h1];exact aeC _
theorem aaJ(h:Row C row):fX (C++[c]) row=fX C row:=agm λx m=>by
 unfold dJ;rw[NL (h x m).1 (h x m).2]
theorem afp(i:Gi k g)(hc:Gc g.C.length c)(hl:g.C.length<60):∃ld gr,Nq (gD g) [.int c.1,iL c.2.1,eL c.2.2]=some (.int (g.C.length+1),gD (dw { u0 g c with ld:=ld,gr:=gr }))/\Gi k (dw { u0 g c with ld:=ld,gr:=gr }):=by
 have v:=i.gd;have lc:(g.C++[c]).length=g.C.length+1:=by rw[abR];rfl
 have v':Gd (u0 g c):=⟨v.w1,v.h1,v.nt,aa8 v.gc hc hl,(λx m=>by have:=v.row x m;show 1<=x/\x<=(((g.C++[c]).length:Nat):Int);rw[lc];lia),v.nd,v.q_,v.kH,⟨v.gr.im,v.gr.nd,(λq m=>by
  obtain⟨x,e,mx⟩:=v.gr.ks q m;have:=i7.mp mx;exact⟨x,e,i7.mpr (show 1<=x/\x<1+(((g.C++[c]).length:Nat):Int) by rw[lc];lia)⟩),v.gr.tp⟩,by
  obtain⟨w,h⟩:=v.run;exact⟨w,(congrArg (f9 []) (aaJ v.row)).trans h⟩⟩
 have t:=i.gt;obtain⟨ld,gr,e,i'⟩:=uS v' ⟨t.tn,t.tl,t.yl,t.em,t.el,t.gl,t.lg,t.st,t.ll⟩;exact⟨ld,gr,Ud (by have:=hc.few;lia) (by have:=hc.ee.ed.ln;lia) hc.ok hl e,i'⟩
theorem aar(i:Gi k g)(hk:k<=4000){L:List Int}(hL:L∈g.lk)(hw:w∈(["yes","no","unsure"]:List Str)):∃ld gr,K6 (gD g) [tD L,.str w]=some (.str (word g.n g.t (hd g.ta L++[w])),gD (dw { aU g L w with ld:=ld,gr:=gr }))/\Gi (k+1) (dw { aU g L w with ld:=ld,gr:=gr }):=by
 obtain⟨p,p1,p2,p3,eL,hm⟩:=i.mem hL;have Of:L.length=g.ln.length+p:=by rw[eL,pK p3]
 have nL:L≠[]:=λe=>by rw[e] at Of;simp at Of;lia
 have t:=i.gt;have v:=i.gd;have fa:=λ(g3:G) (hs:mD (gD (aU g L w)) []=some (.aA,gD g3))=>T7 hL nL v t.tn (adR t.tl (by lia)) hw hm t.em (adR t.el (by lia)) (adR t.gl (by lia)) (by lia) (by lia) hs
 have Aj:aM (i8 g L w).en=true/\(i8 g L w).en.length<=k+1:=by
  unfold i8;dsimp only
  split
  .exact⟨t.em,by have:=t.el;lia⟩
  .refine⟨yE.mpr λd m=>?_,by rw[abR];have:=t.el;simp;lia⟩;rcases abB.mp m with m|m
   .exact yE.mp t.em d m
   .rw[aaB.mp m];unfold tD;simp only[aC,aM,eF,agc]
 have Ni:(i8 g L w).ta.length<=k+1:=adR NK (by have:=t.tl;lia);have RB:((i8 g L w).ta.map (·.1)).Nodup:=EM t.tn;have v1:Gd (i8 g L w):=v.re _ g.lk g.ht g.gw _ _ g.br
 by_cases hy:word g.n g.t (hd g.ta L++[w])="yes"
 .have e2:aU g L w=vj (i8 g L w) L:=by unfold aU;rw[hy];rfl
  have dp:L.length-g.ln.length=p:=by lia
  have ea:L++g.ld.drop p=g.ln++g.ld:=by rw[eL];unfold cU;rw[afi,List.take_append_drop]
  have v2:Gd (vj (i8 g L w) L):=by
   refine⟨v.w1,v.h1,v.nt,v.gc,?_,?_,?_,?_,v.gr,?_⟩
   .show Row g.C (L++g.ld.drop (L.length-g.ln.length));rw[dp,ea];exact v.row
   .show(L++g.ld.drop (L.length-g.ln.length)).Nodup;rw[dp,ea];exact v.nd
   .show((g.ld.drop (L.length-g.ln.length)).length:Int)<=g.w;rw[List.length_drop];have:=v.q_;lia
   .show ∀x∈L++g.ld.drop (L.length-g.ln.length),gQ g x=false;rw[dp,ea];exact v.kH
   .show ∃v,f9 [] (fX g.C (L++g.ld.drop (L.length-g.ln.length)))=some v;rw[dp,ea];exact v.run
  obtain⟨ld,gr,e,i'⟩:=uS v2 ⟨RB,Ni,(λl hl=>by
   have hl:word g.n g.t (hd (gp g.ta L (hd g.ta L++[w])) l)="yes":=hl;rw[JU] at hl;show l.length<=L.length
   split at hl
   .rename_i q;rw[q];exact abW _
   .have:=t.yl l hl;lia),Aj.1,Aj.2,(by show(g.gw++[L]).length<=k+1;rw[abR];have:=t.gl;simp;lia),(by show(g.gw++[L]).getLastD []=L;rw[List.getLastD_concat]),(λq=>by
   show g.ld.drop _=[];rw[t.st q,List.drop_nil]),t.ll⟩
  exact⟨ld,gr,fa _ (by rw[e2];exact e),by rw[e2];exact i'⟩
 .have e2:aU g L w=i8 g L w:=by
   unfold aU;rw[if_neg (by simpa using hy)]
  obtain⟨ld,gr,e,i'⟩:=uS v1 ⟨RB,Ni,(λl hl=>by
   have hl:word g.n g.t (hd (gp g.ta L (hd g.ta L++[w])) l)="yes":=hl;rw[JU] at hl
   split at hl
   .exact absurd hl hy
   .exact t.yl l hl),Aj.1,Aj.2,(by have:=t.gl;show g.gw.length<=k+1;lia),t.lg,t.st,t.ll⟩
  exact⟨ld,gr,fa _ (by rw[e2];exact e),by rw[e2];exact i'⟩
def Wq(Q:Out->Prop)(o:Option Out):Prop:=∃r,o=some r/\Q r
section
variable{sf sg:SF}
theorem gC(h:sf ρ=some (.nx ρ'))(k:Wq Q (sg ρ')):Wq Q (bZ sf sg ρ):=let⟨x,e,p⟩:=k;⟨x,sq h e,p⟩
theorem wn(h:sf ρ=some (.nx ρ'))(k:Wq Q (sg ρ')):Wq Q (bZ (ju sf) sg ρ):=gC (iC h) k
theorem fH(h:f ρ=some (d,t))(k:Wq Q (sg (iD ρ i d t))):Wq Q (bZ (dF i f) sg ρ):=gC (by rw[jY,h];rfl) k
theorem uQ(h:f ρ=some (d,t))(k:Wq Q (sg (iD ρ i d t))):Wq Q (bZ (ju (dF i f)) sg ρ):=wn (by rw[jY,h];rfl) k
theorem gb(ρ':aN)(k:Wq Q (sg ρ'))(e:ρ=ρ':=by rfl):Wq Q (sg ρ):=e ▸ k
theorem uB(h:tf ρ=some b)(h1:b=true->Wq Q (sf ρ))(h2:b=false->Wq Q (sg ρ)):Wq Q (eX tf sf sg ρ):=by
 rw[iW,h];cases b with
 |true=>exact h1 rfl
 |false=>exact h2 rfl
theorem Oh(I:Nat->aN->Prop)(h0:I 0 ρ)(st:∀j ρ d,ds[j]? = some d->I j ρ->∃aR,g d t ρ=some aR/\Wq (λr=>∃bg,r=.nx bg/\I (j+1) bg) (sf aR)):∃ρ',di g t sf ds ρ=some (.nx ρ')/\I ds.length ρ':=by
 obtain⟨ρ',lp,h⟩:=Qz I h0 (λj ρ d hd h=>by
  rw[ahd] at h ⊢;obtain⟨aR,e1,_,e2,bg,rfl,h2⟩:=st j ρ d hd h;exact⟨aR,bg,e1,.inl e2,h2⟩)
 rw[ahd] at h;exact⟨ρ',lp,h⟩
theorem O2(I:Nat->aN->Prop)(hi:it ρ=some ((bY a n).map D.int,.own))(h0:I 0 ρ)(st:∀j ρ,j<n->I j ρ->∃aR,gN x (.int (a+j)) (.sh []) ρ=some aR/\Wq (λr=>∃bg,r=.nx bg/\I (j+1) bg) (sf aR))(k:∀ρ',I n ρ'->Wq Q (sg ρ')):Wq Q (bZ (jD it (gN x) sf) sg ρ):=by
 obtain⟨ρ',e,h⟩:=Oh (ds:=(bY a n).map D.int) I h0 (λj ρ d hd h=>by
  unfold bY at hd;rw[ade,acn] at hd;obtain⟨y,hy,rfl⟩:=acy.mp hd;obtain⟨hj,e⟩:=abD.mp hy;rw[ahn] at hj;rw[List.getElem_range] at e;subst e;exact st j ρ hj h)
 rw[List.length_map,mU] at h;exact gC (vE hi e) (k ρ' h)
theorem xP{I:aN->Prop}(h:Wq (λr=>∃ρ',r=.nx ρ'/\I ρ') (sf ρ))(k:∀ρ',I ρ'->Wq Q (sg ρ')):Wq Q (bZ sf sg ρ):=let⟨_,e,ρ',e2,p⟩:=h;gC (e.trans (by rw[e2])) (k ρ' p)
theorem afB{I:aN->Prop}(h:Wq (λr=>∃ρ',r=.nx ρ'/\I ρ') (sf ρ))(k:∀ρ',I ρ'->Wq Q (sg ρ')):Wq Q (bZ (ju sf) sg ρ):=let⟨_,e,ρ',e2,p⟩:=h;wn (e.trans (by rw[e2])) (k ρ' p)
theorem qt{P:D->Prop}(hl:ds.length=n)(h:Wq (λr=>∃d,r=.rt d/\P d) (B (vL N ds))):∃d,bJ n N B ds=some d/\P d:=let⟨_,e,d,h,p⟩:=h;⟨d,cu hl (e.trans (by rw[h])),p⟩
theorem HK{P:D->List D->Prop}(hl:ds.length=n)(h:Wq (λr=>(∃a es,r=.rt (.tup (a::es))/\P a es)\/∃ρ es,r=.nx ρ/\jZ J ρ=some es/\P .aA es) (B (mX J 0 ds++List.replicate (N-ds.length) none))):∃a es,m9 J n N B ds=some (a,es)/\P a es:=by
 obtain⟨r,e,h⟩:=h;unfold m9;rw[if_pos hl,e];rcases h with⟨a,es,rfl,p⟩|⟨ρ,es,rfl,ho,p⟩
 .exact⟨a,es,rfl,p⟩
 .dsimp only;rw[ho];exact⟨.aA,es,rfl,p⟩
theorem Qk(hg:g ρ=some ps)(hF:F (ps.map (·.1))=some (r,es))(ha:oB js sl ps=true:=by rfl):AM js sl F g ρ=some (.ok r (lG ρ js es)):=by
 unfold AM xJ;rw[hg];dsimp only;rw[if_pos ha,hF];rfl
theorem abr(hg:g ρ=some ps)(hF:F (ps.map (·.1))=some (r,es))(ha:oB js sl ps=true:=by rfl):xJ js sl F g ρ=some (r,lG ρ js es):=by
 unfold xJ;rw[hg];dsimp only;rw[if_pos ha,hF];rfl
theorem EH(h:f ρ=some (.ok d ρ')):xY i f ρ=some (.nx (iD ρ' i d .own)):=by unfold xY;rw[h]
end
theorem YK:Xs [gD g]=some (iL g.ln):=cu rfl (cM (bf (fl rfl) ue))
theorem Dw:Nn [gD g]=some (iL g.ld):=cu rfl (cM (bf (fl rfl) ue))
theorem Fd:adA [gD g]=some (.lst (bR g.lk)):=cu rfl (cM (bf (fl (d:=.lst (bR g.lk)) rfl) (if_pos (HA _))))
theorem HC:aaF [gD g]=some (.bl g.ht):=cu rfl (by rw[BO,fl rfl];rfl)
theorem Yz:Ys [gD g]=some (.lst (bR g.gw)):=cu rfl (cM (bf (fl (d:=.lst (bR g.gw)) rfl) (if_pos (HA _))))
theorem abg(h:aM g.en=true):ZN [gD g]=some (.lst g.en):=cu rfl (cM (bf (fl (d:=.lst g.en) rfl) (if_pos h)))
noncomputable def g0(w h n t:Int):G:=⟨w,h,n,t,[],[],[],[],[],[],false,[],[],0,0⟩
theorem YV(hw:1<=w/\w<=16)(hh:1<=h/\h<=8)(nt:1<=n/\n<=t/\t<=20):Oj (.ins "Gate" []) [.int w,.int h,.int n,.int t]=some (.aA,gD (g0 w h n t)):=by
 have q:∀{i} {v b},aj i [some (.ins "Gate" [],.own),some (.int w,.sh []),some (.int h,.sh []),some (.int n,.sh []),some (.int t,.sh [])]=some (.int v,.sh [])->1<=v/\v<=b->tV (cO mH (ay (aj i) (ay (eC (.int 1)) (ay (eC (.int b)) aJ)))) [some (.ins "Gate" [],.own),some (.int w,.sh []),some (.int h,.sh []),some (.int n,.sh []),some (.int t,.sh [])]=some true:=λh hb=>(wM h).trans (by unfold inR;rw[aaA hb.1,aaA hb.2];rfl)
 refine qy (ρ:=[some (gD (g0 w h n t),.own),some (.int w,.sh []),some (.int h,.sh []),some (.int n,.sh []),some (.int t,.sh [])]) rfl (c9 (kN ((Lc (q rfl hw)).trans ((Lc (q rfl hh)).trans (bu (cT (ps:=[(.int n,.sh []),(.int t,.sh [])]) rfl (OP nt)))))) ?_) rfl
 kernel_rfl
theorem S9(hw:1<=w/\w<=16)(hh:1<=h/\h<=8)(nt:1<=n/\n<=t/\t<=20):Gi 0 (g0 w h n t):=by
 refine⟨⟨hw,hh,nt,⟨aeC _,λm=>Ee.nil,λm x h1 h2=>?_,λm=>?_⟩,(λx m=>nomatch m),.nil,?_,(λx m=>nomatch m),⟨rfl,.nil,(λk m=>nomatch m),λp m=>nomatch m⟩,[],rfl⟩,⟨.nil,abW _,λl hl=>?_,rfl,abW _,abW _,rfl,λ_=>rfl,?_⟩,⟨(λx m=>nomatch m),λ_=>⟨(λe=>nomatch e),λ_=>rfl,λ_=>.inr λx m=>nomatch m⟩⟩,[],⟨.nil,λx m=>nomatch m⟩,?_,?_,rfl⟩
 .have h2:m<=((0:Nat):Int):=h2
  lia
 .unfold lean;split<;>exact aeC _
 .show((0:Nat):Int)<=w;lia
 .rw[show hd (g0 w h n t).ta l=[] from rfl,show word (g0 w h n t).n (g0 w h n t).t []="more" from Mg nt] at hl;exact absurd hl (by decide +kernel)
 .show((0:Nat):Int)<=h;lia
 .show lim ((0:Nat)+1:Int) h<=((0:Nat):Int);unfold lim;split<;>lia
 .show((0:Nat):Int)<=h;lia
noncomputable def dI(ns:List Int):D:=.gG (ns.map D.int)
noncomputable def ym(ns:List Int)(k:Int):Int:=if 0<ns.length then ns.getD (k % ns.length).toNat 0 else 0
def jo(ns:List Int)(k p m:Int):Int:=((ym ns k+k*k)*48271+11) % p % m
theorem nR(hm:0<m):0<=jo ns k p m/\jo ns k p m<m:=⟨Int.emod_nonneg _ (by omega),Int.emod_lt_of_pos _ hm⟩
theorem vn(h:-(2 ^ 64)<j/\j<2 ^ 64):rJ i j=true:=by unfold rJ;rw[aaA h.1,aaA h.2];simp
theorem EV:d7 (dI ns)=some (.int ns.length):=by unfold dI;show some (D.int (ns.map D.int).length)=_;rw[List.length_map]
theorem aeM(hk:0<=k/\k<=100000)(hp:0<p)(hm:0<m):sF [dI ns,.int k,.int p,.int m]=some (.int (jo ns k p m)):=by
 have e:∃d,sF [dI ns,.int k,.int p,.int m]=some d/\d=.int (jo ns k p m):=by
  refine qt rfl (fH rfl (gb [some (dI ns,.sh []),some (.int k,.sh []),some (.int p,.sh []),some (.int m,.sh []),some (.int 0,.own)] ?_));refine xP (I:=λρ=>ρ=[some (dI ns,.sh []),some (.int k,.sh []),some (.int p,.sh []),some (.int m,.sh []),some (.int (ym ns k),.own)]) ?_ λρ e=>?_
  .refine uB (bu (aK (bf rfl EV) rfl rfl)) (λh=>?_) λh=>?_
   .have h:=aa9 h;have h0:=Int.emod_nonneg k (show(ns.length:Int)≠0 by omega);have h1:=Int.emod_lt_of_pos k h;have hx:e2 dW (aj 0) (e2 oMod (aj 1) (e1 d7 (aj 0))) [some (dI ns,.sh []),some (.int k,.sh []),some (.int p,.sh []),some (.int m,.sh []),some (.int 0,.own)]=some (.int (ym ns k),.own):=aK rfl (aK rfl (bf rfl EV) (yx h)) (ace (by
     unfold ym;rw[if_pos (by omega)];exact Kw h0 (by omega)) rfl)
    exact⟨_,by rw[jY,hx];rfl,_,rfl,rfl⟩
   .have h:=of_decide_eq_false h;refine⟨_,rfl,_,rfl,?_⟩;unfold ym;rw[if_neg (by omega)]
  .subst e;exact⟨_,cM (aK (aK (aK (aK (aK rfl (aK rfl rfl (vA (vn (by omega)))) kO) rfl (vA (vn (by omega)))) rfl kO) rfl (yx hp)) rfl (yx hm)),_,rfl,rfl⟩
 obtain⟨_,e,rfl⟩:=e;exact e
theorem dr(h0:fs ρ=some (dI ns,t0))(h1:fk ρ=some (.int k,t1))(h2:fp ρ=some (.int p,t2))(h3:fm ρ=some (.int m,t3))(hk:0<=k/\k<=100000)(hp:0<p)(hm:0<m):cO sF (ay fs (ay fk (ay fp (ay fm aJ)))) ρ=some (.int (jo ns k p m),.own):=
 cT (ps:=[(dI ns,t0),(.int k,t1),(.int p,t2),(.int m,t3)]) (by rw[aW,aW,aW,aW,h0,h1,h2,h3];rfl) (aeM hk hp hm)
theorem B7(h:f ρ=some (.int x,t)):e2 iN (eC (.int a)) f ρ=some (.int (a+x),.own):=aK rfl h kO
noncomputable def b8(w h n t:Int):D:=.tup [.int w,.int h,.int n,.int t]
theorem So(hm:1<=m):∃d,WL [dI ns,.int m]=some d/\∃w h n t,d=b8 w h n t/\(1<=w/\w<=m)/\(1<=h/\h<=8)/\1<=n/\n<=t/\t<=4:=by
 have b1:=nR (ns:=ns) (k:=51) (p:=10499) (m:=m) (by omega);have b2:=nR (ns:=ns) (k:=52) (p:=10501) (m:=8) (by omega);have b4:=nR (ns:=ns) (k:=54) (p:=10529) (m:=2) (by omega);have b5:=nR (ns:=ns) (k:=55) (p:=10531) (m:=3) (by omega);refine qt rfl (fH (B7 (dr rfl rfl rfl rfl (by omega) (by omega) (by omega))) (fH (B7 (dr rfl rfl rfl rfl (by omega) (by omega) (by omega))) ?_));generalize jo ns 51 10499 m=x1 at b1 ⊢;generalize jo ns 52 10501 8=x2 at b2 ⊢;refine gb [some (dI ns,.sh []),some (.int m,.sh []),some (.int (1+x1),.own),some (.int (1+x2),.own),none] ?_;refine xP (I:=λρ=>∃h,ρ=[some (dI ns,.sh []),some (.int m,.sh []),some (.int (1+x1),.own),some (.int h,.own),none]/\1<=h/\h<=8) (uB (bu (aK (dr rfl rfl rfl rfl (by omega) (by omega) (by omega)) rfl rfl)) (λ_=>⟨_,rfl,_,rfl,1,rfl,by omega⟩) λ_=>⟨_,rfl,_,rfl,1+x2,rfl,by omega⟩) λρ ⟨h,e,hh⟩=>?_
 subst e;refine fH (B7 (dr rfl rfl rfl rfl (by omega) (by omega) (by omega))) ?_;generalize jo ns 54 10529 2=x4 at b4 ⊢;refine gb [some (dI ns,.sh []),some (.int m,.sh []),some (.int (1+x1),.own),some (.int h,.own),some (.int (1+x4),.own)] ?_;have q:=dr (ρ:=[some (dI ns,.sh []),some (.int m,.sh []),some (.int (1+x1),.own),some (.int h,.own),some (.int (1+x4),.own)]) (fs:=aj 0) (fk:=eC (.int 55)) (fp:=eC (.int 10531)) (fm:=eC (.int 3)) rfl rfl rfl rfl (by omega) (by omega) (by omega);generalize jo ns 55 10531 3=x5 at b5 q;refine⟨.rt (b8 (1+x1) h (1+x4) (1+x4+x5)),?_,_,rfl,_,_,_,_,rfl,by omega,hh,by omega⟩;have q2:e2 iN (aj 4) (cO sF (ay (aj 0) (ay (eC (.int 55)) (ay (eC (.int 10531)) (ay (eC (.int 3)) aJ))))) [some (dI ns,.sh []),some (.int m,.sh []),some (.int (1+x1),.own),some (.int h,.own),some (.int (1+x4),.own)]=some (.int (1+x4+x5),.own):=aK rfl q kO;rw[BO,tW,aW,aW,aW,aW,q2];rfl
abbrev N3:=List (Int×Ed)
def nD(N:N3):D:=.bO (N.map λp=>((Sum.inl p.1:Key),dT p.2))
structure Eo(p:Ed):Prop where
 s:0<=p.1/\p.1<=4
 o:0<=p.2.1/\p.2.1<=4
 n:0<=p.2.2/\p.2.2<=4
 d:p.2.1≠p.2.2
structure Nk(j:Nat)(N:N3):Prop where
 nd:(N.map (·.1)).Nodup
 ok:∀q∈N,q.2.1=q.1/\Eo q.2
 ln:N.length<=j
theorem Nk.put(h:Nk j N)(e:Eo p):Nk (j+1) (gp N p.1 p):=⟨EM h.nd,λq m=>(R1 m).elim (h.ok q) λz=>by rw[z];exact⟨rfl,e⟩,adR NK (by have:=h.ln;lia)⟩
structure Sv(es:iO):Prop where
 kb:Kb es
 bd:∀k,0<=gV es k/\gV es k<=4
structure Eg(E:List Ed):Prop where
 inc:(E.map (·.1)).Pairwise (· < ·)
 ok:∀p∈E,Eo p
 few:E.length<=3
theorem Eg.ee(g:Eg E):Ee E:=⟨⟨g.inc.imp λh=>by lia,by have:=g.few;lia⟩,g.inc.imp λh=>by lia,λp m=>i7.mpr (by have:=(g.ok p m).s;lia)⟩
theorem ZC(N:N3):aM ((N.map λp=>((Sum.inl p.1:Key),dT p.2)).map (·.2))=true:=yE.mpr λd m=>by
 rw[ade] at m;obtain⟨q,_,rfl⟩:=ab1.mp m;rfl
theorem Ml:∀N:N3,jn (N.map λp=>((Sum.inl p.1:Key),dT p.2))=some (N.map (·.1))
 |[]=>rfl
 |q::r=>by
  rw[aan];show(jn (r.map λp=>((Sum.inl p.1:Key),dT p.2))).map _=_;rw[Ml r];rfl
theorem VW{N:N3}(m:s∈N.map (·.1)):∃p,gv N s=some p/\(s,p)∈N:=by
 unfold gv;obtain⟨q,mq,e⟩:=ab1.mp m;cases h:N.find? λkv=>decide (kv.1=s) with
 |none=>exact absurd (aaA e) (afU.mp h q mq)
 |some z=>
  have h1:=aa9 (ahj (p:=λkv:Int×Ed=>decide (kv.1=s)) h);exact⟨z.2,rfl,h1 ▸ agL h⟩
theorem IV(hk:0<=k/\k<=100000)(hp:0<p)(hm:0<m):∃v,(0<=v/\v<m)/\jo ns k p m=v:=⟨_,nR hm,rfl⟩
def rD(ns:List Int)(k:Int)(es:iO)(N:N3)(s4 s5 s6 s7:Slot):aN:=[some (dI ns,.sh []),some (.int k,.sh []),some (bI es,.sh []),some (nD N,.own),s4,s5,s6,s7]
theorem SR(hk:0<=k/\k<=100)(sv:Sv es):∃d,PJ [dI ns,.int k,bI es]=some d/\∃E,d=eL E/\Eg E:=by
 obtain⟨c,bc,ec⟩:=IV (k:=k) (p:=10559) (m:=4) (by lia) (by lia) (by lia);have hc:=dr (ρ:=rD ns k es [] none none none none) (fs:=aj 0) (fk:=aj 1) (fp:=eC (.int 10559)) (fm:=eC (.int 4)) rfl rfl rfl rfl (by lia) (by lia) (by lia);rw[ec] at hc;obtain⟨n,rfl⟩:∃n:Nat,c=n:=⟨c.toNat,by lia⟩
 refine qt rfl (fH rfl (gb (rD ns k es [] none none none none) ?_));refine O2 (λj ρ=>∃N s4 s5 s6 s7,ρ=rD ns k es N s4 s5 s6 s7/\Nk j N) (RJ hc (by lia)) ⟨[],_,_,_,_,rfl,.nil,(λq m=>nomatch m),abW _⟩ (λj ρ hj ⟨N,s4,s5,s6,s7,e,nk⟩=>?_) λρ ⟨N,s4,s5,s6,s7,e,nk⟩=>?_
 .subst e;rw[Int.zero_add];have hj:j<4:=by lia
  refine⟨rD ns k es N (some (.int j,.sh [])) s5 s6 s7,rfl,?_⟩;obtain⟨s,bs,e⟩:=IV (k:=k+7*j) (p:=10567) (m:=5) (by lia) (by lia) (by lia);refine fH (dr rfl (aK rfl (aK rfl rfl (vA (vn (by lia)))) kO) rfl rfl (by lia) (by lia) (by lia)) ?_;rw[e];refine fH (by rw[LL];show(sG (bI es) (.int s) (.int 0)).map _=_;rw[Sa];rfl) (gb (rD ns k es N (some (.int j,.sh [])) (some (.int s,.own)) (some (.int (gV es s),.own)) s7) ?_);have kj:∀s6 s7,e2 iN (aj 1) (aj 4) (rD ns k es N (some (.int j,.sh [])) (some (.int s,.own)) s6 s7)=some (.int (k+j),.own):=λ_ _=>aK rfl rfl kO
  refine xP (I:=λρ=>∃o,ρ=rD ns k es N (some (.int j,.sh [])) (some (.int s,.own)) (some (.int o,.own)) s7/\0<=o/\o<=4) (uB (bu (aK (dr rfl (kj _ _) rfl rfl (by lia) (by lia) (by lia)) rfl rfl)) (λ_=>?_) λ_=>⟨_,rfl,_,rfl,_,rfl,sv.bd s⟩) λρ ⟨o,e,ho⟩=>?_
  .have b:=nR (ns:=ns) (k:=k+j) (p:=10597) (m:=3) (by lia);exact⟨_,by rw[jY,dr rfl (kj _ _) rfl rfl (by lia) (by lia) (by lia)];rfl,_,rfl,_,rfl,b.1,by lia⟩
  subst e;obtain⟨v,bv,e⟩:=IV (k:=k+3*j) (p:=10601) (m:=4) (by lia) (by lia) (by lia);refine fH (dr rfl (aK rfl (aK rfl rfl (vA (vn (by lia)))) kO) rfl rfl (by lia) (by lia) (by lia)) ?_;rw[e];refine gb (rD ns k es N (some (.int j,.sh [])) (some (.int s,.own)) (some (.int o,.own)) (some (.int v,.own))) ?_;refine xP (I:=λρ=>∃z,ρ=rD ns k es N (some (.int j,.sh [])) (some (.int s,.own)) (some (.int o,.own)) (some (.int z,.own))/\(0<=z/\z<=4)/\o≠z) (uB rfl (λh=>⟨_,rfl,_,rfl,o+1,rfl,by have:=eq_of_beq h;lia,by lia⟩) λh=>⟨_,rfl,_,rfl,v,rfl,by lia,λq=>by rw[q] at h;simp at h⟩) λρ ⟨z,e,hz,ne⟩=>?_
  subst e;have nk':=nk.put (p:=(s,o,z)) ⟨by show 0<=s/\s<=4;lia,ho,hz,ne⟩;refine⟨.nx (rD ns k es (gp N s (s,o,z)) (some (.int j,.sh [])) (some (.int s,.own)) (some (.int o,.own)) (some (.int z,.own))),?_,_,rfl,_,_,_,_,_,rfl,nk'⟩;show(if(aC (dT (s,o,z))&&aM ((N.map λp=>((Sum.inl p.1:Key),dT p.2)).map (·.2))&&decide ((N.map λp=>((Sum.inl p.1:Key),dT p.2)).length<sizeLine))=true then some (Out.nx (bT _ 3 (.bO (putD (N.map λp=>((Sum.inl p.1:Key),dT p.2)) (Sum.inl s:Key) (dT (s,o,z)))))) else none)=_;rw[if_pos (by rw[ZC,List.length_map,aaA (size_le (by have:=nk.ln;lia))];rfl),Ek (φ:=(Sum.inl:Int->Key)) (ψ:=dT) λa b=>ahk];rfl
 .subst e;have hn:=nk.ln;have hs:e1 nh (aj 3) (rD ns k es N s4 s5 s6 s7)=some (iL (dU (N.map (·.1))),.own):=bf rfl (by
   show(match jn (N.map λp=>((Sum.inl p.1:Key),dT p.2)) with|some ns=>if ns.length<64 then some (D.lst ((dU ns).map D.int)) else none|none=>none)=_;rw[Ml];dsimp only;rw[if_pos (by rw[List.length_map];lia)];rfl)
  have hv:∀x∈dU (N.map (·.1)),∃p,gv N x=some p/\p.1=x/\Eo p:=λx mx=>by
   obtain⟨p,h1,h2⟩:=VW (Jm.mp mx);exact⟨p,h1,nk.ok _ h2⟩
  have hc:=jH (js:=[none,some 3]) (g:=gN 0) (tt:=uw) (te:=e2 oX (aj 1) (aj 0)) (k:=λd=>match d with | .int x=>(gv N x).map dT | _=>none) (gX hs) (by rw[List.length_map,Cv,List.length_map];exact size_le (by lia)) (λd m=>by
   exists 65;obtain⟨p,h1,_⟩:=hv x mx;show _=some ((gv N x).map dT);rw[h1];exact qz rfl rfl (aK rfl rfl (by
    show(bA (N.map λp=>((Sum.inl p.1:Key),dT p.2)) (Sum.inl x:Key)).bind _=_;rw[wL (φ:=(Sum.inl:Int->Key)) (ψ:=dT) λa b=>ahk,h1];rfl)))
  have he:((dU (N.map (·.1))).map D.int).filterMap (λd=>match d with|.int x=>(gv N x).map dT|_=>none)=((dU (N.map (·.1))).filterMap λx=>gv N x).map dT:=by
   rw[aeY,List.map_filterMap];rfl
  rw[he] at hc;refine⟨_,cM hc,_,rfl,_,rfl,?_,λp m=>?_,?_⟩
  .have e1:((dU (N.map (·.1))).filterMap λx=>gv N x).map (·.1)=dU (N.map (·.1)):=by
    have:∀l:List Int,(∀x∈l,∃p,gv N x=some p/\p.1=x/\Eo p)->(l.filterMap λx=>gv N x).map (·.1)=l:=λl=>by
     induction l with
     |nil=>intro _;rfl
     |cons x r ih=>
      intro h;obtain⟨p,h1,h2,_⟩:=h x aak;rw[ael,h1];dsimp only;rw[aan,h2,ih λy m=>h y (aaf _ m)]
    exact this _ hv
   rw[e1];exact WT nk.nd
  .obtain⟨x,mx,e⟩:=agt.mp m;obtain⟨q,h1,_,h3⟩:=hv x mx;rw[h1] at e;cases e;exact h3
  .have:=List.length_filterMap_le (λx=>gv N x) (dU (N.map (·.1)));rw[Cv,List.length_map] at this
   lia
def rS(ns:List Int)(k:Int)(es:iO)(m:Int)(s4 s5 s6 s7 s8:Slot):aN:=[some (dI ns,.sh []),some (.int k,.sh []),some (bI es,.own),some (.int m,.sh []),s4,s5,s6,s7,s8]
def se(c:Ch):D:=.tup [.int c.1,iL c.2.1,eL c.2.2]
theorem Sv.eO(s:Sv es)(g:Eg E):Sv (eO es E):=by
 refine⟨s.kb.eO g.ee,λk=>?_⟩;obtain⟨g1,g2⟩:=AK E es k g.ee.nd
 by_cases mj:k∈E.map (·.1)
 .obtain⟨p,mp,rfl⟩:=ab1.mp mj;unfold gV;rw[g1 p mp rfl];exact(g.ok p mp).n
 .unfold gV;rw[g2 mj];exact s.bd k
theorem afs(h:Eo p):qU p=true:=by
 have h1:=h.s;have h2:=h.o;have h3:=h.n;unfold qU inR;rw[aaA h1.1,aaA (show p.1<=999 by lia),aaA h2.1,aaA (show p.2.1<=1000000000 by lia),aaA h3.1,aaA (show p.2.2<=1000000000 by lia),show(p.2.1==p.2.2)=false from by simpa using h.d];rfl
theorem abY{m:Nat}(hk:0<=k/\k<=100)(sv:Sv es)(hm:m<=60):∃a e,K5 [dI ns,.int k,bI es,.int m]=some (a,e)/\∃c,a=se c/\e=[bI (eO es c.2.2)]/\Gc m c/\Eg c.2.2:=by
 refine HK rfl (uQ rfl (gb (rS ns k es m (some (iL [],.own)) none none none none) ?_));refine afB (I:=λρ=>∃l:List Int,ρ=rS ns k es m (some (iL l,.own)) none none none none/\l.Pairwise (· < ·)/\(∀x∈l,1<=x/\x<=(m:Int))/\l.length<=60) (uB (bu (aK (dr rfl rfl rfl rfl (by lia) (by lia) (by lia)) rfl rfl)) (λ_=>?_) λ_=>⟨_,rfl,_,rfl,[],rfl,.nil,(λx m=>nomatch m),by simp⟩) λρ ⟨l,e,l1,l2,l3⟩=>?_
 .have hi:qF (eC (.int 1)) (e2 iN (aj 3) (eC (.int 1))) (rS ns k es m (some (iL [],.own)) none none none none)=some ((bY 1 m).map D.int,.own):=by
   rw[zP rfl rfl (oW (by lia) (by lia)) (oW (by lia) (by lia)),show((m:Int)+1-1).toNat=m by lia]
  have hc:=xB (js:=[none,some 0,some 1]) (tt:=tV (e2 oEq (cO sF (ay (aj 1) (ay (e2 iN (aj 2) (e2 wX (eC (.int 5)) (aj 0))) (ay (eC (.int 10613)) (ay (eC (.int 4)) aJ))))) (eC (.int 0)))) hi (by rw[mU];lia) (λx=>rfl) (λx mx=>by
   have:=i7.mp mx;exact bu (aK (dr rfl (aK rfl (aK rfl rfl (vA (vn (by lia)))) kO) rfl rfl (by lia) (by lia) (by lia)) rfl rfl))
  refine⟨_,by rw[jY,hc];rfl,_,rfl,_,rfl,(Ab 1 m).sublist afa,λx mx=>by have:=i7.mp (acX.mp mx).1;lia,?_⟩;have:=afb (λx=>jo ns (k+5*x) 10613 4==0) (bY 1 m);rw[mU] at this
  lia
 subst e;obtain⟨_,fE,E,rfl,gE⟩:=SR hk sv;have b:=nR (ns:=ns) (k:=k) (p:=10627) (m:=10) (by lia);have hd:=dr (ρ:=rS ns k es m (some (iL l,.own)) none none none none) (fs:=aj 0) (fk:=aj 1) (fp:=eC (.int 10627)) (fm:=eC (.int 10)) rfl rfl rfl rfl (by lia) (by lia) (by lia);generalize jo ns k 10627 10=r at b hd;have ht:BY (cO sF (ay (aj 0) (ay (aj 1) (ay (eC (.int 10627)) (ay (eC (.int 10)) aJ))))) 4 (cO PJ (ay (aj 0) (ay (aj 1) (ay (aj 2) aJ)))) (rS ns k es m (some (iL l,.own)) none none none none)=some (.ok (se (r,l,E)) (rS ns k es m none none none none none)):=by
  unfold BY;rw[hd,cT rfl fE];rfl
 refine wn (EH ht) (gb (rS ns k es m none (some (se (r,l,E),.own)) none none none) ?_);have kl:=sv.kb.len;have el:=gE.few;obtain⟨t6,t7,t8,lp⟩:=Bg (g:=gT (d_ (gN 6) (d_ (gN 7) (d_ (gN 8) lR)))) (f:=qG 2 (aj 6) (aj 8)) (λv x y z=>rS ns k v m none (some (se (r,l,E),.lk)) x y z) (λ_ _ _ _ _=>rfl) (λv p h=>JP rfl rfl rfl h) (E:=E) (v:=es) (by lia);refine wn (vf rfl lp) (gb (rS ns k (eO es E) m none (some (se (r,l,E),.own)) t6 t7 t8) ?_);refine⟨_,rfl,.inl ⟨_,_,rfl,(r,l,E),rfl,rfl,⟨gE.ee,l2,l3,?_⟩,gE⟩⟩;unfold vq zg inR;rw[aaA b.1,aaA (show r<=9 by lia),GI l1,GI gE.inc,adf.mpr (λp mp=>afs (gE.ok p mp)),aaA (show(E.length:Int)<=20 by lia),adf.mpr (λx mx=>by rw[aaA (l2 x mx).1,aaA (l2 x mx).2];rfl)];rfl
theorem WD(ht:0<=t/\t<=100000):∃d,V9 [dI ns,tD l,.int t]=some d/\∃w:Str,d=.str w/\w∈(["yes","no","unsure"]:List Str):=by
 refine qt rfl (fH rfl ?_);obtain⟨ρ',lp,x,tg,s4,e,hx⟩:=Oh (g:=gN 4) (t:=.sh []) (ds:=l.map D.int) (sf:=dF 3 (e2 oMod (e2 iN (e2 wX (aj 3) (eC (.int 67))) (aj 4)) (eC (.int 1000003)))) (λ_ ρ=>∃x tg s4,ρ=[some (dI ns,.sh []),some (tD l,.sh []),some (.int t,.sh []),some (.int x,tg),s4,none]/\0<=x) ⟨t,_,_,rfl,ht.1⟩ (λj ρ d hd ⟨x,tg,s4,e,hx⟩=>by
  subst e;rw[acn] at hd;obtain⟨y,hy,rfl⟩:=acy.mp hd;have hm:e2 oMod (e2 iN (e2 wX (aj 3) (eC (.int 67))) (aj 4)) (eC (.int 1000003)) [some (dI ns,.sh []),some (tD l,.sh []),some (.int t,.sh []),some (.int x,tg),some (.int y,.sh []),none]=some (.int ((x*67+y) % 1000003),.own):=aK (aK (aK rfl rfl (vA (vn (by lia)))) rfl kO) rfl (yx (by lia));exact⟨[some (dI ns,.sh []),some (tD l,.sh []),some (.int t,.sh []),some (.int x,tg),some (.int y,.sh []),none],rfl,.nx [some (dI ns,.sh []),some (tD l,.sh []),some (.int t,.sh []),some (.int ((x*67+y) % 1000003),.own),some (.int y,.sh []),none],by rw[jY,hm];rfl,_,rfl,_,_,_,rfl,Int.emod_nonneg _ (by lia)⟩)
 subst e;refine gC (Bb (acs rfl) lp) ?_;have h0:=Int.emod_nonneg x (show(4001:Int)≠0 by lia);have h1:=Int.emod_lt_of_pos x (show(0:Int)<4001 by lia);refine fH (dr rfl (aK rfl rfl (yx (by lia))) rfl rfl (by lia) (by lia) (by lia)) ?_;generalize jo ns (x % 4001) 100057 12=v;refine gb [some (dI ns,.sh []),some (tD l,.sh []),some (.int t,.sh []),some (.int x,tg),s4,some (.int v,.own)] ?_;have q:=B7 (a:=5) (dr (ρ:=[some (dI ns,.sh []),some (tD l,.sh []),some (.int t,.sh []),some (.int x,tg),s4,some (.int v,.own)]) (fs:=aj 0) (fk:=eC (.int 56)) (fp:=eC (.int 10631)) (fm:=eC (.int 6)) rfl rfl rfl rfl (by lia) (by lia) (by lia));have q1:=bu (aK (f:=aj 5) rfl q t_);have q2:tV (e2 oEq (aj 5) (eC (.int 11))) [some (dI ns,.sh []),some (tD l,.sh []),some (.int t,.sh []),some (.int x,tg),s4,some (.int v,.own)]=some (v==11):=rfl;have fin:∀w:Str,w∈(["yes","no","unsure"]:List Str)->∃d,Out.rt (D.str w)=.rt d/\∃w:Str,d=.str w/\w∈(["yes","no","unsure"]:List Str):=λw m=>⟨_,rfl,w,rfl,m⟩
 cases b1:decide (v<5+jo ns 56 10631 6) with
 |true=>rw[b1] at q1;exact⟨_,e_ (fG q1 rfl),fin "yes" (by decide +kernel)⟩
 |false=>
  rw[b1] at q1;cases b2:v==11 with
  |true=>rw[b2] at q2;exact⟨_,c9 q1 (e_ (fG q2 rfl)),fin "unsure" (by decide +kernel)⟩
  |false=>rw[b2] at q2;exact⟨_,c9 q1 (c9 q2 rfl),fin "no" (by decide +kernel)⟩
theorem Rn(h:l≠[]):pH (tD l)=some (kL l):=by
 unfold pH tD;dsimp only;rw[vV];dsimp only;rw[if_pos ⟨by unfold kL;rw[ahe];exact adf.mpr λ_ _=>rfl,λz=>h (List.map_eq_nil_iff.mp z)⟩]
theorem afZ{L:List (List Int)}{v:Int}(h:0<=v/\v<L.length):∃l∈L,dW (.lst (bR L)) (.int v)=some (tD l):=by
 have cR:v.toNat<L.length:=by lia
 refine⟨L[v.toNat],List.getElem_mem cR,u9 ?_ (eF _)⟩;unfold dQ lu bR;rw[List.length_map,if_pos (by lia),if_pos (by lia),adb,acn,abl cR];rfl
theorem abX(h:0<=i/\i<l.length):∃x∈l,dW (iL l) (.int i)=some (.int x):=by
 have cR:i.toNat<l.length:=by omega
 refine⟨l[i.toNat],List.getElem_mem cR,u9 ?_ rfl⟩;unfold dQ lu;rw[List.length_map,if_pos (by omega),if_pos (by omega),adb,acn,abl cR];rfl
theorem o8:d7 (iL l)=some (.int l.length):=by unfold iL;rw[Bw,List.length_map]
theorem BK{L:List (List Int)}:d7 (.lst (bR L))=some (.int L.length):=by show some (D.int (bR L).length)=_;unfold bR;rw[List.length_map]
def m8(R:Ta):List (List Key×D):=R.map λp=>(kL p.1,hs p.2)
def tX(R:Ta):D:=.cY (m8 R)
theorem XH(hm:word n t h="more"):(dG "yes" h:Int)<n/\(dG "no" h:Int)<n/\(h.length:Int)<t:=by
 unfold word at hm
 split at hm
 .exact absurd hm (by decide +kernel)
 .split at hm
  .exact absurd hm (by decide +kernel)
  .split at hm
   .exact absurd hm (by decide +kernel)
   .omega
theorem Yp(hm:word n t h="more"):XO [hs (h++[u]),b8 w8 h8 n t]=some (.str (word n t (h++[u]))):=by
 obtain⟨l1,l2,l3⟩:=XH hm;have a1:=RH (h:=h) (w:="yes") (v:=u);have a2:=RH (h:=h) (w:="no") (v:=u);have b1:dG "yes" (h++[u])<=dG "yes" h+1:=by rw[a1];split<;>lia
 have b2:dG "no" (h++[u])<=dG "no" h+1:=by rw[a2];split<;>lia
 have b3:(h++[u]).length=h.length+1:=by rw[abR];rfl
 generalize h++[u]=x at b1 b2 b3 a1 a2;have c1:∀(v) (s) (tg),aj 2 [some (hs x,.sh []),some (b8 w8 h8 n t,.sh []),s]=some (.str v,tg)->tV (e2 oEq (e2 uh (aj 0) (aj 2)) (e2 dW (aj 1) (eC (.int 2)))) [some (hs x,.sh []),some (b8 w8 h8 n t,.sh []),s]=some ((dG v x:Int)==n):=λv s tg e=>bu (aK (aK rfl e Rw) rfl rfl)
 have c2:∀s,tV (e2 oEq (e1 d7 (aj 0)) (e2 dW (aj 1) (eC (.int 3)))) [some (hs x,.sh []),some (b8 w8 h8 n t,.sh []),s]=some ((x.length:Int)==t):=λs=>bu (aK (bf rfl HE) rfl rfl)
 have st:∀(v) (s),gN 2 (.str v) (.sh []) [some (hs x,.sh []),some (b8 w8 h8 n t,.sh []),s]=some [some (hs x,.sh []),some (b8 w8 h8 n t,.sh []),some (.str v,.sh [])]:=λv s=>rfl
 refine cu rfl ?_;unfold word
 by_cases h1:(dG "yes" x:Int) >= n
 .rw[if_pos h1];exact e_ (CD (gX rfl) (Bs (st "yes" none) (fG ((c1 "yes" _ (.sh []) rfl).trans (by rw[show((dG "yes" x:Int)==n)=true from by simpa using(show(dG "yes" x:Int)=n by lia)])) rfl)))
 .rw[if_neg h1];have k1:=kP (ds:=[.str "no"]) (f:=eX (tV (e2 oEq (e2 uh (aj 0) (aj 2)) (e2 dW (aj 1) (eC (.int 2))))) (pX 2) gP) (st "yes" none) (gq ((c1 "yes" _ (.sh []) rfl).trans (by rw[show((dG "yes" x:Int)==n)=false from by simpa using(show(dG "yes" x:Int)≠n by lia)])) rfl)
  by_cases h2:(dG "no" x:Int) >= n
  .rw[if_pos h2];exact e_ (CD (gX rfl) (k1.trans (Bs (st "no" _) (fG ((c1 "no" _ (.sh []) rfl).trans (by rw[show((dG "no" x:Int)==n)=true from by simpa using(show(dG "no" x:Int)=n by lia)])) rfl))))
  .rw[if_neg h2];have k2:=k1.trans (kP (st "no" _) (gq ((c1 "no" _ (.sh []) rfl).trans (by rw[show((dG "no" x:Int)==n)=false from by simpa using(show(dG "no" x:Int)≠n by lia)])) rfl));refine sq (vE (gX rfl) k2) ?_
   by_cases h3:(x.length:Int) >= t
   .rw[if_pos h3];exact e_ (fG ((c2 _).trans (by rw[show((x.length:Int)==t)=true from by simpa using(show(x.length:Int)=t by lia)])) rfl)
   .rw[if_neg h3];exact c9 ((c2 _).trans (by rw[show((x.length:Int)==t)=false from by simpa using(show(x.length:Int)≠t by lia)])) rfl
theorem C4{L:List Int}:(aU g L w).ta=gp g.ta L (hd g.ta L++[w]):=by unfold aU;split<;>rfl
theorem Vr(h:a.length+b.length<=1000):fW (hs a) (hs b)=some (hs (a++b)):=by
 show(if(aM (a.map D.str)&&aM (b.map D.str)&&decide ((a.map D.str).length+(b.map D.str).length<=sizeLine))=true then some (D.lst (a.map D.str++b.map D.str)) else none)=_;rw[if_pos (by rw[Aq,Aq,List.length_map,List.length_map,aaA (by rw[ae7];lia)];rfl)];unfold hs;rw[adh]
theorem acv(h1:fv ρ=some (d,t))(h2:ρ[i]? = some (some (.cY es,.own)))(h3:fk ρ=some (tD l,t'))(nl:l≠[])(hi:(jQ t||aC d)=true)(nd:(es.map (·.1)).Nodup)(hl:es.length<sizeLine):AE i fk fv ρ=some (.nx (bT ρ i (.cY (putD es (kL l) d)))):=by
 unfold AE;rw[h1,h2,h3];dsimp only;rw[Rn nl];dsimp only;rw[if_pos ⟨hi,nd,hl⟩]
theorem OT(n t:Int)(h:List Str):word n t h="yes"\/word n t h="no"\/word n t h="unsure"\/word n t h="more":=by
 unfold word
 repeat' split
 all_goals simp
theorem wN(h0:ρ[i]? = some (some (gD g,.own)))(ha:ga ρ=some ps)(h:F (gD g) (ps.map (·.1))=some (r,gD g'))(hp:apart i ps=true:=by rfl)(hm:(gF g).lookup m=none:=by rfl):xO i "Gate" m F ga ρ=some (r,bT ρ i (gD g')):=by
 unfold xO;rw[h0,ha];show(if("Gate":Str)="Gate"/\(gF g).lookup m=none/\apart i ps=true then(F (gD g) (ps.map (·.1))).map _ else none)=_;rw[if_pos ⟨rfl,hm,hp⟩,h];rfl
theorem ne_self:jC (.str s) (.str s)=some (.bl false):=by
 show some (D.bl (!(s==s)))=_;rw[afA];rfl
theorem abj(n t:Int)(h:List Str):∃s,zp (.str (word n t h))=some (.str s):=by
 rcases OT n t h with e|e|e|e<;>rw[e]<;>exact⟨_,if_pos (by decide +kernel)⟩
theorem J7{L:List Int}:(aU g L w).en=if(word g.n g.t (hd g.ta L++[w]) == "more")=true then g.en else g.en++[.tup [tD L,.str (word g.n g.t (hd g.ta L++[w]))]]:=by unfold aU;split<;>rfl
def rA(ns:List Int)(q:Int)(g:G)(T:Ta)(E:List D)(s:D)(l:List (List Int))(s7 s8 s9 iB:Slot):aN:=[some (dI ns,.sh []),some (.int q,.sh []),some (gD g,.own),some (tX T,.own),some (.lst E,.own),some (s,.sh []),some (.lst (bR l),.own),s7,s8,s9,iB]
theorem rG(l:List Int):aC (tD l)=true:=by
 unfold tD;simp only[aC,eF]
theorem TR(hq:0<=q/\q<=100000)(i:Gi k g)(hk:k<=4000)(hl:g.lk≠[]):∃a e,adl [dI ns,.int q,gD g,tX g.ta,.lst g.en,b8 w8 h8 g.n g.t]=some (a,e)/\∃L w ld gr,L∈g.lk/\a=.tup [tD L,.str (word g.n g.t (hd g.ta L++[w]))]/\e=[gD (dw { aU g L w with ld:=ld,gr:=gr }),tX (aU g L w).ta,.lst (aU g L w).en]/\Gi (k+1) (dw { aU g L w with ld:=ld,gr:=gr }):=by
 have ll:=List.length_pos_iff.mpr hl;have b:=nR (ns:=ns) (k:=q) (p:=100103) (m:=(g.lk.length:Int)) (by lia);obtain⟨l,ml,hx⟩:=afZ b;obtain⟨p,p1,p2,p3,el,hm⟩:=i.mem ml;have nl:l≠[]:=λe=>by
  have:=pK p3;rw[<- el,e] at this;simp at this
  lia
 have cR:=Qy hm;have nt:=i.gd.nt;refine HK rfl (uQ (f6 rfl Fd) (gb (rA ns q g g.ta g.en (b8 w8 h8 g.n g.t) g.lk none none none none) ?_));refine uQ (aK rfl (dr rfl rfl rfl (bf rfl BK) hq (by lia) (by lia)) hx) (gb (rA ns q g g.ta g.en (b8 w8 h8 g.n g.t) g.lk (some (tD l,.own)) none none none) ?_);refine uQ (t:=.sh [3]) ?_ (gb (rA ns q g g.ta g.en (b8 w8 h8 g.n g.t) g.lk (some (tD l,.own)) (some (hs (hd g.ta l),.sh [3])) none none) ?_)
 .show(pH (tD l)).map (λk=>((bA (m8 g.ta) k).getD (.lst []),Tag.sh [3]))=_;rw[Rn nl,Option.map_some,show bA (m8 g.ta) (kL l)=_ from wL (φ:=kL) (ψ:=hs) (λ_ _=>pM) _];show some (((gv g.ta l).map hs).getD (.lst []),Tag.sh [3])=some (hs ((gv g.ta l).getD []),Tag.sh [3]);cases gv g.ta l<;>rfl
 obtain⟨_,fw,w,rfl,mw⟩:=WD (t:=((hd g.ta l).length:Int)) (by lia);refine uQ (cT (ps:=[(dI ns,.sh []),(tD l,.sh [7]),(.int (hd g.ta l).length,.own)]) (by rw[aW,aW,aW,bf rfl HE];rfl) fw) (gb (rA ns q g g.ta g.en (b8 w8 h8 g.n g.t) g.lk (some (tD l,.own)) (some (hs (hd g.ta l),.sh [3])) (some (.str w,.own)) none) ?_);have tl:=i.gt.tl;refine wn (ρ':=rA ns q g (aU g l w).ta g.en (b8 w8 h8 g.n g.t) g.lk (some (tD l,.own)) none (some (.str w,.own)) none) ?_ ?_
 .have nd:((m8 g.ta).map (·.1)).Nodup:=by
   unfold m8;rw[ade,show((λkv:List Key×D=>kv.1) ∘ λp:List Int×List Str=>(kL p.1,hs p.2))=kL ∘ (·.1) from rfl,<- ade];have tn:=i.gt.tn;unfold List.Nodup at tn ⊢;rw[afC];exact tn.imp λq e=>q (pM e)
  rw[acv (es:=m8 g.ta) (d:=hs (hd g.ta l++[w])) (t:=.own) (aK (d2:=hs [w]) rfl rfl (Vr (by show _+1<=_;lia))) rfl rfl nl rfl nd (size_le (by unfold m8;rw[List.length_map];lia)),show putD (m8 g.ta) (kL l) (hs (hd g.ta l++[w]))=m8 (gp g.ta l (hd g.ta l++[w])) from Ek (φ:=kL) (ψ:=hs) λ_ _=>pM,<- C4];rfl
 have hi:BC (aj 3) (aj 7) (rA ns q g (aU g l w).ta g.en (b8 w8 h8 g.n g.t) g.lk (some (tD l,.own)) none (some (.str w,.own)) none)=some (hs (hd g.ta l++[w]),.sh [3]):=by
  show(iG (l.map D.int)).bind _=_;rw[vV,adb,show bA (m8 (aU g l w).ta) (kL l)=_ from wL (φ:=kL) (ψ:=hs) (λ_ _=>pM) _,C4,Fb];rfl
 refine uQ (cT (ps:=[(hs (hd g.ta l++[w]),.sh [3]),(b8 w8 h8 g.n g.t,.sh [])]) (by rw[aW,aW,hi];rfl) (Yp hm)) (gb (rA ns q g (aU g l w).ta g.en (b8 w8 h8 g.n g.t) g.lk (some (tD l,.own)) none (some (.str w,.own)) (some (.str (word g.n g.t (hd g.ta l++[w])),.own))) ?_);obtain⟨ld,gr,fa,i'⟩:=aar i hk ml mw;obtain⟨sr,hr⟩:=abj g.n g.t (hd g.ta l++[w]);refine gC (ρ':=rA ns q (dw { aU g l w with ld:=ld,gr:=gr }) (aU g l w).ta g.en (b8 w8 h8 g.n g.t) g.lk (some (tD l,.own)) none (some (.str w,.own)) (some (.str (word g.n g.t (hd g.ta l++[w])),.own))) ?_ ?_
 .unfold vv GJ EB;rw[wN (g:=g) (ps:=[(tD l,.sh [7]),(.str w,.sh [9])]) rfl rfl fa];dsimp only;rw[hr];dsimp only;rw[if_pos (show aC (.str sr)=true from rfl)];dsimp only;rw[bf (d:=.str (word g.n g.t (hd g.ta l++[w]))) (t:=.sh [10]) rfl hr];dsimp only;rw[ne_self];rfl
 have el':=i.gt.el;have em:=i.gt.em;refine wn (ρ':=rA ns q (dw { aU g l w with ld:=ld,gr:=gr }) (aU g l w).ta (aU g l w).en (b8 w8 h8 g.n g.t) g.lk (some (tD l,.own)) none (some (.str w,.own)) (some (.str (word g.n g.t (hd g.ta l++[w])),.own))) ?_ ?_
 .rw[J7]
  by_cases hw:(word g.n g.t (hd g.ta l++[w]) == "more")=true
  .rw[if_pos hw];exact gq (bu (aK rfl rfl (show jC _ _=some (.bl false) by show some (D.bl (!(_==_)))=_;rw[hw];rfl))) rfl
  .rw[if_neg hw];refine fG (bu (aK rfl rfl (show jC _ _=some (.bl true) by show some (D.bl (!(_==_)))=_;rw[agU] at hw;rw[hw];rfl))) ?_;show(if(aC (.tup [tD l,.str (word g.n g.t (hd g.ta l++[w]))])&&aM g.en&&decide (g.en.length<sizeLine))=true then some (Out.nx _) else none)=_;rw[if_pos (by rw[em,aaA (size_le (by lia))];simp only[aC,aM,rG,agc])];rfl
 refine⟨.rt (.tup [.tup [tD l,.str (word g.n g.t (hd g.ta l++[w]))],gD (dw { aU g l w with ld:=ld,gr:=gr }),tX (aU g l w).ta,.lst (aU g l w).en]),?_,.inl ⟨_,_,rfl,l,w,ld,gr,ml,rfl,rfl,i'⟩⟩;show(if aC (.tup [tD l,.str (word g.n g.t (hd g.ta l++[w]))])=true then some (Out.rt _) else none)=_;rw[if_pos (by simp only[aC,aM,rG,agc])];rfl
def rY(ns:List Int)(q:Int)(b:Bool)(L:List (List Int))(O:List Int)(v:Int):aN:=[some (dI ns,.sh []),some (.int q,.sh []),some (.bl b,.sh []),some (.lst (bR L),.sh []),some (iL O,.sh []),some (.int v,.own)]
theorem afO{L:List (List Int)}(hq:0<=q/\q<=100000):∃d,Wu [dI ns,.int q,.bl b,.lst (bR L),iL O]=some d/\∃s:Str,d=.str s/\(s="answer"->L≠[])/\(s="withdraw"->O≠[])/\(s="go"\/s="ask"\/s="answer"\/s="withdraw"\/s="stop"):=by
 refine qt rfl (fH (dr rfl rfl rfl rfl hq (by lia) (by lia)) ?_);generalize jo ns q 100069 10=v;refine gb (rY ns q b L O v) ?_;have fin:∀s:Str,(s="answer"->L≠[])->(s="withdraw"->O≠[])->(s="go"\/s="ask"\/s="answer"\/s="withdraw"\/s="stop")->∃d,Out.rt (D.str s)=.rt d/\∃s:Str,d=.str s/\(s="answer"->L≠[])/\(s="withdraw"->O≠[])/\(s="go"\/s="ask"\/s="answer"\/s="withdraw"\/s="stop"):=λs h1 h2 h3=>⟨_,rfl,s,rfl,h1,h2,h3⟩
 have t1:jq (tV (aj 2)) (tV (e2 qv (aj 5) (eC (.int 2)))) (rY ns q b L O v)=some (b&&decide (2<v)):=ua rfl (bu (aK rfl rfl B5));cases c1:b&&decide (2<v) with
 |true=>rw[c1] at t1;exact⟨_,e_ (fG t1 rfl),fin "go" (λh=>absurd h (by decide +kernel)) (λh=>absurd h (by decide +kernel)) (.inl rfl)⟩
 |false=>
  rw[c1] at t1;have t2:jU (jq (tV (e2 oLt (aj 5) (eC (.int 4)))) (tV (e2 oLt (aj 1) (eC (.int 40))))) (jU (jq (tV (e2 oLt (aj 5) (eC (.int 8)))) (tV (e2 oEq (e1 d7 (aj 3)) (eC (.int 0))))) (jq (tV (e2 oEq (aj 5) (eC (.int 8)))) (tV (e2 oEq (e1 d7 (aj 4)) (eC (.int 0)))))) (rY ns q b L O v)=some (decide (v<4)&&decide (q<40)||(decide (v<8)&&((L.length:Int)==0)||(v==8)&&((O.length:Int)==0))):=
   wY (ua (bu (aK rfl rfl t_)) (bu (aK rfl rfl t_))) (wY (ua (bu (aK rfl rfl t_)) (bu (aK (bf rfl BK) rfl rfl))) (ua rfl (bu (aK (bf rfl o8) rfl rfl))))
  cases c2:(decide (v<4)&&decide (q<40)||(decide (v<8)&&((L.length:Int)==0)||(v==8)&&((O.length:Int)==0))) with
  |true=>rw[c2] at t2;exact⟨_,c9 t1 (e_ (fG t2 rfl)),fin "ask" (λh=>absurd h (by decide +kernel)) (λh=>absurd h (by decide +kernel)) (.inr (.inl rfl))⟩
  |false=>
   rw[c2] at t2;obtain⟨_,c2⟩:=(Bool.or_eq_false_iff).mp c2;obtain⟨c3,c4⟩:=(Bool.or_eq_false_iff).mp c2;have t3:tV (e2 oLt (aj 5) (eC (.int 8))) (rY ns q b L O v)=some (decide (v<8)):=bu (aK rfl rfl t_);cases c5:decide (v<8) with
   |true=>
    rw[c5] at t3 c3;exact⟨_,c9 t1 (c9 t2 (e_ (fG t3 rfl))),fin "answer" (λ_ e=>by rw[e] at c3;cases c3) (λh=>absurd h (by decide +kernel)) (.inr (.inr (.inl rfl)))⟩
   |false=>
    rw[c5] at t3;have t4:tV (e2 oEq (aj 5) (eC (.int 8))) (rY ns q b L O v)=some (v==8):=rfl;cases c6:v==8 with
    |true=>
     rw[c6] at t4 c4;exact⟨_,c9 t1 (c9 t2 (c9 t3 (e_ (fG t4 rfl)))),fin "withdraw" (λh=>absurd h (by decide +kernel)) (λ_ e=>by rw[e] at c4;cases c4) (.inr (.inr (.inr (.inl rfl))))⟩
    |false=>
     rw[c6] at t4;exact⟨_,c9 t1 (c9 t2 (c9 t3 (c9 t4 rfl))),fin "stop" (λh=>absurd h (by decide +kernel)) (λh=>absurd h (by decide +kernel)) (.inr (.inr (.inr (.inr rfl))))⟩
structure Dn(s:Str)(g g':G):Prop where
 w:g'.w=g.w
 h:g'.h=g.h
 n:g'.n=g.n
 t:g'.t=g.t
 ta:g'.ta=g.ta
 gw:g'.gw=g.gw
 en:g'.en=g.en
 ln:g'.ln=g.ln
 ht:g'.ht=if s="stop" then true else if s="go" then false else g.ht
def Dz(k m:Nat)(g:G)(s:Str)(a:D)(e:List D):Prop:=∃(g':G) (d8:iO),a=.bl true/\e=[gD g',bI d8]/\Gi k g'/\Sv d8/\Dn s g g'/\g'.C.length=(if s="ask" then m+1 else m)
def rN(ns:List Int)(q:Int)(s:Str)(g:G)(es:iO)(m:Nat)(s6 s7:Slot):aN:=[some (dI ns,.sh []),some (.int q,.sh []),some (.str s,.sh []),some (gD g,.own),some (bI es,.own),some (.int m,.sh []),s6,s7]
theorem TN(h:fx ρ=some (d1,ρ'))(h2:fb ρ'=some (d2,t))(h3:oEq d1 d2=some d):z8 fx fb ρ=some (d,ρ'):=by
 unfold z8;rw[h];dsimp only;rw[h2];dsimp only;rw[h3];rfl
theorem Ig(h:fx ρ=some (d1,ρ'))(h2:fb ρ'=some (d2,t))(h3:o d1 d2=some d):AQ o fx fb ρ=some (d,ρ'):=by
 unfold AQ;rw[h];dsimp only;rw[h2];dsimp only;rw[h3];rfl
theorem T5{s:Str}(hq:0<=q/\q<=100)(i:Gi k g)(sv:Sv es)(hm:g.C.length=m)(jF:m<60)(ho:s="withdraw"->wl g++g.ld≠[])(hs:s="go"\/s="ask"\/s="withdraw"\/s="stop"):∃a e,Yg [dI ns,.int q,.str s,gD g,bI es,.int m]=some (a,e)/\Dz k m g s a e:=by
 have gl:=i.gd.gc.ln;have ll:=i.gd.len;have wl':=BJ (g:=g);refine HK rfl (gb (rN ns q s g es m none none) ?_);have t (v:Str):tV (e2 oEq (aj 2) (eC (.str v))) (rN ns q s g es m none none)=some (s==v):=rfl;have fin:∀{f} {ρ ρ'} {g'} {d8},f ρ=some (.bl true,ρ')->jZ [3,4] ρ'=some [gD g',bI d8]->Gi k g'->Sv d8->Dn s g g'->g'.C.length=(if s="ask" then m+1 else m)->∃d,vR f [3,4] ρ=some (.rt d)/\∃a e,Out.rt d=.rt (.tup (a::e))/\Dz k m g s a e:=λh1 h2 a b c d=>⟨_,by unfold vR;rw[h1];dsimp only;rw[h2];rfl,_,_,rfl,_,_,rfl,rfl,a,b,c,d⟩
 rcases hs with rfl|rfl|rfl|rfl
 .obtain⟨ld,gr,fa,i'⟩:=ae1 i;obtain⟨d,h1,h2⟩:=fin (Ig (wN (m:="go") (ρ:=rN ns q "go" g es m none none) (i:=3) (ga:=aJ) (ps:=[]) rfl rfl fa) (t:=.own) (d2:=.aA) (o:=gR) (fb:=eC .aA) rfl rfl) rfl i' sv ⟨rfl,rfl,rfl,rfl,rfl,rfl,rfl,rfl,rfl⟩ hm;exact gC (gq ((t "ask").trans (by decide +kernel)) rfl) (gC (gq ((t "withdraw").trans (by decide +kernel)) rfl) (gC (gq ((t "stop").trans (by decide +kernel)) rfl) ⟨_,h1,.inl h2⟩))
 .obtain⟨a,e,fsp,ch,rfl,rfl,gc,eg⟩:=abY (k:=q) (m:=m) (by lia) sv (by lia);obtain⟨ld,gr,fa,i'⟩:=afp i (by rw[hm];exact gc) (by lia);have st:xY 6 (AM [4] [none,none,some 4,none] K5 (ay (aj 0) (ay (aj 1) (DO 4 (ay (aj 5) aJ))))) (rN ns q "ask" g es m none none)=some (.nx (rN ns q "ask" g (eO es ch.2.2) m (some (se ch,.own)) none)):=EH (Qk (ps:=[(dI ns,.sh []),(.int q,.sh []),(bI es,.sh [4]),(.int m,.sh [])]) rfl fsp);obtain⟨d,h1,h2⟩:=fin (TN (wN (m:="ask") (ρ:=rN ns q "ask" g (eO es ch.2.2) m (some (se ch,.own)) none) (i:=3) (ga:=ay (xr (aj 6) (eC (.int 0))) (ay (xr (aj 6) (eC (.int 1))) (ay (xr (aj 6) (eC (.int 2))) aJ))) (ps:=[(.int ch.1,.sh [6]),(iL ch.2.1,.sh [6]),(eL ch.2.2,.sh [6])]) rfl rfl fa) (fb:=e2 iN (aj 5) (eC (.int 1))) rfl (by show some (D.bl (_==_))=_;rw[hm,afA])) rfl i' (sv.eO eg) ⟨rfl,rfl,rfl,rfl,rfl,rfl,rfl,rfl,rfl⟩ (by show(g.C++[ch]).length=_;rw[if_pos rfl,abR,hm];rfl);exact⟨_,e_ (fG ((t "ask").trans (by decide +kernel)) (sq (iC st) h1)),.inl h2⟩
 .have h:(0:Int)<(wl g++g.ld).length:=by
   have:=List.length_pos_iff.mpr (ho rfl)
   lia
  have e0:dF 7 (e2 fW (cE "Gate" "waiting" wj (aj 3) aJ) (cE "Gate" "laid" Nn (aj 3) aJ)) (rN ns q "withdraw" g es m none none)=some (.nx (rN ns q "withdraw" g es m none (some (iL (wl g++g.ld),.own)))):=by
   rw[jY,aK (f6 rfl (uT (by lia))) (f6 rfl Dw) (qK (by rw[ae7];lia))];rfl
  obtain⟨x,mx,hx⟩:=abX (nR h);obtain⟨ld,gr,fa,i'⟩:=Vt i (abB.mp mx);obtain⟨d,h1,h2⟩:=fin (Ig (wN (m:="withdraw") (ρ:=rN ns q "withdraw" g es m none (some (iL (wl g++g.ld),.own))) (i:=3) (ga:=ay (e2 dW (aj 7) (cO sF (ay (aj 0) (ay (aj 1) (ay (eC (.int 100109)) (ay (e1 d7 (aj 7)) aJ)))))) aJ) (ps:=[(.int x,.own)]) rfl (by rw[aW,aK rfl (dr rfl rfl rfl (bf rfl o8) (by lia) (by lia) h) hx];rfl) fa) (t:=.own) (d2:=.aA) (o:=gR) (fb:=eC .aA) rfl rfl) rfl i' sv ⟨rfl,rfl,rfl,rfl,rfl,rfl,rfl,rfl,rfl⟩ hm;exact gC (gq ((t "ask").trans (by decide +kernel)) rfl) ⟨_,e_ (fG ((t "withdraw").trans (by decide +kernel)) (sq (iC e0) h1)),.inl h2⟩
 .obtain⟨ld,gr,fa,i'⟩:=acq i;obtain⟨d,h1,h2⟩:=fin (Ig (wN (m:="stop") (ρ:=rN ns q "stop" g es m none none) (i:=3) (ga:=aJ) (ps:=[]) rfl rfl fa) (t:=.own) (d2:=.aA) (o:=gR) (fb:=eC .aA) rfl rfl) rfl i' sv ⟨rfl,rfl,rfl,rfl,rfl,rfl,rfl,rfl,rfl⟩ hm;exact gC (gq ((t "ask").trans (by decide +kernel)) rfl) (gC (gq ((t "withdraw").trans (by decide +kernel)) rfl) ⟨_,e_ (fG ((t "stop").trans (by decide +kernel)) h1),.inl h2⟩)
theorem Xd(hl:ds.length=n)(h:b (vL N ds)=some (.er raw cn ρ)):qd n N b ds=some (.er cn):=by
 unfold qd;rw[if_pos hl,h]
theorem Nj{L:List Int}(h:L∉g.lk):Xy [gD g,tD L]=some (.bl true):=by
 have hr:z7 [gD g,tD L,.str "yes"]=some (.er ("NoLook",none)):=Xd rfl (acr (fG (bu (aK (d1:=tD L) (t1:=.sh []) rfl (fl (g:=g) (t:=.sh []) rfl) ((zV true L g.lk).trans (by rw[if_pos rfl,abV h];rfl)))) rfl));have hm:Au (zX "Gate" "answer" z7 (aj 0) (ay (aj 1) (ay (eC (.str "yes")) aJ))) [some (gD g,.sh []),some (tD L,.sh []),some (.bl false,.own),none]=some (.er false ("NoLook",none) [some (gD g,.sh []),some (tD L,.sh []),some (.bl false,.own),none]):=by
  have:zX "Gate" "answer" z7 (aj 0) (ay (aj 1) (ay (eC (.str "yes")) aJ)) [some (gD g,.sh []),some (tD L,.sh []),some (.bl false,.own),none]=some (.er ("NoLook",none) [some (gD g,.sh []),some (tD L,.sh []),some (.bl false,.own),none]):=by
   show(if("Gate":Str)="Gate"/\(gF g).lookup ("answer":Str)=none then(match z7 [gD g,tD L,.str "yes"] with|some (.ok d)=>some _|some (.er en)=>some _|none=>none) else none)=_;rw[if_pos ⟨rfl,rfl⟩,hr]
  unfold Au;rw[this]
 refine cu rfl (sq (ρ':=[some (gD g,.sh []),some (tD L,.sh []),some (.bl false,.own),none]) rfl (sq (ρ':=[some (gD g,.sh []),some (tD L,.sh []),some (.bl true,.own),none]) ?_ rfl));unfold E4;rw[hm];rfl
structure Sh(w k:Nat)(d:D):Prop where
 ok:fN d=true
 sh:(py d).showable=true
 dp:(py d).depth<=k
 lv:(py d).leavesShort 13=true
 wt:(py d).weight<=w
theorem Sh.all(h:∀d∈ds,Sh w k d):lC ds=true/\PyData.showableAll (dO ds)=true/\PyData.depthAll (dO ds)<=k/\PyData.leavesShortAll 13 (dO ds)=true/\PyData.weightAll (dO ds)<=(w+1)*ds.length:=by
 induction ds with
 |nil=>exact⟨rfl,rfl,aeC _,rfl,aeC _⟩
 |cons d ds ih=>
  have a:=h d aak;obtain⟨i1,i2,i3,i4,i5⟩:=ih λe m=>h e (aaf _ m)
  unfold lC dO;simp only[PyData.showableAll,PyData.depthAll,PyData.leavesShortAll,PyData.weightAll,a.ok,a.sh,a.lv,i1,i2,i4,agc,acj,true_and];have h1:=a.dp;have h2:=a.wt;rw[Nat.mul_succ];omega
theorem Sh.lst(h:∀d∈ds,Sh w k d)(hl:ds.length<=n):Sh ((w+1)*n) (k+1) (.lst ds):=by
 obtain⟨i1,i2,i3,i4,i5⟩:=Sh.all h;have:=Nat.mul_le_mul_left (w+1) hl;refine⟨by unfold fN;exact i1,?_,?_,?_,?_⟩<;>unfold py
 .simp only[PyData.showable];exact i2
 .simp only[PyData.depth];omega
 .simp only[PyData.leavesShort];exact i4
 .simp only[PyData.weight];omega
theorem Sh.tup(h:∀d∈ds,Sh w k d)(hl:ds.length<=n):Sh ((w+1)*n) (k+1) (.tup ds):=by
 obtain⟨i1,i2,i3,i4,i5⟩:=Sh.lst h hl;unfold fN py at *;simp only[PyData.showable,PyData.depth,PyData.leavesShort,PyData.weight] at *;exact⟨by unfold fN;exact i1,by unfold py;exact i2,by unfold py;exact i3,by unfold py;exact i4,by unfold py;exact i5⟩
theorem Sh.repr(h:Sh w k d)(hw:w<=1048576)(hk:k<=40)(hd:dep d≠0:=by unfold dep;omega):∃s,qe d=some (.str s):=by
 refine⟨_,U8 ?_ hd⟩;unfold um;rw[h.ok,h.sh,aaA (adR h.dp hk),aaA (PyData.shown_fits (B:=13) (by decide) (by decide) h.lv (adR h.wt hw))];rfl
theorem Sh.int{i:Int}(h:0<=i/\i<=100):Sh 50 0 (.int i):=by
 have s:∀j∈[i],yD j:=λj m=>by rw[aaB.mp m];unfold yD;omega
 have a:=OC [i] s;have b:=PK [i] s;have c:=Qf [i] s;simp only[aan,ahc,PyData.showableAll,PyData.weightAll,PyData.leavesShortAll,Bool.and_true,aek] at a b c;exact⟨rfl,a,abW _,c,by show(PyData.int i).weight<=50;omega⟩
theorem Sh.wd{s:Str}(h:s="yes"\/s="no"\/s="unsure"\/s="more"):Sh 10 0 (.str s):=by
 rcases h with rfl|rfl|rfl|rfl<;>exact⟨rfl,rfl,abW _,by decide +kernel,by decide +kernel⟩
def Lo(l:List Int):Prop:=l.length<=60/\∀x∈l,0<=x/\x<=100
theorem Lo.is{l:List Int}(h:Lo l):∀d∈l.map D.int,Sh 50 0 d:=λd m=>by
 exists 65;exact .int (h.2 x mx)
theorem Lo.tD{l:List Int}(h:Lo l):Sh 3060 1 (tD l):=Sh.tup h.is (by rw[List.length_map];exact h.1)
theorem Gd.lo{g:G}(k:Gd g){l:List Int}(h:l <+: g.ln++g.ld):Lo l:=by
 have a:=k.len;have b:=h.length_le;rw[abR] at b;refine⟨by omega,λx m=>?_⟩;have:=k.row x (h.subset m);have:=k.gc.ln;omega
theorem QL{g:G}{p:Nat}:cU g p <+: g.ln++g.ld:=by
 unfold cU;exact(List.prefix_append_right_inj _).mpr (List.take_prefix _ _)
noncomputable abbrev Rc:=List (List Int×Str)
def eN(q:List Int×Str):D:=.tup [tD q.1,.str q.2]
structure Ce(g:G)(R:Rc):Prop where
 en:g.en=R.map eN
 gw:g.gw=(R.filter λq:List Int×Str=>q.2==("yes":Str)).map (·.1)
 nm:∀q∈R,word g.n g.t (hd g.ta q.1)≠"more"
 lo:∀q∈R,Lo q.1
 wd:∀q∈R,q.2="yes"\/q.2="no"\/q.2="unsure"\/q.2="more"
theorem Ce.sh{g:G}{R:Rc}(c:Ce g R)(hl:R.length<=50):Sh 306150 3 (.lst g.en):=by
 rw[c.en];refine Sh.lst (w:=6122) (n:=50) (λd m=>?_) (by rw[List.length_map];exact hl);obtain⟨q,mq,rfl⟩:=ab1.mp m;refine Sh.tup (w:=3060) (n:=2) (λd m=>?_) (abW _);rcases aaQ.mp m with rfl|m
 .exact(c.lo q mq).tD
 .rw[aaB.mp m];obtain⟨a1,a2,a3,a4,a5⟩:=Sh.wd (c.wd q mq);exact⟨a1,a2,adR a3 (aeC _),a4,adR a5 (by decide)⟩
theorem Ce.gs{g:G}{R:Rc}(c:Ce g R)(hl:R.length<=50):Sh 153050 2 (.lst (bR g.gw)):=by
 rw[c.gw];refine Sh.lst (w:=3060) (n:=50) (λd m=>?_) (by unfold bR;rw[List.length_map,List.length_map];exact adR (afb _ _) hl);obtain⟨l,ml,rfl⟩:=ab1.mp m;obtain⟨q,mq,rfl⟩:=ab1.mp ml;exact(c.lo q (acX.mp mq).1).tD
theorem Ce.ln{g:G}{R:Rc}(c:Ce g R):g.en.length=R.length:=by rw[c.en,List.length_map]
def rQ(g:G)(E:List (List Int))(t:Tag)(n:Nat)(s8:Slot):aN:=[some (gD g,.sh []),some (iL g.ln,.sh []),some (.lst g.en,.sh []),some (b8 g.w g.h g.n g.t,.sh []),some (iL g.ld,.own),some (.lst (bR g.lk),t),some (.int n,.own),some (.lst (bR E),.own),s8]
theorem MW{l:List Int}:d7 (tD l)=some (.int l.length):=by show some (D.int (l.map D.int).length)=_;rw[List.length_map]
theorem Z9{g:G}(k:Gd g){E:List (List Int)}{ps:List Nat}:∀{n} {s8},ps.Pairwise (· < ·)->(∀p∈ps,n<g.ln.length+p/\p<=g.ld.length/\cU g p∉E)->∃n' yT,di (gN 8) (.sh [5]) (bZ (eX (jU (lE (tV (e1 (Di "tuple") (aj 8)))) (jU (tV (e2 oLe (e1 d7 (aj 8)) (aj 6))) (tV (e2 (uz false) (aj 8) (aj 7))))) (l7 (eC (.bl false))) gP) (bZ (dF 6 (e1 d7 (aj 8))) (eX (jU (tV (e2 jC (e1 qe (aj 8)) (e1 qe (e1 xU (e2 fW (aj 1) (lA (aj 4) (e2 j6 (aj 6) (e1 d7 (aj 1))))))))) (tV (e2 qv (aj 6) (e2 iN (e1 d7 (aj 1)) (e1 d7 (aj 4)))))) (l7 (eC (.bl false))) gP))) (bR (ps.map (cU g))) (rQ g E .lk n s8)=some (.nx (rQ g E .lk n' yT)):=by
 induction ps with
 |nil=>exact λ_ _=>⟨_,_,rfl⟩
 |cons p ps ih=>
  intro n s8 hp h;obtain⟨h1,h2,h3⟩:=h p aak;obtain⟨Ja,sY⟩:=adV.mp hp;have hL:=pK h2;obtain⟨n',yT,e⟩:=ih (n:=g.ln.length+p) (s8:=some (tD (cU g p),.sh [5])) sY λr m=>⟨by have:=Ja r m;omega,(h r (aaf _ m)).2⟩
  refine⟨n',yT,(kP (aR:=rQ g E .lk n (some (tD (cU g p),.sh [5]))) rfl (sq (gq ((qL (kN (b:=true) rfl)).trans ((qL (bu (aK (bf rfl MW) rfl (by rw[Oz,hL,abV (by omega)])))).trans (bu (aK (d1:=tD (cU g p)) (d2:=.lst (bR E)) rfl rfl ((zV false _ _).trans (by rw[if_neg (by decide),abV h3])))))) rfl) (sq (ρ':=rQ g E .lk (g.ln.length+p) (some (tD (cU g p),.sh [5]))) (by rw[jY,bf (d:=tD (cU g p)) rfl MW,hL];rfl) (gq ?_ rfl)))).trans e⟩;obtain⟨sr,hr⟩:=(k.lo (QL (g:=g) (p:=p))).tD.repr (by decide) (by decide) (by unfold tD dep;omega);have hc:lA (aj 4) (e2 j6 (aj 6) (e1 d7 (aj 1))) (rQ g E .lk (g.ln.length+p) (some (tD (cU g p),.sh [5])))=some (iL (g.ld.take p),.own):=by
   unfold lA;rw[show aj 4 (rQ g E .lk (g.ln.length+p) (some (tD (cU g p),.sh [5])))=some (iL g.ld,.sh [4]) from rfl,aK (d:=.int p) rfl (bf rfl o8) (show some (D.int (((g.ln.length+p:Nat):Int)-g.ln.length))=_ by rw[show(((g.ln.length+p:Nat):Int)-g.ln.length)=p by omega])];show(if aM (g.ld.map D.int)=true then some (D.lst (cutD (g.ld.map D.int) none (some (p:Int))),Tag.own) else none)=_;rw[if_pos (eF _),Cu (by rw[List.length_map];exact h2),<- List.map_take];rfl
  have hl:=k.len;have h4:=agT (i:=p) (l:=g.ld);exact(qL (bu (aK (bf (d:=tD (cU g p)) rfl hr) (bf (bf (aK rfl hc (qK (by rw[ae7];omega))) vM) hr) ne_self))).trans (bu (aK rfl (aK (bf rfl o8) (bf rfl o8) kO) (by rw[B5,abV (by omega)])))
theorem aaK{k:Nat}{g:G}{R:Rc}(i:Gi k g)(c:Ce g R)(hl:R.length<=50):LV [gD g,iL g.ln,.lst g.en,b8 g.w g.h g.n g.t]=some (.bl true):=by
 have e:∃d,LV [gD g,iL g.ln,.lst g.en,b8 g.w g.h g.n g.t]=some d/\d=.bl true:=by
  have ll:=i.gt.ll;have h1:=i.gd.h1;have gl:=i.gd.gc.ln;refine qt rfl (fH (f6 rfl Dw) (fH (f6 rfl Fd) ?_));refine gC (gq ((qL (kN (b:=true) (bu (bf (d:=.lst (bR g.lk)) rfl rfl)))).trans (bu (aK (bf rfl BK) (aK (d1:=.int g.h) rfl rfl rfl) (by rw[B5,abV (by split<;>omega)])))) rfl) ?_;refine fH (bf rfl o8) (fH (jH (ds:=g.en) (k:=λd=>match d with|.tup [a,_]=>some a|_=>none) (gX rfl) (by have:=i.gt.el;have:=c.ln;exact size_le (by omega)) λd m=>?_) ?_)
  .rw[c.en] at m;obtain⟨q,mq,rfl⟩:=ab1.mp m;exact tO rfl rfl (e:=tD q.1) (tg:=.own) (aK (d1:=eN q) rfl rfl (by show(if aC (tD q.1)=true then some (tD q.1) else none)=_;rw[if_pos (rG _)])) (rG _)
  have eE:g.en.filterMap (λd=>match d with|.tup [a,_]=>some a|_=>none)=bR (R.map (·.1)):=by
   rw[c.en,aeY];unfold bR;rw[ade,<- List.filterMap_eq_map];rfl
  rw[eE];refine gb (rQ g (R.map (·.1)) .own g.ln.length none) ?_;obtain⟨ps,K⟩:=i.JZ;have el:=Ff (g:=g);have eq:g.lk=(ps.map Int.toNat).map (cU g):=by rw[K.eq,ade];rfl
  obtain⟨n',yT,lp⟩:=Z9 i.gd (E:=R.map (·.1)) (ps:=ps.map Int.toNat) (n:=g.ln.length) (s8:=none) (by
   rw[afC];exact K.ri.so.imp_of_mem λma mb A2=>by have:=K.ri.bd _ ma;have:=K.ri.bd _ mb;omega) λp m=>by
   exists 65;have:=K.ri.bd x mx;refine⟨by omega,by omega,λmq=>?_⟩;obtain⟨q,mq,hq⟩:=ab1.mp mq;obtain⟨_,_,_,_,_,hm⟩:=i.mem (l:=cU g x.toNat) (by rw[K.eq];exact ab1.mpr ⟨x,mx,rfl⟩);exact c.nm q mq (by rw[hq];exact hm)
  rw[<- eq] at lp;refine gC (vf (t:=.sh [5]) (gX rfl) lp) (gb (rQ g (R.map (·.1)) .own n' yT) ?_);have pl:g.ht=false->(g.lk.length=0↔g.ld.length=0):=λh=>by
   have lk:g.lk.length=ps.length:=by rw[K.eq,List.length_map]
   have ge:=K.ge;obtain⟨f1,f2,f3⟩:=i.fin.go h;constructor
   .intro hz
    by_cases hd:g.ld.length=0
    .exact hd
    .exfalso
     have:2<=eo g:=by
      unfold eo qV;cases hb:dh g with
      |none=>show(2:Int)<=g.ld.length+1;omega
      |some p=>
       have:=(zy hb).1;have np:p≠1:=λz=>f1 (by rw[hb,z])
       show(2:Int)<=(p:Int);omega
     unfold lim at ge
     split at ge<;>omega
   .intro hz;rw[lk];cases ps with
    |nil=>rfl
    |cons x r=>have:=K.ri.bd x aak;omega
  cases hh:g.ht with
  |true=>
   have hd:=i.gt.st hh;have hk:g.lk=[]:=by
    rw[K.eq];cases ps with
    |nil=>rfl
    |cons x r=>have:=K.ri.bd x aak;have:g.ld.length=0:=(by rw[hd];rfl);omega
   refine⟨_,e_ (fG (bu (f6 (g:=g) (t:=.sh []) (d:=.bl true) rfl (by rw[<- hh];exact HC))) (cM (sP (b:=true) (c:=true) (aK (d1:=iL []) (d2:=iL []) (by unfold rQ;rw[hd];rfl) rfl (JE (lay_ints []))) (aK (d1:=.lst (bR [])) (d2:=.lst (bR [])) (by unfold rQ;rw[hk];rfl) rfl (JE (LJ [])))))),_,rfl,rfl⟩
  |false=>
   refine gC (gq (bu (f6 (g:=g) (t:=.sh []) (d:=.bl false) rfl (by rw[<- hh];exact HC))) rfl) ⟨_,cM (sP (b:=true) (c:=true) (aK (aK (bf rfl o8) rfl rfl) (aK (bf rfl BK) rfl rfl) ?_) ?_),_,rfl,rfl⟩
   .show some (D.bl ((_==_)==(_==_)))=_;have:=pl hh;have b1:(((g.ld.length:Nat):Int)==0)=(((g.lk.length:Nat):Int)==0):=by
     rw[ag0,agg,agg];omega
    rw[b1,afA]
   .unfold Gq;rw[aK (d:=.bl (decide (0<(g.ld.length:Int)))) (bf rfl o8) rfl B5]
    by_cases hd:0<(g.ld.length:Int)
    .rw[aaA hd]
    .rw[abV hd];have hz:g.ld=[]:=List.length_eq_zero_iff.mp (by omega);have:=(i.fin.go hh).2.1 hz;exact aK (d2:=iL []) (f6 (g:=g) rfl (uT (by omega))) rfl (by rw[this];exact JE (lay_ints []))
 obtain⟨_,e,rfl⟩:=e;exact e
noncomputable def kY:D->Option D
 |.tup [a,.str s]=>if(s==("yes":Str))=true then some a else none
 |_=>none
theorem OO{k:Nat}{g:G}{R:Rc}(i:Gi k g)(c:Ce g R)(hl:R.length<=50):Qp [gD g,iL g.ln,.lst g.en,b8 g.w g.h g.n g.t,.bl g.ht]=some (.bl true):=by
 have e:∃d,Qp [gD g,iL g.ln,.lst g.en,b8 g.w g.h g.n g.t,.bl g.ht]=some d/\d=.bl true:=by
  obtain⟨s1,r1⟩:=(Sh.lst (n:=60) (i.gd.lo (agZ g.ln g.ld)).is (by rw[List.length_map];exact(i.gd.lo (agZ g.ln g.ld)).1)).repr (by decide) (by decide);obtain⟨s2,r2⟩:=(c.sh hl).repr (by decide) (by decide);obtain⟨s3,r3⟩:=(c.gs hl).repr (by decide) (by decide);refine qt rfl (gC (gq ((qL (bu (aK (bf (f6 rfl YK) r1) (bf rfl r1) ne_self))).trans ((qL (bu (aK (bf (f6 rfl (abg i.gt.em)) r2) (bf rfl r2) ne_self))).trans (bu (aK (d1:=.str (if g.ht then "True" else "False")) (bf (f6 rfl HC) rfl) (bf rfl rfl) ne_self)))) rfl) (fH (jH (ds:=g.en) (k:=kY) (gX rfl) (by have:=i.gt.el;have:=c.ln;exact size_le (by omega)) λd m=>?_) ?_))
  .rw[c.en] at m;obtain⟨q,mq,rfl⟩:=ab1.mp m;have t1:tV (e2 oEq (aj 1) (eC (.str "yes"))) [some (tD q.1,.own),some (.str q.2,.own)]=some (q.2 == "yes"):=rfl;have hg:gT (d_ (gN 0) (d_ (gN 1) lR)) (eN q) (.sh []) [none,none]=some [some (tD q.1,.own),some (.str q.2,.own)]:=by
    show(if aC (tD q.1)=true then _ else none)=_;rw[if_pos (rG _)];rfl
   show jf _ _ _ _ (eN q)=some (if(q.2 == "yes")=true then some (tD q.1) else none)
   by_cases hy:(q.2 == "yes")=true
   .rw[if_pos hy];rw[hy] at t1;exact tO hg t1 (e:=tD q.1) (tg:=.sh [0]) rfl (rG _)
   .rw[if_neg hy];rw[agU] at hy;rw[hy] at t1;exact x8 hg t1
  have eE:g.en.filterMap kY=bR g.gw:=by
   rw[c.en,c.gw,aeY];unfold bR;clear c hl r1 r2 r3
   induction R with
   |nil=>rfl
   |cons q R ih=>
    rw[agF]
    by_cases hy:(q.2==("yes":Str))=true
    .rw[List.filterMap_cons_some (show(kY ∘ eN) q=some (tD q.1) from if_pos hy),if_pos hy,aan,aan];exact congrArg _ ih
    .rw[List.filterMap_cons_none (show(kY ∘ eN) q=none from if_neg hy),if_neg hy];exact ih
  rw[eE];refine gb [some (gD g,.sh []),some (iL g.ln,.sh []),some (.lst g.en,.sh []),some (b8 g.w g.h g.n g.t,.sh []),some (.bl g.ht,.sh []),some (.lst (bR g.gw),.own)] ?_;refine gC (gq (bu (aK (bf (f6 rfl Yz) r3) (bf rfl r3) ne_self)) rfl) ⟨_,cM (cT (ps:=[(gD g,.sh []),(iL g.ln,.sh []),(.lst g.en,.sh []),(b8 g.w g.h g.n g.t,.sh [])]) rfl (aaK i c hl)),_,rfl,rfl⟩
 obtain⟨_,e,rfl⟩:=e;exact e
theorem Gi.up(i:Gi k g):Gi (k+1) g:=⟨i.gd,⟨i.gt.tn,by have:=i.gt.tl;lia,i.gt.yl,i.gt.em,by have:=i.gt.el;lia,by have:=i.gt.gl;lia,i.gt.lg,i.gt.st,i.gt.ll⟩,i.fin,i.JZ⟩
theorem min2{a n:Nat}:zh (.int a) (.int n)=some (.int (min a n:Nat)):=by
 show some (D.int (if(n:Int)<a then(n:Int) else a))=_;rw[show(if(n:Int)<a then(n:Int) else a)=((min a n:Nat):Int) by split<;>lia]
theorem acu(h:f ρ=some (d,ρ'))(hi:aC d=true):xI f ρ=some (d,ρ'):=by
 unfold xI;rw[h];dsimp only;rw[if_pos hi]
theorem Tq{L ld:List Int}(i:Gi k g)(c:Ce g R)(ml:L∈g.lk):∃R',Ce (dw { aU g L w with ld:=ld,gr:=gr }) R'/\R'.length<=R.length+1:=by
 obtain⟨p,p1,p2,p3,eL,hm⟩:=i.mem ml;have lo:=i.gd.lo (eL ▸ QL);have nt:(aU g L w).n=g.n/\(aU g L w).t=g.t:=by unfold aU;split<;>exact⟨rfl,rfl⟩
 have hw:∀l,word (aU g L w).n (aU g L w).t (hd (aU g L w).ta l)=if l=L then word g.n g.t (hd g.ta L++[w]) else word g.n g.t (hd g.ta l):=λl=>by
  rw[nt.1,nt.2,C4,JU]
  split<;>rfl
 have ol:∀q∈R,word (aU g L w).n (aU g L w).t (hd (aU g L w).ta q.1)≠"more":=λq m=>by
  have:=c.nm q m;rw[hw,if_neg λe=>this (by rw[e];exact hm)];exact this
 by_cases hW:word g.n g.t (hd g.ta L++[w])="more"
 .refine⟨R,⟨?_,?_,ol,c.lo,c.wd⟩,ahl _⟩
  .show(aU g L w).en=_;rw[J7,hW];exact(if_pos (by decide +kernel)).trans c.en
  .show(aU g L w).gw=_;unfold aU;rw[hW,if_neg (by decide +kernel)];exact c.gw
 .have hb:¬(word g.n g.t (hd g.ta L++[w]) == "more")=true:=λe=>hW (eq_of_beq e)
  refine⟨R++[(L,word g.n g.t (hd g.ta L++[w]))],⟨?_,?_,λq m=>?_,λq m=>?_,λq m=>?_⟩,by rw[abR];exact abW _⟩
  .show(aU g L w).en=_;rw[adh,<- c.en,J7,if_neg hb];rfl
  .show(aU g L w).gw=_;rw[List.filter_append,adh,<- c.gw,agF,List.filter_nil];unfold aU;cases hy:(word g.n g.t (hd g.ta L++[w]) == "yes") with
   |true=>rfl
   |false=>exact(acI _).symm
  .rcases abB.mp m with m|m
   .exact ol q m
   .rw[aaB.mp m];show word (aU g L w).n (aU g L w).t (hd (aU g L w).ta L)≠_;rw[hw,if_pos rfl];exact hW
  .rcases abB.mp m with m|m
   .exact c.lo q m
   .rw[aaB.mp m];exact lo
  .rcases abB.mp m with m|m
   .exact c.wd q m
   .rw[aaB.mp m];exact OT _ _ _
theorem Ce.keep(c:Ce g R)(d:Dn s g g'):Ce g' R:=⟨d.en ▸ c.en,d.gw ▸ c.gw,λq m=>by rw[d.n,d.t,d.ta];exact c.nm q m,c.lo,c.wd⟩
def rL(ns:List Int)(st:D)(g:G)(ln:List Int)(ta:Ta)(en:List D)(es:iO)(m:Nat)(b:Bool)(s9 iB gA:Slot):aN:=[some (dI ns,.sh []),some (st,.own),some (gD g,.own),some (iL ln,.own),some (tX ta,.own),some (.lst en,.own),some (bI es,.own),some (.int m,.own),some (.bl b,.own),s9,iB,gA]
structure Iv(w h n t:Int)(j:Nat)(g:G)(es:iO)(m:Nat)(R:Rc):Prop where
 i:Gi j g
 c:Ce g R
 sv:Sv es
 hm:g.C.length=m
 mj:m<=j
 rl:R.length<=j
 w:g.w=w
 h:g.h=h
 n:g.n=n
 t:g.t=t
theorem Xn(i:Gi k g):g.ln∉g.lk/\g.ln++[61]∉g.lk:=by
 constructor<;>intro m<;>obtain⟨p,p1,p2,p3,e,_⟩:=i.mem m
 .have:=pK p3;rw[<- e] at this;omega
 .unfold cU at e;have e:=List.append_cancel_left e;have:(61:Int)∈g.ld:=List.mem_of_mem_take (i:=p) (e ▸ aaB.mpr rfl);have:=i.gd.row 61 (aaw _ this);have:=i.gd.gc.ln;omega
theorem afm(hl:ns.length<=63):yf [dI ns]=some (.bl true):=by
 have e:∃d,yf [dI ns]=some d/\d=.bl true:=by
  obtain⟨_,fs,w,h,n,t,rfl,hw,hh,h1,h2,h3⟩:=So (m:=16) (by omega);refine qt rfl (fH (cT rfl fs) ?_);have fg:=YV (n:=n) (t:=t) (by omega) (by omega) (by omega);have i0:=S9 (n:=n) (t:=t) (by omega) (by omega) (by omega);refine fH (by
   show(match Oj (.ins "Gate" []) [.int w,.int h,.int n,.int t] with|some (.aA,d)=>some (d,Tag.own)|_=>none)=_;rw[fg]) (fH rfl (fH rfl (fH rfl (fH rfl (fH rfl (fH rfl (gb (rL ns (b8 w h n t) (g0 w h n t) [] [] [] [] 0 false none none none) ?_)))))))
  refine O2 (λj ρ=>∃g es m R s9 iB gA,ρ=rL ns (b8 w h n t) g g.ln g.ta g.en es m g.ht s9 iB gA/\Iv w h n t j g es m R) (RJ (aK (d1:=.int ((48:Nat):Int)) rfl (bf rfl EV) min2) (by omega)) ⟨g0 w h n t,[],0,[],none,none,none,rfl,i0,⟨rfl,rfl,(λq m=>nomatch m),(λq m=>nomatch m),(λq m=>nomatch m)⟩,⟨Kb.nil,λk=>by show(0:Int)<=0/\(0:Int)<=4;omega⟩,rfl,abW _,abW _,rfl,rfl,rfl,rfl⟩ (λj ρ hj hI=>?_) λρ hI=>?_
  .obtain⟨g,es,m,R,s9,iB,gA,e,I⟩:=hI;subst e;rw[Int.zero_add];obtain⟨I,c,sv,hm,mj,rl,ew,eh,en,et⟩:=I;subst ew eh en et;refine⟨rL ns (b8 g.w g.h g.n g.t) g g.ln g.ta g.en es m g.ht (some (.int j,.sh [])) iB gA,rfl,?_⟩;have gl:=I.gd.gc.ln;have ll:=I.gd.len;have Yb:=BJ (g:=g);obtain⟨_,fw,s,rfl,wa,ww,wc⟩:=afO (q:=(j:Int)) (by omega);refine fH (cT (ps:=[(dI ns,.sh []),(.int j,.sh []),(.bl g.ht,.sh [8]),(.lst (bR g.lk),.own),(iL (wl g++g.ld),.own)]) (by
    rw[aW,aW,aW,aW,aW,f6 rfl Fd,aK (f6 rfl (uT (by omega))) (f6 rfl Dw) (qK (by rw[ae7];omega))];rfl) fw) (gb (rL ns (b8 g.w g.h g.n g.t) g g.ln g.ta g.en es m g.ht (some (.int j,.sh [])) (some (.str s,.own)) gA) ?_)
   refine xP (I:=λρ=>∃g' d8 R' b gA,ρ=rL ns (b8 g.w g.h g.n g.t) g' g'.ln g'.ta g'.en d8 m b (some (.int j,.sh [])) (some (.str s,.own)) gA/\Gi (j+1) g'/\Ce g' R'/\R'.length<=j+1/\Sv d8/\g'.C.length=(if s="ask" then m+1 else m)/\(g'.w=g.w/\g'.h=g.h/\g'.n=g.n/\g'.t=g.t)/\g'.ht=(if s="stop" then true else if s="go" then false else b)) (uB rfl (λhA=>?_) λhA=>?_) λρ hI=>?_
   .have hs:=eq_of_beq hA;subst hs;obtain⟨_,_,fa,L,u,ld,gr,ml,rfl,rfl,i'⟩:=TR (q:=(j:Int)) (by omega) I (by omega) (wa rfl);obtain⟨R',c',QW⟩:=Tq (w:=u) (ld:=ld) (gr:=gr) I c ml;obtain⟨p,p1,p2,p3,eL,_⟩:=I.mem ml;have k5:(aU g L u).C=g.C/\((aU g L u).w=g.w/\(aU g L u).h=g.h/\(aU g L u).n=g.n/\(aU g L u).t=g.t)/\(aU g L u).ht=g.ht/\(aU g L u).ln=if(word g.n g.t (hd g.ta L++[u]) == "yes")=true then L else g.ln:=by
     unfold aU
     split<;>exact⟨rfl,⟨rfl,rfl,rfl,rfl⟩,rfl,rfl⟩
    refine gC (EH (Qk (ps:=[(dI ns,.sh []),(.int j,.sh []),(gD g,.sh [2]),(tX g.ta,.sh [4]),(.lst g.en,.sh [5]),(b8 g.w g.h g.n g.t,.sh [1])]) rfl fa)) (gb (rL ns (b8 g.w g.h g.n g.t) (dw { aU g L u with ld:=ld,gr:=gr }) g.ln (aU g L u).ta (aU g L u).en es m g.ht (some (.int j,.sh [])) (some (.str "answer",.own)) (some (.tup [tD L,.str (word g.n g.t (hd g.ta L++[u]))],.own))) ?_);refine gC (gq (bu rfl) rfl) ?_;have i1:∀v:D,aC v=true->∀{x:D} {i},dQ [tD L,.str (word g.n g.t (hd g.ta L++[u]))] i=some v->dW (.tup [tD L,.str (word g.n g.t (hd g.ta L++[u]))]) (.int i)=some v:=λv hv _ i e=>Wm e hv
    have fin:∀ln,ln=(aU g L u).ln->∃r,some (Out.nx (rL ns (b8 g.w g.h g.n g.t) (dw { aU g L u with ld:=ld,gr:=gr }) ln (aU g L u).ta (aU g L u).en es m g.ht (some (.int j,.sh [])) (some (.str "answer",.own)) (some (.tup [tD L,.str (word g.n g.t (hd g.ta L++[u]))],.own))))=some r/\∃ρ',r=.nx ρ'/\∃g' d8 R' b gA,ρ'=rL ns (b8 g.w g.h g.n g.t) g' g'.ln g'.ta g'.en d8 m b (some (.int j,.sh [])) (some (.str "answer",.own)) gA/\Gi (j+1) g'/\Ce g' R'/\R'.length<=j+1/\Sv d8/\g'.C.length=(if("answer":Str)="ask" then m+1 else m)/\(g'.w=g.w/\g'.h=g.h/\g'.n=g.n/\g'.t=g.t)/\g'.ht=(if("answer":Str)="stop" then true else if("answer":Str)="go" then false else b):=λln e=>⟨_,rfl,_,rfl,dw { aU g L u with ld:=ld,gr:=gr },es,R',g.ht,some (.tup [tD L,.str (word g.n g.t (hd g.ta L++[u]))],.own),by rw[e];rfl,i',c',by omega,sv,by rw[if_neg (by decide +kernel)];exact(congrArg List.length k5.1).trans hm,k5.2.1,by rw[if_neg (by decide +kernel),if_neg (by decide +kernel)];exact k5.2.2.1⟩
    have t1:tV (e2 oEq (e2 dW (aj 11) (eC (.int 1))) (eC (.str "yes"))) (rL ns (b8 g.w g.h g.n g.t) (dw { aU g L u with ld:=ld,gr:=gr }) g.ln (aU g L u).ta (aU g L u).en es m g.ht (some (.int j,.sh [])) (some (.str "answer",.own)) (some (.tup [tD L,.str (word g.n g.t (hd g.ta L++[u]))],.own)))=some (word g.n g.t (hd g.ta L++[u]) == "yes"):=bu (aK (aK rfl rfl (i1 _ rfl (x:=.aA) rfl)) rfl rfl);have hi:e1 qQ (e2 dW (aj 11) (eC (.int 0))) (rL ns (b8 g.w g.h g.n g.t) (dw { aU g L u with ld:=ld,gr:=gr }) g.ln (aU g L u).ta (aU g L u).en es m g.ht (some (.int j,.sh [])) (some (.str "answer",.own)) (some (.tup [tD L,.str (word g.n g.t (hd g.ta L++[u]))],.own)))=some (iL L,.own):=bf (aK rfl rfl (i1 _ (rG _) (x:=.aA) rfl)) (if_pos (eF _));cases hy:(word g.n g.t (hd g.ta L++[u]) == "yes") with
    |true=>
     rw[hy] at t1;have hc:e2 mG (lA (e1 qQ (e2 dW (aj 11) (eC (.int 0)))) (e1 d7 (aj 3))) (aj 3) (rL ns (b8 g.w g.h g.n g.t) (dw { aU g L u with ld:=ld,gr:=gr }) g.ln (aU g L u).ta (aU g L u).en es m g.ht (some (.int j,.sh [])) (some (.str "answer",.own)) (some (.tup [tD L,.str (word g.n g.t (hd g.ta L++[u]))],.own)))=some (.bl false,.own):=by
      have:g.ln.length<=L.length:=by rw[eL,pK p3];omega
      refine aK (d1:=iL g.ln) (t1:=.own) (d2:=iL g.ln) ?_ rfl ((O9 _ _).trans (by rw[aaA rfl];rfl));unfold lA;rw[hi,bf rfl o8];show(if aM (L.map D.int)=true then some (D.lst (cutD (L.map D.int) none (some (g.ln.length:Int))),Tag.own) else none)=_;rw[if_pos (eF _),Cu (by rw[List.length_map];exact this),<- List.map_take,eL];unfold cU;rw[List.take_left];rfl
     obtain⟨r,e,q⟩:=fin L (by rw[k5.2.2.2,if_pos hy]);exact⟨r,(fG t1 (sq (gq (bu hc) rfl) (by rw[jY,hi];rfl))).trans e,q⟩
    |false=>
     rw[hy] at t1;obtain⟨r,e,q⟩:=fin g.ln (by rw[k5.2.2.2,hy];rfl);exact⟨r,(gq t1 rfl).trans e,q⟩
   .obtain⟨_,_,fd,g',d8,rfl,rfl,i',Ip,dn,hC⟩:=T5 (ns:=ns) (q:=(j:Int)) (s:=s) (es:=es) (m:=m) (by omega) I sv hm (by omega) ww (by
     rcases wc with h|h|h|h|h
     .exact .inl h
     .exact .inr (.inl h)
     .rw[h] at hA;exact absurd hA (by decide +kernel)
     .exact .inr (.inr (.inl h))
     .exact .inr (.inr (.inr h)))
    refine⟨.nx (rL ns (b8 g.w g.h g.n g.t) g' g.ln g.ta g.en d8 m g.ht (some (.int j,.sh [])) (some (.str s,.own)) (sA 6 (sA 2 gA))),?_,_,rfl,g',d8,R,g.ht,sA 6 (sA 2 gA),by rw[dn.ln,dn.ta,dn.en],i'.up,c.keep dn,by omega,Ip,hC,⟨dn.w,dn.h,dn.n,dn.t⟩,dn.ht⟩;unfold vv F9;rw[acu (abr (ps:=[(dI ns,.sh []),(.int j,.sh []),(.str s,.sh [10]),(gD g,.sh [2]),(bI es,.sh [6]),(.int m,.sh [7])]) rfl fd) rfl];rfl
   obtain⟨g',d8,R',b,uI,e,i',c',QW,Ip,hC,⟨q1,q2,q3,q4⟩,eb⟩:=hI;subst e;have jF:∃m',m'=(if s="ask" then m+1 else m)/\m'<=j+1:=⟨_,rfl,by split<;>omega⟩
   obtain⟨m',em,jF⟩:=jF;rw[<- em] at hC;refine gC (ρ':=rL ns (b8 g.w g.h g.n g.t) g' g'.ln g'.ta g'.en d8 m' b (some (.int j,.sh [])) (some (.str s,.own)) uI) ?_ ?_
   .have t1:tV (e2 oEq (aj 10) (eC (.str "ask"))) (rL ns (b8 g.w g.h g.n g.t) g' g'.ln g'.ta g'.en d8 m b (some (.int j,.sh [])) (some (.str s,.own)) uI)=some (s == "ask"):=rfl
    by_cases hs:s="ask"
    .rw[if_pos hs] at em;rw[show(s==("ask":Str))=true by rw[hs];decide +kernel] at t1;subst em;exact fG t1 rfl
    .rw[if_neg hs] at em;rw[show(s==("ask":Str))=false from adu.mpr hs] at t1;subst em;exact gq t1 rfl
   refine gC (ρ':=rL ns (b8 g.w g.h g.n g.t) g' g'.ln g'.ta g'.en d8 m' g'.ht (some (.int j,.sh [])) (some (.str s,.own)) uI) ?_ ?_
   .have t1:jU (tV (e2 oEq (aj 10) (eC (.str "stop")))) (tV (e2 oEq (aj 10) (eC (.str "go")))) (rL ns (b8 g.w g.h g.n g.t) g' g'.ln g'.ta g'.en d8 m' b (some (.int j,.sh [])) (some (.str s,.own)) uI)=some (s == "stop"||s == "go"):=wY rfl rfl;rw[eb]
    by_cases hs:s="stop"
    .subst hs;exact fG t1 rfl
    .by_cases hg:s="go"
     .subst hg;exact fG t1 rfl
     .rw[adu.mpr hs,adu.mpr hg] at t1;rw[if_neg hs,if_neg hg];exact gq t1 rfl
   obtain⟨n1,n2⟩:=Xn i';have gl':=i'.gd.len;refine gC (gq ((qL (kN (b:=true) (bu (cT (ps:=[(gD g',.sh [2]),(tD g'.ln,.own)]) (by rw[aW,aW,bf rfl vM];rfl) (Nj n1))))).trans (kN (b:=true) (bu (cT (ps:=[(gD g',.sh [2]),(tD (g'.ln++[61]),.own)]) (by rw[aW,aW,bf (aK (d2:=iL [61]) rfl rfl (qK (by rw[ae7];show _+1<=_;omega))) vM];rfl) (Nj n2))))) rfl) ?_;have fr:=OO i' c' (by omega);rw[q1,q2,q3,q4] at fr;exact⟨_,gq (kN (b:=true) (bu (cT (ps:=[(gD g',.sh [2]),(iL g'.ln,.sh [3]),(.lst g'.en,.sh [5]),(b8 g.w g.h g.n g.t,.sh [1]),(.bl g'.ht,.sh [8])]) rfl fr))) rfl,_,rfl,g',d8,m',R',_,_,_,rfl,i',c',Ip,hC,jF,QW,q1,q2,q3,q4⟩
  .obtain⟨g,es,m,R,s9,iB,gA,e,I⟩:=hI;subst e;have fr:=OO I.i I.c (by have:=I.rl;omega);rw[I.w,I.h,I.n,I.t] at fr;exact⟨_,cM (cT (ps:=[(gD g,.sh [2]),(iL g.ln,.sh [3]),(.lst g.en,.sh [5]),(b8 w h n t,.sh [1]),(.bl g.ht,.sh [8])]) rfl fr),_,rfl,rfl⟩
 obtain⟨_,e,rfl⟩:=e;exact e
end K90
namespace HT
open PySem PySem.W PyProof.Rows
section
variable{K:Params->Frag}
end
end HT
namespace K90
open PySem L2 L2.Ev
local macro_rules | `(tactic| walk_at "ba")=>`(tactic| first | exact ba_n 1 rfl fun _ _ _ _ _ _ _=>rfl | exact ba_n 2 rfl fun _ _ _ _ _ _ _=>rfl | exact ba_n 3 rfl fun _ _ _ _ _ _ _=>rfl | exact ba_n 4 rfl fun _ _ _ _ _ _ _=>rfl | exact ba_n 5 rfl fun _ _ _ _ _ _ _=>rfl | exact ba_n 6 rfl fun _ _ _ _ _ _ _=>rfl)
set_option maxHeartbeats 0 in
theorem all_mk{l:PySem.W.OpenLaw}{w:World}{K:PySem.W.Frag}{h:Heap}{mg:Str->Option Value}{fa:Addr}(X:K.In h)(G:h.Ns mainGlobals mg)(E1:mg "law"=some (.ref fa))(q:tP L K=true)(t:tab.map (look K)=tab.map want):
  ∃fd:FuncData,(∀(s:Shared) (v:Value),BindsTo s fd ⟨[v],[]⟩ [("_law_script",v)])/\∀base:Heap,K.In base->base.Ns mainGlobals mg->bU l.prog w K mg base c_ 15 fa fd ["_law_script"] (bx K yf):=by
 refine abw (sp:=λ_=>bx K yf) X G E1 (M5 (s:=top 60) 29 t rfl) (λ_ _ _ _ _ _ _ _=>.of_eq rfl) λbase _ _ _ _ F=>?_
 have E:En L ⟨l.prog,w,K,mg,base⟩:=aa6 X G q;have W0:=ez X G t 0 (Df _ E);have W1:=ez X G t 1 (CP _ ⟨E,W0⟩);have W2:=ez X G t 2 (Ei _ E);have W3:=ez X G t 3 (Fj _ ⟨E,W2⟩);have W30:=Eh t q 30 (Q3 _ E);have W39:=Eh t q 39 (Ib _ ⟨E,W3,W2,W30⟩);have W4:=ez X G t 4 (Fg _ ⟨E,W0⟩);have F7:=cX t 31 (DW _ E);have W40:=cX t 40 (Ic _ E);have vD:=cX t 41 (Jj _ ⟨E,F7,W40⟩);have CL:=cX t 42 (Gu _ E);have Gn:=cX t 43 (JK _ E);have W5:=ez X G t 5 (EL _ ⟨E,W0⟩);have W6:=ez X G t 6 (DL _ E);have Qu:=cX t 66 (C0 _ E);have X5:=cX t 67 (G6 _ ⟨E,Qu⟩);have Xg:=Eh t q 68 (Gk _ ⟨E,W3⟩);have W44:=cX t 44 (Fy _ E);have Hj:=cX t 32 (DX _ ⟨E,W2,F7⟩);have Hs:=cX t 33 (D_ _ ⟨E,Hj⟩);have Q5:=cX t 34 (J9 _ ⟨E,Hs⟩);have T4:=cX t 45 (IZ _ ⟨E,vD,Q5⟩);have DJ:=cX t 46 (Il _ ⟨E,Qu⟩);have IM:=cX t 47 (CW _ E);have CM:=cX t 48 (GS _ ⟨E,DJ,IM⟩);have W7:=ez X G t 7 (Ea _ E);have W8:=ez X G t 8 (Fx _ E);have W9:=ez X G t 9 (OD _ ⟨E,W7,W8⟩);have B8:=cX t 35 (Ih _ ⟨E,Hs⟩);have Lr:=ez X G t 10 (Gs _ ⟨E,W9,B8⟩);have U4:=ez X G t 11 (Hr _ ⟨E,Lr⟩);have WJ:=cX t 36 (CN _ ⟨E,Hs⟩);have Vb:=ez X G t 12 (JV _ ⟨E,WJ⟩);have W13:=ez X G t 13 (Eb _ ⟨E,W7,B8⟩);have W14:=ez X G t 14 (Iw _ ⟨E,Vb,W13⟩);have NG:=ez X G t 15 (EG _ ⟨E,Q5⟩);have UW:=ez X G t 16 (C5 _ ⟨E,U4,W14,NG,B8⟩);have Ws:=cX t 49 (FQ _ ⟨E,CM,IM,DJ⟩);have W50:=cX t 50 (Ex _ ⟨E,Lr⟩);have W17:=ez X G t 17 (F1 _ ⟨E,W7⟩);have Ue:=cX t 51 (G8 _ ⟨E,NG,vD,W50,W17,B8⟩);have V5:=cX t 52 (GO _ ⟨E,CM,UW,vD,Ws,Ue⟩);have W53:=cX t 53 (HN _ ⟨E,DJ⟩);have Va:=ez X G t 18 (J_ _ E);have T8:=ez X G t 19 (EY _ ⟨E,Va⟩);have Yq:=cX t 54 (Ds _ ⟨E,W53,IM,T8,CM⟩);have xS:=cX t 55 (Je _ ⟨E,T4,V5,Yq⟩);have W56:=cX t 56 (HS _ ⟨E,X5,Xg,W44,xS⟩);have W20:=ez X G t 20 (JS _ ⟨E,Gn,W0,W5,W6,W56⟩);have Zx:=ez X G t 21 (Jc _ ⟨E,W0⟩);have Vv:=ez X G t 22 (IW _ ⟨E,W0,Zx⟩);have O5:=ez X G t 23 (Hw _ E);have W24:=ez X G t 24 (Gm _ ⟨E,W2,O5⟩);have Zq:=cX t 37 (J4 _ ⟨E,W2,O5,Hj,W24⟩);have W38:=cX t 38 (GQ _ ⟨E,Zq,F7⟩);have YD:=cX t 57 (JG _ ⟨E,W38,xS⟩);have W58:=cX t 58 (G2 _ ⟨E,Hj,xS⟩);have W59:=cX t 59 (Ij _ ⟨E,xS⟩);have W60:=cX t 60 (CI _ ⟨E,xS⟩);have Wi:=ez X G t 25 (E9 _ ⟨E,Vv,YD,vD,CL,W58,W0,W59,W60⟩);have Zm:=W_r t 61 (C_ _ E);have W26:=ez X G t 26 (JJ _ ⟨E,Zm⟩);have Nv:=cX t 62 (D5 _ E);have YQ:=cX t 63 (Jl _ E);have W64:=cX t 64 (I_ _ E);have W65:=cX t 65 (D3 _ E);have W27:=ez X G t 27 (DI _ ⟨E,CL,Gn,Nv,vD⟩);have UL:=ez X G t 28 (JN _ ⟨E,Nv,YQ,W64,W65,W27⟩);exact o_law _ ⟨E,W1,W39,W4,vD,CL,Gn,W20,Wi,W26,UL⟩ _ _ F
theorem wk:Wk:=λhY hT hL hq ht zD hdn=>
 L2.aby (n:=63) (k:=15) (x:="_law_script") (CX:=λ_=>c_) (sp:=λw=>bx (_:PySem.W.Frag) yf) rfl (by decide) zD ⟨λ_=>rfl,by decide,by decide,rfl⟩ hY hT hL (λw mg fa h KX G yN=>all_mk KX G (hdn ▸ yN) (hq w) (ht w)) (λw H a ns hl hz=>by
  refine⟨[dI ns],[]++[],.bl true,.cons (.Cp hz (v8 ns)) .nil,afm hl,λH' v gO _ r _ _=>?_⟩;cases r;rfl) λ_ _ _ _ _ z=>z
open PySem PySem.W PyProof.Rows L2 L2.Ev
end K90
theorem PySem.Challenge.cw_linegate_k90_whole_line_looked_at_holds : PySem.Challenge.rw_linegate_k90_whole_line_looked_at.Holds := by
 exact K90.early K90.wk
