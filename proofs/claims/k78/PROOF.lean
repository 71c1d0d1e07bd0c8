import PyProof.Rows.All
import Wide.All
import OpenK.AllK
import Wide.FinOn
import PySem.Challenge.RW_haulbell_k78_whole_two_orders
import Lean
import PyProof.EqAt
import PyProof.EqKinds
import PyProof.TupleCall
import PyProof.EnumStmt
import PyProof.NeKinds
import PyProof.ExcAttrAll.ValueError
import PyProof.ExcInit
import PyProof.StationsW
import PyProof.NsDelKeeps
import PyProof.InstStoreFacts
import PyProof.ZipIter
import PyProof.IsiBase
import PyProof.AttrMiss
import KE.KDictOf
import KE.KDictList
import PyProof.InstEq
import PyProof.Rows.Range3
import PyProof.StrOps2
import KE.LcSums
open PySem.W renaming behindTheImports→ac
open PySem renaming wpAny_bind→ad,wpAny_pure→am,wpAny_field→ap,wpAny_holding→bd,wpAny_truthy_bool→bi,starEach→bm,sizeLine→bn,wpAny_Call_Name_kw→bv
open List renaming length_map→ce,length_append→ci,mem_of_getElem?→cr,length_take→db,mem_cons_of_mem→dL,map_append→f8,length_singleton→ge,size_toArray→ii,mem_append_right→im,getElem?_map→io,length_drop→jp,append_assoc→le,getElem?_eq_getElem→li,mem_cons_self→mo,mem_cons→nb
open Bool renaming and_eq_true→nl
open Option renaming map_eq_some_iff→nw
open Nat renaming lt_of_lt_of_le→ol,le_of_ble_eq_true→pc,ne_of_lt→pi,le_refl→re
open Int renaming toNat_natCast→sn,eq_ofNat_of_zero_le→sw
open List renaming replicate→sK,getElem?_eq_some_iff→tz
open PySem.Heap renaming get?_push_of_some→ul,lt_size→ut,get?_push_size→v4
set_option linter.all false
set_option maxRecDepth 100000
set_option Elab.async false
set_option compiler.extract_closed false
theorem My.kleA {a b k:Nat}(h:a<=k)(e:Nat.ble (b+1) a=true):b<=k-1:=Nat.le_sub_one_of_lt (ol (pc e) h)
theorem My.kleB {a b k:Nat}(h:a<=k)(e:Nat.ble b a=true):b<=k:=Nat.le_trans (pc e) h
set_option hygiene false
local macro_rules| `(tactic|sleep $n:num)=>`(tactic|((conv at h=>lhs;whnf);iterate $n (split at h;rotate_left;cases h)))
set_option hygiene true
local macro_rules|`(command|abbrev $i:declId $s:optDeclSig $v:declVal)=>`(command|noncomputable def $i:declId $s:optDeclSig $v:declVal)
local macro_rules|`(command|def $i:declId $b:bracketedBinder* :$t $v:declVal)=>`(command|theorem $i:declId $b:bracketedBinder* :$t $v:declVal)
local macro_rules|`(nofun)=>`(by first|exact My.kleA (by assumption) (by rfl)|exact My.kleB (by assumption) (by rfl)|lia|omega)
local macro_rules|`(tactic|omega)=>`(tactic|lia)
noncomputable abbrev My.pr:PySem.Program:=PySem.Challenge.rw_haulbell_k78_whole_two_orders.row.prog
open PySem PySem.W in
set_option maxHeartbeats 0 in
def My.Jq:PySem.Challenge.rw_haulbell_k78_whole_two_orders.wellSaid=true:=by
  rewrite [Fast.te9446332074065402090]
  kernel_rfl
namespace L2
open PySem PySem.Spec
abbrev inClass (s:Stmt)(j:Nat):Stmt:=match s with
  | .ClassDef _ _ _ body _ _ _ _ _ _ _=>body.getD j (.Pass ⟨0,0,0,0⟩)
  |_=>.Pass ⟨0,0,0,0⟩
abbrev vx (s:Stmt):Arguments:=match s with
  | .FunctionDef _ a _ _ _ _ _ _ _ _=>a
  |_=>{ posonlyargs:=[],args:=[],vararg:=none,kwonlyargs:=[],kw_defaults:=[],kwarg:=none,defaults:=[] }
abbrev uR (s:Stmt):List Stmt:=match s with
  | .FunctionDef _ _ b _ _ _ _ _ _ _=>b
  |_=>[]
abbrev sP (s:Stmt):Scope:=match s with
  | .FunctionDef _ _ _ _ _ _ sc _ _ _=>sc
  |_=>{ kind:=.function,names:=[],isGenerator:=false,isCoroutine:=false }
end L2
namespace My
open PySem L2 PySem.W
abbrev top (i:Nat):Stmt:=PySem.Challenge.pw_haulbell_k78_whole_two_orders.main.body.getD i (.Pass ⟨0,0,0,0⟩)
abbrev tq (i j:Nat):Stmt:=inClass (top i) j
/-- the top's run on a tree -/
abbrev mG (tb:String->Option Builtin)(p:Program)(w:World)(m:Nat)(ann:Option Value):Nat->SharedT->Thread->Option SharedT
  |0,_,_=>none
  |n+1,s,t=>match through t with
    |true=>some s
    |false=>match stepOk m ann t with
      |false=>none
      |true=>match stepT (denote tb) p w s t with
        |some r=>mG tb p w m ann n r.1 r.2
        |none=>none
def uL {tb:String->Option Builtin}{p:Program}{w:World}{m:Nat}{ann:Option Value}:∀ {n:Nat}{s s':SharedT}{t:Thread},mG tb p w m ann n s t=some s'->topRun tb p w m ann n s.abs t=some s'.abs
  |0,_,_,_,h=>by cases h
  |n+1,s,s',t,h=>by
    unfold mG at h;unfold topRun;cases a:through t
    · rw[a]at h;dsimp only at h⊢
      cases b:stepOk m ann t
      · rw[b]at h;cases h
      · rw[b]at h;dsimp only at h⊢
        cases c:stepT (denote tb) p w s t with
        |none=>rw[c]at h;cases h
        |some r=>rw[c]at h;rw[stepT_spec c];exact uL h
    · rw[a]at h;cases h;rfl
abbrev HW:Nat->BT->List Obj->BT
  |_,t,[]=>t
  |n,t,o::os=>HW (n+1) (t.ins n o) os
abbrev AE (P:Params):BT:=HW 0 .nil (boot_heap P).objs.toList
abbrev K9 (P:Params)(os:OsState):SharedT:=⟨AE P,11,(boot_heap P).life,Array.mk [],boot_drawn,boot_toks,os⟩
def xG {p q:Program}{loose:List Str}{Xt:Shared->Bool}{α:Type}{Yf:Shared->α}{Ya:World->α}{N:Nat}(e:opening p=plainProg p.main.scope.names)(hN:Nat.ble 600 N=true)(f:∀ s,fenceModules? p s=some s)
    (h0:∀ P,absHeap (AE P) 11 (boot_heap P).life=boot_heap P) (h1:∀ P,((boot_heap P).isNs mainGlobals,(boot_heap P).objs.size,(boot_heap P).nsMap mainGlobals "__annotations__")=(true,11,some (.ref 6)))
    (run:∀ (w:World) (os:OsState),(mG treeTable p w 11 (some (.ref 6)) N (K9 w.params os) (topStub p)).map (λs=>(staticsOk (importedModules p.main.body) (boot_heap w.params) s.abs.heap&&namesBound p s.abs.heap&&gensDone s.abs&&laidKept (boot_heap w.params) s.abs.heap,
      openSeen q loose (importedModules p.main.body) Xt true s.abs,Yf s.abs))=some (true,openGood q loose,Ya w)):LeftO p q loose Xt Yf Ya N:=λw=>by
  obtain⟨⟨hp,gs,d,k,os⟩,e1,e2⟩:=nw.mp (boot_open e hN f w);obtain⟨rfl,rfl,rfl,rfl⟩:hp=boot_heap w.params/\gs=Array.mk []/\d=boot_drawn/\k=boot_toks:=by simpa using e2
  obtain⟨z1,z2,z3⟩:_/\_/\_:=by simpa only [Prod.mk.injEq] using h1 w.params
  obtain⟨s,r,l⟩:=nw.mp (run w os);obtain⟨l1,l2,l3⟩:_/\_/\_:=by simpa only [Prod.mk.injEq] using l
  have r1:=uL r;have a0:(K9 w.params os).abs=⟨boot_heap w.params,Array.mk [],boot_drawn,boot_toks,os⟩:=by
    show(⟨absHeap (AE w.params) 11 (boot_heap w.params).life,Array.mk [],boot_drawn,boot_toks,os⟩:Shared)=_;rw[h0]
  rw[a0]at r1;unfold openEnds;rw[e1];have t:topFrom treeTable p w N ⟨boot_heap w.params,Array.mk [],boot_drawn,boot_toks,os⟩=some s.abs:=by
    unfold topFrom;dsimp only;rw[z1,z2,z3,r1];show(match staticsOk (importedModules p.main.body) (boot_heap w.params) s.abs.heap&&namesBound p s.abs.heap&&gensDone s.abs&&laidKept (boot_heap w.params) s.abs.heap with|true=>some s.abs|false=>none)=some s.abs;rw[l1]
  show(topFrom treeTable p w N _).map _=_;rw[t];exact congrArg some (Prod.ext l2 l3)
abbrev K2:List Addr:=2::3::30::31::47::48::50::51::66::67::69::70::85::86::88::89::104::105::107::108::123::124::126::127::142::143::145::146::161::162::164::165::180::181::183::184::199::200::202::203::211::212::218::219::220::226::227::233::234::240::241::249::255::256::262::263::269::270::274::275::281::282::284::285::295::296::302::303::312::313::330::331::337::338::344::345::347::348::363::364::370::371::377::378::380::381::396::397::403::404::410::411::413::414::429::430::436::437::443::444::446::447::462::463::469::470::476::477::479::480::488::489::495::496::502::503::511::517::518::524::525::531::532::538::539::545::546::559::560::578::579::585::586::588::589::599::600::606::607::620::621::627::628::634::635::655::656::662::663::669::670::683::684::686::687::697::698::704::705::711::712::716::717::723::724::730::731::737::738::749::750::756::757::763::764::770::771::777::778::791::792::796::797::803::804::813::814::824::825::831::832::840::846::847::853::854::860::861::863::864::872::873::879::880::886::887::893::894::900::901::907::908::921::922::928::929::931::932::947::948::954::955::957::958::973::974::980::981::983::984::999::1000::1006::1007::1009::1010::1025::1026::1032::1033::1035::1036::1051::1052::1058::1059::1061::1062::1070::1071::1077::1078::1084::1085::1091::1092::1098::1099::1105::1106::1112::1113::1119::1120::1126::1127::1133::1134::1140::1141::1147::1148::1154::1155::1159::1160::1164::1165::1171::1172::1176::1177::1181::1182::1188::1189::1195::1196::1202::1203::1207::1208::1214::1215::1221::1222::1226::1227::1231::1232::[]
abbrev LH:List Addr:=48::67::86::105::124::143::162::181::200::212::219::227::234::241::256::263::270::275::282::296::303::331::338::345::364::371::378::397::404::411::430::437::444::463::470::477::489::496::503::518::525::532::539::546::560::579::586::600::607::621::628::635::656::663::670::684::698::705::712::717::724::731::738::750::757::764::771::778::792::797::804::825::832::847::854::861::873::880::887::894::901::908::922::929::948::955::974::981::1000::1007::1026::1033::1052::1059::1071::1078::1085::1092::1099::1106::1113::1120::1127::1134::1141::1148::1155::1160::1165::1172::1177::1182::1189::1196::1203::1208::1215::1222::1227::1232::[]
abbrev MI:List Addr:=[31,51,70,89,108,127,146,165,184,203,285,313,348,381,414,447,480,589,687,814,864,932,958,984,1010,1036,1062]
abbrev runK (tb:String->Option Builtin)(p:Program)(w:World)(m:Nat)(ann:Option Value):Nat->SharedT->Thread->Option (SharedT×Thread)
  |0,s,t=>some (s,t)
  |n+1,s,t=>match through t with
    |true=>none
    |false=>match stepOk m ann t with
      |false=>none
      |true=>match stepT (denote tb) p w s t with
        |some r=>runK tb p w m ann n r.1 r.2
        |none=>none
def cy {tb:String->Option Builtin}{p:Program}{w:World}{m:Nat}{ann:Option Value}{k:Nat}:∀ {n:Nat}{s:SharedT}{t:Thread}{r:SharedT×Thread},runK tb p w m ann n s t=some r->mG tb p w m ann (n+k) s t=mG tb p w m ann k r.1 r.2
  |0,s,t,r,h=>by
    rw[Nat.zero_add];cases h
    rfl
  |n+1,s,t,r,h=>by
    rw[Nat.succ_add];unfold runK at h;conv=>lhs;unfold mG
    cases a:through t
    · rw[a]at h;dsimp only at h⊢
      cases b:stepOk m ann t
      · rw[b]at h;cases h
      · rw[b]at h;dsimp only at h⊢
        cases c:stepT (denote tb) p w s t with
        |none=>rw[c]at h;cases h
        |some r=>rw[c]at h;exact cy h
    · rw[a]at h;cases h
abbrev kT (x y:Str)(s:Stmt):Obj:=⟨.none,none,.func { name:=x,qualname:=y,params:=vx s,body:=.stmts (uR s),scope:=sP s,globals:=builtinsNs,closure:=[],defaults:=.none,kwdefaults:=.none },#[]⟩
abbrev bo (P:Params)(i:Nat):Obj:=(boot_heap P).objs.toList.getD i ⟨.none,none,.plain,#[]⟩
abbrev jb (p:Program):Env:={ scope:=p.main.scope,locals:=mainNs,globals:=mainNs,cells:=[],code:=.ref 13,frame:=some 14 }
abbrev MR:Frame:=.ret (λx=>Sem.bind (match x with| .ok f=>Sem.pure f| .error e=>Sem.raise e) (λ_=>ret .none)) none false [] (.builtin "claim.caller" {}) default []
abbrev BJ (p:Program)(X:List Stmt):Sem Fin:=Sem.bind (Sem.onRaise (execs X (jb p)) (leaving (jb p))) (λa=>Sem.pure (Fin.done a))
abbrev iU (p:Program)(X:List Stmt)(q:Pos):Thread:=⟨BJ p X,.body (ac p) (jb p),q,[MR]⟩
def Af {tb:String->Option Builtin}{p:Program}(h:blockStart (ac p) (jb p)=Sem.pure ()):denote tb (.body (ac p) (jb p))=BJ p (ac p):=by
  show Sem.bind (blockStart (ac p) (jb p)) (λ_=>BJ p (ac p))=_;rw[h]
  rfl
abbrev o0:Obj:=⟨.type "tuple",none,.seq #[] 0,#[]⟩
abbrev oN:Obj:=⟨.none,none,.fields #[],#[]⟩
abbrev oL:List Str->Nat->List Value
  | [],_=>[]
  |x::r,t=>.str x t::oL r (t+1)
abbrev oS (l:List Str)(t:Nat):Obj:=⟨.type "tuple",none,.seq (Array.mk (oL l t)) 0,#[]⟩
abbrev KR (l:List (Int×Nat)):Array Value:=(l.flatMap λp=>[.int p.1 0,.int 0 0,.ref p.2]).toArray
abbrev MD:List (Int×Nat):=[(1,20),(5,27),(7,40),(12,59),(18,78),(24,97),(29,116),(34,135),(39,154),(44,173),(49,192),(56,211),(58,218),(62,226),(64,233),(66,240),(74,247),(103,295),(106,302),(109,309),(111,323),(125,356)]
abbrev MK:List (Int×Nat):=MD++[(139,389),(153,422),(165,455),(182,488),(188,495),(191,502),(198,509),(252,599),(258,606),(260,613),(305,697),(311,704),(320,711),(322,716)]
abbrev MH:List (Int×Nat):=MK++[(326,723),(328,730),(339,737),(341,744),(383,824),(385,831),(387,838),(406,872),(408,879),(410,886),(413,893),(416,900),(419,907),(426,914),(438,940),(449,966),(464,992)]
abbrev Nx:List (Int×Nat):=MH++[(481,1018),(499,1044),(515,1070),(521,1077),(537,1084),(539,1091),(557,1098),(572,1105),(584,1112),(588,1119),(611,1126),(619,1133),(630,1140),(653,1147),(682,1154),(700,1159),(702,1164),(709,1171),(718,1176),(724,1181),(730,1188),(735,1195),(743,1202),(747,1207),(756,1214),(762,1221),(770,1226)]
abbrev oI (l c a:Nat):Obj:=⟨.none,none,.fields #[.int l 0,.int c 0,.ref a],#[]⟩
abbrev oK (x:Str)(t l r:Nat):Obj:=⟨.type "code",none,.fields #[.str x t,.str x (t+1),.str "/claim/cut.py" (t+2),.int l 0,.int 0 0,.int 0 0,.int 0 0,.int 0 0,.ref r,.bool false,.int 181 0,.ref (r+1),.none,.none,.none,.none,.int (t+3:Nat) 0,.int l 0,.str "/claim/cut.py" (t+4)],#[]⟩
abbrev oC (x y:Str)(t l n r u:Nat):Obj:=⟨.type "code",none,.fields #[.str x t,.str y (t+1),.str "/claim/cut.py" (t+2),.int l 0,.int n 0,.int 0 0,.int 0 0,.int 3 0,.ref r,.bool true,.int 181 0,.ref (r+1),.none,.ref (r+2),.ref (r+3),.ref (r+4),.int u 0,.int l 0,.str "/claim/cut.py" (u+1)],#[]⟩
abbrev oF (x y:Str)(s:Stmt)(m:Str)(t c:Nat)(d:Value:=.none):Obj:=⟨.type "function",none,.func (fnOf x y (vx s) (uR s) (sP s) d .none .none (.str m t) none (.ref c) .none),#[]⟩
abbrev oR (a b:Nat)(m:Str)(t:Nat):Obj:=⟨.type "frame",none,.plain,#[some (.ref a),some (.ref 3),some (.ref b),none,some (.str m t),none,some (.ref 0)]⟩
abbrev oX (x:Str)(b m:List Value)(n:Addr)(s:List Value)(r t u:Nat)(w:String):Obj:=⟨.type "type",none,.cls ⟨x,b,m,n,x,true,[],s,false,none,false⟩,#[some (.ref r),none,some (.str x t),some (.str x u),some (.builtin w),some (.bool true)]⟩
abbrev oU (a:Addr):Obj:=⟨.type "super",none,.fields #[.ref a,.ref a,.ref a],#[]⟩
abbrev oJ (a:Addr):Obj:=⟨.type "builtin_function_or_method",none,.fields #[.builtin "object.__init_subclass__",.ref a],#[]⟩
abbrev oP:Obj:=⟨.type "builtin_function_or_method",none,.fields #[.builtin "type.__prepare__",.type "type"],#[]⟩
abbrev oQ (a:Addr):Obj:=⟨.type "tuple",none,.seq #[.ref a] 0,#[]⟩
abbrev fG (x y:Str)(s:Stmt)(m:Str)(mt:Nat)(l:List Str)(t ln n a:Nat)(r:List Obj):List Obj:=o0::oN::oS l (t+3)::o0::kT x y s::oC x y t ln n a (t+3+l.length)::oF x y s m mt (a+5)::r
abbrev oW:List (Nat×Obj)->List Obj->List Obj
  | [],l=>l
  |x::r,l=>(oW r l).set x.1 x.2
abbrev eV (x:Str)(t:Tok)(v:Value)(P:Params):DictEntry:=⟨PyData.keyHash P x,.str x t,v⟩
abbrev eM (t:Nat)(m:Str)(u:Nat):Params->DictEntry:=eV "__module__" t (.str m u)
abbrev eQ (t:Nat)(m:Str)(u:Nat):Params->DictEntry:=eV "__qualname__" t (.str m u)
abbrev eF (t l u:Nat):Params->DictEntry:=eV "__firstlineno__" t (.int l u)
abbrev eS (t a:Nat):Params->DictEntry:=eV "__static_attributes__" t (.ref a)
abbrev eN (t:Nat):Params->DictEntry:=eV "__doc__" t .none
abbrev eR (x:Str)(t a:Nat):Params->DictEntry:=eV x t (.ref a)
abbrev oD (P:Params)(es:List (Params->DictEntry))(n:Nat):Obj:=⟨.type "dict",none,.dict (Array.mk (es.map λf=>f P)) n,#[]⟩
abbrev Ni (P:Params):List Obj:=
bo P 0::
bo P 1::
bo P 2::
bo P 3::
bo P 4::
bo P 5::
bo P 6::
bo P 7::
bo P 8::
bo P 9::
bo P 10::
o0::
oN::
oK "<module>" 182 1 11::
oR 13 3 "__main__" 164::[]
abbrev Nv (x y:Str)(t l n r:Nat):Obj:=⟨.type "code",none,.fields #[.str x t,.str y (t+1),.str "/claim/cut.py" (t+2),.int l 0,.int n 0,.int 0 0,.int 0 0,.int 3 0,.ref r,.bool true,.int 181 0,.ref (r+1),.none,.none,.none,.ref (r+2),.int (t+3:Nat) 0,.int l 0,.str "/claim/cut.py" (t+4)],#[]⟩
abbrev oG (x b:String)(v:Value)(a t:Nat):Obj:=⟨.type "getset_descriptor",none,.fields #[.str (Str.ofString x) t,.ref a,.builtin b,v],#[]⟩
@[reducible]def Mt:Type:=Str×Str×List Str×Nat×Nat×List (Obj×Nat)
abbrev EW (a t:Nat)(s:Stmt)(m:Str×Nat)(x y:Str)(l:List Str)(ln n:Nat)(d:Value):List Obj:=match l with
  | []=>o0::oN::kT x y s::Nv x y t ln n a::oF x y s m.1 m.2 (a+3) d::[]
  |_=>o0::oN::oS l (t+3)::o0::kT x y s::oC x y t ln n a (t+3+l.length)::oF x y s m.1 m.2 (a+5) d::[]
abbrev MM (a t:Nat)(s:Stmt)(m:Str×Nat)(q:Mt):List Obj:=match q.2.2.2.2.2 with
  | []=>EW a t s m q.1 q.2.1 q.2.2.1 q.2.2.2.1 q.2.2.2.2.1 .none
  |d::_=>d.1::EW (a+1) (t+d.2) s m q.1 q.2.1 q.2.2.1 q.2.2.2.1 q.2.2.2.2.1 (.ref a)
abbrev EE (q:Mt)(a:Nat):Nat:=match q.2.2.1 with
  | []=>a+5+q.2.2.2.2.2.length
  |_=>a+7+q.2.2.2.2.2.length
abbrev IG (q:Mt)(t:Nat):Nat:=match q.2.2.2.2.2 with
  | []=>t+6+q.2.2.1.length
  |d::_=>t+d.2+6+q.2.2.1.length
abbrev M4 (i:Nat)(m:Str×Nat):Nat->List Mt->Nat->Nat->(List Obj->Nat->Nat->List Obj)
  |_,[],_,_=>λr _ _=>r
  |j,q::l,a,t=>λr x y=>MM a t (inClass (top i) j) m q++M4 i m (j+1) l (EE q a) (IG q t) r x y
abbrev MC:List Mt->Nat->Nat
  | [],a=>a
  |q::l,a=>MC l (EE q a)
abbrev M5:List Mt->Nat->Nat
  | [],a=>a
  |q::l,a=>M5 l (IG q a)
abbrev MQ:List Mt->Nat->Nat->List (Params->DictEntry)->List (Params->DictEntry)
  | [],_,_,r=>r
  |q::l,a,t,r=>eR q.1 (IG q t-1) (EE q a-1)::MQ l (EE q a) (IG q t) r
abbrev MU:List Mt->Nat->List Value
  | [],_=>[]
  |q::l,a=>.int q.2.2.2.1 0::.int 4 0::.ref (EE q a-2)::MU l (EE q a)
@[reducible]def It:Type:=(Params->List Obj)×List (Params->DictEntry)×List Value
abbrev iF (a t i:Nat)(m:Str×Nat)(x:Str)(l:List Str)(ln n:Nat)(d:List (Obj×Nat):=[]):It:=(λ_=>MM a t (top i) m (x,x,l,ln,n,d),eR x (IG (x,x,l,ln,n,d) t-1) (EE (x,x,l,ln,n,d) a-1)::[],.int ln 0::.int 0 0::.ref (EE (x,x,l,ln,n,d) a-2)::[])
abbrev iR (o:Params->List Obj):It:=(o,[],[])
abbrev iE (x:Str)(t:Nat)(v:Value):It:=(λ_=>[],[eV x t v],[])
abbrev iC (a T i:Nat)(m:Str×Nat)(x:Str)(ln:Nat)(ms:List Mt)(st:List Str)(sub:List Value:=[]) (br:Nat:=0) (mro:List Value:=[]) (w:String:=""):It:=
  let b:=MC ms (a+7)
  let s:=M5 ms (T+12)
  let e:=s+st.length
  let h (z:List (Params->DictEntry)):=eF (T+11) ln (T+10)::MQ ms (a+7) (T+12) (eS e b::z)
  let o (y:List (Params->DictEntry)) (z k:Obj) (n:Nat) (r:List Obj) (P:Params):List Obj:=z::oP::oD P (eM (T+7) m.1 m.2::eQ (T+9) x (T+8)::h []) (4+ms.length)::o0::⟨.none,none,.fields (Array.mk (MU ms (a+7))),#[]⟩::oK x (T+2) ln (a+3)::oR (a+5) (a+2) m.1 m.2::M4 i m 0 ms (a+7) (T+12) ((match st with| []=>o0|_=>oS st s)::oD P (eM (T+7) m.1 m.2::h y) n::k::r) 0 0
  match br with
  |0=>(o [eR "__dict__" (e+2) (b+3),eR "__weakref__" (e+4) (b+4),eN (e+5)] o0 ⟨.type "type",none,.cls ⟨x,[.type "object"],[.ref (b+2),.type "object"],b+1,x,true,[],sub,false,none,false⟩,#[none,none,some (.str x T),some (.str x (T+8)),some (.builtin "object.__new__"),some (.bool true)]⟩ 4 [oG "__dict__" "function.__dict__" (.builtin "function.__dict__#set") (b+2) (e+1),oG "__weakref__" "ExceptionGroup.__weakref__" .none (b+2) (e+3),oU (b+2),oJ (b+2)],eR x (e+7) (b+2)::[],.int ln 0::.int 0 0::.ref (a+5)::[])
  |_=>(o [eN (e+1)] (oQ br) (oX x [.ref br] (.ref (b+2)::.ref br::mro) (b+1) sub a T (T+8) w) 2 [oU (b+2),oJ (b+2)],eR x (e+3) (b+2)::[],.int ln 0::.int 0 0::.ref (a+5)::[])
abbrev IB (P:Params)(nm:Str)(nt n:Nat)(l:List It):List Obj:=bo P 0::bo P 1::bo P 2::oD P (eV "__name__" 165 (.str nm nt)::eN 166::eV "__package__" 167 .none::eV "__loader__" 168 (.builtin "__main__.__loader__#opaque")::eV "__spec__" 169 .none::eR "__annotations__" 170 6::eR "__builtins__" 171 4::eV "__file__" 173 (.str "/claim/cut.py" 172)::eV "__cached__" 174 .none::l.flatMap (·.2.1)) n::bo P 4::bo P 5::bo P 6::bo P 7::bo P 8::bo P 9::bo P 10::o0::⟨.none,none,.fields (Array.mk (l.flatMap (·.2.2))),#[]⟩::oK "<module>" 182 1 11::oR 13 3 "__main__" 164::l.flatMap (·.1 P)
abbrev Ng:Str×Nat:=("__main__",164)
abbrev CW:Str×Nat:=("haulbell.errors",194)
abbrev MT:Str×Nat:=("haulbell.wholes",443)
abbrev KW:Str×Nat:=("haulbell.boxes",461)
abbrev Ez:Str×Nat:=("haulbell.deeds",566)
abbrev K4:Str×Nat:=("haulbell.machine",816)
abbrev Lp:Str×Nat:=("haulbell.store",960)
abbrev MF:Str×Nat:=("haulbell.stretches",1086)
abbrev K1:Str×Nat:=("haulbell.parts",1108)
abbrev MP:Str×Nat:=("haulbell.crew",1147)
abbrev G4:Str×Nat:=("haulbell.hops",1262)
abbrev j8:Str×Nat:=("haulbell.longs",1324)
abbrev cb:Str×Nat:=("law_haulbell_k78_whole_two_orders",1578)
abbrev CA (a T i:Nat)(m:Str×Nat)(x:Str)(ln:Nat)(ms:List Mt)(st:List Str)(sub:List Value:=[]):It:=iC a T i m x ln ms st sub 31 [.type "ValueError",.type "Exception",.type "BaseException",.type "object"] "ValueError.__new__"
abbrev x9 (a T i:Nat)(m:Str×Nat)(x:Str)(ln:Nat)(ms:List Mt)(st:List Str)(sub:List Value:=[]):It:=iC a T i m x ln ms st sub 313 [.type "object"] "object.__new__"
abbrev Be:List It:=
iF 15 187 0 Ng "_wall" ["k"] 1 1::
iE "HaulError" 213 (.ref 31)::
iR (λP=>[⟨.type "tuple",none,.seq #[.type "ValueError"] 0,#[]⟩,oP,oD P [eM 203 "haulbell.errors" 194,eQ 205 "HaulError" 204,eF 207 5 206,eS 208 29] 4,o0,oN,oK "HaulError" 198 5 25,oR 27 24 "haulbell.errors" 194,o0,oD P [eM 203 "haulbell.errors" 194,eF 207 5 206,eS 208 29,eR "__weakref__" 210 32,eN 211] 3,oX "HaulError" [.type "ValueError"] [.ref 31,.type "ValueError",.type "Exception",.type "BaseException",.type "object"] 30 [.ref 51,.ref 70,.ref 89,.ref 108,.ref 127,.ref 146,.ref 165,.ref 184,.ref 203] 22 196 204 "ValueError.__new__",⟨.type "getset_descriptor",none,.fields #[.str "__weakref__" 209,.ref 31,.builtin "ExceptionGroup.__weakref__",.none],#[]⟩,oU 31,oJ 31])::
CA 35 214 3 CW "NoStore" 7 [("__init__","NoStore.__init__",["self","at"],9,2,[])] ["at"]::
CA 54 239 4 CW "Stop" 12 [("__init__","Stop.__init__",["self","deed","cell"],14,3,[])] ["cell","deed"]::
CA 73 266 5 CW "NoFit" 18 [("__init__","NoFit.__init__",["self","box","number"],20,3,[])] ["box","number"]::
CA 92 293 6 CW "NoBox" 24 [("__init__","NoBox.__init__",["self","box"],26,2,[])] ["box"]::
CA 111 318 7 CW "NoDeed" 29 [("__init__","NoDeed.__init__",["self","word"],31,2,[])] ["word"]::
CA 130 343 8 CW "NoRows" 34 [("__init__","NoRows.__init__",["self","at"],36,2,[])] ["at"]::
CA 149 368 9 CW "NoPlace" 39 [("__init__","NoPlace.__init__",["self","at"],41,2,[])] ["at"]::
CA 168 393 10 CW "NoPart" 44 [("__init__","NoPart.__init__",["self","at"],46,2,[])] ["at"]::
CA 187 418 11 CW "NoMember" 49 [("__init__","NoMember.__init__",["self","k"],51,2,[])] ["k"]::
iE "BOUND" 446 (.int 1000000000 445)::
iF 206 447 14 MT "is_whole" ["thing"] 56 1::
iF 213 454 15 MT "is_content" ["thing"] 58 1::
iE "NAMES" 469 (.ref 220)::
iR (λ_=>[oS ["here","there","left","way","sign","met"] 463])::
iF 221 470 18 KW "is_box" ["thing"] 62 1::
iF 228 477 19 KW "is_number" ["thing"] 64 1::
iF 235 484 20 KW "fits" ["box","thing"] 66 2::
iC 242 492 21 KW "Boxes" 74 [("__init__","Boxes.__init__",["self","here","there","left","way","sign","met","handed","box","number"],76,7,[(⟨.type "tuple",none,.seq #[.int 0 504,.int 0 505,.int 0 506,.int 1 507,.int 0 508,.int 0 509] 0,#[]⟩,6)]),("holds","Boxes.holds",["self","box"],83,2,[]),("give","Boxes.give",["self","box","number"],88,3,[]),("told","Boxes.told",[],95,1,[]),("copied","Boxes.copied",["self","other"],98,1,[])] ["numbers"]::
iF 290 568 23 Ez "check_box" ["word","box"] 103 2::
iF 297 576 24 Ez "check_number" ["word","number"] 106 2::
iC 304 584 0 Ez "Deed" 109 [] [] [.ref 348,.ref 381,.ref 414,.ref 447,.ref 480,.ref 864,.ref 932,.ref 958,.ref 984,.ref 1010,.ref 1036,.ref 1062]::
x9 318 604 26 Ez "Set" 111 [("__init__","Set.__init__",["self","box","number"],113,3,[]),("step","Set.step",["self","boxes","store"],119,3,[]),("words","Set.words",["self"],123,1,[])] ["box","number"]::
x9 351 647 27 Ez "Add" 125 [("__init__","Add.__init__",["self","box","number"],127,3,[]),("step","Add.step",["self","boxes","store"],133,3,[]),("words","Add.words",["self"],137,1,[])] ["box","number"]::[]
abbrev jY:List It:=
x9 384 690 28 Ez "Take" 139 [("__init__","Take.__init__",["self","box","other"],141,3,[]),("step","Take.step",["self","boxes","store"],147,3,[]),("words","Take.words",["self"],151,1,[])] ["box","other"]::
x9 417 733 29 Ez "Read" 153 [("__init__","Read.__init__",["self","box"],155,2,[]),("step","Read.step",["self","boxes","store"],159,3,[]),("words","Read.words",["self"],163,1,[])] ["box"]::
x9 450 774 30 Ez "Write" 165 [("__init__","Write.__init__",["self","box"],167,2,[]),("step","Write.step",["self","boxes","store","number"],171,3,[]),("words","Write.words",["self"],178,1,[])] ["box"]::
iE "MOST_ROWS" 819 (.int 24 818)::
iF 483 820 33 K4 "check_rows" ["rows","at","thing"] 182 1::
iF 490 829 34 K4 "check_place" ["at","many"] 188 2::
iF 497 837 35 K4 "tried" ["deed","boxes","store","stop","refusal"] 191 3::
iC 504 848 36 K4 "Machine" 198 [("__init__","Machine.__init__",["self","rows","store","boxes","at"],200,5,[(⟨.type "tuple",none,.seq #[.int 0 860] 0,#[]⟩,1)]),("ended","Machine.ended",["self"],208,1,[]),("step_on","Machine.step_on",["self","store","by"],211,2,[]),("step","Machine.step",["self"],220,1,[]),("run","Machine.run",["self","most","steps"],223,2,[]),("why","Machine.why",["self"],233,1,[]),("state","Machine.state",["self"],236,1,[]),("leaves","Machine.leaves",["self"],239,1,[]),("leave","Machine.leave",["self","low","behind","word"],242,4,[]),("rows","Machine.rows",[],245,1,[]),("copied","Machine.copied",["self"],248,1,[])] ["at","boxes","deeds","store"]::
iE "MOST_CELLS" 963 (.int 60 962)::
iF 594 964 39 Lp "check_cells" ["cells","at","thing"] 252 1::
iF 601 973 40 Lp "is_within" ["low","behind","size"] 258 3::
iC 608 982 41 Lp "Store" 260 [("__init__","Store.__init__",["self","cells"],262,2,[]),("size","Store.size",["self"],267,1,[]),("told","Store.told",["self"],270,1,[]),("leaves","Store.leaves",["self"],273,1,[]),("leave","Store.leave",["self","low","behind","word"],276,4,[]),("may","Store.may",["self","deed","cell"],279,3,[]),("look","Store.look",["self","cell"],286,2,[]),("put","Store.put",["self","cell","content"],291,3,[]),("restore","Store.restore",["self","cell","content"],296,3,[]),("copied","Store.copied",["self","other"],299,1,[])] ["contents","permits"]::
iF 692 1088 43 MF "shared" ["one","other","low","behind"] 305 2::
iF 699 1098 44 MF "apart" ["stretches","place","stretch","earlier"] 311 1::
iE "MOST_MEMBERS" 1111 (.int 4 1110)::
iE "THINGS_OF_A_MEMBER" 1113 (.int 4 1112)::
iF 706 1114 48 K1 "is_member" ["thing"] 320 1::
iF 713 1121 49 K1 "are_members" [] 322 1::[]
abbrev Ht:List It:=
iF 718 1127 50 K1 "is_part" ["part","size"] 326 2::
iF 725 1135 51 K1 "parts_of" ["members","size","parts","at","member","part"] 328 2::
iF 732 1149 53 MP "machine_on" ["cells","part","member"] 339 3::
iC 739 1158 54 MP "Crew" 341 [("__init__","Crew.__init__",[],343,3,[]),("check_member","Crew.check_member",["self","k"],348,2,[]),("machine_of","Crew.machine_of",["self","k"],352,2,[]),("step","Crew.step",["self","k"],356,2,[]),("run","Crew.run",["self","k","most"],359,3,[]),("why","Crew.why",["self","k"],362,2,[]),("state","Crew.state",["self","k"],365,2,[]),("go","Crew.go",[],368,2,[]),("floor","Crew.floor",["self","cells","part","machine"],373,1,[]),("leave","Crew.leave",["self","low","behind","word"],379,4,[])] ["ground","machines","parts"]::
iE "MOST_HOPPED" 1265 (.int 24 1264)::
iF 819 1266 57 G4 "is_many" ["thing"] 383 1::
iF 826 1273 58 G4 "is_on" ["thing"] 385 1::
x9 833 1280 59 G4 "Hop" 387 [("__init__","Hop.__init__",["self","many","on"],389,3,[(⟨.type "tuple",none,.seq #[.none] 0,#[]⟩,0)]),("step","Hop.step",["self","boxes","store"],395,3,[]),("words","Hop.words",["self","told"],400,1,[])] ["many","on"]::
iF 867 1326 61 j8 "more" ["boxes","box","by"] 406 3::
iF 874 1335 62 j8 "go_by_way" ["boxes","box"] 408 2::
iF 881 1343 63 j8 "less_left" ["boxes","by"] 410 2::
iF 888 1351 64 j8 "ask_put" ["store","cell"] 413 2::
iF 895 1359 65 j8 "haul" ["store","source","target","content"] 416 3::
iF 902 1369 66 j8 "exchange" ["store","one","other","first","second"] 419 3::
x9 909 1380 67 j8 "Copy" 426 [("step","Copy.step",["self","boxes","store"],428,3,[]),("words","Copy.words",["self"],436,1,[])] []::
x9 935 1412 68 j8 "Fill" 438 [("step","Fill.step",["self","boxes","store"],440,3,[]),("words","Fill.words",["self"],447,1,[])] []::
x9 961 1444 69 j8 "Seek" 449 [("step","Seek.step",["self","boxes","store"],451,3,[]),("words","Seek.words",["self"],462,1,[])] []::
x9 987 1476 70 j8 "Match" 464 [("step","Match.step",["self","boxes","store","content"],466,3,[]),("words","Match.words",["self"],479,1,[])] []::[]
abbrev KD:List It:=
x9 1013 1509 71 j8 "Shift" 481 [("step","Shift.step",["self","boxes","store","left","here","there"],483,3,[]),("words","Shift.words",["self"],497,1,[])] []::
x9 1039 1544 72 j8 "Turn" 499 [("step","Turn.step",["self","boxes","store","left","here"],501,3,[]),("words","Turn.words",["self"],512,1,[])] []::
iF 1065 1580 74 cb "_law_hand" ["_law_script","_law_cells","_law_fold","_law_cell"] 515 1::
iF 1072 1590 75 cb "_law_draw" ["_law_hand_here","_law_many","_law_rest","_law_cell","_law_one","_law_two"] 521 2::
iF 1079 1602 76 cb "_law_whole" ["_law_thing"] 537 1::
iF 1086 1609 77 cb "_law_spec" ["_law_hand_here","_law_size","_law_way","_law_names","_law_box","_law_pick"] 539 2::
iF 1093 1621 78 cb "_law_deed" ["_law_spec_here","_law_word"] 557 1::
iF 1100 1629 79 cb "_law_long" ["_law_word"] 572 1::
iF 1107 1636 80 cb "_law_let" ["_law_leaves","_law_deed_here","_law_cell"] 584 3::
iF 1114 1645 81 cb "_law_reach" ["_law_spec_here","_law_boxes","_law_here","_law_there","_law_left","_law_word","_law_far"] 588 2::
iF 1121 1658 82 cb "_law_fits" ["_law_box","_law_number"] 611 2::
iF 1128 1666 83 cb "_law_barred" ["_law_spec_here","_law_boxes","_law_leaves","_law_looks","_law_puts","_law_cell"] 619 3::
iF 1135 1678 84 cb "_law_step" ["_law_spec_here","_law_boxes","_law_cells","_law_leaves","_law_barred_here","_law_word","_law_number"] 630 4::
iF 1142 1691 85 cb "_law_moved" ["_law_word","_law_boxes","_law_cells","_law_here","_law_there","_law_left","_law_way","_law_size","_law_content"] 653 3::
iF 1149 1706 86 cb "_law_looked" ["_law_word","_law_boxes","_law_cells","_law_here","_law_there","_law_left","_law_way","_law_other"] 682 3::
iF 1156 1720 87 cb "_law_floor" [] 700 2::
iF 1161 1726 88 cb "_law_six" [] 702 2::
iF 1166 1732 89 cb "_law_parts" ["_law_hand_here","_law_size","_law_parts_here","_law_low","_law_k","_law_behind"] 709 2::
iF 1173 1744 90 cb "_law_members" [] 718 3::
iF 1178 1750 91 cb "_law_crew" [] 724 2::
iF 1183 1756 92 cb "_law_worlds" ["_law_cells","_law_members_here","_law_worlds_here","_law_low","_law_behind","_law_specs","_law_six_here"] 730 2::
iF 1190 1769 93 cb "_law_goes" ["_law_specs","_law_world","_law_told"] 735 2::
iF 1197 1778 94 cb "_law_member_stands" ["_law_found","_law_world"] 743 2::
iF 1204 1786 95 cb "_law_stands" [] 747 4::
iF 1209 1792 96 cb "_law_mixed" ["_law_hand_here","_law_order","_law_left","_law_found"] 756 2::
iF 1216 1802 97 cb "_law_by_lists" ["_law_hand_here","_law_crew_here","_law_order","_law_words","_law_at","_law_size"] 762 3::
iF 1223 1814 98 cb "_law_of" [] 770 3::[]
abbrev Nu (P:Params):List Obj:=oW [(12,⟨.none,none,.fields (KR MD),#[]⟩),(313,⟨.type "type",none,.cls ⟨"Deed",[.type "object"],[.ref 313,.type "object"],312,"Deed",true,[],[.ref 348,.ref 381],false,none,false⟩,#[none,none,some (.str "Deed" 584),some (.str "Deed" 592),some (.builtin "object.__new__"),some (.bool true)]⟩)] (IB P "haulbell.deeds" 566 33 Be)
abbrev M6 (P:Params):List Obj:=oW [(12,⟨.none,none,.fields (KR MK),#[]⟩),(313,⟨.type "type",none,.cls ⟨"Deed",[.type "object"],[.ref 313,.type "object"],312,"Deed",true,[],[.ref 348,.ref 381,.ref 414,.ref 447,.ref 480],false,none,false⟩,#[none,none,some (.str "Deed" 584),some (.str "Deed" 592),some (.builtin "object.__new__"),some (.bool true)]⟩)] (IB P "haulbell.parts" 1108 51 (Be++jY))
abbrev NC (P:Params):List Obj:=oW [(12,⟨.none,none,.fields (KR MH),#[]⟩),(313,⟨.type "type",none,.cls ⟨"Deed",[.type "object"],[.ref 313,.type "object"],312,"Deed",true,[],[.ref 348,.ref 381,.ref 414,.ref 447,.ref 480,.ref 864,.ref 932,.ref 958,.ref 984,.ref 1010],false,none,false⟩,#[none,none,some (.str "Deed" 584),some (.str "Deed" 592),some (.builtin "object.__new__"),some (.bool true)]⟩)] (IB P "haulbell.longs" 1324 69 (Be++jY++Ht))
abbrev Nr (P:Params):List Obj:=oW [(12,⟨.none,none,.fields (KR Nx),#[]⟩)] (IB P "law_haulbell_k78_whole_two_orders" 1578 96 (Be++jY++Ht++KD))
abbrev S0 (P:Params)(os:OsState):SharedT:=⟨HW 0 .nil (Ni P),15,(boot_heap P).life,Array.mk [],boot_drawn,187,os⟩
abbrev q0:Pos:=⟨0,0,0,0⟩
abbrev S1 (P:Params)(os:OsState):SharedT:=⟨HW 0 .nil (Nu P),384,(boot_heap P).life,Array.mk [],boot_drawn,690,os⟩
abbrev q1:Pos:=⟨125,0,138,50⟩
abbrev S2 (P:Params)(os:OsState):SharedT:=⟨HW 0 .nil (M6 P),718,(boot_heap P).life,Array.mk [],boot_drawn,1127,os⟩
abbrev q2:Pos:=⟨322,0,325,55⟩
abbrev S3 (P:Params)(os:OsState):SharedT:=⟨HW 0 .nil (NC P),1013,(boot_heap P).life,Array.mk [],boot_drawn,1509,os⟩
abbrev q3:Pos:=⟨464,0,480,24⟩
abbrev S4 (P:Params)(os:OsState):SharedT:=⟨HW 0 .nil (Nr P),1228,(boot_heap P).life,Array.mk [],boot_drawn,1820,os⟩
abbrev q4:Pos:=⟨770,0,771,100⟩
abbrev Ny (P:Params):List Obj:=IB P "law_haulbell_k78_whole_two_orders" 1578 97 (Be++jY++Ht++KD++[iF 1228 1820 99 cb "law" [] 772 1])
abbrev K0 (P:Params):PySem.W.Frag:=K2.map λa=>(a,(Ny P).getD a oN)
abbrev sF (p:Program):Program:=PySem.W.view p [99]
abbrev A0:List Str:="_wall"::"HaulError"::"NoStore"::"Stop"::"NoFit"::"NoBox"::"NoDeed"::"NoRows"::"NoPlace"::"NoPart"::"NoMember"::"BOUND"::"is_whole"::"is_content"::"NAMES"::"is_box"::"is_number"::"fits"::"Boxes"::"check_box"::"check_number"::"Deed"::"Set"::"Add"::"Take"::"Read"::"Write"::"MOST_ROWS"::"check_rows"::"check_place"::"tried"::"Machine"::"MOST_CELLS"::"check_cells"::"is_within"::"Store"::"shared"::"apart"::"MOST_MEMBERS"::"THINGS_OF_A_MEMBER"::"is_member"::"are_members"::"is_part"::"parts_of"::"machine_on"::"Crew"::"MOST_HOPPED"::"is_many"::"is_on"::"Hop"::"more"::"go_by_way"::"less_left"::"ask_put"::"haul"::"exchange"::"Copy"::"Fill"::"Seek"::"Match"::"Shift"::"Turn"::"_law_hand"::"_law_draw"::"_law_whole"::"_law_spec"::"_law_deed"::"_law_long"::"_law_let"::"_law_reach"::"_law_fits"::"_law_barred"::"_law_step"::"_law_moved"::"_law_looked"::"_law_floor"::"_law_six"::"_law_parts"::"_law_members"::"_law_crew"::"_law_worlds"::"_law_goes"::"_law_member_stands"::"_law_stands"::"_law_mixed"::"_law_by_lists"::"_law_of"::[]
end My
open PySem PySem.W in
set_option maxHeartbeats 0 in
def My.Gj (w:World)(os:OsState):My.runK treeTable My.pr w 11 (some (.ref 6)) 12 (My.K9 w.params os) (topStub My.pr)=some (My.S0 w.params os,⟨denote treeTable (.body (ac My.pr) (My.jb My.pr)),.body (ac My.pr) (My.jb My.pr),default,[My.MR]⟩):=by
  delta My.pr;rewrite[Fast.te2368527892694137696,Fast.te14364793385576792824]
  kernel_rfl
open PySem PySem.W in
set_option maxHeartbeats 0 in
def My.HU (w:World)(os:OsState)(B:List Stmt):My.runK treeTable My.pr w 11 (some (.ref 6)) 3865 (My.S0 w.params os) (My.iU My.pr (((ac My.pr).drop 0).take 28++B) My.q0)=some (My.S1 w.params os,My.iU My.pr B My.q1):=by
  delta My.pr;rewrite[Fast.te2368527892694137696,Fast.te14364793385576792824]
  kernel_rfl
open PySem PySem.W in
set_option maxHeartbeats 0 in
def My.Gr (w:World)(os:OsState)(B:List Stmt):My.runK treeTable My.pr w 11 (some (.ref 6)) 2334 (My.S1 w.params os) (My.iU My.pr (((ac My.pr).drop 28).take 22++B) My.q1)=some (My.S2 w.params os,My.iU My.pr B My.q2):=by
  delta My.pr;rewrite[Fast.te2368527892694137696,Fast.te14364793385576792824]
  kernel_rfl
open PySem PySem.W in
set_option maxHeartbeats 0 in
def My.FO (w:World)(os:OsState)(B:List Stmt):My.runK treeTable My.pr w 11 (some (.ref 6)) 2302 (My.S2 w.params os) (My.iU My.pr (((ac My.pr).drop 50).take 21++B) My.q2)=some (My.S3 w.params os,My.iU My.pr B My.q3):=by
  delta My.pr;rewrite[Fast.te2368527892694137696,Fast.te14364793385576792824]
  kernel_rfl
open PySem PySem.W in
set_option maxHeartbeats 0 in
def My.FZ (w:World)(os:OsState)(B:List Stmt):My.runK treeTable My.pr w 11 (some (.ref 6)) 1344 (My.S3 w.params os) (My.iU My.pr (((ac My.pr).drop 71).take 28++B) My.q3)=some (My.S4 w.params os,My.iU My.pr B My.q4):=by
  delta My.pr;rewrite[Fast.te2368527892694137696,Fast.te14364793385576792824]
  kernel_rfl
open PySem PySem.W in
set_option maxHeartbeats 0 in
def My.IY:LeftO My.pr (My.sF My.pr) My.A0 (λs=>xlAt (My.sF My.pr) [] s&&recOk PySem.Challenge.rw_haulbell_k78_whole_two_orders.row.records s) (λs=>My.K2.map s.heap.get?) (λw=>(My.K0 w.params).map λp=>some p.2) 19868:=by
  refine My.xG (by kernel_rfl) rfl (λ_=>by kernel_rfl) (λ_=>by kernel_rfl) (λ_=>by kernel_rfl) λw os=>?_
  have d:denote treeTable (.body (ac My.pr) (My.jb My.pr))=My.BJ My.pr (ac My.pr):=My.Af (by kernel_rfl);have e:My.mG treeTable My.pr w 11 (some (.ref 6)) (12+(3865+(2334+(2302+(1344+(10011)))))) (My.K9 w.params os) (topStub My.pr)=My.mG treeTable My.pr w 11 (some (.ref 6)) 10011 (My.S4 w.params os) (My.iU My.pr ((ac My.pr).drop 99) My.q4):=by
    rw[My.cy (My.Gj w os)];dsimp only;rw[d];show My.mG treeTable My.pr w 11 (some (.ref 6)) _ (My.S0 w.params os) (My.iU My.pr ((ac My.pr).drop 0) My.q0)=_;rw[show(ac My.pr).drop 0=((ac My.pr).drop 0).take 28++(ac My.pr).drop 28 from by
      rw[show(ac My.pr).drop 28=((ac My.pr).drop 0).drop 28 by rw[List.drop_drop],List.take_append_drop],My.cy (My.HU w os _)]
    rw[show(ac My.pr).drop 28=((ac My.pr).drop 28).take 22++(ac My.pr).drop 50 from by
      rw[show(ac My.pr).drop 50=((ac My.pr).drop 28).drop 22 by rw[List.drop_drop],List.take_append_drop],My.cy (My.Gr w os _)]
    rw[show(ac My.pr).drop 50=((ac My.pr).drop 50).take 21++(ac My.pr).drop 71 from by
      rw[show(ac My.pr).drop 71=((ac My.pr).drop 50).drop 21 by rw[List.drop_drop],List.take_append_drop],My.cy (My.FO w os _)]
    rw[show(ac My.pr).drop 71=((ac My.pr).drop 71).take 28++(ac My.pr).drop 99 from by
      rw[show(ac My.pr).drop 99=((ac My.pr).drop 71).drop 28 by rw[List.drop_drop],List.take_append_drop],My.cy (My.FZ w os _)]
  rw[show(19868:Nat)=12+(3865+(2334+(2302+(1344+(10011))))) from rfl,e]
  delta My.pr;rewrite[Fast.te4187177175401517315,Fast.te5923862056798008813,Fast.te2368527892694137696,Fast.te14364793385576792824]
  kernel_rfl
set_option Elab.async false
open List(mem_range filterMap_cons mem_cons_self mem_cons_of_mem mem_cons mem_append mem_append_left getElem?_set_self getElem?_set_ne mem_append_right size_toArray any_eq_false length_cons map_cons length_map append_nil nodup_cons of_mem_zip length_take getElem?_map take_sublist mem_of_getElem? length_append length_drop length_set all_cons any_cons replicate_succ flatten_cons append_assoc foldl_cons length_singleton nil_append find?_cons length_nil cons_append forIn_cons forIn_nil getElem?_eq_getElem getElem_mem drop_zero take_length lookup_cons take_of_length_le not_mem_nil length_zip set_comm all_eq_true length_eq_zero_iff zip_cons_cons zip_append mem_of_mem_drop take_append_drop mem_of_mem_take isEmpty_iff mem_singleton mem_or_eq_of_mem_set take_succ map_replicate getElem?_of_mem getElem?_eq_none getElem?_take map_append map_drop map_take take_add)
@[reducible]def NG:Type:=Unit->PySem.Shared->Prop
@[reducible]def NH:Type:=PySem.Value->PySem.Shared->Prop
@[reducible]def NI:Type:=List (PySem.Addr×PySem.Obj)
@[reducible]def NJ:Type:=PySem.Str->Option PySem.Value
namespace L2
open PySem PySem.Spec PyProof.Rows
@[reducible]def Key:=Sum Int Str
abbrev m9:Key->Value->Bool
 | .inl k,v=>Value.isInt k v
 | .inr x,v=>Value.isStrOf x v
abbrev Lu (w:World):Key->Int
 | .inl k=>hashInt k
 | .inr x=>hashStr w x
def aP:∀ {k:Key}{v:Value},m9 k v=true->(∃ i t,k=Sum.inl i/\v=Value.int i t)\/(∃ x t,k=Sum.inr x/\v=Value.str x t)
 | .inl i,v,h=>by
  obtain⟨t,e⟩:=Value.isInt_shape (k:=i) (v:=v) h;exact .inl ⟨i,t,rfl,e⟩
 | .inr x,v,h=>by
  obtain⟨t,e⟩:=Value.isStrOf_shape (x:=x) (v:=v) h;exact .inr ⟨x,t,rfl,e⟩
def xE (i:Int)(t:Tok):m9 (.inl i) (.int i t)=true:=by simp[m9,Value.isInt]
def xi (x:Str)(t:Tok):m9 (.inr x) (.str x t)=true:=by simp[m9,Value.isStrOf]
def GH (a b:Int):decide ((Sum.inl a:Key)=Sum.inl b)=(a ==b):=by
 by_cases e:a=b
 .subst e;simp
 .have h:¬ (Sum.inl a:Key)=Sum.inl b:=λq=>e (Sum.inl.inj q)
  rw[decide_eq_false h];exact(beq_eq_false_iff_ne.mpr e).symm
def Gy (a b:Str):decide ((Sum.inr a:Key)=Sum.inr b)=decide (a=b):=by
 by_cases e:a=b
 .subst e;simp
 .have h:¬ (Sum.inr a:Key)=Sum.inr b:=λq=>e (Sum.inr.inj q)
  rw[decide_eq_false h,decide_eq_false e]
def GW (a:Int)(b:Str):decide ((Sum.inl a:Key)=Sum.inr b)=false:=decide_eq_false (λq=>nomatch q)
def Fo (a:Str)(b:Int):decide ((Sum.inr a:Key)=Sum.inl b)=false:=decide_eq_false (λq=>nomatch q)
abbrev aw (prog:Program)(w:World):PySem.KeyKind prog w Key where
 is:=m9
 hash:=Lu w
 inj:=λv a b ha hb=>by
  rcases aP ha with⟨i,t,rfl,rfl⟩|⟨x,t,rfl,rfl⟩
  .rcases aP hb with⟨j,u,rfl,e⟩|⟨y,u,rfl,e⟩
   .injection e with e1 _;rw[e1]
   .exact nomatch e
  .rcases aP hb with⟨j,u,rfl,e⟩|⟨y,u,rfl,e⟩
   .exact nomatch e
   .injection e with e1 _;rw[e1]
 byValue:=λk v h=>by
  rcases aP h with⟨i,t,rfl,rfl⟩|⟨x,t,rfl,rfl⟩<;>rfl
 pyHash:=λhv h=>by
  rcases aP hv with⟨i,t,rfl,rfl⟩|⟨x,t,rfl,rfl⟩
  .exact wpAny_pyHash_int h
  .exact wpAny_pyHash_str h
 eqBool:=λhu hv h=>by
  rcases aP hu with⟨i,t,rfl,rfl⟩|⟨x,t,rfl,rfl⟩
  .rcases aP hv with⟨j,u,rfl,rfl⟩|⟨y,u,rfl,rfl⟩
   .rw[GH]at h;exact wpAny_eqBool_int h
   .rw[GW]at h;exact SeqAt.EqAt.int_str i t y u _ _ _ _ h
  .rcases aP hv with⟨j,u,rfl,rfl⟩|⟨y,u,rfl,rfl⟩
   .rw[Fo]at h;exact SeqAt.EqAt.str_int x t j u _ _ _ _ h
   .rw[Gy]at h;exact wpAny_eqBool_str h
 «strs»:=λk x t v h=>by
  rcases aP h with⟨i,u,rfl,e⟩|⟨y,u,rfl,e⟩
  .exact nomatch e
  .injection e with e1 _
   subst e1;cases v<;>rfl
def qB (prog:Program)(w:World)(i:Int)(t:Tok):(aw prog w).is (.inl i) (.int i t)=true:=xE i t
def sD (prog:Program)(w:World)(x:Str)(t:Tok):(aw prog w).is (.inr x) (.str x t)=true:=xi x t
inductive V where
 |non|bl (b:Bool)|int (i:Int)|str (x:Str)|byt (b:Array UInt8)|flt (b:UInt64)|ref (a:Addr)|ty (n:String)
 deriving DecidableEq
abbrev RelV:V->Value->Prop
 | .non,u=>u=Value.none
 | .bl b,u=>u=Value.bool b
 | .int i,u=>∃ t,u=Value.int i t
 | .str x,u=>∃ t,u=Value.str x t
 | .byt b,u=>∃ t,u=Value.bytes b t
 | .flt b,u=>∃ t,u=Value.float b t
 | .ref a,u=>u=Value.ref a
 | .ty n,u=>u=Value.type n
@[reducible]def Vals:List V->List Value->Prop:=Paired RelV
variable {xs:List V}{us:List Value}
def Vals.length (r:Vals xs us):xs.length=us.length:=Paired.length r
def Vals.get:∀ {xs:List V}{us:List Value}{i:Nat}{x:V},Vals xs us->xs[i]? =some x->∃ u,us[i]? =some u/\RelV x u
 |_,_,_,_,.nil,e=>by simp at e
 |_,_,0,_,.cons r _,e=>by simp at e;subst e;exact⟨_,rfl,r⟩
 |_,_,i+1,x,.cons _ t,e=>by
  obtain⟨u,h1,h2⟩:=Vals.get (i:=i) (x:=x) t (by simpa using e);exact⟨u,by simpa using h1,h2⟩
variable {u:Value}
def Vals.set {x:V}(r:RelV x u):∀ {xs:List V}{us:List Value}(i:Nat),Vals xs us->Vals (xs.set i x) (us.set i u)
 |_,_,_,.nil=>.nil
 |_,_,0,.cons _ t=>.cons r t
 |_,_,i+1,.cons q t=>.cons q (Vals.set r i t)
def Vals.append:∀ {xs ys:List V}{us ws:List Value},Vals xs us->Vals ys ws->Vals (xs++ys) (us++ws)
 |_,_,_,_,.nil,s=>s
 |_,_,_,_,.cons r t,s=>.cons r (Vals.append t s)
def Vals.take:∀ {xs:List V}{us:List Value}(n:Nat),Vals xs us->Vals (xs.take n) (us.take n)
 |_,_,0,_=>.nil
 |_,_,_+1,.nil=>.nil
 |_,_,n+1,.cons r t=>.cons r (Vals.take n t)
def Vals.drop:∀ {xs:List V}{us:List Value}(n:Nat),Vals xs us->Vals (xs.drop n) (us.drop n)
 |_,_,0,r=>r
 |_,_,_+1,.nil=>.nil
 |_,_,n+1,.cons _ t=>Vals.drop n t
abbrev dc:Option V->Option Value->Prop
 |some v,some u=>RelV v u
 |none,none=>True
 |_,_=>False
abbrev KV {κ:Type}:List (κ×V)->List (κ×Value)->Prop:=Paired λ(p:κ×V) (q:κ×Value)=>p.1=q.1/\RelV p.2 q.2
abbrev kV:Key->V
 | .inl i=>.int i
 | .inr x=>.str x
inductive HO where
  |lst (xs:List V)
  |tup (xs:List V)
  |dK (kvs:List (Key×V))|dT (kvs:List (List Key×V))
  |set (S:Int->Bool) (n:Nat)
  |ins (C dx:Addr) (fs:List (Str×V))
  |own (x:Addr)
  |exc (C:Addr) (dx:Option Addr) (fs:List (Str×V)) (fr:Bool)
  |xd (fs:List (Str×V))
  |met (f x:Addr)
  |rng (lo hi:Int)
  |frz (o:Obj) (u:HO)
  |tbl (ps:Array Value)
  |ext (φ:Heap->Prop)
@[reducible]def Hp:=Addr->Option HO
abbrev upd (H:Hp)(a:Addr)(o:HO):Hp:=λb=>if b=a then some o else H b
variable {H:Hp}{a:Addr}{o:HO}
def az:upd H a o a=some o:=by unfold upd;rw[if_pos rfl]
variable {b:Addr}
def ah (h:b≠a):upd H a o b=H b:=by unfold upd;rw[if_neg h]
def Co {u:HO}:upd (upd H a o) a u=upd H a u:=by
 funext b;unfold upd;split<;>rfl
def JP {u:HO}(h:H a=some o)(h':H b=some u)(d:o≠u):a≠b:=by
 intro e;subst e;rw[h]at h';exact d (Option.some.inj h')
def aR (h:H a=some o)(h':H b=none):a≠b:=by
 intro e;subst e;rw[h]at h';cases h'
section
variable (P:Program) (w:World)
abbrev aN (H:Hp)(h:Heap)(a:Addr):HO->Prop
 | .lst xs=>xs.length<=bn/\∃ (its:List Value) (n:Nat),Vals xs its/\h.get? a=some { cls:=.type "list",data:=.seq its.toArray n }
 | .tup xs=>xs.length<=bn/\∃ its:List Value,Vals xs its/\IsTup h a its.toArray
 | .dK kvs=>kvs.length<=bn/\(a ==sysModules)=false/\∃ vs,KV kvs vs/\h.DictOf (aw P w) a vs
 | .dT kvs=>kvs.length<=bn/\(a ==sysModules)=false/\∃ xs:List (List Key×Addr×Value),
   Paired (λ(p:List Key×V) (q:List Key×Addr×Value)=>p.1=q.1/\H q.2.1=some (.tup (p.1.map kV))/\RelV p.2 q.2.2) kvs xs/\
   ∃ o es ep,h.get? a=some o/\o.ExactDict/\o.data=.dict es ep/\es.toList=xs.map (entryOfKey (tupleKind (aw P w)))/\(xs.map (·.1)).Nodup
 | .set S n=>h.SetOf (intKind P w) a S n
 | .ins C dx fs=>H dx=some (.own a)/\fs.length<=1000/\dx≠a/\h.get? a=some (W.instObj C dx)/\
   ∃ mA,h.Ns1 dx mA/\(∀ f,dc (fs.lookup f) (mA f))/\PySem.Within mA (fs.map (·.1))
 | .exc C dx fs fr=>(∃ vs,h.get? a=some { cls:=.ref C,dict:=dx,data:=.fields vs }/\vs.size=6/\(fr=true->vs[1]? =some Value.none))/\
   ((dx=none/\fs=[])\/∃ d,dx=some d/\H d=some (.own a)/\fs.length<=1000/\d≠a/\∃ mA,h.Ns1 d mA/\(∀ f,dc (fs.lookup f) (mA f))/\PySem.Within mA (fs.map (·.1)))
 | .own _=>∃ o,h.get? a=some o
 | .xd fs=>∃ mA,h.Ns1 a mA/\∀ f,dc (fs.lookup f) (mA f)
 | .rng lo hi=>∃ t u v,h.get? a=some { cls:=.type "range",data:=.fields #[.int lo t,.int hi u,.int 1 v] }
 | .frz o u=>h.get? a=some o/\aN H h a u
 | .tbl ps=>h.get? a=some { cls:=.none,data:=.fields ps }
 | .met f x=>h.get? a=some (W.methodObj (.ref f) (.ref x))
 | .ext φ=>φ h/\(∃ o,h.get? a=some o)/\∀ h1 h2:Heap,φ h1->(∀ o,h1.get? a=some o->h2.get? a=some o)->φ h2
abbrev gk (H:Hp)(h:Heap):Prop:=∀ a o,H a=some o->aN P w H h a o
end
section
variable {P:Program}{w:World}{H H':Hp}{h h':Heap}{a:Addr}{o:HO}
def aN.lt (x:aN P w H h a o):a<h.objs.size:=by
 cases o with
 |lst xs=>obtain⟨_,_,_,_,e⟩:=x;exact ut e
 |tup xs=>obtain⟨_,_,_,p⟩:=x;exact p.lt
 |dK kvs=>obtain⟨_,_,_,_,o,_,_,e,_⟩:=x;exact ut e
 |dT kvs=>obtain⟨_,_,_,_,o,_,_,e,_⟩:=x;exact ut e
 |set S n=>obtain⟨o,_,_,_,e,_⟩:=x;exact ut e
 |ins C dx fs=>obtain⟨_,_,_,e,_⟩:=x;exact ut e
 |exc C dx fs fr=>obtain⟨⟨_,e,_⟩,_⟩:=x;exact ut e
 |own y=>obtain⟨_,e⟩:=x;exact ut e
 |xd fs=>obtain⟨_,⟨_,_,_,e,_⟩,_⟩:=x;exact ut e
 |rng lo hi=>obtain⟨_,_,_,e⟩:=x;exact ut e
 |frz ob u=>obtain⟨e,_⟩:=x;exact ut e
 |tbl ps=>exact ut (show h.get? a=some _ from x)
 |met f y=>exact ut (show h.get? a=some _ from x)
 |ext φ=>obtain⟨_,⟨_,e⟩,_⟩:=x;exact ut e
def Paired.Hr {α β:Type}{F G:α->β->Prop}:∀ {l₁:List α}{l₂:List β},Paired F l₁ l₂->(∀ a b,F a b->G a b)->Paired G l₁ l₂
 |_,_,.nil,_=>.nil
 |_,_,.cons r t,f=>.cons (f _ _ r) (Paired.Hr t f)
def aN.j4 (x:aN P w H h a o)(k:∀ b u,(b=a\/H b=some (.own a))->h.get? b=some u->h'.get? b=some u)
  (ho:∀ b,H b=some (.own a)->H' b=some (.own a)) (ht:∀ b xs,H b=some (.tup xs)->H' b=some (.tup xs)):aN P w H' h' a o:=by
 induction o with
 |lst xs=>obtain⟨z,its,n,r,e⟩:=x;exact⟨z,its,n,r,k _ _ (.inl rfl) e⟩
 |tup xs=>obtain⟨z,its,r,ob,e,c⟩:=x;exact⟨z,its,r,ob,k _ _ (.inl rfl) e,c⟩
 |dK kvs=>obtain⟨z,y,vs,r,ob,es,ep,e,c⟩:=x;exact⟨z,y,vs,r,ob,es,ep,k _ _ (.inl rfl) e,c⟩
 |dT kvs=>
  obtain⟨z,y,xs,r,ob,es,ep,e,c⟩:=x;exact⟨z,y,xs,Paired.Hr r λp q z=>⟨z.1,ht _ _ z.2.1,z.2.2⟩,ob,es,ep,k _ _ (.inl rfl) e,c⟩
 |set S n=>obtain⟨ob,es,ep,t,e,c⟩:=x;exact⟨ob,es,ep,t,k _ _ (.inl rfl) e,c⟩
 |ins C dx fs=>
  obtain⟨d,z,ne,e,mA,⟨od,es,ep,e2,c⟩,r⟩:=x;exact⟨ho _ d,z,ne,k _ _ (.inl rfl) e,mA,⟨od,es,ep,k _ _ (.inr d) e2,c⟩,r⟩
 |exc C dx fs fr=>
  obtain⟨⟨vs,e,z⟩,q⟩:=x;refine⟨⟨vs,k _ _ (.inl rfl) e,z⟩,?_⟩;rcases q with q|⟨d,ed,d1,z1,ne,mA,⟨od,es,ep,e2,c⟩,r⟩
  .exact .inl q
  .exact .inr ⟨d,ed,ho _ d1,z1,ne,mA,⟨od,es,ep,k _ _ (.inr d1) e2,c⟩,r⟩
 |own y=>obtain⟨ob,e⟩:=x;exact⟨ob,k _ _ (.inl rfl) e⟩
 |xd fs=>obtain⟨mA,⟨od,es,ep,e,c⟩,r⟩:=x;exact⟨mA,⟨od,es,ep,k _ _ (.inl rfl) e,c⟩,r⟩
 |rng lo hi=>obtain⟨t,u,v,e⟩:=x;exact⟨t,u,v,k _ _ (.inl rfl) e⟩
 |frz ob u ih=>obtain⟨e,q⟩:=x;exact⟨k _ _ (.inl rfl) e,ih q⟩
 |tbl ps=>
  have e:h.get? a=some { cls:=.none,data:=.fields ps }:=x;show h'.get? a=some { cls:=.none,data:=.fields ps };exact k a _ (.inl rfl) e
 |met f y=>
  have e:h.get? a=some (W.methodObj (.ref f) (.ref y)):=x;show h'.get? a=some (W.methodObj (.ref f) (.ref y));exact k a _ (.inl rfl) e
 |ext φ=>obtain⟨p,⟨o,e⟩,st⟩:=x;exact⟨st _ _ p λo q=>k _ _ (.inl rfl) q,⟨o,k _ _ (.inl rfl) e⟩,st⟩
def gk.lt (x:gk P w H h)(e:H a=some o):a<h.objs.size:=(x a o e).lt
def gk.fresh (x:gk P w H h)(e:h.objs.size<=a):H a=none:=by
 cases q:H a with
 |none=>rfl
 |some u=>exact absurd (ol (x.lt q) e) (Nat.lt_irrefl _)
def gk.kept (x:gk P w H h)(k:∀ b u,h.get? b=some u->h'.get? b=some u):gk P w H h':=λa o e=>
 (x a o e).j4 (λb u _ q=>k b u q) (λ_ q=>q) λ_ _ q=>q
def gk.laid (x:gk P w H h)(k:∀ b u,h.get? b=some u->h'.get? b=some u) (hp:h.objs.size<=a) (new:aN P w (upd H a o) h' a o):gk P w (upd H a o) h':=λb u e=>by
 have hn:=x.fresh hp
 by_cases hb:b=a
 .subst hb;rw[az]at e;cases e;exact new
 .rw[ah hb]at e;exact(x b u e).j4 (λc v _ q=>k c v q) (λc q=>by rw[ah (aR q hn)];exact q) λc xs q=>by rw[ah (aR q hn)];exact q
end
abbrev Rd (H:Hp)(a:Addr)(u:HO):Prop:=H a=some u\/∃ o,H a=some (.frz o u)
variable {P:Program}{w:World}{h:Heap}
def Rd.ok {u:HO}(r:Rd H a u)(x:gk P w H h):aN P w H h a u:=by
 rcases r with r|⟨o,r⟩
 .exact x a u r
 .obtain⟨_,q⟩:=x a _ r;exact q
abbrev JW:Option HO->Prop
 |some (.lst _)=>True
 |some (.dK _)=>True
 |some (.dT _)=>True
 |some (.set _ _)=>True
 |some (.ins _ _ _)=>True
 |some (.exc _ _ _ _)=>True
 |some (.ext _)=>True
 |_=>False
section
variable {P:Program}{w:World}{H:Hp}{h h':Heap}{x e:Addr}{o':HO}
def gk.write (ok:gk P w H h)(mu:JW (H x))(he:e=x\/H e=some (.own x))(k:∀ b u,b≠e->h.get? b=some u->h'.get? b=some u) (heo:∃ u,h'.get? e=some u)
  (new:aN P w (upd H x o') h' x o'):gk P w (upd H x o') h':=λb u q=>by
 have nown:∀ c y,H c=some (.own y)->c≠x:=λc y r z=>by subst z;rw[r]at mu;exact mu
 have ntup:∀ c xs,H c=some (.tup xs)->c≠x:=λc xs r z=>by subst z;rw[r]at mu;exact mu
 by_cases hb:b=x
 .subst hb;rw[az]at q;cases q;exact new
 .rw[ah hb]at q
  by_cases hbe:b=e
  .have q':H b=some (.own x):=by
    rcases he with z|z
    .exact absurd (hbe.trans z) hb
    .rw[hbe];exact z
   rw[q]at q';cases q';obtain⟨v,hv⟩:=heo;exact⟨v,by rw[hbe];exact hv⟩
  .refine(ok b u q).j4 (λc v hc r=>k c v ?_ r) (λc r=>by rw[ah (nown c b r)];exact r) λc xs r=>by rw[ah (ntup c xs r)];exact r
   rcases hc with rfl|hc
   .exact hbe
   .rintro rfl;rcases he with z|z
    .exact nown c b hc z
    .rw[hc]at z;cases z;exact hb rfl
end
structure Un (fs ex:List Addr) (H H':Hp) (h h':Heap):Prop where
 keep:∀ b o,h.get? b=some o->H b=none->b ∉ fs->b ∉ ex->h'.get? b=some o
 slot:∀ b o,h.get? b=some o->H b=none->b ∈ fs->b ∉ ex->∃ sl,h'.get? b=some { o with slots:=sl }
 free:∀ b o,h.get? b=some o->H b=none->b ∉ ex->H' b=none
 there:∀ b o,h.get? b=some o->b ∉ ex->∃ o',h'.get? b=some o'
 tups:∀ b xs,H b=some (.tup xs)->H' b=some (.tup xs)
 frzs:∀ b o u,H b=some (.frz o u)->H' b=some (.frz o u)
 tbls:∀ b ps,H b=some (.tbl ps)->∃ more,H' b=some (.tbl (ps++more))
section
variable {fs fs' ex ex':List Addr}{H H1 H2:Hp}{h h1 h2 h':Heap}{a x e:Addr}{o:HO}
def Un.any (u:Un fs ex H H1 h h1){ob:Obj}(q:h.get? b=some ob)(n:H b=none)(hx:b ∉ ex):∃ sl,h1.get? b=some { ob with slots:=sl }:=by
 by_cases hb:b ∈ fs
 .exact u.slot b ob q n hb hx
 .exact⟨ob.slots,u.keep b ob q n hb hx⟩
def Un.kept (k:∀ b u,h.get? b=some u->h'.get? b=some u):Un fs ex H H h h':=
 ⟨λb ob q _ _ _=>k b ob q,λb ob q _ _ _=>⟨ob.slots,k b ob q⟩,λ_ _ _ n _=>n,λb ob q _=>⟨ob,k b ob q⟩,λ_ _ q=>q,λ_ _ _ q=>q,λ_ ps q=>⟨#[],by rw[q];simp⟩⟩
def Un.refl:Un fs ex H H h h:=Un.kept λ_ _ q=>q
def Un.laid (k:∀ b u,h.get? b=some u->h'.get? b=some u) (hp:h.objs.size<=a) (hn:H a=none):Un fs ex H (upd H a o) h h' where
 keep:=λb u q _ _ _=>k b u q
 slot:=λb u q _ _ _=>⟨u.slots,k b u q⟩
 free:=λb u q n _=>by rw[ah (pi (ol (ut q) hp))];exact n
 there:=λb u q _=>⟨u,k b u q⟩
 tups:=λb xs q=>by rw[ah (aR q hn)];exact q
 frzs:=λb u xs q=>by rw[ah (aR q hn)];exact q
 tbls:=λb ps q=>⟨#[],by rw[ah (aR q hn),q];simp⟩
def Un.write (mu:JW (H x))(he:e=x\/H e=some (.own x))(k:∀ b u,b≠e->h.get? b=some u->h'.get? b=some u) (heo:∃ u,h'.get? e=some u):Un fs ex H (upd H x o) h h':=by
 have hx:∀ b,H b=none->b≠x:=λb n z=>by subst z;rw[n]at mu;exact mu
 have hb:∀ b,H b=none->b≠e:=λb n z=>by
  subst z;rcases he with r|r
  .exact hx b n r
  .rw[n]at r;cases r
 have hm:∀ b u,H b=some u->¬ JW (some u)->b≠x:=λb u q nm z=>by subst z;rw[q]at mu;exact nm mu
 refine⟨λb u q n _ _=>k b u (hb b n) q,λb u q n _ _=>⟨u.slots,k b u (hb b n) q⟩,λb u q n _=>by rw[ah (hx b n)];exact n,λb u q _=>?_,
  λb xs q=>by rw[ah (hm b _ q λz=>z)];exact q,λb u xs q=>by rw[ah (hm b _ q λz=>z)];exact q,λb ps q=>⟨#[],by rw[ah (hm b _ q λz=>z),q];simp⟩⟩
 by_cases hbe:b=e
 .subst hbe;exact heo
 .exact⟨u,k b u hbe q⟩
end
abbrev El (h:Heap)(H:Hp):List Addr:=(List.range h.objs.size).filter λa=>(H a).isSome
abbrev pK (h:Heap)(H:Hp):Heap:=W.hideAll h (El h H)
def wA (h:Heap)(H:Hp):(pK h H).objs.size=h.objs.size:=W.hideAll_size _ _
def zk {o:Obj}(e:h.get? b=some o)(n:H b=none):(pK h H).get? b=some o:=
 W.hideAll_get _ e λhm=>by
  have q:(H b).isSome=true:=(List.mem_filter.mp hm).2;rw[n]at q;simp at q
def CU {o:Obj}(e:(pK h H).get? b=some o):h.get? b=some o/\H b=none:=by
 have e':h.get? b=some o:=W.of_hideAll (El h H) e;refine⟨e',?_⟩;cases q:H b with
 |none=>rfl
 |some x=>
  have hm:b ∈ El h H:=List.mem_filter.mpr ⟨mem_range.mpr (ut e'),by simp[q]⟩;have z:(pK h H).get? b=none:=W.hideAll_none (El h H) hm;rw[z]at e;cases e
structure Mod (K:W.Frag) (mg:NJ) (base:Heap):Prop where
 kin:K.In base
 glob:base.Ns mainGlobals mg
 blt:∃ mb,base.Ns builtinsNs mb/\∀ x:Str,x≠"__name__"->mb x=bootBuiltins x
 nolimit:base.NoLimit
/-- the context:a def's body (or a comprehension's block) running. base:fixed through the whole law;s₀,H₀:the entry;outer:the frames whose slots others may change (a def's callers);stack:all frames that run;
  ex:iterators that were made ahead of the entry and are walked here (a comprehension's);fn:the names whose cells were made at the entry (a def:all;a comprehension's block:its own);calm:not within an except bF;pn:Y that every state bears;xe:what is wanted of an exception that leaves the code -/
structure Cx where
 prog:Program
 w:World
 K:W.Frag
 mg:Str->Option Value
 base:Heap
 A:Around
 N:List Str
 s₀:Shared
 H₀:Hp
 env:Env
 outer:List Env
 stack:List Env
 ex:List Addr
 fn:Str->Bool
 calm:Bool
 pn:List (Addr×Obj)
 xe:Value->Shared->Prop
abbrev qe (l:List Env):List Addr:=l.filterMap (·.frame)
noncomputable abbrev Cx.fs (X:Cx):List Addr:=qe X.outer
abbrev Jz (sc:Scope)(x:Str):Prop:=sc.names.lookup x=some .local\/sc.names.lookup x=some .cell\/sc.names.lookup x=some .free
abbrev Loc (sc:Scope)(x:Str):Prop:=sc.names.lookup x=some .local\/sc.names.lookup x=some .cell
abbrev Look (env:Env)(h:Heap)(m:NJ)(x:Str)(u:Value):Prop:=
 (env.kindOf x=some .local/\m x=some u)\/((env.kindOf x=some .cell\/env.kindOf x=some .free)/\∃ c,env.cells.lookup x=some c/\h.IsCell c (some u))
structure Cx.Ok (X:Cx):Prop where
 mod:Mod X.K X.mg X.base
 kind:X.env.scope.kind=.function
 glob:X.env.globals=mainGlobals
 blt:X.env.builtins=builtinsNs
 above:X.s₀.heap.objs.size<=X.env.locals
 inj:∀ x y c,X.env.cells.lookup x=some c->X.env.cells.lookup y=some c->x=y
 has:∀ x,(X.env.kindOf x=some .cell\/X.env.kindOf x=some .free)->∃ c,X.env.cells.lookup x=some c
 cab:∀ x c,X.fn x=true->X.env.cells.lookup x=some c->X.s₀.heap.objs.size<=c
 hd:X.calm=true->X.A.handled=none
 frames:X.A.frames=some X.stack
 stk:X.stack=X.outer\/(X.stack=X.env::X.outer/\X.env.frame=some X.env.locals)
 exf:∀ b ∈ X.ex,b≠X.env.locals/\∀ x c,X.env.cells.lookup x=some c->c≠b
 bs:∀ b o,X.base.get? b=some o->X.s₀.heap.get? b=some o/\X.H₀ b=none
 bsz:X.base.objs.size<=X.s₀.heap.objs.size
 noex:∀ b o,X.base.get? b=some o->b ∉ X.ex
 exfs:∀ b ∈ X.ex,b ∉ X.fs
 j9:X.s₀.heap.FunFrames X.base X.outer
 frf:∀ b ∈ X.fs,X.H₀ b=none
structure Inv (X:Cx) (Y:NI) (U:List (Option V)) (H:Hp) (s:Shared):Prop where
 ok:X.Ok
 os:s.os=X.s₀.os
 bare:AllBare s.gens
 base:Un X.fs X.ex X.H₀ H X.s₀.heap s.heap
 loc:∃ m,s.heap.Ns X.env.locals m/\∀ (i:Nat) (x:Str) (v:V),X.N[i]? =some x->U[i]? =some (some v)->Jz X.env.scope x->∃ u,RelV v u/\Look X.env s.heap m x u
 cell:∀ x c,X.env.cells.lookup x=some c->∃ v,s.heap.IsCell c v
 free:H X.env.locals=none
 freeC:∀ x c,X.env.cells.lookup x=some c->H c=none
 pin:∀ p ∈ X.pn++Y,s.heap.get? p.1=some p.2/\H p.1=none/\p.1≠X.env.locals/\p.1 ∉ X.fs/\∀ v,p.2.data≠.cell v
 hok:gk X.prog X.w H s.heap
 len:U.length=X.N.length
variable {x:Str}{g':Array GenState}{ch:List Addr}{i:Nat}{M:Model}{A:Around}{E:NH}{v:V}
section
variable {X:Cx}{Y:NI}{U:List (Option V)}{H H':Hp}{s:Shared}{h':Heap}
def Cx.Ok.LB (ok:X.Ok){o:Obj}(e:X.base.get? b=some o):b ∉ X.fs:=λhb=>by
 have:=(ok.j9.mem hb).1;rw[e]at this;cases this
def Inv.bs (I:Inv X Y U H s):∀ b o,X.base.get? b=some o->s.heap.get? b=some o/\H b=none:=λb o e=>
 ⟨I.base.keep b o (I.ok.bs b o e).1 (I.ok.bs b o e).2 (I.ok.LB e) (I.ok.noex b o e),I.base.free b o (I.ok.bs b o e).1 (I.ok.bs b o e).2 (I.ok.noex b o e)⟩
def Inv.bk (I:Inv X Y U H s):∀ b o,X.base.get? b=some o->s.heap.get? b=some o:=λb o e=>(I.bs b o e).1
def Inv.mod (I:Inv X Y U H s):Mod X.K X.mg X.base:=I.ok.mod
def Inv.bV (I:Inv X Y U H s):X.K.In s.heap:=I.ok.mod.kin.keeps I.bk
def Inv.lt (I:Inv X Y U H s):X.env.locals<s.heap.objs.size:=let⟨_,hn,_⟩:=I.loc;hn.lt
def Inv.sz (I:Inv X Y U H s):X.s₀.heap.objs.size<=s.heap.objs.size:=Nat.le_trans I.ok.above (Nat.le_of_lt I.lt)
def Inv.LI (I:Inv X Y U H s)(h:s.heap.objs.size<=a):a ∉ X.fs:=λhb=>by
 obtain⟨_,o,ho,_⟩:=I.ok.j9.mem hb;exact absurd (ol (ut ho) (Nat.le_trans I.sz h)) (Nat.lt_irrefl _)
def Inv.Ap (I:Inv X Y U H s):∀ x c,X.env.cells.lookup x=some c->c≠X.env.locals:=λx c e z=>by
 obtain⟨v,o,ho,hd⟩:=I.cell x c e;obtain⟨m,⟨o',es,ep,ho',hd',_⟩,_⟩:=I.loc;rw[z,ho']at ho;cases ho;rw[hd']at hd;cases hd
def Inv.j9 (I:Inv X Y U H s):s.heap.FunFrames X.base X.outer:=by
 have all:∀ (l:List Env),(∀ b ∈ qe l,b ∈ X.fs)->X.s₀.heap.FunFrames X.base l->s.heap.FunFrames X.base l:=by
  intro l
  induction l with
  |nil=>intro _ _;trivial
  |cons env r ih=>
   intro hs hl;obtain⟨hk,⟨L,o,hf,hn,ho,hd⟩,hr⟩:=hl;have hL:L ∈ X.fs:=hs L (by unfold qe;rw[filterMap_cons,hf];exact mo);obtain⟨sl,e⟩:=I.base.slot L o ho (I.ok.frf L hL) hL λz=>I.ok.exfs L z hL
   exact⟨hk,⟨L,_,hf,hn,e,hd⟩,ih (λb hb=>hs b (by unfold qe;rw[filterMap_cons,hf];exact dL _ hb)) hr⟩
 exact all X.outer (λ_ hb=>hb) I.ok.j9
def Inv.stack (I:Inv X Y U H s):s.heap.FunFrames X.base X.stack:=by
 rcases I.ok.stk with e|⟨e,hf⟩
 .rw[e];exact I.j9
 .rw[e];obtain⟨m,hn,_⟩:=I.loc;refine .cons (by rw[I.ok.kind];decide) hf hn ?_ I.j9;exact Heap.get?_none_of_le (Nat.le_trans I.ok.bsz I.ok.above)
def Inv.iZ (I:Inv X Y U H s):∀ b ∈ qe X.stack,b ∈ X.env.locals::X.fs:=λb hb=>by
 rcases I.ok.stk with e|⟨e,hf⟩
 .rw[e]at hb;exact dL _ hb
 .rw[e]at hb;unfold qe at hb;rw[filterMap_cons,hf]at hb;exact hb
def Inv.qb (I:Inv X Y U H s):∀ b ∈ qe X.stack,H b=none:=λb hb=>by
 rcases nb.mp (I.iZ b hb) with e|hb
 .rw[e];exact I.free
 .obtain⟨_,o,ho,_⟩:=I.ok.j9.mem hb;exact I.base.free b o ho (I.ok.frf b hb) λz=>I.ok.exfs b z hb
def Inv.step {t':Nat}{d':Drawn}(I:Inv X Y U H s)
  (hch:∀ b ∈ ch,(b ∈ X.ex\/X.s₀.heap.objs.size<=b)/\b≠X.env.locals/\(∀ x c,X.env.cells.lookup x=some c->c≠b)/\∀ p ∈ X.pn++Y,p.1≠b)
  (keep:∀ b o,b≠X.env.locals->b ∉ X.fs->b ∉ ch->s.heap.get? b=some o->H b=none->h'.get? b=some o)
  (slot:∀ b o,b≠X.env.locals->b ∈ X.fs->b ∉ ch->s.heap.get? b=some o->H b=none->∃ sl,h'.get? b=some { o with slots:=sl }) (free:∀ b o,b ∉ ch->s.heap.get? b=some o->H b=none->H' b=none)
  (there:∀ b o,b ∉ ch->s.heap.get? b=some o->∃ o',h'.get? b=some o')
  (tups:∀ b xs,H b=some (.tup xs)->H' b=some (.tup xs)) (frzs:∀ b o u,H b=some (.frz o u)->H' b=some (.frz o u)) (tbls:∀ b ps,H b=some (.tbl ps)->∃ more,H' b=some (.tbl (ps++more)))
  (ns:∀ m,s.heap.Ns X.env.locals m->h'.Ns X.env.locals m) (hok:gk X.prog X.w H' h') (hg:AllBare g'):
  Inv X Y U H' { s with heap:=h',gens:=g',drawn:=d',toks:=t' }:=by
 have neL:∀ b o,X.s₀.heap.get? b=some o->b≠X.env.locals:=λb o e=>pi (ol (ut e) I.ok.above)
 have neC:∀ b o,X.s₀.heap.get? b=some o->b ∉ X.ex->b ∉ ch:=λb o e hx hb=>by
  rcases(hch b hb).1 with z|z
  .exact hx z
  .exact absurd (ol (ut e) z) (Nat.lt_irrefl _)
 have cellK:∀ x c,X.env.cells.lookup x=some c->∀ v,s.heap.IsCell c v->h'.IsCell c v:=λx c e v ⟨o,ho,hd⟩=>by
  have nch:c ∉ ch:=λz=>(hch c z).2.2.1 x c e rfl
  by_cases hc:c ∈ X.fs
  .obtain⟨sl,q⟩:=slot c o (I.Ap x c e) hc nch ho (I.freeC x c e);exact⟨_,q,hd⟩
  .exact⟨o,keep c o (I.Ap x c e) hc nch ho (I.freeC x c e),hd⟩
 refine⟨I.ok,I.os,hg,⟨λb o e n hb hx=>?_,λb o e n hb hx=>?_,λb o e n hx=>?_,λb o e hx=>?_,λb xs e=>tups b xs (I.base.tups b xs e),λb o xs e=>frzs b o xs (I.base.frzs b o xs e),λb ps e=>?_⟩,?_,λx c e=>?_,?_,λx c e=>?_,λp hp=>?_,hok,I.len⟩
 .exact keep b o (neL b o e) hb (neC b o e hx) (I.base.keep b o e n hb hx) (I.base.free b o e n hx)
 .obtain⟨sl,e1⟩:=I.base.slot b o e n hb hx;obtain⟨sl',e2⟩:=slot b _ (neL b o e) hb (neC b o e hx) e1 (I.base.free b o e n hx);exact⟨sl',e2⟩
 .obtain⟨o',e1⟩:=I.base.there b o e hx;exact free b o' (neC b o e hx) e1 (I.base.free b o e n hx)
 .obtain⟨o',e1⟩:=I.base.there b o e hx;exact there b o' (neC b o e hx) e1
 .obtain⟨m1,e1⟩:=I.base.tbls b ps e;obtain⟨m2,e2⟩:=tbls b _ e1;exact⟨m1++m2,by rw[e2,Array.append_assoc]⟩
 .obtain⟨m,hn,hl⟩:=I.loc;refine⟨m,ns m hn,λi x v e1 e2 e3=>?_⟩;obtain⟨u,r,l⟩:=hl i x v e1 e2 e3;refine⟨u,r,?_⟩;rcases l with l|⟨k,c,e,z⟩
  .exact .inl l
  .exact .inr ⟨k,c,e,cellK x c e _ z⟩
 .obtain⟨v,z⟩:=I.cell x c e;exact⟨v,cellK x c e v z⟩
 .obtain⟨m,⟨o,_,_,ho,_⟩,_⟩:=I.loc;exact free _ o (λz=>(hch _ z).2.1 rfl) ho I.free
 .obtain⟨v,o,ho,hd⟩:=I.cell x c e;exact free c o (λz=>(hch c z).2.2.1 x c e rfl) ho (I.freeC x c e)
 .obtain⟨e,n,ne,nf,d⟩:=I.pin p hp;have nch:p.1 ∉ ch:=λz=>(hch p.1 z).2.2.2 p hp rfl
  exact⟨keep p.1 p.2 ne nf nch e n,free p.1 p.2 nch e n,ne,nf,d⟩
def Inv.un {t':Nat}(I:Inv X Y U H s)(u:Un X.fs [] H H' s.heap h')(hok:gk X.prog X.w H' h'):Inv X Y U H' { s with heap:=h',toks:=t' }:=by
 obtain⟨m,⟨o,es,ep,ho,r⟩,_⟩:=id I.loc;obtain⟨sl,hL⟩:=u.any ho I.free (by simp);exact I.step (g':=s.gens) (d':=s.drawn) (ch:=[]) (λ_ z=>nomatch z) (λb o _ hb _ e n=>u.keep b o e n hb (by simp)) (λb o _ hb _ e n=>u.slot b o e n hb (by simp)) (λb o _ e n=>u.free b o e n (by simp)) (λb o _ e=>u.there b o e (by simp)) u.tups u.frzs u.tbls (λm' hm=>by
  obtain⟨o',es',ep',ho',r'⟩:=hm;rw[ho]at ho';cases ho';exact⟨_,es',ep',hL,r'⟩) hok I.bare
def Inv.call {t':Nat}{d':Drawn}(I:Inv X Y U H s)(u:Un (qe X.stack) ch H H' s.heap h')(hok:gk X.prog X.w H' h')(hg:AllBare g')
  (hch:∀ b ∈ ch,(b ∈ X.ex\/X.s₀.heap.objs.size<=b)/\b≠X.env.locals/\(∀ x c,X.env.cells.lookup x=some c->c≠b)/\∀ p ∈ X.pn++Y,p.1≠b):
  Inv X Y U H' { s with heap:=h',gens:=g',drawn:=d',toks:=t' }:=by
 obtain⟨m,⟨o,es,ep,ho,r⟩,_⟩:=id I.loc;obtain⟨sl,hL⟩:=u.any ho I.free λz=>(hch _ z).2.1 rfl
 exact I.step (ch:=ch) hch (λb o hL hb hc e n=>u.keep b o e n (λz=>(nb.mp (I.iZ b z)).elim hL hb) hc) (λb o _ _ hc e n=>u.any e n hc) (λb o hc e n=>u.free b o e n hc) (λb o hc e=>u.there b o e hc) u.tups u.frzs u.tbls (λm' hm=>by
  obtain⟨o',es',ep',ho',r'⟩:=hm;rw[ho]at ho';cases ho';exact⟨_,es',ep',hL,r'⟩) hok hg
def Inv.turned {t':Nat}{it:Addr}(I:Inv X Y U H s)(k:∀ b o,b≠it->s.heap.get? b=some o->h'.get? b=some o) (hn:H it=none) (hL:it≠X.env.locals)
  (h1:it ∈ X.ex\/X.s₀.heap.objs.size<=it) (h2:∀ x c,X.env.cells.lookup x=some c->c≠it) (h3:∀ p ∈ X.pn++Y,p.1≠it):Inv X Y U H { s with heap:=h',toks:=t' }:=by
 have nit:∀ b u,H b=some u->b≠it:=λb u e z=>by rw[z,hn]at e;cases e
 refine I.step (g':=s.gens) (d':=s.drawn) (ch:=[it]) (λb hb=>?_) (λb o _ _ hc e _=>k b o (λz=>hc (by simp[z])) e) (λb o _ _ hc e _=>⟨o.slots,k b o (λz=>hc (by simp[z])) e⟩) (λ_ _ _ _ n=>n)
  (λb o hc e=>⟨o,k b o (λz=>hc (by simp[z])) e⟩) (λ_ _ e=>e) (λ_ _ _ e=>e) (λb ps e=>⟨#[],by rw[e];simp⟩) (λm hm=>?_) (λb u e=>?_) I.bare
 .have e:b=it:=by simpa using hb
  subst e;exact⟨h1,hL,h2,h3⟩
 .obtain⟨o,es,ep,ho,r⟩:=hm;exact⟨o,es,ep,k _ o (Ne.symm hL) ho,r⟩
 .refine(I.hok b u e).j4 (λc v hc q=>k c v ?_ q) (λ_ q=>q) λ_ _ q=>q
  rcases hc with z|z
  .rw[z];exact nit b u e
  .exact nit c _ z
def Inv.tok (I:Inv X Y U H s)(t:Nat):Inv X Y U H { s with toks:=t }:=I.un (h':=s.heap) (t':=t) Un.refl I.hok
def Inv.kept {t':Nat}(I:Inv X Y U H s)(k:∀ b u,s.heap.get? b=some u->h'.get? b=some u):Inv X Y U H { s with heap:=h',toks:=t' }:=I.un (Un.kept k) (I.hok.kept k)
def Inv.laid {t':Nat}(I:Inv X Y U H s)(k:∀ b u,s.heap.get? b=some u->h'.get? b=some u) (hp:s.heap.objs.size<=a) (new:aN X.prog X.w (upd H a o) h' a o):
  Inv X Y U (upd H a o) { s with heap:=h',toks:=t' }:=I.un (Un.laid k hp (I.hok.fresh hp)) (I.hok.laid k hp new)
def Inv.write {x e:Addr}{t':Nat}(I:Inv X Y U H s)(mu:JW (H x))(he:e=x\/H e=some (.own x))(k:∀ b u,b≠e->s.heap.get? b=some u->h'.get? b=some u) (heo:∃ u,h'.get? e=some u)
  (new:aN X.prog X.w (upd H x o) h' x o):Inv X Y U (upd H x o) { s with heap:=h',toks:=t' }:=I.un (Un.write mu he k heo) (I.hok.write mu he k heo new)
def Inv.pV {pins':NI}(I:Inv X Y U H s)(h:∀ p ∈ pins',s.heap.get? p.1=some p.2/\H p.1=none/\p.1≠X.env.locals/\p.1 ∉ X.fs/\∀ v,p.2.data≠.cell v):Inv X pins' U H s:=
 ⟨I.ok,I.os,I.bare,I.base,I.loc,I.cell,I.free,I.freeC,λp hp=>(mem_append.mp hp).elim (λz=>I.pin p (mem_append_left _ z)) (h p),I.hok,I.len⟩
def lO {N:List Str}(hN:N.Nodup){j:Nat}(a:N[i]? =some x)(b:N[j]? =some x):i=j:=by
 obtain⟨h1,e1⟩:=tz.mp a;obtain⟨h2,e2⟩:=tz.mp b;exact(List.getElem_inj hN).mp (e1.trans e2.symm)
variable {Q:NG}
def ng (I:Inv X Y U H s)(hN:X.N.Nodup)(hi:X.N[i]? =some x)(hx:Loc X.env.scope x)(r:RelV v u)
  (h:∀ s',Inv X Y (U.set i (some v)) H s'->(∃ a,Heap.SameBut a s.heap s'.heap/\(a=X.env.locals\/X.env.cells.lookup x=some a))->Q () s') (hf:X.fn x=true\/X.env.scope.names.lookup x=some .local:=by first|exact .inl rfl|exact .inr rfl|assumption):wpAny M A (storeName X.env x u) Q E s:=by
 obtain⟨m,hn,hl⟩:=id I.loc;have hcls:(X.env.scope.kind ==.class||(X.env.scope.kind ==.module&&X.env.locals != X.env.globals))=false:=by rw[I.ok.kind];rfl
 have hiσ:i<U.length:=by rw[I.len];exact(tz.mp hi).1
 have Ap:=I.Ap;have tracked:∀ {a:Addr}{h':Heap},(∃ o,s.heap.get? a=some o/\H a=none)->Heap.SameBut a s.heap h'->gk X.prog X.w H h':=λ{a h'} ha hs b ob e=>by
  obtain⟨_,_,hfree⟩:=ha;refine(I.hok b ob e).j4 (λc w' hc q=>(hs.2 c ?_).trans q) (λ_ q=>q) λ_ _ q=>q
  rintro rfl;rcases hc with rfl|hc
  .rw[hfree]at e;cases e
  .rw[hfree]at hc;cases hc
 rcases hx with hk|hk
 .refine wpAny_storeName_local hk hn (λh' hn' hs=>?_) hcls;obtain⟨oL,_,_,hoL,_⟩:=id hn;refine h _ ⟨I.ok,I.os,I.bare,⟨λb o e n hb hx=>?_,λb o e n hb hx=>?_,I.base.free,λb o e hx=>?_,I.base.tups,I.base.frzs,I.base.tbls⟩,⟨_,hn',λj y v' e1 e2 e3=>?_⟩,λy c e=>?_,I.free,I.freeC,λp hp=>?_,tracked ⟨oL,hoL,I.free⟩ hs,by simpa using I.len⟩ ⟨_,hs,.inl rfl⟩
  .exact(hs.2 b (pi (ol (ut e) I.ok.above))).trans (I.base.keep b o e n hb hx)
  .obtain⟨sl,e1⟩:=I.base.slot b o e n hb hx;exact⟨sl,(hs.2 b (pi (ol (ut e) I.ok.above))).trans e1⟩
  .obtain⟨o',e1⟩:=I.base.there b o e hx;exact⟨o',(hs.2 b (pi (ol (ut e) I.ok.above))).trans e1⟩
  .by_cases hj:j=i
   .subst hj;rw[hi]at e1;cases e1;rw[getElem?_set_self hiσ]at e2;cases e2;exact⟨u,r,.inl ⟨hk,by simp⟩⟩
   .rw[getElem?_set_ne (Ne.symm hj)]at e2;obtain⟨u',r',q⟩:=hl j y v' e1 e2 e3;refine⟨u',r',?_⟩;rcases q with⟨k,e⟩|⟨k,c,e,z⟩
    .refine .inl ⟨k,?_⟩;have:y≠x:=λe=>hj (lO hN e1 (e▸hi))
     simp[this,e]
    .exact .inr ⟨k,c,e,z.sameBut hs (Ap y c e)⟩
  .obtain⟨w',z⟩:=I.cell y c e;exact⟨w',z.sameBut hs (Ap y c e)⟩
  .obtain⟨e,n,ne,nf,d⟩:=I.pin p hp;exact⟨(hs.2 p.1 ne).trans e,n,ne,nf,d⟩
 .have hfn:X.fn x=true:=by
   rcases hf with z|z
   .exact z
   .rw[z]at hk;cases hk
  obtain⟨c,hc⟩:=I.ok.has x (.inl hk);obtain⟨w',z⟩:=I.cell x c hc;refine wpAny_storeName_cell I.ok.kind hk hc z (λh' hc' hs=>?_);obtain⟨oc,hoc,hocd⟩:=id z;refine h { s with heap:=h' } ⟨I.ok,I.os,I.bare,⟨λb o e n hb hx=>?_,λb o e n hb hx=>?_,I.base.free,λb o e hx=>?_,I.base.tups,I.base.frzs,I.base.tbls⟩,⟨m,hn.sameBut hs (Ne.symm (Ap x c hc)),λj y v' e1 e2 e3=>?_⟩,λy c' e=>?_,I.free,I.freeC,λp hp=>?_,tracked ⟨oc,hoc,I.freeC x c hc⟩ hs,by simpa using I.len⟩ ⟨c,hs,.inr hc⟩
  .exact(hs.2 b (pi (ol (ut e) (I.ok.cab x c hfn hc)))).trans (I.base.keep b o e n hb hx)
  .obtain⟨sl,e1⟩:=I.base.slot b o e n hb hx;exact⟨sl,(hs.2 b (pi (ol (ut e) (I.ok.cab x c hfn hc)))).trans e1⟩
  .obtain⟨o',e1⟩:=I.base.there b o e hx;exact⟨o',(hs.2 b (pi (ol (ut e) (I.ok.cab x c hfn hc)))).trans e1⟩
  .by_cases hj:j=i
   .subst hj;rw[hi]at e1;cases e1;rw[getElem?_set_self hiσ]at e2;cases e2;exact⟨u,r,.inr ⟨.inl hk,c,hc,hc'⟩⟩
   .rw[getElem?_set_ne (Ne.symm hj)]at e2;obtain⟨u',r',q⟩:=hl j y v' e1 e2 e3;refine⟨u',r',?_⟩;rcases q with q|⟨k,c',e,z'⟩
    .exact .inl q
    .refine .inr ⟨k,c',e,z'.sameBut hs ?_⟩;rintro rfl;exact hj (lO hN e1 (I.ok.inj _ _ _ e hc▸hi))
  .by_cases hcc:c'=c
   .subst hcc;exact⟨_,hc'⟩
   .obtain⟨w2,z2⟩:=I.cell y c' e;exact⟨w2,z2.sameBut hs hcc⟩
  .obtain⟨e,n,ne,nf,d⟩:=I.pin p hp;refine⟨(hs.2 p.1 ?_).trans e,n,ne,nf,d⟩;intro q;rw[q,hoc]at e;have q':oc=p.2:=Option.some.inj e;exact d w' (by rw[<-q'];exact hocd)
def bc (I:Inv X Y U H s)(hN:X.N.Nodup)(hi:X.N[i]? =some x)(hx:Loc X.env.scope x)(r:RelV v u)
  (h:∀ s',Inv X Y (U.set i (some v)) H s'->Q () s') (hf:X.fn x=true\/X.env.scope.names.lookup x=some .local:=by first|exact .inl rfl|exact .inr rfl|assumption):wpAny M A (storeName X.env x u) Q E s:=
 ng I hN hi hx r (λs' I' _=>h s' I') hf
def Inv.yP {s':Shared}(I:Inv X Y U H s)(ho:s'.os=s.os)(u:Un (qe X.stack) ch H H' s.heap s'.heap)(hok:gk X.prog X.w H' s'.heap)(hg:AllBare s'.gens)
  (hch:∀ b ∈ ch,(b ∈ X.ex\/X.s₀.heap.objs.size<=b)/\b≠X.env.locals/\(∀ x c,X.env.cells.lookup x=some c->c≠b)/\∀ p ∈ X.pn++Y,p.1≠b):Inv X Y U H' s':=by
 obtain⟨h',g',d',t',o'⟩:=s';have e:o'=s.os:=ho;subst e;exact I.call (g':=g') (t':=t') (d':=d') u hok hg hch
end
@[reducible]def XK:=Addr->Hp->Prop
@[reducible]def St:=List (Option V)
@[reducible]def VK:=V->Hp->Prop
@[reducible]def TE:=St->Hp->VK->Prop
@[reducible]def TT:=St->Hp->(Bool->Hp->Prop)->Prop
@[reducible]def TA:=St->Hp->(List V->Hp->Prop)->Prop
structure Ends where
 nx:St->Hp->Prop
 rt:VK
 bk:St->Hp->Prop:=λ_ _=>False
 ct:St->Hp->Prop:=λ_ _=>False
@[reducible]def TS:=Ends->St->Hp->Prop
abbrev EP (X:Cx)(Y:NI)(U:St)(Q:VK)(u:Value)(s':Shared):Prop:=∃ v H',Inv X Y U H' s'/\RelV v u/\Q v H'
abbrev TP (X:Cx)(Y:NI)(U:St)(Q:Bool->Hp->Prop)(b:Bool)(s':Shared):Prop:=∃ H',Inv X Y U H' s'/\Q b H'
abbrev AP (X:Cx)(Y:NI)(U:St)(Q:List V->Hp->Prop)(us:List Value)(s':Shared):Prop:=∃ vs H',Inv X Y U H' s'/\Vals vs us/\Q vs H'
abbrev SP (X:Cx)(Y:NI)(D:Ends)(f:Flow)(s':Shared):Prop:=
 match f with
 | .next=>∃ σ' H',Inv X Y σ' H' s'/\D.nx σ' H'
 | .brk=>∃ σ' H',Inv X Y σ' H' s'/\D.bk σ' H'
 | .cont=>∃ σ' H',Inv X Y σ' H' s'/\D.ct σ' H'
 | .ret u=>∃ v σ' H',Inv X Y σ' H' s'/\RelV v u/\D.rt v H'
abbrev PE (X:Cx)(e:Expr)(t:TE):Prop:=
 ∀ (Y:NI) (s:Shared) (U:St) (H:Hp) (Q:VK),Inv X Y U H s->t U H Q->wpAny (model X.prog X.w) X.A (eval e X.env) (EP X Y U Q) X.xe s
abbrev PT (X:Cx)(e:Expr)(t:TT):Prop:=
 ∀ (Y:NI) (s:Shared) (U:St) (H:Hp) (Q:Bool->Hp->Prop),Inv X Y U H s->t U H Q->wpAny (model X.prog X.w) X.A (isTrue e X.env (eval e X.env)) (TP X Y U Q) X.xe s
abbrev PW (X:Cx)(e:Expr)(t:TT):Prop:=
 ∀ (whole:Sem Value) (Y:NI) (s:Shared) (U:St) (H:Hp) (Q:Bool->Hp->Prop),Inv X Y U H s->t U H Q->wpAny (model X.prog X.w) X.A (isTrue e X.env whole) (TP X Y U Q) X.xe s
variable {e:Expr}
def PW.pt {X:Cx}{t:TT}(h:PW X e t):PT X e t:=h _
abbrev PA (X:Cx)(es:List Expr)(t:TA):Prop:=
 ∀ (pos:Pos) (Y:NI) (s:Shared) (U:St) (H:Hp) (Q:List V->Hp->Prop),Inv X Y U H s->t U H Q->wpAny (model X.prog X.w) X.A (spliced (backTo pos (bm es X.env))) (AP X Y U Q) X.xe s
abbrev PS (X:Cx)(st:Stmt)(t:TS):Prop:=
 ∀ (Y:NI) (s:Shared) (U:St) (H:Hp) (D:Ends),Inv X Y U H s->t D U H->wpAny (model X.prog X.w) X.A (exec st X.env) (SP X Y D) X.xe s
abbrev Cq (X:Cx)(st:List Stmt)(t:TS):Prop:=
 ∀ (Y:NI) (s:Shared) (U:St) (H:Hp) (D:Ends),Inv X Y U H s->t D U H->wpAny (model X.prog X.w) X.A (execs st X.env) (SP X Y D) X.xe s
variable {s:Shared}
def aA {α:Type}{t:Sem α}{Q Q':α->Shared->Prop}(h:wpAny M A t Q E s)(hQ:∀ a s,Q a s->Q' a s):wpAny M A t Q' E s:=wpAny_mono h hQ λ_ _ x=>x
variable {Q:NH}{Y:NI}{U:St}{c:Expr}
section
variable {X:Cx}
abbrev Ll (i:Nat):TE:=λU H Q=>∃ v,U[i]? =some (some v)/\Q v H
abbrev tC (v:V):TE:=λ_ H Q=>Q v H
def Fn {pos:Pos}(hN:X.N[i]? =some x)(hv:Jz X.env.scope x)(hd:(x ==("__debug__":Str))=false:=by decide) (hcd:(x ==("__classdict__":Str))=false:=by decide):PE X (.Name x pos) (Ll i):=by
 intro Y s U H Q I h;obtain⟨v,e,h⟩:=h;obtain⟨m,hn,hl⟩:=I.loc;obtain⟨u,r,l⟩:=hl i x v hN e hv;have fin:EP X Y U Q u s:=⟨v,H,I,r,h⟩;rcases l with⟨hk,hm⟩|⟨hk,c,hc,hcell⟩
 .exact wpAny_Name (wpAny_loadName_local I.ok.kind hk hn hm fin) hd
 .rcases hk with hk|hk
  .exact wpAny_Name (wpAny_loadName_cell I.ok.kind hk hc hcell fin) hd
  .exact wpAny_Name (wpAny_loadName_free I.ok.kind hk hc hcell fin hcd) hd
def HX {i j pos}:PE X (.Constant (.int i) j pos) (tC (.int i)):=λ_ _ _ H _ I h=>wpAny_Constant_int ⟨.int i,H,I.tok _,⟨_,rfl⟩,h⟩
def KA {b j pos}:PE X (.Constant (.bool b) j pos) (tC (.bl b)):=λ_ _ _ H _ I h=>Constant_bool ⟨.bl b,H,I,rfl,h⟩
def Fg {j pos}:PE X (.Constant .none j pos) (tC .non):=λ_ _ _ H _ I h=>Constant_none ⟨.non,H,I,rfl,h⟩
def AS {x j pos}:PE X (.Constant (.str x) j pos) (tC (.str x)):=λ_ _ _ H _ I h=>Calls.Constant_str ⟨.str x,H,I.tok _,⟨_,rfl⟩,h⟩
abbrev Gl (X:Cx)(x:Str):Prop:=X.env.kindOf x=some .globalImplicit
def bI {pos:Pos}(I:Inv X Y U H s)(hg:Gl X x)(hm:X.mg x=some u)(h:Q u s)
  (hd:(x ==("__debug__":Str))=false:=by decide):wpAny (model X.prog X.w) X.A (eval (.Name x pos) X.env) Q E s:=
 Calls.Name_function_global I.ok.kind hg (Calls.loadGlobal_global (by rw[I.ok.glob];exact I.mod.glob.keeps I.bk) hm h) hd
def cW {pos:Pos}(I:Inv X Y U H s)(hg:Gl X x)(hm:X.mg x=none)(hv:bootBuiltins x=some u)(h:Q u s)
  (hn:x≠"__name__":=by decide) (hd:(x ==("__debug__":Str))=false:=by decide):wpAny (model X.prog X.w) X.A (eval (.Name x pos) X.env) Q E s:=by
 obtain⟨mb,h1,h2⟩:=I.mod.blt;exact Calls.Name_function_global I.ok.kind hg (Calls.loadGlobal_builtin (by rw[I.ok.glob];exact I.mod.glob.keeps I.bk) hm (by rw[I.ok.blt];exact h1.keeps I.bk) ((h2 x hn).trans hv) h) hd
def uW {pos:Pos}(hg:Gl X x)(hm:X.mg x=some u)(r:RelV v u)(hd:(x ==("__debug__":Str))=false:=by decide):PE X (.Name x pos) (tC v):=
 λ_ _ _ H _ I h=>bI I hg hm ⟨v,H,I,r,h⟩ hd
def DV {pos:Pos}(hg:Gl X x)(hm:X.mg x=none)(hv:bootBuiltins x=some u)(r:RelV v u)(hn:x≠"__name__":=by decide) (hd:(x ==("__debug__":Str))=false:=by decide):PE X (.Name x pos) (tC v):=
 λ_ _ _ H _ I h=>cW I hg hm hv ⟨v,H,I,r,h⟩ hn hd
variable {a b:Expr}{ta tb:TE}{pos:Pos}
variable {tA tB':TT}{rest:List Expr}
abbrev Mj (t u:TT):TT:=λU H Q=>t U H λc H1=>if c=true then u U H1 Q else Q false H1
abbrev Nc (t u:TT):TT:=λU H Q=>t U H λc H1=>if c=true then Q true H1 else u U H1 Q
abbrev LM (t:TT):TT:=λU H Q=>t U H λc H1=>Q (!c) H1
def DU (ha:PT X a tA):PW X (.BoolOp .And [a] pos) tA:=by
 intro wh Y s U H Q I h;refine isTrue_and (aA (ha Y s U H Q I h) λc s1 e=>?_);cases c with
 |true=>exact isTrue_and_nil e
 |false=>exact e
def HV (ha:PT X a tA):PW X (.BoolOp .Or [a] pos) tA:=by
 intro wh Y s U H Q I h;refine isTrue_or (aA (ha Y s U H Q I h) λc s1 e=>?_);cases c with
 |false=>exact isTrue_or_nil e
 |true=>exact e
def Hs (ha:PT X a tA)(hb:PW X (.BoolOp .And (b::rest) pos) tB'):PW X (.BoolOp .And (a::b::rest) pos) (Mj tA tB'):=by
 intro wh Y s U H Q I h;refine isTrue_and (aA (ha Y s U H _ I h) λc s1 ⟨H1,I1,q1⟩=>?_);cases c with
 |true=>exact hb wh Y s1 U H1 Q I1 q1
 |false=>exact⟨H1,I1,q1⟩
def Jm (ha:PT X a tA)(hb:PW X (.BoolOp .Or (b::rest) pos) tB'):PW X (.BoolOp .Or (a::b::rest) pos) (Nc tA tB'):=by
 intro wh Y s U H Q I h;refine isTrue_or (aA (ha Y s U H _ I h) λc s1 ⟨H1,I1,q1⟩=>?_);cases c with
 |true=>exact⟨H1,I1,q1⟩
 |false=>exact hb wh Y s1 U H1 Q I1 q1
def Fx (ha:PT X a tA):PT X (.UnaryOp .Not a pos) (LM tA):=by
 intro Y s U H Q I h;exact isTrue_not (ha Y s U H (λc H1=>Q (!c) H1) I h)
abbrev IJ (ta tb:TE):TE:=λU H Q=>ta U H λx H1=>∃ c,x=.bl c/\if c=true then tb U H1 Q else Q (.bl false) H1
abbrev LP (ta tb:TE):TE:=λU H Q=>ta U H λx H1=>∃ c,x=.bl c/\if c=true then Q (.bl true) H1 else tb U H1 Q
abbrev J6 (ta:TE):TE:=λU H Q=>ta U H λx H1=>∃ c,x=.bl c/\Q (.bl (!c)) H1
def zD {op}{t:TE}(h:PE X a t):PE X (.BoolOp op [a] pos) t:=λY s U H Q I hw=>BoolOp_one (h Y s U H Q I hw)
def Fe (ha:PE X a ta)(hb:PE X (.BoolOp .And (b::rest) pos) tb):PE X (.BoolOp .And (a::b::rest) pos) (IJ ta tb):=by
 intro Y s U H Q I h;refine BoolOp_and (aA (ha Y s U H _ I h) λv s1 ⟨x,H1,I1,r1,q1⟩=>?_);obtain⟨c,rfl,q1⟩:=q1;cases r1;refine bi ?_;cases c with
 |true=>exact hb Y s1 U H1 Q I1 q1
 |false=>exact⟨.bl false,H1,I1,rfl,q1⟩
def JV (ha:PE X a ta)(hb:PE X (.BoolOp .Or (b::rest) pos) tb):PE X (.BoolOp .Or (a::b::rest) pos) (LP ta tb):=by
 intro Y s U H Q I h;refine BoolOp_or (aA (ha Y s U H _ I h) λv s1 ⟨x,H1,I1,r1,q1⟩=>?_);obtain⟨c,rfl,q1⟩:=q1;cases r1;refine bi ?_;cases c with
 |false=>exact hb Y s1 U H1 Q I1 q1
 |true=>exact⟨.bl true,H1,I1,rfl,q1⟩
def Fy (ha:PE X a ta):PE X (.UnaryOp .Not a pos) (J6 ta):=by
 intro Y s U H Q I h;refine UnaryOp_ (aA (ha Y s U H _ I h) λv s1 ⟨x,H1,I1,r1,q1⟩=>?_);obtain⟨c,rfl,q1⟩:=q1;cases r1;exact not_of (bi ⟨.bl (!c),H1,I1,rfl,q1⟩)
abbrev Nq (t:TT)(ta tb:TE):TE:=λU H Q=>t U H λc H1=>if c=true then ta U H1 Q else tb U H1 Q
def yo (hc:PT X c tA)(ha:PE X a ta)(hb:PE X b tb):PE X (.IfExp c a b pos) (Nq tA ta tb):=by
 intro Y s U H Q I h;refine wpAny_IfExp (aA (hc Y s U H _ I h) λd s1 ⟨H1,I1,q1⟩=>?_);cases d with
 |true=>exact ha Y s1 U H1 Q I1 q1
 |false=>exact hb Y s1 U H1 Q I1 q1
end
abbrev aS (K:W.Frag)(H:Hp)(a:Addr)(xs:List V):Prop:=
 Rd H a (.lst xs)\/
  ∃ (o:Obj) (its:Array Value) (n:Nat),K.lookup a=some o/\o.cls=.type "list"/\o.dict=none/\o.data=.seq its n/\its.size<=bn/\Vals xs its.toList
abbrev a8 (K:W.Frag)(H:Hp)(a:Addr)(xs:List V):Prop:=
 Rd H a (.tup xs)\/
  ∃ (o:Obj) (its:Array Value) (n:Nat),K.lookup a=some o/\o.cls=.type "tuple"/\o.data=.seq its n/\its.size<=bn/\Vals xs its.toList
abbrev GR:Value->Option V
 | .none=>some .non
 | .bool b=>some (.bl b)
 | .int i _=>some (.int i)
 | .str x _=>some (.str x)
 | .bytes b _=>some (.byt b)
 | .float b _=>some (.flt b)
 | .ref a=>some (.ref a)
 | .type n=>some (.ty n)
 |_=>none
def RelV.abs {x:V}(r:RelV x u):GR u=some x:=by
 cases x with
 |non=>cases r;rfl
 |bl _=>cases r;rfl
 |int _=>obtain⟨t,rfl⟩:=r;rfl
 |str _=>obtain⟨t,rfl⟩:=r;rfl
 |byt _=>obtain⟨t,rfl⟩:=r;rfl
 |flt _=>obtain⟨t,rfl⟩:=r;rfl
 |ref _=>cases r;rfl
 |ty _=>cases r;rfl
def RelV.inj {x y:V}(r:RelV x u)(q:RelV y u):x=y:=Option.some.inj (r.abs.symm.trans q.abs)
def Vals.inj:∀ {xs ys:List V}{us:List Value},Vals xs us->Vals ys us->xs=ys
 |_,_,_,.nil,.nil=>rfl
 |_,_,_,.cons r t,.cons r' t'=>by rw[r.inj r',Vals.inj t t']
section
variable {X:Cx}{Y:NI}{U:St}{H:Hp}{s:Shared}{a:Addr}{xs ys:List V}
def aS.of {K:W.Frag}(h:H a=some (.lst xs)):aS K H a xs:=.inl (.inl h)
def a8.of {K:W.Frag}(h:H a=some (.tup xs)):a8 K H a xs:=.inl (.inl h)
def Inv.list (I:Inv X Y U H s)(h:aS X.K H a xs):∃ its:List Value,Vals xs its/\PlainL s.heap a its.toArray/\xs.length<=bn:=by
 rcases h with h|⟨o,its,n,hk,hc,hd,hs,hz,r⟩
 .obtain⟨z,its,n,r,e⟩:=h.ok I.hok;exact⟨its,r,⟨_,n,e,rfl,rfl,rfl⟩,z⟩
 .refine⟨its.toList,r,⟨o,n,I.bV a o hk,hc,hd,by simpa using hs⟩,?_⟩;have e:=r.length;simp only[Array.length_toList]at e
  omega
def Inv.tuple (I:Inv X Y U H s)(h:a8 X.K H a xs):∃ its:List Value,Vals xs its/\IsTup s.heap a its.toArray/\xs.length<=bn:=by
 rcases h with h|⟨o,its,n,hk,hc,hs,hz,r⟩
 .obtain⟨z,its,r,p⟩:=h.ok I.hok;exact⟨its,r,p,z⟩
 .refine⟨its.toList,r,⟨o,I.bV a o hk,hc,n,by simpa using hs⟩,?_⟩;have e:=r.length;simp only[Array.length_toList]at e
  omega
def Inv.eh (I:Inv X Y U H s)(h:aS X.K H a xs)(h':aS X.K H a ys):xs=ys:=by
 obtain⟨its,r,⟨o,n,e,_,_,d⟩,_⟩:=I.list h;obtain⟨its',r',⟨o',n',e',_,_,d'⟩,_⟩:=I.list h';rw[e]at e';cases e';rw[d]at d'
 injection d' with d1 _
 have:its=its':=by simpa using congrArg Array.toList d1
 subst this;exact r.inj r'
def Inv.i8 (I:Inv X Y U H s)(h:a8 X.K H a xs)(h':a8 X.K H a ys):xs=ys:=by
 obtain⟨its,r,⟨o,e,_,n,d⟩,_⟩:=I.tuple h;obtain⟨its',r',⟨o',e',_,n',d'⟩,_⟩:=I.tuple h';rw[e]at e';cases e';rw[d]at d'
 injection d' with d1 _
 have:its=its':=by simpa using congrArg Array.toList d1
 subst this;exact r.inj r'
end
section
variable {X:Cx}{Y:NI}{U:St}{H:Hp}{s:Shared}{E:NH}
end
section
variable {X:Cx}{st:Stmt}{rest:List Stmt}{t u:TS}{e:Expr}{te:TE}{pos:Pos}
abbrev Kl:TS:=λD U H=>D.nx U H
abbrev Ld (t u:TS):TS:=λD U H=>t { D with nx:=u D } U H
def Cs:Cq X [] Kl:=λ_ _ U H _ I h=>wpAny_execs_nil ⟨U,H,I,h⟩
def AH (h1:PS X st t)(h2:Cq X rest u):Cq X (st::rest) (Ld t u):=by
 intro Y s U H D I h;refine wpAny_execs_cons (aA (h1 Y s U H { D with nx:=u D } I h) λf s1 q=>?_);cases f with
 |next=>
  obtain⟨σ',H',I',q⟩:=q;exact h2 Y s1 σ' H' D I' q
 |ret v=>exact q
 |brk=>exact q
 |cont=>exact q
def Inv.quiet (I:Inv X Y U H s):interactive X.env=false:=by simp[interactive,I.ok.kind]
abbrev IK (te:TE):TS:=λD U H=>te U H λ_ H1=>D.nx U H1
def Ck (he:PE X e te)(hs:swapsWith e none pos.line X.env=pure false:=by rfl):PS X (.Expr e pos) (IK te):=by
 intro Y s U H D I h;exact wpAny_Expr_any (aA (he Y s U H _ I h) λv s1 ⟨x,H1,I1,r1,q1⟩=>⟨U,H1,I1,q1⟩) I.quiet hs
abbrev Le (te:TE):TS:=λD U H=>te U H D.rt
def FH (he:PE X e te):PS X (.Return (some e) pos) (Le te):=by
 intro Y s U H D I h;exact wpAny_Return_some (aA (he Y s U H _ I h) λv s1 ⟨x,H1,I1,r1,q1⟩=>⟨x,U,H1,I1,r1,q1⟩)
abbrev Lw (c:TT)(t u:TS):TS:=λD U H=>c U H λb H1=>if b=true then t D U H1 else u D U H1
def Jp {a b:List Stmt}{tc:TT}(hc:PT X c tc)(ha:Cq X a t)(hb:Cq X b u):PS X (.If c a b pos) (Lw tc t u):=by
 intro Y s U H D I h;refine wpAny_If (aA (hc Y s U H _ I h) λd s1 ⟨H1,I1,q1⟩=>?_);cases d with
 |true=>exact ha Y s1 U H1 D I1 q1
 |false=>exact hb Y s1 U H1 D I1 q1
end
@[reducible]def TG:=V->St->Hp->(St->Hp->Prop)->Prop
@[reducible]def D8:=List V->St->Hp->(St->Hp->Prop)->Prop
abbrev PG (X:Cx)(target:Expr)(t:TG):Prop:=
 ∀ (Y:NI) (s:Shared) (U:St) (H:Hp) (v:V) (u:Value) (Q:St->Hp->Prop),Inv X Y U H s->RelV v u->t v U H Q->
  wpAny (model X.prog X.w) X.A (assign target X.env u) (λ_ s'=>∃ σ' H',Inv X Y σ' H' s'/\Q σ' H') X.xe s
abbrev FJ (X:Cx)(ts:List Expr)(t:D8):Prop:=
 ∀ (Y:NI) (s:Shared) (U:St) (H:Hp) (vs:List V) (us:List Value) (Q:St->Hp->Prop),Inv X Y U H s->Vals vs us->t vs U H Q->
  wpAny (model X.prog X.w) X.A (assignInOrder ((assignEach ts X.env).map (·.2)) us) (λ_ s'=>∃ σ' H',Inv X Y σ' H' s'/\Q σ' H') X.xe s
@[reducible]def wM:=V->V->V->Hp->(Hp->Prop)->Prop
abbrev BX (X:Cx)(t:wM):Prop:=
 ∀ (Y:NI) (s:Shared) (U:St) (H:Hp) (o i v:V) (ov iv u:Value) (Q:Hp->Prop),Inv X Y U H s->RelV o ov->RelV i iv->RelV v u->t o i v H Q->
  wpAny (model X.prog X.w) X.A (setItem ov iv u) (λ_ s'=>∃ H',Inv X Y U H' s'/\Q H') X.xe s
@[reducible]def Iq:=V->V->Hp->VK->Prop
abbrev Jt (X:Cx)(op:Operator)(t:Iq):Prop:=
 ∀ (Y:NI) (s:Shared) (U:St) (H:Hp) (x y:V) (v u:Value) (Q:VK),Inv X Y U H s->RelV x v->RelV y u->t x y H Q->
  wpAny (model X.prog X.w) X.A (inplaceOp op v u) (EP X Y U Q) X.xe s
variable {es:List Expr}{k:Nat}{tg:Expr}{te:TE}{pos':Pos}{op:Operator}
section
variable {X:Cx}{pos:Pos}
abbrev gH (i:Nat):TG:=λv U H Q=>Q (U.set i (some v)) H
def gP (hN:X.N.Nodup)(hi:X.N[i]? =some x)(hx:Loc X.env.scope x)(hf:X.fn x=true\/X.env.scope.names.lookup x=some .local:=by first|exact .inl rfl|exact .inr rfl|assumption):PG X (.Name x pos) (gH i):=by
 intro Y s U H v u Q I r h;exact wpAny_assign_Name (bc I hN hi hx r (λs' I'=>⟨_,H,I',h⟩) hf)
abbrev Lv:D8:=λvs U H Q=>vs=[]/\Q U H
abbrev JU (t:TG)(u:D8):D8:=λvs U H Q=>∃ v r,vs=v::r/\t v U H λσ' H'=>u r σ' H' Q
def oZ:FJ X [] Lv:=by
 intro Y s U H vs us Q I r h;obtain⟨e,h⟩:=h;subst e;cases r;exact assignInOrder_nil ⟨U,H,I,h⟩
def g9 {t:TG}{u:D8}(h1:PG X e t)(h2:FJ X es u)
  (hs:(assignEach (e::es) X.env).map (·.2)=assign e X.env::(assignEach es X.env).map (·.2):=by rfl):FJ X (e::es) (JU t u):=by
 intro Y s U H vs us Q I r h;obtain⟨v,vr,e1,h⟩:=h;subst e1;cases r with
 |cons r rr=>
  rw[hs];refine assignInOrder_cons (aA (h1 Y s U H _ _ _ I r h) λ_ s1 ⟨σ1,H1,I1,q1⟩=>?_);exact h2 Y s1 σ1 H1 _ _ Q I1 rr q1
abbrev Cb (K:W.Frag)(n:Nat)(t:D8):TG:=λv U H Q=>∃ a xs,v=.ref a/\a8 K H a xs/\xs.length=n/\t xs U H Q
def qk {t:D8}{n:Nat}(hc:X.calm=true)(h:FJ X es t)
  (hn:(assignEach es X.env).length=n:=by rfl) (hst:(assignEach es X.env).findIdx? (·.1)=none:=by rfl):PG X (.Tuple es k pos) (Cb X.K n t):=by
 intro Y s U H v u Q I r hw;obtain⟨a,xs,e1,hq,hl,hw⟩:=hw;subst e1;cases r;obtain⟨its,rv,ht,hz⟩:=I.tuple hq;refine assign_Tuple_tuple (I.ok.hd hc) ht (by simp[hn,<-hl,rv.length]) hst λh' hx=>?_
 have I1:Inv X Y U H { s with heap:=h' }:=I.kept (t':=s.toks) λb o e=>hx b o (pi (ut e)) e
 exact h Y _ U H xs _ Q I1 (by simpa using rv) hw
abbrev Lh (to ti:TE)(t:wM):TG:=λv U H Q=>to U H λo H1=>ti U H1 λi H2=>t o i v H2 λH3=>Q U H3
def Fh {o i:Expr}{to ti:TE}{t:wM}(ho:PE X o to)(hi:PE X i ti)(hs:BX X t)
  (ha:∀ v,assign (.Subscript o i pos) X.env v=(do
   let ov <-holding [v] (eval o X.env)
   let iv <-holding [v,ov] (eval i X.env)
   standAt pos
   holding [v,ov,iv] (setItem ov iv v)
   release [v,ov,iv] []):=by intro _;rfl):PG X (.Subscript o i pos) (Lh to ti t):=by
 intro Y s U H v u Q I r h;rw[ha];refine ad (bd (aA (ho Y s U H _ I h) λov s1 ⟨x,H1,I1,r1,q1⟩=>?_));refine ad (bd (aA (hi Y s1 U H1 _ I1 q1) λiv s2 ⟨y,H2,I2,r2,q2⟩=>?_));refine ad (wpAny_standAt (ad (bd (aA (hs Y s2 U H2 x y v ov iv u _ I2 r1 r2 r q2) λ_ s3 ⟨H3,I3,q3⟩=>?_))));exact wpAny_release ⟨U,H3,I3,q3⟩
abbrev ID (te:TE)(g:TG):TS:=λD U H=>te U H λx H1=>g x U H1 D.nx
def Ai {g:TG}(he:PE X e te)(hg:PG X tg g)(hs:swapsWithSole [tg] e pos.line X.env=pure false:=by rfl) (hw:swappedStores [tg] e X.env=pure none:=by rfl)
  (h1:(assignEach [tg] X.env).map (·.2)=[assign tg X.env]:=by rfl):PS X (.Assign [tg] e pos) (ID te g):=by
 intro Y s U H D I h;refine wpAny_Assign_stores (aA (he Y s U H _ I h) λv s1 ⟨x,H1,I1,r1,q1⟩=>?_) hs hw;rw[h1];exact aA (hg Y s1 U H1 x v _ I1 r1 q1) λ_ s2 q=>q
def AW (hN:X.N.Nodup)(hi:X.N[i]? =some x)(hx:Loc X.env.scope x)(he:PE X e te)(hs:swapsWith e (some (.Name x pos')) pos.line X.env=pure false:=by rfl) (hf:X.fn x=true\/X.env.scope.names.lookup x=some .local:=by first|exact .inl rfl|exact .inr rfl|assumption):
  PS X (.Assign [.Name x pos'] e pos) (ID te (gH i)):=by
 intro Y s U H D I h;refine wpAny_Assign_Name (aA (he Y s U H _ I h) λv s1 ⟨y,H1,I1,r1,q1⟩=>?_) hs;exact bc I1 hN hi hx r1 (λs2 I2=>⟨_,H1,I2,q1⟩) hf
abbrev Mf (i:Nat)(te:TE)(ti:Iq):TS:=λD U H=>∃ x,U[i]? =some (some x)/\te U H λy H1=>ti x y H1 λz H2=>D.nx (U.set i (some z)) H2
def F5 {ti:Iq}(hN:X.N.Nodup)(hi:X.N[i]? =some x)(hx:Loc X.env.scope x)(he:PE X e te)(ho:Jt X op ti)(hf:X.fn x=true\/X.env.scope.names.lookup x=some .local:=by first|exact .inl rfl|exact .inr rfl|assumption):
  PS X (.AugAssign (.Name x pos') op e pos) (Mf i te ti):=by
 intro Y s U H D I h;obtain⟨v,e1,h⟩:=h;obtain⟨m,hn,hl⟩:=I.loc;have Gk:Jz X.env.scope x:=by rcases hx with k|k;exact .inl k;exact .inr (.inl k)
 obtain⟨u,r,l⟩:=hl i x v hi e1 Gk;refine wpAny_AugAssign_Name ?_;have go:wpAny (model X.prog X.w) X.A (eval e X.env) (λw s₂=>wpAny (model X.prog X.w) X.A (inplaceOp op u w) (λr s₃=>wpAny (model X.prog X.w) X.A (storeName X.env x r) (λ_=>SP X Y D .next) X.xe s₃) X.xe s₂) X.xe s:=by
  refine aA (he Y s U H _ I h) λw s1 ⟨y,H1,I1,r1,q1⟩=>?_
  refine aA (ho Y s1 U H1 v y u w _ I1 r r1 q1) λz s2 ⟨zv,H2,I2,r2,q2⟩=>?_
  exact bc I2 hN hi hx r2 (λs3 I3=>⟨_,H2,I3,q2⟩) hf
 rcases l with⟨hk,hm⟩|⟨hk,c,hc,hcell⟩
 .exact wpAny_loadName_local I.ok.kind hk hn hm go
 .rcases hk with hk|hk
  .exact wpAny_loadName_cell I.ok.kind hk hc hcell go
  .rcases hx with k|k
   .have:X.env.scope.names.lookup x=some .free:=hk;rw[k]at this;cases this
   .have:X.env.scope.names.lookup x=some .free:=hk;rw[k]at this;cases this
abbrev JX (to ti te:TE)(tget:V->V->Hp->VK->Prop)(tip:Iq)(tset:wM):TS:=λD U H=>to U H λo H1=>ti U H1 λi H2=>tget o i H2 λx H3=>te U H3 λy H4=>tip x y H4 λz H5=>tset o i z H5 λH6=>D.nx U H6
abbrev Fs (X:Cx)(t:V->V->Hp->VK->Prop):Prop:=
 ∀ (Y:NI) (s:Shared) (U:St) (H:Hp) (o i:V) (ov iv:Value) (Q:VK),Inv X Y U H s->RelV o ov->RelV i iv->t o i H Q->
  wpAny (model X.prog X.w) X.A (getItem ov iv) (EP X Y U Q) X.xe s
def D5 {o i:Expr}{to ti:TE}{tget:V->V->Hp->VK->Prop}{tip:Iq}{tset:wM}{tpos:Pos}(ho:PE X o to)(hi:PE X i ti)(hg:Fs X tget)(he:PE X e te)(hp:Jt X op tip)(hs:BX X tset)
  (ha:∀ ov iv new,augStore i ov iv new=(do holding [new,ov,iv] (setItem ov iv new);release [new,ov,iv] [];pure .next):=by intros;rfl):PS X (.AugAssign (.Subscript o i tpos) op e pos) (JX to ti te tget tip tset):=by
 intro Y s U H D I h;refine wpAny_AugAssign_SubscriptAny (aA (ho Y s U H _ I h) λov s1 ⟨x1,H1,I1,r1,q1⟩=>?_) ha;refine aA (hi Y s1 U H1 _ I1 q1) λiv s2 ⟨x2,H2,I2,r2,q2⟩=>?_
 refine aA (hg Y s2 U H2 x1 x2 ov iv _ I2 r1 r2 q2) λold s3 ⟨x3,H3,I3,r3,q3⟩=>?_
 refine aA (he Y s3 U H3 _ I3 q3) λv s4 ⟨x4,H4,I4,r4,q4⟩=>?_
 refine aA (hp Y s4 U H4 x3 x4 old v _ I4 r3 r4 q4) λnew s5 ⟨x5,H5,I5,r5,q5⟩=>?_
 exact aA (hs Y s5 U H5 x1 x2 x5 ov iv new _ I5 r1 r2 r5 q5) λ_ s6 ⟨H6,I6,q6⟩=>⟨U,H6,I6,q6⟩
abbrev MY (f:Int->Int->Int):Iq:=λx y H Q=>∃ i j,x=.int i/\y=.int j/\Q (.int (f i j)) H
def Ia:Jt X .Add (MY λi j=>i+j):=by
 intro Y s U H x y v u Q I r1 r2 h;obtain⟨i,j,e1,e2,q⟩:=h;subst e1;subst e2;obtain⟨t,rfl⟩:=r1;obtain⟨t',rfl⟩:=r2;exact iadd_int ⟨.int _,H,I.tok _,⟨_,rfl⟩,q⟩
def G8:Jt X .Sub (MY λi j=>i-j):=by
 intro Y s U H x y v u Q I r1 r2 h;obtain⟨i,j,e1,e2,q⟩:=h;subst e1;subst e2;obtain⟨t,rfl⟩:=r1;obtain⟨t',rfl⟩:=r2;exact isub_int ⟨.int _,H,I.tok _,⟨_,rfl⟩,q⟩
end
variable {body:List Stmt}
section
variable {X:Cx}{pos:Pos}
abbrev Hn (c:TT)(tb:TS):TS:=λD U H=>∃ W:Nat->St->Hp->Prop,(∃ m,W m U H)/\∀ m U H,W m U H->
 c U H λb H1=>if b=true then ∃ N:St->Hp->Prop,(∀ σ' H',N σ' H'->∃ m',m'<m/\W m' σ' H')/\tb { D with nx:=N,ct:=N,bk:=D.nx } U H1 else D.nx U H1
def yh {tc:TT}{tb:TS}(hp:PassesOwn (model X.prog X.w) X.A X.env X.xe)(hc:PT X c tc)(hb:Cq X body tb):PS X (.While c body [] pos) (Hn tc tb):=by
 intro Y s U H D I h;obtain⟨W,⟨m0,w0⟩,turn⟩:=h;refine wpAny_While (codeAny_whileLoop (λn s'=>∃ σ' H',Inv X Y σ' H' s'/\W n σ' H') ?_ m0 ⟨U,H,I,w0⟩);rintro n s1 ⟨σ1,H1,I1,w1⟩;refine wpAny_passesOwn hp (aA (hc Y s1 σ1 H1 _ I1 (turn n σ1 H1 w1)) λb s2 ⟨H2,I2,q2⟩=>?_);cases b with
 |true=>
  obtain⟨N,hN,q2⟩:=q2;rw[if_pos rfl];refine wpAny_passesOwn hp (aA (hb Y s2 σ1 H2 _ I2 q2) λf s3 q3=>?_);cases f with
  |next=>
   obtain⟨σ3,H3,I3,n3⟩:=q3;obtain⟨m',hm,w3⟩:=hN σ3 H3 n3;exact⟨m',hm,σ3,H3,I3,w3⟩
  |cont=>
   obtain⟨σ3,H3,I3,n3⟩:=q3;obtain⟨m',hm,w3⟩:=hN σ3 H3 n3;exact⟨m',hm,σ3,H3,I3,w3⟩
  |brk=>exact q3
  |ret v=>exact q3
 |false=>
  rw[if_neg Bool.false_ne_true];exact wpAny_execs_nil ⟨σ1,H2,I2,q2⟩
end
structure It where
 go:Nat->Hp->Prop
 yld:Nat->Hp->V->Hp->Prop
 stop:Nat->Hp->Prop
abbrev iP (X:Cx)(Y:NI)(H:Hp)(b:Addr):Prop:=
 H b=none/\b≠X.env.locals/\b ∉ X.fs/\(b ∈ X.ex\/X.s₀.heap.objs.size<=b)/\(∀ x c,X.env.cells.lookup x=some c->c≠b)/\∀ p ∈ X.pn++Y,p.1≠b
def Inv.zY {X:Cx}{H':Hp}(I:Inv X Y U H s)(hb:s.heap.objs.size<=b)(hn:H' b=none):iP X Y H' b:=by
 refine⟨hn,Nat.ne_of_gt (ol I.lt hb),I.LI hb,.inr (Nat.le_trans I.sz hb),λx c e z=>?_,λp hp z=>?_⟩
 .obtain⟨v,q⟩:=I.cell x c e;exact absurd (ol q.lt (by rw[z];exact hb)) (Nat.lt_irrefl _)
 .exact absurd (ol (ut (I.pin p hp).1) (by rw[z];exact hb)) (Nat.lt_irrefl _)
structure Turn (P:Program) (w:World) (K:W.Frag) (tg:Expr) (J:It) (fp:List Addr) (it:Addr) (tn:Nat->Heap->Prop):Prop where
 mem:it ∈ fp
 obj:∀ i h,tn i h->∀ b ∈ fp,∃ o,h.get? b=some o/\∀ v,o.data≠.cell v
 keep:∀ i h h',tn i h->(∀ b ∈ fp,∀ o,h.get? b=some o->h'.get? b=some o)->tn i h'
 item:∀ (X:Cx),X.prog=P->X.w=w->X.K=K->X.calm=true->∀ (i:Nat) (Y:NI) (s:Shared) (U:St) (H:Hp) (E:NH),Inv X Y U H s->(∀ b ∈ fp,iP X Y H b)->tn i s.heap->J.go i H->
  wpAny (model P w) X.A (pyNext (.ref it)) (λr s1=>∃ u,r=some u/\
   wpAny (model P w) X.A (letOwnedTupleGo tg (.ref it) u) (λ_ s2=>∃ x H',Inv X Y U H' s2/\RelV x u/\J.yld i H x H'/\tn (i+1) s2.heap/\∀ b ∈ fp,H' b=none) E s1) E s
 done:∀ (X:Cx),X.prog=P->X.w=w->X.K=K->X.calm=true->∀ (i:Nat) (Y:NI) (s:Shared) (U:St) (H:Hp) (E:NH),Inv X Y U H s->(∀ b ∈ fp,iP X Y H b)->tn i s.heap->J.stop i H->
  wpAny (model P w) X.A (pyNext (.ref it)) (λr s1=>r=none/\Inv X Y U H s1) E s
 self:∀ (A:Around) (i:Nat) (s:Shared) (Q:NH) (E:NH),tn i s.heap->Q (.ref it) s->wpAny (model P w) A (pyIter (.ref it)) Q E s
@[reducible]def TI:=St->Hp->(It->Hp->Prop)->Prop
abbrev K3 (X:Cx)(Y:NI)(U:St)(tg:Expr)(R:It->Hp->Prop)(itv:Value)(s2:Shared):Prop:=
 ∃ (it:Addr) (fp:List Addr) (tn:Nat->Heap->Prop) (J:It) (H':Hp),itv=.ref it/\Inv X Y U H' s2/\Turn X.prog X.w X.K tg J fp it tn/\tn 0 s2.heap/\(∀ b ∈ fp,iP X Y H' b)/\R J H'
abbrev PI (X:Cx)(tg iter:Expr)(wi:TI):Prop:=
 ∀ (Y:NI) (s:Shared) (U:St) (H:Hp) (R:It->Hp->Prop),Inv X Y U H s->wi U H R->
  wpAny (model X.prog X.w) X.A (eval iter X.env) (λv s1=>wpAny (model X.prog X.w) X.A (pyIter v) (K3 X Y U tg R) X.xe s1) X.xe s
def AX {it:Addr}{o:Obj}{n:String}{vs:Array Value}{Q:NG}(ho:s.heap.get? it=some o)(hc:o.cls=.type n)(hd:o.data=.fields vs)
  (hn:["enumerate","zip","dict_itemiterator","dict_reverseitemiterator","odict_iterator","itertools.zip_longest","itertools.pairwise"].contains n=false) (hQ:Q () s):wpAny M A (letOwnedTupleGo tg (.ref it) u) Q E s:=by
 unfold letOwnedTupleGo;cases tg<;>first
  |exact am hQ
  |(cases u<;>first
    |exact am hQ
    |(refine ad (wpAny_load ho ?_)
      rw[hc,hd];show wpAny M A (if(["enumerate","zip","dict_itemiterator","dict_reverseitemiterator","odict_iterator","itertools.zip_longest","itertools.pairwise"].contains n&&vs[0]? ==some (rawInt _))=true then _ else _) Q E s;rw[if_neg (by intro h;rw[hn,Bool.false_and]at h;cases h)];exact am hQ))
abbrev Ij (K:W.Frag)(a:Addr):It:=
 ⟨λi H=>∃ xs x,aS K H a xs/\xs[i]? =some x,λi H x H'=>H'=H/\∀ xs,aS K H a xs->xs[i]? =some x,λi H=>∃ xs,aS K H a xs/\xs.length<=i⟩
abbrev Iu (K:W.Frag)(a:Addr):It:=
 ⟨λi H=>∃ xs x,a8 K H a xs/\xs[i]? =some x,λi H x H'=>H'=H/\∀ xs,a8 K H a xs->xs[i]? =some x,λi H=>∃ xs,a8 K H a xs/\xs.length<=i⟩
abbrev G0 (lo:Int)(n:Nat):It:=⟨λi _=>i<n,λi H x H'=>H'=H/\x=.int (lo+i),λi _=>n<=i⟩
def xC {K:W.Frag}(a it:Addr):Turn P w K tg (Ij K a) [it] it (λi h=>h.IsListIter it a i) where
 mem:=by simp
 obj:=λi h st b hb=>by
  have e:b=it:=by simpa using hb
  subst e;obtain⟨o,e,c,d⟩:=st;exact⟨o,e,λv z=>by rw[d]at z;cases z⟩
 keep:=λi h h' st k=>st.at λo e=>k it (by simp) o e
 item:=by
  intro X hP hw hK hc i Y s U H E I hf st hg;subst hP hw hK;obtain⟨xs,x,hq,hx⟩:=hg;obtain⟨its,rv,p,hz⟩:=I.list hq;obtain⟨u,hu,ru⟩:=rv.get hx;obtain⟨f0,f1,f2,f3,f4,f5⟩:=hf it (by simp);refine wpAny_pyNext_list_item st p.isList (x:=u) (by simpa using hu) λh' st' sb=>?_
  have I1:Inv X Y U H { s with heap:=h' }:=I.turned (t':=s.toks) (λb o hb e=>(sb.2 b hb).trans e) f0 f1 f3 f4 f5;obtain⟨o,e,c,d⟩:=id st';exact⟨u,rfl,AX (s:={ s with heap:=h' }) e c d (by decide) ⟨x,H,I1,ru,⟨rfl,λys hy=>by rw[I.eh hy hq];exact hx⟩,st',λb hb=>(hf b hb).1⟩⟩
 done:=by
  intro X hP hw hK hc i Y s U H E I hf st hg;subst hP hw hK;obtain⟨xs,hq,hx⟩:=hg;obtain⟨its,rv,p,hz⟩:=I.list hq;obtain⟨f0,f1,f2,f3,f4,f5⟩:=hf it (by simp);have hl:=rv.length;exact wpAny_pyNext_list_end (I.ok.hd hc) st p.isList (by simp;omega) λh' eb=>⟨rfl,I.turned (t':=s.toks) (λb o hb e=>eb b o hb e) f0 f1 f3 f4 f5⟩
 self:=λ_ _ _ _ _ st h=>wpAny_pyIter_listiter st h
def tG {K:W.Frag}(a it:Addr):Turn P w K tg (Iu K a) [it] it (λi h=>h.IsTupleIter it a i) where
 mem:=by simp
 obj:=λi h st b hb=>by
  have e:b=it:=by simpa using hb
  subst e;obtain⟨o,e,c,d⟩:=st;exact⟨o,e,λv z=>by rw[d]at z;cases z⟩
 keep:=λi h h' st k=>st.at λo e=>k it (by simp) o e
 item:=by
  intro X hP hw hK hc i Y s U H E I hf st hg;subst hP hw hK;obtain⟨xs,x,hq,hx⟩:=hg;obtain⟨its,rv,p,hz⟩:=I.tuple hq;obtain⟨u,hu,ru⟩:=rv.get hx;obtain⟨f0,f1,f2,f3,f4,f5⟩:=hf it (by simp);refine wpAny_pyNext_tuple_item st (show s.heap.IsTuple a its.toArray from p) (x:=u) (by simpa using hu) λh' st' sb=>?_
  have I1:Inv X Y U H { s with heap:=h' }:=I.turned (t':=s.toks) (λb o hb e=>(sb.2 b hb).trans e) f0 f1 f3 f4 f5;obtain⟨o,e,c,d⟩:=id st';exact⟨u,rfl,AX (s:={ s with heap:=h' }) e c d (by decide) ⟨x,H,I1,ru,⟨rfl,λys hy=>by rw[I.i8 hy hq];exact hx⟩,st',λb hb=>(hf b hb).1⟩⟩
 done:=by
  intro X hP hw hK hc i Y s U H E I hf st hg;subst hP hw hK;obtain⟨xs,hq,hx⟩:=hg;obtain⟨its,rv,p,hz⟩:=I.tuple hq;obtain⟨f0,f1,f2,f3,f4,f5⟩:=hf it (by simp);have hl:=rv.length;exact wpAny_pyNext_tuple_end (I.ok.hd hc) st (show s.heap.IsTuple a its.toArray from p) (by simp;omega) λh' eb=>⟨rfl,I.turned (t':=s.toks) (λb o hb e=>eb b o hb e) f0 f1 f3 f4 f5⟩
 self:=λ_ _ _ _ _ st h=>wpAny_pyIter_tupleiter st h
def uo {K:W.Frag}(it:Addr)(lo:Int)(n:Nat):Turn P w K tg (G0 lo n) [it] it (λi h=>IsRangeIter h it (lo+(i:Nat)*1) ((n:Int)-(i:Nat)) 1) where
 mem:=by simp
 obj:=λi h st b hb=>by
  have e:b=it:=by simpa using hb
  subst e;exact⟨_,st,λv z=>by
   have z':Data.fields _=Data.cell v:=z;cases z'⟩
 keep:=λi h h' st k=>k it (by simp) _ st
 item:=by
  intro X hP hw hK hc i Y s U H E I hf st hg;subst hP hw hK;obtain⟨f0,f1,f2,f3,f4,f5⟩:=hf it (by simp);have W:=Walks.range (prog:=X.prog) (w:=X.w) (I.ok.hd hc) it lo 1 n;refine W.item i s _ _ hg st λv h' tk hv st' kk=>?_
  obtain⟨t,rfl⟩:=hv;have I1:Inv X Y U H { s with heap:=h',toks:=tk }:=I.turned (λb o hb e=>kk b o (by simpa using hb) e) f0 f1 f3 f4 f5;refine⟨_,rfl,AX (s:={ s with heap:=h',toks:=tk }) (n:="range_iterator") st' rfl rfl (by decide) ⟨.int (lo+i),H,I1,⟨t,?_⟩,⟨rfl,rfl⟩,st',λb hb=>(hf b hb).1⟩⟩;rw[Int.mul_one]
 done:=by
  intro X hP hw hK hc i Y s U H E I hf st hg;subst hP hw hK;obtain⟨f0,f1,f2,f3,f4,f5⟩:=hf it (by simp);exact wpAny_pyNext_range_end (I.ok.hd hc) st (by have:n<=i:=hg;omega) λh' eb=>⟨rfl,I.turned (t':=s.toks) (λb o hb e=>eb b o hb e) f0 f1 f3 f4 f5⟩
 self:=λ_ _ _ _ _ st h=>wpAny_pyIter_rangeiter st h
variable {pos:Pos}{fp:List Addr}
section
variable {X:Cx}{tg:Expr}
def yb {R:It->Hp->Prop}{lo hi:Int}{t u v:Tok}{tk:Nat}(I:Inv X Y U H s)(h1: -(2 ^ 62)<=lo)(h2:lo<2 ^ 62)(h3: -(2 ^ 62)<=hi)(h4:hi<2 ^ 62)
  (q:R (G0 lo (hi-lo).toNat) H):wpAny (model X.prog X.w) X.A (pyIter (.ref s.heap.objs.size)) (K3 X Y U tg R) E { s with heap:=s.heap.push { cls:=.type "range",data:=.fields #[.int lo t,.int hi u,.int 1 v] },toks:=tk }:=by
 refine wpAny_pyIter_range (IsRange.new ..) (small_one h1 h2 h3 h4) ?_;have I1:Inv X Y U H { s with heap:=s.heap.push { cls:=.type "range",data:=.fields #[.int lo t,.int hi u,.int 1 v] },toks:=tk }:=I.kept λb o e=>ul _ e
 refine⟨(s.heap.push { cls:=.type "range",data:=.fields #[.int lo t,.int hi u,.int 1 v] }).objs.size,[(s.heap.push { cls:=.type "range",data:=.fields #[.int lo t,.int hi u,.int 1 v] }).objs.size],_,_,H,rfl,
  I1.kept (t':=tk) λb o e=>ul _ e,uo _ lo (hi-lo).toNat,?_,λb hb=>?_,q⟩
 .have e1:lo+((0:Nat):Int)*1=lo:=by simp
  have e2:(((hi-lo).toNat:Nat):Int)-((0:Nat):Int)=Builtin.Range.rangeSize lo hi 1:=by rw[rangeSize_one];split<;>omega
  show IsRangeIter _ _ (lo+((0:Nat):Int)*1) ((((hi-lo).toNat:Nat):Int)-((0:Nat):Int)) 1;rw[e1,e2];exact v4 _ rfl
 .have e:b=(s.heap.push { cls:=.type "range",data:=.fields #[.int lo t,.int hi u,.int 1 v] }).objs.size:=by simpa using hb
  subst e;exact I1.zY (re _) (I1.hok.fresh (re _))
abbrev J0 (ta:TA):TI:=λU H R=>ta U H λvs H1=>∃ j:Int,vs=[.int j]/\ -(2 ^ 62)<=j/\j<2 ^ 62/\R (G0 0 j.toNat) H1
def wu {a:Expr}{ta:TA}{p:Pos}(hg:Gl X "range") (hm:X.mg "range"=none) (ha:PA X [a] ta) (hs:bm [a] X.env=[(false,eval a X.env)]:=by rfl):PI X tg (.Call (.Name "range" p) [a] [] pos) (J0 ta):=by
 intro Y s U H R I h;refine Call_ (cW I hg hm boot_range (PyProof.Rows.callWith_type1 (aA (ha pos Y s U H _ I h) λus s1 ⟨vs,H1,I1,r1,q1⟩=>?_) hs rfl));obtain⟨j,e,q1,q2,q⟩:=q1;subst e;cases r1 with
 |cons r rr=>
  cases rr;obtain⟨t,rfl⟩:=r;exact call_range_1 (yb I1 nofun nofun q1 q2 (by simpa using q))
abbrev LL (wi:TI)(g:TG)(tb:TS):TS:=λD U H=>wi U H λJ H1=>∃ W:Nat->Nat->St->Hp->Prop,(∃ m,W 0 m U H1)/\∀ i m U H,W i m U H->
 (J.stop i H/\D.nx U H)\/(J.go i H/\∃ N:St->Hp->Prop,(∀ σ' H',N σ' H'->∃ m',m'<m/\W (i+1) m' σ' H')/\∀ x H',J.yld i H x H'->g x U H' λσ2 H2=>tb { D with nx:=N,ct:=N,bk:=D.nx } σ2 H2)
abbrev qa (fp:List Addr)(h:Heap):List (Addr×Obj):=fp.filterMap λb=>(h.get? b).map λo=>(b,o)
def bO {o:Obj}(hb:b ∈ fp)(e:h.get? b=some o):(b,o) ∈ qa fp h:=List.mem_filterMap.mpr ⟨b,hb,by rw[e];rfl⟩
def w4 {p:Addr×Obj}(hp:p ∈ qa fp h):p.1 ∈ fp/\h.get? p.1=some p.2:=by
 obtain⟨b,hb,e⟩:=List.mem_filterMap.mp hp;cases q:h.get? b with
 |none=>rw[q]at e;cases e
 |some o=>
  rw[q]at e;have e':(b,o)=p:=Option.some.inj e;subst e';exact⟨hb,q⟩
def Inv.pinned (I:Inv X Y U H s)(hf:∀ b ∈ fp,iP X Y H b) (ho:∀ b ∈ fp,∃ o,s.heap.get? b=some o/\∀ v,o.data≠.cell v):Inv X (Y++qa fp s.heap) U H s:=
 I.pV λp hp=>(mem_append.mp hp).elim (λz=>I.pin p (im _ z)) λz=>by
  obtain⟨hb,e⟩:=w4 z;obtain⟨f0,f1,f2,_⟩:=hf p.1 hb;obtain⟨o,e',d⟩:=ho p.1 hb;rw[e]at e';cases e';exact⟨e,f0,f1,f2,d⟩
def Inv.ff {pl:NI}(I:Inv X (Y++pl) U H s):Inv X Y U H s:=I.pV λp hp=>I.pin p (im _ (mem_append_left _ hp))
def FP {iter:Expr}{wi:TI}{g:TG}{tb:TS}(hp:PassesOwn (model X.prog X.w) X.A X.env X.xe)(hc:X.calm=true)(hi:PI X tg iter wi)(hg:PG X tg g)(hb:Cq X body tb)
  (hs:∀ x,foldedSetIterable iter X.env x=pure x:=by intro _;rfl):PS X (.For tg iter body [] pos) (LL wi g tb):=by
 intro Y s U H D I h;refine wpAny_For (aA (hi Y s U H _ I h) λv s1 h1=>aA h1 λitv s2 h2=>?_) hs;obtain⟨it,fp,tn,J,H2,e,I2,T,qm,f2,W,⟨m0,w0⟩,turn⟩:=h2;subst e;have stat:∀ {H':Hp},(∀ b ∈ fp,H' b=none)->∀ b ∈ fp,iP X Y H' b:=λhn b hb=>⟨hn b hb,(f2 b hb).2⟩
 refine codeAny_forLoop_any (λn s'=>∃ i σ' H',Inv X Y σ' H' s'/\tn i s'.heap/\(∀ b ∈ fp,H' b=none)/\W i n σ' H') ?_ m0 ⟨0,U,H2,I2,qm,λb hb=>(f2 b hb).1,w0⟩;rintro n s3 ⟨i,σ3,H3,I3,st3,fr3,w3⟩;rcases turn i n σ3 H3 w3 with⟨stop,qn⟩|⟨go,N,hN,step⟩
 .refine wpAny_passesOwn hp (aA (T.done X rfl rfl rfl hc i Y s3 σ3 H3 X.xe I3 (stat fr3) st3 stop) λr s4 ⟨hr,I4⟩=>?_);subst hr;exact wpAny_execs_nil ⟨σ3,H3,I4,qn⟩
 .refine wpAny_passesOwn hp (aA (T.item X rfl rfl rfl hc i Y s3 σ3 H3 X.xe I3 (stat fr3) st3 go) λr s4 ⟨u,hr,h4⟩=>?_);subst hr;refine wpAny_passesOwn hp (aA h4 λ_ s5 ⟨x,H5,I5,r5,y5,st5,fr5⟩=>?_);have I5':=I5.pinned (stat fr5) (T.obj _ _ st5);refine wpAny_passesOwn hp (aA (hg _ s5 σ3 H5 x u _ I5' r5 (step x H5 y5)) λ_ s6 ⟨σ6,H6,I6,q6⟩=>?_);refine wpAny_passesOwn hp (aA (hb _ s6 σ6 H6 _ I6 q6) λf s7 q7=>?_);have again:∀ {σ7:St}{H7:Hp},Inv X (Y++qa fp s5.heap) σ7 H7 s7->N σ7 H7->∃ m,m<n/\∃ i σ' H',Inv X Y σ' H' s7/\tn i s7.heap/\(∀ b ∈ fp,H' b=none)/\W i m σ' H':=λ{σ7 H7} I7 n7=>by
   obtain⟨m',hm,w7⟩:=hN σ7 H7 n7;refine⟨m',hm,i+1,σ7,H7,I7.ff,T.keep _ _ _ st5 λb hb o e=>(I7.pin (b,o) (im _ (im _ (bO hb e)))).1,λb hb=>?_,w7⟩;obtain⟨o,e,d⟩:=T.obj _ _ st5 b hb;exact(I7.pin (b,o) (im _ (im _ (bO hb e)))).2.1
  cases f with
  |next=>obtain⟨σ7,H7,I7,n7⟩:=q7;exact again I7 n7
  |cont=>obtain⟨σ7,H7,I7,n7⟩:=q7;exact again I7 n7
  |brk=>obtain⟨σ7,H7,I7,q7⟩:=q7;exact⟨σ7,H7,I7.ff,q7⟩
  |ret v=>obtain⟨x7,σ7,H7,I7,r7,q7⟩:=q7;exact⟨x7,σ7,H7,I7.ff,r7,q7⟩
end
@[reducible]def R2:=V->V->Hp->VK->Prop
abbrev cL (X:Cx)(f:Value->Value->Sem Value)(r:R2):Prop:=
 ∀ (Y:NI) (s:Shared) (U:St) (H:Hp) (x y:V) (v u:Value) (Q:VK),Inv X Y U H s->RelV x v->RelV y u->r x y H Q->
  wpAny (model X.prog X.w) X.A (f v u) (EP X Y U Q) X.xe s
abbrev La (X:Cx)(f:Value->Sem Value)(r:V->Hp->VK->Prop):Prop:=
 ∀ (Y:NI) (s:Shared) (U:St) (H:Hp) (x:V) (v:Value) (Q:VK),Inv X Y U H s->RelV x v->r x H Q->
  wpAny (model X.prog X.w) X.A (f v) (EP X Y U Q) X.xe s
abbrev cE (X:Cx)(f:Value)(r:List V->Hp->VK->Prop):Prop:=
 ∀ (Y:NI) (s:Shared) (U:St) (H:Hp) (xs:List V) (us:List Value) (Q:VK),Inv X Y U H s->Vals xs us->r xs H Q->
  wpAny (model X.prog X.w) X.A (call f us) (EP X Y U Q) X.xe s
abbrev Ms (X:Cx)(r:V->Hp->(Bool->Hp->Prop)->Prop):Prop:=
 ∀ (Y:NI) (s:Shared) (U:St) (H:Hp) (x:V) (v:Value) (Q:Bool->Hp->Prop),Inv X Y U H s->RelV x v->r x H Q->
  wpAny (model X.prog X.w) X.A (truthy v) (TP X Y U Q) X.xe s
abbrev KN (r:R2)(ta tb:TE):TE:=λU H Q=>ta U H λx H1=>tb U H1 λy H2=>r x y H2 Q
abbrev ND (r:V->Hp->VK->Prop)(ta:TE):TE:=λU H Q=>ta U H λx H1=>r x H1 Q
abbrev rI (C:Int->Int->Prop)(g:Int->Int->V):R2:=λx y H Q=>∃ i j,x=.int i/\y=.int j/\C i j/\Q (g i j) H
abbrev C9 (g:Int->Int->V):R2:=λx y H Q=>∃ i j,x=.int i/\y=.int j/\Q (g i j) H
abbrev rU (g:Int->V):V->Hp->VK->Prop:=λx H Q=>∃ i,x=.int i/\Q (g i) H
variable {f:Value->Value->Sem Value}{r:R2}{g:Int->Int->Int}
section
variable {X:Cx}{a b c:Expr}{ta tb tc:TE}{pos:Pos}
def FR (ha:PE X a ta)(hb:PE X b tb){R:V->V->Hp->Prop}(I:Inv X Y U H s)
  (h:ta U H λx H1=>tb U H1 λy H2=>R x y H2)
  (hf:∀ v u s2 x y H2,Inv X Y U H2 s2->RelV x v->RelV y u->R x y H2->wpAny (model X.prog X.w) X.A (f v u) Q X.xe s2):
  wpAny (model X.prog X.w) X.A (eval a X.env) (λv s₁=>wpAny (model X.prog X.w) X.A (eval b X.env) (λu s₂=>wpAny (model X.prog X.w) X.A (f v u) Q X.xe s₂) X.xe s₁) X.xe s:=by
 refine aA (ha Y s U H _ I h) λv s1 ⟨x,H1,I1,r1,q1⟩=>?_
 refine aA (hb Y s1 U H1 _ I1 q1) λu s2 ⟨y,H2,I2,r2,q2⟩=>?_
 exact hf v u s2 x y H2 I2 r1 r2 q2
def JA (ho:cL X (binaryOp op) r)(ha:PE X a ta)(hb:PE X b tb):PE X (.BinOp a op b pos) (KN r ta tb):=by
 intro Y s U H Q I h;exact wpAny_BinOp (FR ha hb I h λv u s2 x y H2 I2 rx ry q=>ho Y s2 U H2 x y v u Q I2 rx ry q)
def Jh {op:UnaryOp}{r:V->Hp->VK->Prop}(ho:La X (unaryOp op) r)(ha:PE X a ta):PE X (.UnaryOp op a pos) (ND r ta):=by
 intro Y s U H Q I h;exact UnaryOp_ (aA (ha Y s U H _ I h) λv s1 ⟨x,H1,I1,r1,q1⟩=>ho Y s1 U H1 x v Q I1 r1 q1)
def KQ {C:Int->Int->Prop}
  (rule:∀ (i j:Int) (t u:Tok) (s:Shared) (Q:NH) (E:NH),C i j->Q (.int (g i j) s.toks) { s with toks:=s.toks+1 }->wpAny (model X.prog X.w) X.A (f (.int i t) (.int j u)) Q E s):
  cL X f (rI C λi j=>.int (g i j)):=by
 intro Y s U H x y v u Q I rx ry h;obtain⟨i,j,rfl,rfl,hc,q⟩:=h;obtain⟨t,rfl⟩:=rx;obtain⟨t',rfl⟩:=ry;exact rule i j t t' s _ _ hc ⟨.int (g i j),H,I.tok _,⟨_,rfl⟩,q⟩
def IF 
  (rule:∀ (i j:Int) (t u:Tok) (s:Shared) (Q:NH) (E:NH),Q (.int (g i j) s.toks) { s with toks:=s.toks+1 }->wpAny (model X.prog X.w) X.A (f (.int i t) (.int j u)) Q E s):
  cL X f (C9 λi j=>.int (g i j)):=by
 intro Y s U H x y v u Q I rx ry h;obtain⟨i,j,rfl,rfl,q⟩:=h;obtain⟨t,rfl⟩:=rx;obtain⟨t',rfl⟩:=ry;exact rule i j t t' s _ _ ⟨.int (g i j),H,I.tok _,⟨_,rfl⟩,q⟩
def BR {g:Int->Int->Bool}
  (rule:∀ (i j:Int) (t u:Tok) (s:Shared) (Q:NH) (E:NH),Q (.bool (g i j)) s->wpAny (model X.prog X.w) X.A (f (.int i t) (.int j u)) Q E s):
  cL X f (C9 λi j=>.bl (g i j)):=by
 intro Y s U H x y v u Q I rx ry h;obtain⟨i,j,rfl,rfl,q⟩:=h;obtain⟨t,rfl⟩:=rx;obtain⟨t',rfl⟩:=ry;exact rule i j t t' s _ _ ⟨.bl (g i j),H,I,rfl,q⟩
abbrev Lo (i j:Int):Prop:=0<j/\j<1073741824
abbrev B5 (i j:Int):Prop:=0<=j/\j<=1000000/\i.natAbs<2 ^ 64
abbrev qx (i j:Int):Prop:=(-(2 ^ 64)<i/\i<2 ^ 64)\/(-(2 ^ 64)<j/\j<2 ^ 64)
def qx.ok {i j:Int}(h:qx i j):IntMulOk i j:=by
 rcases h with⟨h1,h2⟩|⟨h1,h2⟩
 .exact .of_left (intBits_le_64 h1 h2)
 .exact .of_right (intBits_le_64 h1 h2)
def GO:cL X (binaryOp .Add) (C9 λi j=>.int (i+j)):=IF λ_ _ _ _ _ _ _ q=>add_int q
def Fp:cL X (binaryOp .Sub) (C9 λi j=>.int (i-j)):=IF λ_ _ _ _ _ _ _ q=>sub_int q
def GQ:cL X (binaryOp .Mult) (rI qx λi j=>.int (i*j)):=KQ λ_ _ _ _ _ _ _ hc q=>mul_int q hc.ok
def BG:cL X (binaryOp .FloorDiv) (rI Lo λi j=>.int (i / j)):=KQ λi j _ _ _ _ _ hc q=>by
 have h1:(0:Int)<j:=hc.1;have h2:j<1073741824:=hc.2;exact floordiv_int nofun (by rw[Int.fdiv_eq_ediv_of_nonneg i nofun];exact q) (.inl (PyProof.noPylong_small nofun))
def HE:cL X (binaryOp .Mod) (rI (λ_ j=>0<j) λi j=>.int (i % j)):=KQ λi j _ _ _ _ _ hc q=>by
 have h1:(0:Int)<j:=hc;exact mod_int' nofun (by rw[Int.fmod_eq_emod_of_nonneg i nofun];exact q)
def GX:cL X (binaryOp .Pow) (rI B5 λi j=>.int (i ^ j.toNat)):=KQ λ_ _ _ _ _ _ _ hc q=>pow_int_small hc.1 hc.2.1 hc.2.2 q
def Nm {f:Value->Sem Value}{g:Int->Int}
  (rule:∀ (i:Int) (t:Tok) (s:Shared) (Q:NH) (E:NH),Q (.int (g i) s.toks) { s with toks:=s.toks+1 }->wpAny (model X.prog X.w) X.A (f (.int i t)) Q E s):
  La X f (rU λi=>.int (g i)):=by
 intro Y s U H x v Q I rx h;obtain⟨i,rfl,q⟩:=h;obtain⟨t,rfl⟩:=rx;exact rule i t s _ _ ⟨.int (g i),H,I.tok _,⟨_,rfl⟩,q⟩
def Gv:La X (unaryOp .USub) (rU λi=>.int (-i)):=Nm λ_ _ _ _ _ q=>neg_int q
end
section
variable {X:Cx}{a b c:Expr}{ta tb tc:TE}{pos:Pos}
def Bg {Q:VK}{k k':Bool}(I:Inv X Y U H s)(q:Q (.bl k) H)(e:k=k'):EP X Y U Q (.bool k') s:=by
 subst e;exact⟨.bl k,H,I,rfl,q⟩
def JD:cL X (compareOp .Lt) (C9 λi j=>.bl (decide (i<j))):=BR λ_ _ _ _ _ _ _ q=>lt_int q
def Kk:cL X (compareOp .LtE) (C9 λi j=>.bl (decide (i<=j))):=BR λ_ _ _ _ _ _ _ q=>le_int q
def JN:cL X (compareOp .Gt) (C9 λi j=>.bl (decide (j<i))):=BR λ_ _ _ _ _ _ _ q=>gt_int q
def KL:cL X (compareOp .GtE) (C9 λi j=>.bl (decide (j<=i))):=BR λ_ _ _ _ _ _ _ q=>ge_int q
def HD:cL X (compareOp .Is) (λx y H Q=>y=.non/\Q (.bl (decide (x=.non))) H):=by
 intro Y s U H x y v u Q I rx ry h;obtain⟨rfl,q⟩:=h;cases ry;refine is_none_gen (Bg I q ?_);cases x<;>first
  |(cases rx;rfl)
  |(obtain⟨t,rfl⟩:=rx;rfl)
def Cz:cL X (compareOp .IsNot) (λx y H Q=>y=.non/\Q (.bl (!decide (x=.non))) H):=by
 intro Y s U H x y v u Q I rx ry h;obtain⟨rfl,q⟩:=h;cases ry;refine isnot_none_gen (Bg I q ?_);cases x<;>first
  |(cases rx;rfl)
  |(obtain⟨t,rfl⟩:=rx;rfl)
def Cd {op:CmpOp}(ho:cL X (compareOp op) r)(ha:PE X a ta)(hb:PE X b tb)(hm:behindInMarks op b=false):PE X (.Compare a [op] [b] pos) (KN r ta tb):=by
 intro Y s U H Q I h;exact wpAny_Compare1 (FR ha hb I h λv u s2 x y H2 I2 rx ry q=>ho Y s2 U H2 x y v u Q I2 rx ry q) hm
abbrev Ef (t:TE):TT:=λU H Q=>t U H λx H'=>∃ k,x=.bl k/\Q k H'
def Dm {op:CmpOp}(ho:cL X (compareOp op) r)(ha:PE X a ta)(hb:PE X b tb)(hm:behindInMarks op b=false):PT X (.Compare a [op] [b] pos) (Ef (KN r ta tb)):=by
 intro Y s U H Q I h;refine wpAny_isTrue_Compare1 (aA (ha Y s U H _ I h) λv s1 ⟨x,H1,I1,r1,q1⟩=>aA (hb Y s1 U H1 _ I1 q1) λu s2 ⟨y,H2,I2,r2,q2⟩=>
  aA (ho Y s2 U H2 x y v u _ I2 r1 r2 q2) λc s3 ⟨z,H3,I3,r3,k,e,q3⟩=>?_) hm
 subst e;cases r3;exact bi ⟨H3,I3,q3⟩
abbrev zC (r r':R2)(ta tb tc:TE):TE:=λU H Q=>ta U H λx H1=>tb U H1 λy H2=>r x y H2 λz H3=>∃ k,z=.bl k/\
 (if k=true then tc U H3 λw' H4=>r' y w' H4 Q else Q (.bl false) H3)
def Aa {op op':CmpOp}{r':R2}(ho:cL X (compareOp op) r)(ho':cL X (compareOp op') r')(ha:PE X a ta)(hb:PE X b tb)(hc:PE X c tc)
  (hm:lastMarks [op,op'] [b,c]=false:=by with_unfolding_all rfl):PE X (.Compare a [op,op'] [b,c] pos) (zC r r' ta tb tc):=by
 intro Y s U H Q I h;refine Compare_chain (aA (ha Y s U H _ I h) λv s1 ⟨x,H1,I1,r1,q1⟩=>chain_link (aA (hb Y s1 U H1 _ I1 q1) λu s2 ⟨y,H2,I2,r2,q2⟩=>
  aA (ho Y s2 U H2 x y v u _ I2 r1 r2 q2) λd s3 ⟨z,H3,I3,r3,k,e,q3⟩=>?_)) hm
 subst e;cases r3;refine bi ?_;cases k with
 |false=>exact ite_ff ⟨.bl false,H3,I3,rfl,q3⟩
 |true=>exact ite_tt (chain_last (aA (hc Y s3 U H3 _ I3 q3) λw' s4 ⟨z',H4,I4,r4,q4⟩=>ho' Y s4 U H4 y z' u w' Q I4 r2 r4 q4))
def AI {op op':CmpOp}{r':R2}(ho:cL X (compareOp op) r)(ho':cL X (compareOp op') r')(ha:PE X a ta)(hb:PE X b tb)(hc:PE X c tc)
  (hm:lastMarks [op,op'] [b,c]=false:=by with_unfolding_all rfl):PT X (.Compare a [op,op'] [b,c] pos) (Ef (zC r r' ta tb tc)):=by
 intro Y s U H Q I h;refine isTrue_chain (aA (ha Y s U H _ I h) λv s1 ⟨x,H1,I1,r1,q1⟩=>test_link (aA (hb Y s1 U H1 _ I1 q1) λu s2 ⟨y,H2,I2,r2,q2⟩=>
  aA (ho Y s2 U H2 x y v u _ I2 r1 r2 q2) λd s3 ⟨z,H3,I3,r3,k,e,q3⟩=>?_)) hm
 subst e;cases r3;refine bi ?_;cases k with
 |false=>
  obtain⟨k',e',q'⟩:=q3;cases e';exact ite_ff ⟨H3,I3,q'⟩
 |true=>
  refine ite_tt (test_last (aA (hc Y s3 U H3 _ I3 q3) λw' s4 ⟨z',H4,I4,r4,q4⟩=>aA (ho' Y s4 U H4 y z' u w' _ I4 r2 r4 q4) λd' s5 ⟨z2,H5,I5,r5,k2,e2,q5⟩=>?_));subst e2;cases r5;exact bi ⟨H5,I5,q5⟩
abbrev CF (K:W.Frag)(x:V)(H:Hp)(k:Bool):Prop:=
 match x with
 | .non=>k=false
 | .bl b=>k=b
 | .int i=>k=(i != 0)
 | .str y=>y.length<=bn/\k=((y.length:Int) != 0)
 | .byt y=>y.size<=bn/\k=((y.size:Int) != 0)
 | .ref p=>(∃ xs,aS K H p xs/\k= !xs.isEmpty)\/(∃ xs,a8 K H p xs/\k= !xs.isEmpty)\/∃ kvs,H p=some (.dK kvs)/\k= !kvs.isEmpty
 |_=>False
def sY {κ:Type}{kvs:List (κ×V)}{vs:List (κ×Value)}(r:KV kvs vs):(!vs.isEmpty)= !kvs.isEmpty:=by
 cases r<;>rfl
def kQ {its:List Value}(r:Vals xs its):(!its.toArray.isEmpty)= !xs.isEmpty:=by
 cases r<;>simp
def fU:(bn:Nat)<2 ^ 63:=by rw[sizeLine_eq];decide
def Fz:Ms X (λx H Q=>∃ k,CF X.K x H k/\Q k H):=by
 intro Y s U H x v Q I rx h;obtain⟨k,e,q⟩:=h;have hl:=fU;have hs:bn=16777216:=sizeLine_eq;cases x with
 |non=>
  cases rx;have e':k=false:=e;subst e';exact truthy_none ⟨H,I,q⟩
 |bl b=>
  cases rx;have e':k=b:=e;subst e';exact bi ⟨H,I,q⟩
 |int i=>
  obtain⟨t,rfl⟩:=rx;have e':k=(i != 0):=e;subst e';exact PySem.P.truthy_int ⟨H,I,q⟩
 |str y=>
  obtain⟨t,rfl⟩:=rx;obtain⟨hy,e'⟩:y.length<=bn/\k=((y.length:Int) != 0):=e;subst e';exact PySem.P.truthy_str nofun ⟨H,I.tok _,q⟩
 |byt y=>
  obtain⟨t,rfl⟩:=rx;obtain⟨hy,e'⟩:y.size<=bn/\k=((y.size:Int) != 0):=e;subst e';exact W.truthy_bytes nofun ⟨H,I.tok _,q⟩
 |ref p=>
  cases rx;have e':(∃ xs,aS X.K H p xs/\k= !xs.isEmpty)\/(∃ xs,a8 X.K H p xs/\k= !xs.isEmpty)\/∃ kvs,H p=some (.dK kvs)/\k= !kvs.isEmpty:=e;rcases e' with⟨xs,hx,e'⟩|⟨xs,hx,e'⟩|⟨kvs,hx,e'⟩
  .subst e';obtain⟨its,r,pl,hz⟩:=I.list hx;have hlen:=r.length;exact wpAny_truthy_list pl.isList (by simp only[ii];omega) ⟨H,I.tok _,by rw[kQ r];exact q⟩
  .subst e';obtain⟨its,r,pl,hz⟩:=I.tuple hx;have hlen:=r.length;exact truthy_tuple pl (by simp only[ii];omega) ⟨H,I.tok _,by rw[kQ r];exact q⟩
  .subst e';obtain⟨hz,hS,vs,r,m⟩:kvs.length<=bn/\(p ==sysModules)=false/\∃ vs,KV kvs vs/\s.heap.DictOf (aw X.prog X.w) p vs:=I.hok p _ hx;have hlen:kvs.length=vs.length:=Paired.length r;exact wpAny_truthy_dict hS m nofun ⟨H,I.tok _,by rw[sY r];exact q⟩
 |_=>exact(show False from e).elim
def yK (ha:PE X a ta)(he:∀ whole,isTrue a X.env whole=(do let v <-whole;standAt a.pos;holding [v] (truthy v))):
  PT X a (λU H Q=>ta U H λx H'=>∃ k,CF X.K x H' k/\Q k H'):=by
 intro Y s U H Q I h;exact isTrue_plain (aA (ha Y s U H _ I h) λv s1 ⟨x,H1,I1,r1,q1⟩=>Fz Y s1 U H1 x v Q I1 r1 q1) (he _)
def tW:cL X (binaryOp .Add) (λx y H Q=>∃ i j,x=.str i/\y=.str j/\i.length+j.length<=bn/\Q (.str (i++j)) H):=by
 intro Y s U H x y v u Q I rx ry h;obtain⟨i,j,rfl,rfl,hz,q⟩:=h;obtain⟨t,rfl⟩:=rx;obtain⟨t',rfl⟩:=ry;exact add_str (λt' tk=>⟨.str (i++j),H,I.tok _,⟨_,rfl⟩,q⟩) hz
def vals1 {x:V}(r:Vals [x] us):∃ u,us=[u]/\RelV x u:=by
 cases r with
 |cons r1 r2=>cases r2;exact⟨_,rfl,r1⟩
def vals2 {x y:V}(r:Vals [x,y] us):∃ u w',us=[u,w']/\RelV x u/\RelV y w':=by
 cases r with
 |cons r1 r2=>
  cases r2 with
  |cons r3 r4=>cases r4;exact⟨_,_,rfl,r1,r3⟩
def xW (hc:X.calm=true):cE X (.builtin "max") (λxs H Q=>∃ i j,xs=[.int i,.int j]/\Q (.int (if j>i then j else i)) H):=by
 intro Y s U H xs us Q I r h;obtain⟨i,j,rfl,q⟩:=h;obtain⟨u,w',rfl,⟨t,rfl⟩,⟨t',rfl⟩⟩:=vals2 r;refine max_two_ints (I.ok.hd hc) λh' tk k=>⟨_,H,I.kept k,?_,q⟩
 by_cases hj:j>i
 .rw[if_pos hj,if_pos hj];exact⟨_,rfl⟩
 .rw[if_neg hj,if_neg hj];exact⟨_,rfl⟩
def wN (hc:X.calm=true):cE X (.builtin "min") (λxs H Q=>∃ i j,xs=[.int i,.int j]/\Q (.int (if j<i then j else i)) H):=by
 intro Y s U H xs us Q I r h;obtain⟨i,j,rfl,q⟩:=h;obtain⟨u,w',rfl,⟨t,rfl⟩,⟨t',rfl⟩⟩:=vals2 r;refine min_two_ints (I.ok.hd hc) λh' tk k=>⟨_,H,I.kept k,?_,q⟩
 by_cases hj:j<i
 .rw[if_pos hj,if_pos hj];exact⟨_,rfl⟩
 .rw[if_neg hj,if_neg hj];exact⟨_,rfl⟩
def wU:cE X (.type "int") (λxs H Q=>(∃ i,xs=[.int i]/\Q (.int i) H)\/∃ k,xs=[.bl k]/\Q (.int (if k then 1 else 0)) H):=by
 intro Y s U H xs us Q I r h;rcases h with⟨i,rfl,q⟩|⟨k,rfl,q⟩
 .obtain⟨u,rfl,t,rfl⟩:=vals1 r;exact call_int_int ⟨.int i,H,I,⟨_,rfl⟩,q⟩
 .obtain⟨u,rfl,r1⟩:=vals1 r;cases r1;exact call_int_bool ⟨.int (if k then 1 else 0),H,I.tok _,⟨_,rfl⟩,q⟩
def pU:cE X (.type "str") (λxs H Q=>∃ i,xs=[.int i]/\i.natAbs.log2<1920/\Q (.str (toString i)) H):=by
 intro Y s U H xs us Q I r h;obtain⟨i,rfl,hz,q⟩:=h;obtain⟨u,rfl,t,rfl⟩:=vals1 r;exact PySem.P.str_of_int hz ⟨.str _,H,I.tok _,⟨_,rfl⟩,q⟩
abbrev Kf (K:W.Frag)(x:V)(H:Hp)(n:Nat):Prop:=
 match x with
 | .str y=>y.length<=bn/\n=y.length
 | .byt y=>y.size<=bn/\n=y.size
 | .ref p=>(∃ xs,aS K H p xs/\n=xs.length)\/∃ xs,a8 K H p xs/\n=xs.length
 |_=>False
def y9:cE X (.builtin "len") (λxs H Q=>∃ x n,xs=[x]/\Kf X.K x H n/\Q (.int n) H):=by
 intro Y s U H xs us Q I r h;obtain⟨x,n,rfl,e,q⟩:=h;obtain⟨u,rfl,rx⟩:=vals1 r;have hl:=fU;have hs:bn=16777216:=sizeLine_eq;cases x with
 |str y=>
  obtain⟨t,rfl⟩:=rx;obtain⟨hy,e'⟩:y.length<=bn/\n=y.length:=e;subst e';exact len_str nofun ⟨.int _,H,I.tok _,⟨_,rfl⟩,q⟩
 |byt y=>
  obtain⟨t,rfl⟩:=rx;obtain⟨hy,e'⟩:y.size<=bn/\n=y.size:=e;subst e';exact W.len_bytes nofun ⟨.int _,H,I.tok _,⟨_,rfl⟩,q⟩
 |ref p=>
  cases rx;have e':(∃ xs,aS X.K H p xs/\n=xs.length)\/∃ xs,a8 X.K H p xs/\n=xs.length:=e;rcases e' with⟨xs,hx,e'⟩|⟨xs,hx,e'⟩
  .subst e';obtain⟨its,r',pl,hz⟩:=I.list hx;have hlen:=r'.length;exact Calls.call_len_list pl.isList (by simp only[ii];omega) ⟨.int xs.length,H,I.tok _,⟨_,by simp only[ii];rw[hlen]⟩,q⟩
  .subst e';obtain⟨its,r',pl,hz⟩:=I.tuple hx;have hlen:=r'.length;exact len_tuple pl (by simp only[ii];omega) ⟨.int xs.length,H,I.tok _,⟨_,by simp only[ii];rw[hlen]⟩,q⟩
 |_=>exact(show False from e).elim
end
structure t4 (h:Heap) (x dx C:Addr) (mA:NJ):Prop where
 obj:h.get? x=some (W.instObj C dx)
 ns:h.Ns1 dx mA
 ne:dx≠x
variable {mA:NJ}
def iW {dx:Addr}(n:h.Ns1 dx mA):∃ od,h.get? dx=some od/\∀ name,W.lookIn name od=some (mA name):=by
 obtain⟨o,es,ep,ho,hd,hk,_,hm⟩:=n;refine⟨o,ho,λname=>?_⟩;have e:=hm name;unfold nsFind findBy at e;rw[<-Array.find?_toList]at e;unfold W.lookIn;rw[hd];dsimp only
 split
 .rename_i y q;rw[q]at e;exact congrArg some e
 .rename_i q;rw[q]at e;have a:es.toList.any (·.refKey)=false:=by
   rw[any_eq_false];intro y hy;obtain⟨z,t,hkey⟩:=hk y (Array.mem_toList_iff.mp hy);simp[DictEntry.refKey,hkey]
  have a':¬ es.toList.any (·.refKey)=true:=by rw[a];exact Bool.false_ne_true
  rw[if_neg a'];exact congrArg some e
variable {C:Addr}
def t4.look {x dx:Addr}(I:t4 h x dx C mA):∃ od,W.InstAt h x (W.instObj C dx) C (some od)/\∀ name,W.lookIn name od=some (mA name):=
 let⟨od,ho,hl⟩:=iW I.ns
 ⟨od,⟨I.obj,rfl,rfl,ho⟩,hl⟩
variable {pl:Sem Bool}{kw:List (Str×Value)}
section
variable {prog:Program}{w:World}{A:Around}{E:NH}{s:Shared}{K:W.Frag}{x dx C f:Addr}{mA:NJ}{name:Str}{v:Value}
def get_map {expr:Bool}(X:K.In s.heap)(I:t4 s.heap x dx C mA)(hg:W.plainGet K C name=true)(hh:W.hasDictIn K C=true)
  (ha:W.findIn K (.ref C) name=some none) (hv:mA name=some v) (hv':W.handedIn v=true) (h:Q v { s with toks:=s.toks+1 }):
  wpAny (model prog w) A (getAttr (.ref x) name expr) Q E s:=by
 obtain⟨od,J,hl⟩:=I.look;exact W.get_value X J (W.plainGet_of hg).1 (W.findObj_own hh ha rfl (by rw[hl,hv])) hv' h
def Ac {Q:Value×List Value->Shared->Prop}(X:K.In s.heap)(I:t4 s.heap x dx C mA)(hg:W.plainGet K C name=true)
  (hf:W.findIn K (.ref C) name=some (some (.ref f))) (ht:W.isFn K (.ref f)=true) (hv:mA name=none) (h:Q (.ref f,[.ref x]) s):
  wpAny (model prog w) A (getMethod (.ref x) name pl) Q E s:=by
 obtain⟨od,J,hl⟩:=I.look;exact W.method_fn X J (W.plainGet_of hg).1 (W.plainGet_of hg).2 hf (beq_iff_eq.mp ht) (by show(W.lookIn name od).map (·.isSome)=some false;rw[hl,hv];rfl) h
def dw {ns:List Str}{Q:NG}(X:K.In s.heap)(I:t4 s.heap x dx C mA)
  (hs:W.findIn K (.ref C) "__setattr__"=some (some (.builtin "object.__setattr__"))) (hp:W.plainOver K C=true) (ht:W.takerIn K C name=some none) (hh:W.hasDictIn K C=true)
  (hw:PySem.Within mA ns) (hsz:ns.length<=bn)
  (h:∀ h',t4 h' x dx C (λy=>if y=name then some v else mA y)->Heap.SameBut dx s.heap h'->Q () { s with heap:=h',toks:=s.toks+2 }):
  wpAny (model prog w) A (setAttr (.ref x) name v) Q E s:=by
 obtain⟨od,J,hl⟩:=I.look;refine W.set_plain X J hs (W.osa_open (s:={ s with toks:=s.toks+1 }) (r:=none) X J hp ht λb=>?_);obtain⟨cd,hc,hd'⟩:=W.any_some hh;have hx:s.heap.get? x=some ⟨.ref C,some dx,.plain,#[]⟩:=I.obj;refine ad (am (ad (ad (wpAny_loadPart hx (ad (W.Looks.here (s:={ s with toks:=s.toks+1 }) (W.looks_clsIn X hc) ?_))))));rw[hd'];refine am (a:=some dx) (ad (am (ad ?_)));refine wpAny_nsSet1 (s:={ s with toks:=s.toks+1 }) I.ns λh' hn2 hs2=>?_
 obtain⟨oD,esD,epD,hoD,hdD,hcD⟩:=hn2.count (PySem.Within.cons name v hw);refine ad (wpAny_lookBehind hoD (by rw[hdD];exact pastItsLine_dict (Nat.le_trans hcD (by rw[length_cons];omega))) ?_);exact am (h _ ⟨(hs2.2 _ (Ne.symm I.ne)).trans I.obj,hn2,I.ne⟩ hs2)
def yn {R:Result->Shared->Prop}{vs:List Value}(X:K.In s.heap)(hm:W.makesIn K C=true)
  (hi:W.findIn K (.ref C) "__init__"=some (some (.ref f))) (hf:W.typeIn K (.ref f)=some (.type "function"))
  (h:codeAny (model prog w) (A.under (.builtin "type.__call__" ⟨.ref C::vs,kw⟩)) (.call (.ref f) ⟨.ref (s.heap.objs.size+1)::vs,kw⟩) (W.InitBack (s.heap.objs.size+1) R)
   { s with heap:=(s.heap.push W.emptyDict).push (W.instObj C s.heap.objs.size) }):
  codeAny (model prog w) A (.call (.ref C) ⟨vs,kw⟩) R s:=by
 obtain⟨hh,g,d,t,os⟩:=s;exact W.make_core (W.makes_of X hm) (W.looks_findIn X hi) (λself=>W.bind_fn X self hf) (.inl rfl) h
end
abbrev cN (f:Str)(v:V):List (Str×V)->List (Str×V)
 | []=>[(f,v)]
 |(g,x)::r=>if g=f then(g,v)::r else(g,x)::cN f v r
def d4 (f g:Str)(v:V):∀ fs:List (Str×V),(cN f v fs).lookup g=if g=f then some v else fs.lookup g
 | []=>by
  show List.lookup g [(f,v)]=_
  by_cases h:g=f
  .have hb:(g ==f)=true:=beq_iff_eq.mpr h;simp only[List.lookup,hb,if_pos h]
  .have hb:(g ==f)=false:=beq_eq_false_iff_ne.mpr h;simp only[List.lookup,hb,if_neg h]
 |(k,x)::r=>by
  have ih:=d4 f g v r;rw[show cN f v ((k,x)::r)=(if k=f then(k,v)::r else(k,x)::cN f v r) from rfl]
  by_cases hk:k=f
  .rw[if_pos hk]
   by_cases h:g=k
   .have hb:(g ==k)=true:=beq_iff_eq.mpr h;simp only[List.lookup,hb,if_pos (h.trans hk)]
   .have hb:(g ==k)=false:=beq_eq_false_iff_ne.mpr h;simp only[List.lookup,hb,if_neg (λe:g=f=>h (e.trans hk.symm))]
  .rw[if_neg hk]
   by_cases h:g=k
   .have hb:(g ==k)=true:=beq_iff_eq.mpr h;simp only[List.lookup,hb,if_neg (λe:g=f=>hk (h.symm.trans e))]
   .have hb:(g ==k)=false:=beq_eq_false_iff_ne.mpr h;simp only[List.lookup,hb];exact ih
def c6 (f:Str)(v:V):∀ fs:List (Str×V),f ∈ (cN f v fs).map (·.1)/\∀ g,g ∈ fs.map (·.1)->g ∈ (cN f v fs).map (·.1)
 | []=>⟨by simp[cN],λg h=>by simp at h⟩
 |(k,x)::r=>by
  obtain⟨i1,i2⟩:=c6 f v r;rw[show cN f v ((k,x)::r)=(if k=f then(k,v)::r else(k,x)::cN f v r) from rfl]
  by_cases hk:k=f
  .rw[if_pos hk];subst hk;exact⟨by simp,λg h=>by simpa using h⟩
  .rw[if_neg hk];refine⟨?_,λg h=>?_⟩
   .rw[map_cons];exact dL _ i1
   .rw[map_cons]at h⊢;rcases nb.mp h with e|e
    .exact nb.mpr (.inl e)
    .exact dL _ (i2 g e)
def et (f:Str)(v:V):∀ fs:List (Str×V),(cN f v fs).length<=fs.length+1
 | []=>by simp[cN]
 |(k,x)::r=>by
  have ih:=et f v r;rw[show cN f v ((k,x)::r)=(if k=f then(k,v)::r else(k,x)::cN f v r) from rfl]
  by_cases hk:k=f
  .rw[if_pos hk,length_cons,length_cons];omega
  .rw[if_neg hk,length_cons,length_cons];omega
def dc.some_of {o:Option Value}(r:dc (some v) o):∃ u,o=some u/\RelV v u:=by
 cases o with
 |none=>exact(show False from r).elim
 |some u=>exact⟨u,rfl,r⟩
def dc.none_of {o:Option Value}(r:dc none o):o=none:=by
 cases o with
 |none=>rfl
 |some u=>exact(show False from r).elim
def nJ (r:RelV v u):W.handedIn u=true:=by
 cases v with
 |non=>cases(show u=Value.none from r);rfl
 |bl b=>cases(show u=Value.bool b from r);rfl
 |int i=>obtain⟨t,e⟩:=(show ∃ t,u=Value.int i t from r);cases e;rfl
 |str x=>obtain⟨t,e⟩:=(show ∃ t,u=Value.str x t from r);cases e;rfl
 |byt b=>obtain⟨t,e⟩:=(show ∃ t,u=Value.bytes b t from r);cases e;rfl
 |flt b=>obtain⟨t,e⟩:=(show ∃ t,u=Value.float b t from r);cases e;rfl
 |ref a=>cases(show u=Value.ref a from r);rfl
 |ty n=>cases(show u=Value.type n from r);rfl
section
variable {P:Program}{w:World}{H H':Hp}{h h':Heap}{a C dx:Addr}{fs fs':List (Str×V)}
def g7 (hok:gk P w H h)(e:H a=some (.ins C dx fs)):∃ mA,t4 h a dx C mA/\(∀ f,dc (fs.lookup f) (mA f))/\PySem.Within mA (fs.map (·.1))/\fs.length<=1000/\H dx=some (.own a):=by
 obtain⟨d,z,ne,ob,mA,n,r,q⟩:=(show aN P w H h a (.ins C dx fs) from hok a _ e);exact⟨mA,⟨ob,n,ne⟩,r,q,z,d⟩
end
structure BV (K:W.Frag) (C:Addr):Prop where
 pg:W.plainGet K C Str.empty=true
 hd:W.hasDictIn K C=true
 po:W.plainOver K C=true
 sa:W.findIn K (.ref C) "__setattr__"=some (some (.builtin "object.__setattr__"))
def BV.get {K:W.Frag}(c:BV K C)(f:Str):W.plainGet K C f=true:=c.pg
abbrev dY (K:W.Frag)(C:Addr)(f:Str):Prop:=W.findIn K (.ref C) f=some none
def dY.IS {K:W.Frag}{f:Str}(n:dY K C f):W.takerIn K C f=some none:=by
 unfold W.takerIn;rw[show W.findIn K (.ref C) f=some none from n]
 rfl
structure Meth (K:W.Frag) (C:Addr) (m:Str) (f:Addr):Prop where
 at_:W.findIn K (.ref C) m=some (some (.ref f))
 fn:W.isFn K (.ref f)=true
 kp:W.keepIn K (.ref f)=true
section
variable {X:Cx}{Y:NI}{U:St}{H:Hp}{s:Shared}{a C dx:Addr}{fs:List (Str×V)}{f:Str}{v:V}{A:Around}{E:NH}
def tQ {b:Bool}(I:Inv X Y U H s)(e:H a=some (.ins C dx fs))(c:BV X.K C)(n:dY X.K C f)(l:fs.lookup f=some v)
  (h:∀ u s',Inv X Y U H s'->RelV v u->Q u s'):wpAny (model X.prog X.w) A (getAttr (.ref a) f b) Q E s:=by
 obtain⟨mA,O,r,_,_,_⟩:=g7 I.hok e;obtain⟨u,hu,ru⟩:=dc.some_of (v:=v) (o:=mA f) (by rw[<-l];exact r f);exact get_map I.bV O (c.get f) c.hd n hu (nJ ru) (h u _ (I.tok _) ru)
def tf {m:Str}{g:Addr}{Q:Value×List Value->Shared->Prop}(I:Inv X Y U H s)(e:H a=some (.ins C dx fs))(c:BV X.K C)(k:Meth X.K C m g)(l:fs.lookup m=none)
  (h:Q (.ref g,[.ref a]) s):wpAny (model X.prog X.w) A (getMethod (.ref a) m pl) Q E s:=by
 obtain⟨mA,O,r,_,_,_⟩:=g7 I.hok e;have hn:mA m=none:=dc.none_of (by rw[<-l];exact r m);exact Ac I.bV O (c.get m) k.at_ k.fn hn h
def sX {y:V}{Q:NG}(I:Inv X Y U H s)(e:H a=some (.ins C dx fs))(c:BV X.K C)(n:dY X.K C f)(hl:fs.length<1000)(ry:RelV y u)
  (h:∀ s',Inv X Y U (upd H a (.ins C dx (cN f y fs))) s'->Q () s'):wpAny (model X.prog X.w) A (setAttr (.ref a) f u) Q E s:=by
 obtain⟨mA,O,r,wi,_,ho⟩:=g7 I.hok e;have hz:(fs.map (·.1)).length<=bn:=by rw[ce,sizeLine_eq];omega
 refine dw I.bV O c.sa c.po n.IS c.hd wi hz λh' O' sb=>h _ ?_
 have hd:∃ o,h'.get? dx=some o:=let⟨o,_,_,e',_⟩:=O'.ns;⟨o,e'⟩;refine I.write (x:=a) (e:=dx) (by rw[e];exact True.intro) (.inr ho) (λb q hb z=>(sb.2 b hb).trans z) hd ?_;refine⟨by rw[ah O.ne];exact ho,?_,O.ne,O'.obj,_,O'.ns,λg=>?_,λg hg=>?_⟩
 .have:=et f y fs;omega
 .show dc ((cN f y fs).lookup g) (if g=f then some u else mA g);rw[d4]
  by_cases q:g=f
  .rw[if_pos q,if_pos q];exact ry
  .rw[if_neg q,if_neg q];exact r g
 .by_cases q:g=f
  .rw[q];exact(c6 f y fs).1
  .refine(c6 f y fs).2 g (wi g λz=>hg ?_);show(if g=f then some u else mA g)=none;rw[if_neg q];exact z
def Inv.made (I:Inv X Y U H s):Inv X Y U (upd (upd H s.heap.objs.size (.own (s.heap.objs.size+1))) (s.heap.objs.size+1) (.ins C s.heap.objs.size []))
  { s with heap:=(s.heap.push W.emptyDict).push (W.instObj C s.heap.objs.size) }:=by
 have e1:(s.heap.push W.emptyDict).get? s.heap.objs.size=some W.emptyDict:=v4 s.heap rfl;have e2:((s.heap.push W.emptyDict).push (W.instObj C s.heap.objs.size)).get? (s.heap.objs.size+1)=some (W.instObj C s.heap.objs.size):=by
  have:=v4 (s.heap.push W.emptyDict) (o:=W.instObj C s.heap.objs.size) rfl
  rwa [Heap.size_push]at this
 have e3:(s.heap.push W.emptyDict).Ns s.heap.objs.size (λ_=>none):=⟨W.emptyDict,#[],_,e1,rfl,(λe he=>absurd he (by simp)),λ_=>rfl⟩;have I1:=I.laid (a:=s.heap.objs.size) (o:=.own (s.heap.objs.size+1)) (h':=s.heap.push W.emptyDict) (t':=s.toks) (λb u q=>ul _ q) (re _) ⟨_,e1⟩;refine I1.laid (a:=s.heap.objs.size+1) (o:=.ins C s.heap.objs.size []) (t':=s.toks) (λb u q=>ul _ q) (Nat.le_of_eq (Heap.size_push _ _)) ?_;have ne:s.heap.objs.size≠s.heap.objs.size+1:=pi (Nat.lt_succ_self _);refine⟨by rw[ah ne,az],Nat.zero_le _,ne,e2,λ_=>none,(Heap.Ns1.of_empty e3).at λo q=>ul _ q,λ_=>True.intro,λy hy=>absurd rfl hy⟩
def Dj {prog:Program}{env:Env}(hb:attributeBase e f env (eval e env)=eval e env)
  (h:wpAny (model prog w) A (eval e env) (λo s₁=>wpAny (model prog w) A (getAttr o f true) Q E s₁) E s):wpAny (model prog w) A (eval (.Attribute e f pos) env) Q E s:=
 Attribute_any_ h (by rw[arm_eval_Attribute,hb])
end
section
variable {X:Cx}{o e value:Expr}{f:Str}{pos pos' tpos:Pos}{ta tv:TE}
end
section
variable {X:Cx}{Y:NI}{U:St}{H:Hp}{s:Shared}{A:Around}{E:NH}{Q:NH}{c:Value}{b:Bool}
inductive i6 (K:W.Frag) (H:Hp):V->Value->Prop where
 |non:i6 K H .non (.type "NoneType")
 |bl (x:Bool):i6 K H (.bl x) (.type "bool")
 |int (i:Int):i6 K H (.int i) (.type "int")
 |str (x:Str):i6 K H (.str x) (.type "str")
 |flt (x:UInt64):i6 K H (.flt x) (.type "float")
 |lst {a:Addr}{xs:List V}(e:H a=some (.lst xs)):i6 K H (.ref a) (.type "list")
 |frz {a:Addr}{o:Obj}{xs:List V}(e:H a=some (.frz o (.lst xs))):i6 K H (.ref a) (.type "list")
 |tup {a:Addr}{xs:List V}(e:H a=some (.tup xs)):i6 K H (.ref a) (.type "tuple")
 |dK {a:Addr}{kvs:List (Key×V)}(e:H a=some (.dK kvs)):i6 K H (.ref a) (.type "dict")
 |dT {a:Addr}{kvs:List (List Key×V)}(e:H a=some (.dT kvs)):i6 K H (.ref a) (.type "dict")
 |ins {a C dx:Addr}{fs:List (Str×V)}(e:H a=some (.ins C dx fs)) (cl:BV K C) (ha:W.findIn K (.ref C) "__class__"=some (some (.builtin "object.__class__")))
   (hn:W.specialIn K (.builtin "object.__class__") "__get__"=some (some (.builtin "getset_descriptor.__get__"))) (htk:W.takesIn K (.builtin "object.__class__")=some true)
   (hm:W.mroIn K C (.type "object")=some true):i6 K H (.ref a) (.ref C)
def i5 {x:V}{t:Value}(I:Inv X Y U H s)(rx:RelV x u)(ty:i6 X.K H x t)(e:W.kitOne X.K t c=some b)(h:∀ tk,Q (.bool b) { s with toks:=tk }):
  wpAny (model X.prog X.w) A (call (.builtin "isinstance") [u,c]) Q E s:=by
 cases ty with
 |non=>cases(show u=Value.none from rx);exact W.kia_one W.kitx_none I.bV True.intro e (λz=>nomatch z) h
 |bl y=>cases(show u=Value.bool y from rx);exact W.kia_one W.kitx_bool I.bV True.intro e (λz=>nomatch z) h
 |int i=>obtain⟨t,q⟩:=(show ∃ t,u=Value.int i t from rx);cases q;exact W.kia_one W.kitx_int I.bV True.intro e (λz=>nomatch z) h
 |str y=>obtain⟨t,q⟩:=(show ∃ t,u=Value.str y t from rx);cases q;exact W.kia_one W.kitx_str I.bV True.intro e (λz=>nomatch z) h
 |flt y=>obtain⟨t,q⟩:=(show ∃ t,u=Value.float y t from rx);cases q;exact W.kia_one W.kitx_float I.bV True.intro e (λz=>nomatch z) h
 | @lst a xs ea=>
  cases(show u=Value.ref a from rx);obtain⟨_,_,n,_,h1⟩:=(show aN X.prog X.w H s.heap a (.lst xs) from I.hok a _ ea);exact W.kia_one W.kitx_list I.bV ⟨_,h1,rfl⟩ e (λz=>nomatch z) h
 | @frz a ob xs ea=>
  cases(show u=Value.ref a from rx);obtain⟨_,_,_,n,_,h1⟩:=(show aN X.prog X.w H s.heap a (.frz ob (.lst xs)) from I.hok a _ ea);exact W.kia_one W.kitx_list I.bV ⟨_,h1,rfl⟩ e (λz=>nomatch z) h
 | @tup a xs ea=>
  cases(show u=Value.ref a from rx);obtain⟨_,_,_,p⟩:=(show aN X.prog X.w H s.heap a (.tup xs) from I.hok a _ ea);obtain⟨o,h1,h2,_⟩:=p;exact W.kia_one W.kitx_tuple I.bV ⟨o,h1,h2⟩ e (λz=>nomatch z) h
 | @dK a kvs ea=>
  cases(show u=Value.ref a from rx);obtain⟨_,_,vs,_,p⟩:=(show aN X.prog X.w H s.heap a (.dK kvs) from I.hok a _ ea);obtain⟨o,es,ep,h1,h2,_⟩:=p;exact W.kia_one W.kitx_dict I.bV ⟨o,h1,h2.1⟩ e (λz=>nomatch z) h
 | @dT a kvs ea=>
  cases(show u=Value.ref a from rx);obtain⟨_,_,xs,_,o,es,ep,h1,h2,_⟩:=(show aN X.prog X.w H s.heap a (.dT kvs) from I.hok a _ ea);exact W.kia_one W.kitx_dict I.bV ⟨o,h1,h2.1⟩ e (λz=>nomatch z) h
 | @ins a C dx fs ea cl ha hn htk hm=>
  cases(show u=Value.ref a from rx);obtain⟨mA,O,_⟩:=g7 I.hok ea;obtain⟨od,J,_⟩:=O.look;exact W.kia_one (W.kitx_own (cl.get _) cl.hd ha hn htk hm) I.bV J e (λz=>nomatch z) h
end
structure bP (k:Nat) (A:Around):Prop where
 hd:A.handled=none
 dp:A.depth+3*k+5<recursionLimit
 un:A.units+16*k+200<cLine
def bP.mono {j:Nat}(r:bP k A)(h:j<=k):bP j A:=⟨r.hd,by have:=r.dp;omega,by have:=r.un;omega⟩
def bP.deeper (r:bP (k+1) A)(env:Env):bP k (A.deeper env):=
 ⟨r.hd,by have:=r.dp;show A.depth+1+3*k+5<_;omega,by have:=r.un;show A.units+3+16*k+200<_;omega⟩
def tH:(A.under (.builtin "type.__call__" ⟨.ref C::us,kw⟩)).depth=A.depth+1:=by
 first|rfl|simp[Around.under,Code.weight,Code.isCreation,Code.isGuard,Code.isCaller,Code.frames,Code.isFrame,guardIds]
def uc:(A.under (.builtin "type.__call__" ⟨.ref C::us,kw⟩)).units=A.units+1:=by
 first|rfl|simp[Around.under,Code.cUnits,Code.frames,Code.isFrame]
def bP.make (r:bP (k+1) A)(C:Addr)(us:List Value)(kw:List (Str×Value)):bP k (A.under (.builtin "type.__call__" ⟨.ref C::us,kw⟩)):=
 ⟨r.hd,by have:=r.dp;rw[tH];omega,by have:=r.un;rw[uc];omega⟩
def bP.depth (r:bP k A):A.depth<recursionLimit:=by have:=r.dp;omega
abbrev CK:TA:=λ_ H Q=>Q [] H
abbrev EJ (ta:TE)(tr:TA):TA:=λU H Q=>ta U H λx H1=>tr U H1 λxs H2=>Q (x::xs) H2
section
variable {X:Cx}{e:Expr}{es:List Expr}{te:TE}{t:TA}{pos:Pos}
def iV:PA X [] CK:=λ_ _ _ _ H Q I h=>Calls.spliced_nil ⟨[],H,I,.nil,h⟩
def BW (ha:PE X e te)(hr:PA X es t)(hs:bm (e::es) X.env=(false,eval e X.env)::bm es X.env:=by rfl):PA X (e::es) (EJ te t):=by
 intro pos Y s U H Q I h;rw[hs];show wpAny _ _ (spliced ((false,eval e X.env)::backTo pos (bm es X.env))) _ _ s;refine Calls.spliced_cons (aA (ha Y s U H _ I h) λu s1 ⟨x,H1,I1,r1,q1⟩=>?_);exact aA (hr pos Y s1 U H1 _ I1 q1) λus s2 ⟨xs,H2,I2,r2,q2⟩=>⟨x::xs,H2,I2,.cons r1 r2,q2⟩
abbrev Lg (t:TA):TE:=λU H Q=>t U H λxs H1=>xs.length<=bn/\∀ p,H1 p=none->Q (.ref p) (upd H1 p (.tup xs))
abbrev LV (t:TA):TE:=λU H Q=>t U H λxs H1=>xs.length<=bn/\∀ p,H1 p=none->Q (.ref p) (upd H1 p (.lst xs))
def F3 {x1} (h:PA X es t):PE X (.Tuple es x1 pos) (Lg t):=by
 intro Y s U H Q I hq;refine wpAny_Tuple_spliced (aA (h pos Y s U H _ I hq) λus s1 ⟨xs,H1,I1,r,z,q⟩=>⟨by rw[<-r.length];exact z,?_⟩);have hf:H1 s1.heap.objs.size=none:=I1.hok.fresh (re _);refine⟨.ref s1.heap.objs.size,upd H1 s1.heap.objs.size (.tup xs),I1.laid (t':=s1.toks) (λb u e=>ul _ e) (re _) ?_,rfl,q _ hf⟩;exact⟨z,us,r,⟨_,v4 _ rfl,rfl,_,rfl⟩⟩
def Gq (h:PA X es t):PE X (.List es pos) (LV t):=by
 intro Y s U H Q I hq;refine wpAny_List_spliced (aA (h pos Y s U H _ I hq) λus s1 ⟨xs,H1,I1,r,z,q⟩=>⟨by rw[<-r.length];exact z,?_⟩);have hf:H1 s1.heap.objs.size=none:=I1.hok.fresh (re _);refine⟨.ref s1.heap.objs.size,upd H1 s1.heap.objs.size (.lst xs),I1.laid (t':=s1.toks) (λb u e=>ul _ e) (re _) ?_,rfl,q _ hf⟩;exact⟨z,us,0,r,v4 _ rfl⟩
end
@[reducible]def Sp:=List V->Hp->VK->XK->Prop
@[reducible]def vt:=List Env->Hp->Shared->XK->Value->Shared->Prop
structure tI (P:Program) (w:World) (K:W.Frag) (mg:NJ) (base:Heap) (A:Around) (outer:List Env) (s:Shared) (H:Hp):Prop where
 frames:A.frames=some outer
 mod:Mod K mg base
 bs:∀ b o,base.get? b=some o->s.heap.get? b=some o/\H b=none
 bsz:base.objs.size<=s.heap.objs.size
 j9:s.heap.FunFrames base outer
 frf:∀ b ∈ qe outer,H b=none
 hok:gk P w H s.heap
 bare:AllBare s.gens
abbrev CE (outer:List Env)(P:Program)(w:World)(H:Hp)(s:Shared)(Q:VK)(u:Value)(s':Shared):Prop:=
 ∃ v H',s'.os=s.os/\AllBare s'.gens/\Un (qe outer) [] H H' s.heap s'.heap/\gk P w H' s'.heap/\RelV v u/\Q v H'
abbrev CR (CX:vt)(outer:List Env)(P:Program)(w:World)(H:Hp)(s:Shared)(Q:VK)(E:XK)(r:Result)(s':Shared):Prop:=
 match r with
 | .ok (.ret u)=>CE outer P w H s Q u s'
 | .ok _=>False
 | .error e=>CX outer H s E e s'
structure cZ (P:Program) (w:World) (K:W.Frag) (mg:NJ) (base:Heap) (CX:vt) (k:Nat) (f:Addr) (fd:FuncData) (ps:List Str) (sp:Sp):Prop where
 len:∀ vs H Q E,sp vs H Q E->vs.length=ps.length
 run:∀ (A:Around) (outer:List Env) (s:Shared) (H:Hp) (args:Args) (us:List Value) (vs:List V) (Q:VK) (E:XK),bP k A->tI P w K mg base A outer s H->BindsTo s fd args (ps.zip us)->Vals vs us->sp vs H Q E->
  codeAny (model P w) A (.call (.ref f) args) (CR CX outer P w H s Q E) s
variable {mg:NJ}{base:Heap}{CX:vt}{fd:FuncData}{ps:List Str}
def cZ.imp {K:W.Frag}{f:Addr}{sp sp':Sp}(F:cZ P w K mg base CX k f fd ps sp)
  (h:∀ vs H Q E,sp' vs H Q E->sp vs H Q E):cZ P w K mg base CX k f fd ps sp':=
 ⟨λvs H Q E q=>F.len vs H Q E (h _ _ _ _ q),λA outer s H args us vs Q E hr he hb hv hs=>F.run A outer s H args us vs Q E hr he hb hv (h _ _ _ _ hs)⟩
variable {outer:List Env}
def tI.make {K:W.Frag}(e:tI P w K mg base A outer s H)(C:Addr)(us:List Value)(kw:List (Str×Value)):
  tI P w K mg base (A.under (.builtin "type.__call__" ⟨.ref C::us,kw⟩)) outer s H:=⟨by first|exact e.frames|(simpa[Around.under,Code.envs,Code.isFrame,pushEnvs] using e.frames),e.mod,e.bs,e.bsz,e.j9,e.frf,e.hok,e.bare⟩
section
variable {X:Cx}{Y:NI}{U:St}{H:Hp}{s s':Shared}
def Inv.jb (I:Inv X Y U H s):tI X.prog X.w X.K X.mg X.base X.A X.stack s H:=
 ⟨I.ok.frames,I.ok.mod,I.bs,Nat.le_trans I.ok.bsz I.sz,I.stack,I.qb,I.hok,I.bare⟩
def Inv.after {Q:VK}(I:Inv X Y U H s)(h:CE X.stack X.prog X.w H s Q u s'):EP X Y U Q u s':=by
 obtain⟨v,H',os,bare,un,hok,r,q⟩:=h;obtain⟨hh,g,d,t,os'⟩:=s';obtain rfl:os'=s.os:=os;exact⟨v,H',I.call (h':=hh) (g':=g) (d':=d) (t':=t) (ch:=[]) un hok bare (λb z=>absurd z (by simp)),r,q⟩
end
abbrev EA (sp:Sp)(dvs:List V)(E:St->XK)(t:TA):TE:=λU H Q=>t U H λvs H1=>sp (vs++dvs) H1 Q (E U)
abbrev Eh (C:Addr)(sp:Sp)(dvs:List V)(E:St->XK)(t:TA):TE:=λU H Q=>t U H λvs H1=>∀ x dx,H1 x=none->H1 dx=none->dx≠x->
 sp (.ref x::(vs++dvs)) (upd (upd H1 dx (.own x)) x (.ins C dx [])) (λv H2=>v=.non/\Q (.ref x) H2) (E U)
abbrev Binds (K:W.Frag)(fd:FuncData)(ps:List Str)(ds:List Value):Prop:=
 ∀ (s:Shared) (us:List Value),K.In s.heap->(us++ds).length=ps.length->BindsTo s fd ⟨us,[]⟩ (ps.zip (us++ds))
def Binds.all {K:W.Frag}(h:∀ us:List Value,us.length=ps.length->bindArgs fd ⟨us,[]⟩=pure (ps.zip us)):Binds K fd ps []:=λs us _ hl=>by
 rw[append_nil]at hl⊢;exact .of_eq (h us hl)
abbrev Passes (CX:vt)(X:Cx)(E:St->XK):Prop:=∀ (Y:NI) (U:St) (H:Hp) (s:Shared) (e:Value) (s':Shared),Inv X Y U H s->CX X.stack H s (E U) e s'->X.xe e s'
variable {vs:List V}
section
variable {X:Cx}{CX:vt}{k:Nat}{f C:Addr}{fd:FuncData}{ps:List Str}{sp:Sp}{dvs:List V}{ds:List Value}{E:St->XK}{x m:Str}{p pos apos:Pos}{e o:Expr}{es:List Expr}{ta:TE}{t:TA}
def oa {Q:VK}(F:cZ X.prog X.w X.K X.mg X.base CX k f fd ps sp)(hr:bP k X.A)(hb:Binds X.K fd ps ds)(hd:Vals dvs ds)(hx:Passes CX X E)
  (I:Inv X Y U H s) (r:Vals vs us) (h:sp (vs++dvs) H Q (E U)):wpAny (model X.prog X.w) X.A (call (.ref f) us) (EP X Y U Q) X.xe s:=by
 have r2:Vals (vs++dvs) (us++ds):=r.append hd;have hl:(us++ds).length=ps.length:=by rw[<-r2.length];exact F.len _ _ _ _ h
 refine wpAny_call (codeAny_mono (F.run X.A X.stack s H ⟨us,[]⟩ (us++ds) (vs++dvs) Q (E U) hr I.jb (hb s us I.bV hl) r2 h) λr s' hq=>?_);cases r with
 |error e=>exact hx Y U H s e s' I hq
 |ok fl=>
  cases fl with
  |ret u=>exact I.after hq
  |next=>exact False.elim hq
  |brk=>exact False.elim hq
  |cont=>exact False.elim hq
def BE (F:cZ X.prog X.w X.K X.mg X.base CX k f fd ps sp)(hr:bP k X.A)(hg:Gl X x)(hm:X.mg x=some (.ref f))(hk:W.keepIn X.K (.ref f)=true)(hb:Binds X.K fd ps ds)(hd:Vals dvs ds)(hx:Passes CX X E)
  (ha:PA X (e::es) t) (hdb:(x ==("__debug__":Str))=false:=by decide) (he:bm (e::es) X.env=(false,eval e X.env)::bm es X.env:=by rfl) (hpl:(backTo pos (bm es X.env)).any (·.1)=false:=by rfl):
  PE X (.Call (.Name x p) (e::es) [] pos) (EA sp dvs E t):=by
 intro Y s U H Q I h;refine bv (bI I hg hm ?_ hdb);refine W.callWith_K (h₀:=X.base) I.ok.mod.kin hk (aA (ha pos Y s U H _ I h) λus s1 ⟨vs,H1,I1,r,q⟩=>⟨I1.bV,?_⟩) he hpl;exact oa F hr hb hd hx I1 r q
def zG (F:cZ X.prog X.w X.K X.mg X.base CX k f fd ps sp)(hr:bP k X.A)(hg:Gl X x)(hm:X.mg x=some (.ref f))(hk:W.keepIn X.K (.ref f)=true)(hb:Binds X.K fd ps ds)(hd:Vals dvs ds)(hx:Passes CX X E)
  (hdb:(x ==("__debug__":Str))=false:=by decide):PE X (.Call (.Name x p) [] [] pos) (EA sp dvs E CK):=by
 intro Y s U H Q I h;refine bv (bI I hg hm ?_ hdb);exact W.callWith_K0 I.bV hk (oa (us:=[]) F hr hb hd hx I .nil h)
structure Mk (K:W.Frag) (C f:Addr):Prop where
 makes:W.makesIn K C=true
 init:W.findIn K (.ref C) "__init__"=some (some (.ref f))
 fn:W.isFn K (.ref f)=true
 kp:W.keepIn K (.ref C)=true
def qY {Q:VK}(M:Mk X.K C f)(F:cZ X.prog X.w X.K X.mg X.base CX k f fd ps sp)(hr:bP (k+1) X.A)(hb:Binds X.K fd ps ds)(hd:Vals dvs ds)
  (hx:Passes CX X E) (I:Inv X Y U H s) (r:Vals vs us)
  (h:∀ x dx,H x=none->H dx=none->dx≠x->sp (.ref x::(vs++dvs)) (upd (upd H dx (.own x)) x (.ins C dx [])) (λv H2=>v=.non/\Q (.ref x) H2) (E U)):
  wpAny (model X.prog X.w) X.A (call (.ref C) us) (EP X Y U Q) X.xe s:=by
 have hq:=h (s.heap.objs.size+1) s.heap.objs.size (I.hok.fresh (Nat.le_succ _)) (I.hok.fresh (re _)) (pi (Nat.lt_succ_self _));have I2:=Inv.made (C:=C) I;have r2:Vals (V.ref (s.heap.objs.size+1)::(vs++dvs)) (Value.ref (s.heap.objs.size+1)::(us++ds)):=.cons rfl (r.append hd);have hl:(Value.ref (s.heap.objs.size+1)::us++ds).length=ps.length:=by
  have e:=r2.length;rw[F.len _ _ _ _ hq]at e;exact e.symm
 refine wpAny_call (yn (f:=f) I.bV M.makes M.init (beq_iff_eq.mp M.fn) (codeAny_mono (F.run _ X.stack _ _ ⟨Value.ref (s.heap.objs.size+1)::us,[]⟩ (Value.ref (s.heap.objs.size+1)::(us++ds)) _ _ (E U) (hr.make C us [])
  (I2.jb.make C us []) (hb _ (Value.ref (s.heap.objs.size+1)::us) I2.bV hl) r2 hq) λr s' hq'=>?_))
 cases r with
 |error e=>exact hx Y U _ _ e s' I2 hq'
 |ok fl=>
  cases fl with
  |ret u=>
   obtain⟨v,H',I3,rv,ev,q3⟩:=I2.after hq';subst ev;exact⟨rv,⟨V.ref (s.heap.objs.size+1),H',I3,rfl,q3⟩⟩
  |next=>exact False.elim hq'
  |brk=>exact False.elim hq'
  |cont=>exact False.elim hq'
def BI (M:Mk X.K C f)(F:cZ X.prog X.w X.K X.mg X.base CX k f fd ps sp)(hr:bP (k+1) X.A)(hg:Gl X x)(hm:X.mg x=some (.ref C))(hb:Binds X.K fd ps ds)(hd:Vals dvs ds)(hx:Passes CX X E)
  (ha:PA X (e::es) t) (hdb:(x ==("__debug__":Str))=false:=by decide) (he:bm (e::es) X.env=(false,eval e X.env)::bm es X.env:=by rfl) (hpl:(backTo pos (bm es X.env)).any (·.1)=false:=by rfl):
  PE X (.Call (.Name x p) (e::es) [] pos) (Eh C sp dvs E t):=by
 intro Y s U H Q I h;refine bv (bI I hg hm ?_ hdb);refine W.callWith_K (h₀:=X.base) I.ok.mod.kin M.kp (aA (ha pos Y s U H _ I h) λus s1 ⟨vs,H1,I1,r,q⟩=>⟨I1.bV,?_⟩) he hpl;exact qY M F hr hb hd hx I1 r q
def zL (M:Mk X.K C f)(F:cZ X.prog X.w X.K X.mg X.base CX k f fd ps sp)(hr:bP (k+1) X.A)(hg:Gl X x)(hm:X.mg x=some (.ref C))(hb:Binds X.K fd ps ds)(hd:Vals dvs ds)(hx:Passes CX X E)
  (hdb:(x ==("__debug__":Str))=false:=by decide):PE X (.Call (.Name x p) [] [] pos) (Eh C sp dvs E CK):=by
 intro Y s U H Q I h;refine bv (bI I hg hm ?_ hdb);exact W.callWith_K0 I.bV M.kp (qY (us:=[]) M F hr hb hd hx I .nil h)
end
section
variable {X:Cx}{CX:vt}{k:Nat}{f C:Addr}{fd:FuncData}{ps ks:List Str}{sp:Sp}{E:St->XK}{x m:Str}{p pos apos kpos:Pos}{e o:Expr}{es:List Expr}{kws:List Keyword}{te ta:TE}{t tk:TA}{nm:Option Str}
variable {g:List Value->List Value->List Value}{gV:List V->List V->List V}
end
structure kq (N P:List Str) (sc:Scope):Prop where
 kind:sc.kind=.function
 co:sc.isCoroutine=false
 gen:sc.isGenerator=false
 nd:N.Nodup
 pre:N.take P.length=P
 par:∀ x ∈ P,sc.names.lookup x=some .local\/sc.names.lookup x=some .cell
 nofree:∀ y ∈ sc.names,y.2≠.free
def nN {kindOf:Str->Option NameKind}{x:Str}:∀ {binds:List (Str×Value)}{m:NJ},(∀ v,(x,v) ∉ binds)->bindL kindOf binds m x=m x
 | [],_,_=>rfl
 |(n,v)::r,m,h=>by
  unfold bindL;rw[nN λw hw=>h w (dL _ hw)]
  split
  .have:x≠n:=by rintro rfl;exact h v mo
   simp[this]
  .rfl
def nD {kindOf:Str->Option NameKind}{x:Str}:∀ {binds:List (Str×Value)}{m:NJ},(∀ v,(x,v) ∉ binds)->bindC kindOf binds m x=m x
 | [],_,_=>rfl
 |(n,v)::r,m,h=>by
  unfold bindC;rw[nD λw hw=>h w (dL _ hw)]
  split
  .rfl
  .have:x≠n:=by rintro rfl;exact h v mo
   simp[this]
def nM {kindOf:Str->Option NameKind}{x:Str}{v:Value}:∀ {P:List Str}{vs:List Value}{i:Nat}{m:NJ},P.Nodup->P[i]? =some x->vs[i]? =some v->kindOf x=some .local->
  bindL kindOf (P.zip vs) m x=some v
 | [],_,_,_,_,h,_,_=>by simp at h
 |_::_,[],_,_,_,_,h,_=>by simp at h
 |p::P,w::vs,0,m,nd,h1,h2,hk=>by
  simp at h1 h2;subst h1;subst h2;show bindL kindOf ((p,w)::P.zip vs) m p=_;unfold bindL;rw[nN λv hv=>(nodup_cons.mp nd).1 (of_mem_zip hv).1,if_pos hk];simp
 |p::P,w::vs,i+1,m,nd,h1,h2,hk=>by
  show bindL kindOf ((p,w)::P.zip vs) m x=_;unfold bindL;exact nM (i:=i) (nodup_cons.mp nd).2 (by simpa using h1) (by simpa using h2) hk
def mY {kindOf:Str->Option NameKind}{x:Str}{v:Value}:∀ {P:List Str}{vs:List Value}{i:Nat}{m:NJ},P.Nodup->P[i]? =some x->vs[i]? =some v->kindOf x≠some .local->
  bindC kindOf (P.zip vs) m x=some v
 | [],_,_,_,_,h,_,_=>by simp at h
 |_::_,[],_,_,_,_,h,_=>by simp at h
 |p::P,w::vs,0,m,nd,h1,h2,hk=>by
  simp at h1 h2;subst h1;subst h2;show bindC kindOf ((p,w)::P.zip vs) m p=_;unfold bindC;rw[nD λv hv=>(nodup_cons.mp nd).1 (of_mem_zip hv).1,if_neg hk];simp
 |p::P,w::vs,i+1,m,nd,h1,h2,hk=>by
  show bindC kindOf ((p,w)::P.zip vs) m x=_;unfold bindC;exact mY (i:=i) (nodup_cons.mp nd).2 (by simpa using h1) (by simpa using h2) hk
abbrev start (N:List Str)(vs:List V):St:=vs.map some++sK (N.length-vs.length) none
abbrev wX (CX:vt)(P:Program)(w:World)(K:W.Frag)(mg:NJ)(base:Heap)(N:List Str)(qual:Str)(scope:Scope)(f:Addr)(cd:Value)(A:Around)(outer:List Env)(s:Shared)(H:Hp)(E:XK):Cx where
 prog:=P
 w:=w
 K:=K
 mg:=mg
 base:=base
 A:=A.deeper (envOfC qual scope s.heap.objs.size f cd)
 N:=N
 s₀:=s
 H₀:=H
 env:=envOfC qual scope s.heap.objs.size f cd
 outer:=outer
 stack:=envOfC qual scope s.heap.objs.size f cd::outer
 ex:=[]
 calm:=true
 fn:=λ_=>true
 pn:=[]
 xe:=λe s'=>wpAny (model P w) (A.deeper (envOfC qual scope s.heap.objs.size f cd)) (leaving (envOfC qual scope s.heap.objs.size f cd) e) (λ_ s''=>CX outer H s E e s'') (λe' s''=>CX outer H s E e' s'') s'
def qQ {sc:Scope}{n:Nat}(h:sc.names.lookup x=some .cell):∃ c,(cellsFrom n sc.names []).lookup x=some c:=by
 have q:=W.cellsFrom_some sc.names n [] (.inl h);exact Option.isSome_iff_exists.mp q
variable {scope:Scope}
def wq {K:W.Frag}{N:List Str}{qual:Str}{f:Addr}{cd:Value}{s1:Shared}{E:XK}
  (S:kq N ps scope) (hd:A.handled=none) (e0:tI P w K mg base A outer s H) (hl:vs.length=ps.length) (r:Vals vs us)
  (x:InCallC s s.heap.objs.size (bindL (envOfC qual scope s.heap.objs.size f cd).kindOf (ps.zip us) λ_=>none) (cellsFrom (s.heap.objs.size+1) scope.names []) (bindC (envOfC qual scope s.heap.objs.size f cd).kindOf (ps.zip us) λ_=>none) s1):
  Inv (wX CX P w K mg base N qual scope f cd A outer s H E) [] (start N vs) H s1:=by
 have hpl:ps.length<=N.length:=by have:=congrArg List.length S.pre;rw[db]at this;omega
 obtain⟨h1,tk,rfl,hk⟩:=x.done;have noA:∀ b:Addr,b ∉ (wX CX P w K mg base N qual scope f cd A outer s H E).ex:=λb z=>absurd (show b ∈ ([]:List Addr) from z) (by simp)
 refine⟨⟨e0.mod,S.kind,rfl,rfl,re _,λy z c h1 h2=>?_,λy hy=>?_,λy c _ h=>?_,λ_=>hd,Around.frames_deeper e0.frames,.inr ⟨rfl,rfl⟩,λb z=>absurd z (noA b),e0.bs,e0.bsz,λb _ _=>noA b,λb z=>absurd z (noA b),e0.j9,e0.frf⟩,
  rfl,e0.bare,Un.kept hk,⟨_,x.toInCall.ns,λi y v h1 h2 h3=>?_⟩,λy c h=>⟨_,x.cell y c h⟩,e0.hok.fresh (re _),λy c h=>?_,λp hp=>absurd (show p ∈ ([]:NI) from hp) (by simp),e0.hok.kept hk,?_⟩
 .exact name_of_addr x.apart (PySem.mem_of_lookup h1) (PySem.mem_of_lookup h2)
 .have hy:scope.names.lookup y=some .cell\/scope.names.lookup y=some .free:=hy;rcases hy with hy|hy
  .exact qQ hy
  .exact absurd rfl (S.nofree _ (PySem.mem_of_lookup hy))
 .exact Nat.le_of_lt (x.above y c (PySem.mem_of_lookup h))
 .have hi:i<vs.length:=by
   unfold start at h2
   by_cases hi:i<vs.length
   .exact hi
   .rw[List.getElem?_append_right (by simpa using hi)]at h2;rw[List.getElem?_replicate]at h2
    split at h2<;>cases h2
  have ha:vs[i]? =some v:=by
   unfold start at h2;rw[List.getElem?_append_left (by simpa using hi),io]at h2;cases e:vs[i]? with
   |none=>rw[e]at h2;cases h2
   |some a=>rw[e]at h2;cases h2;rfl
  obtain⟨u,hu,rv⟩:=r.get ha;have hp:ps[i]? =some y:=by
   rw[<-S.pre,List.getElem?_take_of_lt nofun];exact h1
  have ndP:ps.Nodup:=by rw[<-S.pre];exact S.nd.sublist (take_sublist _ _)
  refine⟨u,rv,?_⟩;rcases S.par y (cr hp) with k|k
  .exact .inl ⟨k,nM ndP hp hu k⟩
  .obtain⟨c,e⟩:=qQ (n:=s.heap.objs.size+1) k;refine .inr ⟨.inl k,c,e,?_⟩;have q:=x.cell y c e;rw[mY ndP hp hu (by show scope.names.lookup y≠_;rw[k];decide)]at q;exact q
 .exact e0.hok.fresh (Nat.le_of_lt (x.above y c (PySem.mem_of_lookup h)))
 .unfold start;show _=N.length;rw[ci,ce,List.length_replicate]
  omega
def IT {K:W.Frag}{f:Addr}{name qual:Str}{params:Arguments}{dV kV doc pm cdv ct oc:Value}{an od:Option Addr}
  {osl:Array (Option Value)}{N:List Str}{sp:Sp}(lk:K.lookup f=some ⟨oc,od,.func (W.fnOf name qual params body scope dV kV doc pm an cdv ct),osl⟩) (hcd:W.codeIn K cdv qual=true) (S:kq N ps scope)
  (len:∀ vs H Q E,sp vs H Q E->vs.length=ps.length)
  (hbody:∀ (A:Around) (outer:List Env) (s:Shared) (H:Hp) (vs:List V) (Q:VK) (E:XK),bP k (A.deeper (envOfC qual scope s.heap.objs.size f cdv))->sp vs H Q E->
   ∃ t,Cq (wX CX P w K mg base N qual scope f cdv A outer s H E) body t/\t { nx:=λ_ H'=>Q .non H',rt:=Q } (start N vs) H):
  cZ P w K mg base CX (k+1) f (W.fnOf name qual params body scope dV kV doc pm an cdv ct) ps sp:=by
 refine⟨len,λA outer s H args us vs Q E hr e0 hb r hsp=>?_⟩;have hl:=len _ _ _ _ hsp;have KX:K.In s.heap:=e0.mod.kin.keeps λb o e=>(e0.bs b o e).1
 have lim:s.heap.NoLimit:=e0.mod.nolimit.keeps λb o e=>(e0.bs b o e).1
 have hkind:∀ y ∈ ps.zip us,scope.names.lookup y.1=some .local\/(scope.names.lookup y.1=some .cell/\((cellsFrom (s.heap.objs.size+1) scope.names []).lookup y.1).isSome=true):=λ⟨n,v⟩ hy=>by
  rcases S.par n (of_mem_zip hy).1 with q|q
  .exact .inl q
  .exact .inr ⟨q,W.cellsFrom_some _ _ _ (.inl q)⟩
 refine codeAny_call_function hr.depth (KX _ _ lk) rfl S.co S.gen rfl (W.codeRec_of KX hcd) (hb _ _ _ _ ?_);refine wpAny_newFunctionEnv_cells S.kind hkind λenv he s1 x=>?_
 subst he;refine⟨lim.keeps x.toInCall.keep,codeAny_func ?_⟩;obtain⟨t,ht,hq⟩:=hbody A outer s H vs Q E (hr.deeper _) hsp;have I:Inv (wX CX P w K mg base N qual scope f cdv A outer s H E) [] (start N vs) H s1:=wq S hr.hd e0 hl r x;refine wpAny_mono (ht [] s1 (start N vs) H _ I hq) (λfl s' hs=>?_) λe s' hs=>hs
 have fin:∀ {σ':St}{H':Hp}{v:V}{u:Value},Inv (wX CX P w K mg base N qual scope f cdv A outer s H E) [] σ' H' s'->RelV v u->Q v H'->CE outer P w H s Q u s':=
  λ{σ' H' v u} J rv q=>⟨v,H',J.os,J.bare,J.base,J.hok,rv,q⟩
 cases fl with
 |ret u=>
  obtain⟨v,σ',H',J,rv,q⟩:=hs;exact fin J rv q
 |next=>
  obtain⟨σ',H',J,q⟩:=hs;exact fin (v:=V.non) (u:=Value.none) J rfl q
 |brk=>
  obtain⟨_,_,_,q⟩:=hs;exact False.elim q
 |cont=>
  obtain⟨_,_,_,q⟩:=hs;exact False.elim q
section
variable {X:Cx}{x:Str}{p pos:Pos}{e:Expr}{es:List Expr}{t:TA}{id T:String}{r:List V->Hp->VK->Prop}
abbrev MA (r:List V->Hp->VK->Prop)(t:TA):TE:=λU H Q=>t U H λvs H1=>r vs H1 Q
def qM (hc:cE X (.builtin id) r)(hg:Gl X x)(hm:X.mg x=none)(hv:bootBuiltins x=some (.builtin id))(ha:PA X (e::es) t)(hn:x≠"__name__":=by decide) (hdb:(x ==("__debug__":Str))=false:=by decide)
  (he:bm (e::es) X.env=(false,eval e X.env)::bm es X.env:=by rfl) (hpl:(backTo pos (bm es X.env)).any (·.1)=false:=by rfl):PE X (.Call (.Name x p) (e::es) [] pos) (MA r t):=by
 intro Y s U H Q I h;refine bv (cW I hg hm hv ?_ hn hdb);exact PyProof.Rows.callWith_builtin1 (aA (ha pos Y s U H _ I h) λus s1 ⟨vs,H1,I1,r1,q1⟩=>hc Y s1 U H1 vs us Q I1 r1 q1) he hpl
def xf (hc:cE X (.type T) r)(hg:Gl X x)(hm:X.mg x=none)(hv:bootBuiltins x=some (.type T))(ha:PA X (e::es) t)(hn:x≠"__name__":=by decide) (hdb:(x ==("__debug__":Str))=false:=by decide)
  (he:bm (e::es) X.env=(false,eval e X.env)::bm es X.env:=by rfl) (hpl:(backTo pos (bm es X.env)).any (·.1)=false:=by rfl):PE X (.Call (.Name x p) (e::es) [] pos) (MA r t):=by
 intro Y s U H Q I h;refine bv (cW I hg hm hv ?_ hn hdb);exact PyProof.Rows.callWith_type1 (aA (ha pos Y s U H _ I h) λus s1 ⟨vs,H1,I1,r1,q1⟩=>hc Y s1 U H1 vs us Q I1 r1 q1) he hpl
end
end L2
namespace HT
open PySem PyProof.Rows
section
open PySem.SeqAt
open PySem.AutoSeq1 (wpAny_loadPart')
open PySem.MeetsSeq PySem.MeetsSeq2 PySem.MeetsSeq3
end
section
variable {prog:Program}{w:World}{A:Around}{E:NH}{s:Shared}
abbrev rq (n d:Nat):Option Int->Nat
 |none=>d
 |some v=>if v<0 then(v+(n:Int)).toNat else min v.toNat n
end
end HT
namespace L2
open PySem PySem.Spec PyProof.Rows
@[reducible]def TO:=St->Hp->(Option Int->Hp->Prop)->Prop
abbrev PO (X:Cx)(e:Option Expr)(t:TO):Prop:=
 ∀ (Y:NI) (s:Shared) (U:St) (H:Hp) (Q:Option Int->Hp->Prop),Inv X Y U H s->t U H Q->
  wpAny (model X.prog X.w) X.A (evalPart e X.env) (λu s'=>∃ o H',Inv X Y U H' s'/\IsPart u o/\Q o H') X.xe s
abbrev C5:TO:=λ_ H Q=>Q none H
abbrev KJ (t:TE):TO:=λU H Q=>t U H λx H1=>∃ i,x=.int i/\Q (some i) H1
section
variable {X:Cx}{e:Expr}{te:TE}{lo hi:Option Expr}{tl th:TO}{pos p2:Pos}
def Di:PO X none C5:=by
 intro Y s U H Q I h;rw[evalPart_none];exact am ⟨none,H,I,.none,h⟩
def BF (h:PE X e te):PO X (some e) (KJ te):=by
 intro Y s U H Q I hw;rw[evalPart_some];refine aA (h Y s U H _ I hw) λu s1 ⟨x,H1,I1,r1,q1⟩=>?_
 obtain⟨i,rfl,q⟩:=q1;obtain⟨t,rfl⟩:=r1;exact⟨some i,H1,I1,.int i t,q⟩
abbrev K6 (X:Cx)(r:V->Option Int->Option Int->Hp->VK->Prop):Prop:=
 ∀ (Y:NI) (s:Shared) (U:St) (H:Hp) (x:V) (v vl vu:Value) (lo hi:Option Int) (sl:Addr) (Q:VK),Inv X Y U H s->RelV x v->s.heap.IsSliceOf sl vl vu .none->IsPart vl lo->IsPart vu hi->r x lo hi H Q->
  ∃ T id,typeLookup (.type T) "__getitem__"=pure (some (.builtin id))/\s.TypeIs v T/\wpAny (model X.prog X.w) X.A (getItem v (.ref sl)) (EP X Y U Q) X.xe s
abbrev Na (r:V->Option Int->Option Int->Hp->VK->Prop)(te:TE)(tl th:TO):TE:=λU H Q=>te U H λx H1=>tl U H1 λl H2=>th U H2 λu H3=>r x l u H3 Q
def zS {r:V->Option Int->Option Int->Hp->VK->Prop}(hr:K6 X r)(he:PE X e te)(hl:PO X lo tl)(hu:PO X hi th):PE X (.Subscript e (.Slice lo hi none p2) pos) (Na r te tl th):=by
 intro Y s U H Q I h;refine Subscript_ (aA (he Y s U H _ I h) λv s1 ⟨x,H1,I1,r1,q1⟩=>?_);refine wpAny_Slice (aA (hl Y s1 U H1 _ I1 q1) λvl s2 ⟨l,H2,I2,pl,q2⟩=>aA (hu Y s2 U H2 _ I2 q2) λvu s3 ⟨u,H3,I3,pu,q3⟩=>?_);rw[evalPart_none];refine am ?_;have I4:Inv X Y U H3 { s3 with heap:=s3.heap.push { cls:=.type "slice",data:=.fields #[vl,vu,.none] } }:=I3.kept (t':=s3.toks) λb ob q=>ul _ q
 obtain⟨T,id,hT,ht,hg⟩:=hr Y { s3 with heap:=s3.heap.push { cls:=.type "slice",data:=.fields #[vl,vu,.none] } } U H3 x v vl vu l u s3.heap.objs.size Q I4 r1 (Heap.IsSliceOf.new ..) pl pu q3;show wpAny (model X.prog X.w) X.A (subscriptTail e (.Slice lo hi none p2) v (.ref s3.heap.objs.size)) (EP X Y U Q) X.xe { s3 with heap:=s3.heap.push { cls:=.type "slice",data:=.fields #[vl,vu,.none] } };exact tail_any (ops:=[.ref s3.heap.objs.size,v]) ht hT hg (by with_unfolding_all rfl)
abbrev dQ (xs:List V)(lo hi:Option Int):List V:=(xs.drop (HT.rq xs.length 0 lo)).take (HT.rq xs.length xs.length hi-HT.rq xs.length 0 lo)
def qO (xs:List V)(lo hi:Option Int):(dQ xs lo hi).length<=xs.length:=by
 unfold dQ;rw[db,jp]
 omega
end
abbrev yB (n:Nat)(i:Int):Option Nat:=if 0<=i then(if i<n then some i.toNat else none) else if -(n:Int)<=i then some (i+n).toNat else none
variable {α:Type}
abbrev lH (xs:List α)(i:Int):Option α:=(yB xs.length i).bind λj=>xs[j]?
variable {n:Nat}
def vV {i:Int}{j:Nat}(h:yB n i=some j):seqIndex? i n=some j/\j<n/\ -(n:Int)<=i/\i<n:=by
 unfold yB at h
 by_cases h0:0<=i
 .rw[if_pos h0]at h
  by_cases h1:i<n
  .rw[if_pos h1]at h;have e:i.toNat=j:=Option.some.inj h;exact⟨by rw[seqIndex_of h0 h1,e],by omega,by omega,h1⟩
  .rw[if_neg h1]at h;cases h
 .rw[if_neg h0]at h
  by_cases h1: -(n:Int)<=i
  .rw[if_pos h1]at h;have e:(i+n).toNat=j:=Option.some.inj h;exact⟨by rw[seqIndex_neg nofun h1,e],by omega,h1,by omega⟩
  .rw[if_neg h1]at h;cases h
def aF {xs:List α}{i:Int}{v:α}(h:lH xs i=some v):∃ j,seqIndex? i xs.length=some j/\xs[j]? =some v/\j<xs.length/\ -(xs.length:Int)<=i/\i<xs.length:=by
 unfold lH at h;cases e:yB xs.length i with
 |none=>rw[e]at h;cases h
 |some j=>
  rw[e]at h;obtain⟨h1,h2,h3,h4⟩:=vV e;exact⟨j,h1,h,h2,h3,h4⟩
def pX {xs:List α}{j:Nat}{v:α}(h:xs[j]? =some v):lH xs (j:Int)=some v:=by
 have hj:j<xs.length:=(tz.mp h).1;have e:yB xs.length (j:Int)=some j:=by
  unfold yB;rw[if_pos nofun,if_pos nofun];simp
 unfold lH;rw[e];exact h
abbrev vb (b:Expr):Prop:=∀ o i,subscripted b false o i=operate [o,i] (getItem o i)
abbrev JS (X:Cx)(r:R2):Prop:=
 ∀ (value slice:Expr) (Y:NI) (s:Shared) (U:St) (H:Hp) (x y:V) (v u:Value) (Q:VK),Inv X Y U H s->RelV x v->RelV y u->r x y H Q->
  subscripted slice false v u=operate [v,u] (getItem v u)->wpAny (model X.prog X.w) X.A (subscriptTail value slice v u) (EP X Y U Q) X.xe s
abbrev JR (X:Cx)(id:String)(r:V->List V->Hp->VK->Prop):Prop:=
 ∀ (Y:NI) (s:Shared) (U:St) (H:Hp) (x:V) (xs:List V) (v:Value) (us:List Value) (Q:VK),Inv X Y U H s->RelV x v->Vals xs us->r x xs H Q->
  wpAny (model X.prog X.w) X.A (call (.builtin id) (v::us)) (EP X Y U Q) X.xe s
variable {Y:NI}{U:St}{H:Hp}{s:Shared}{y:V}{u:Value}
section
variable {X:Cx}{a b:Expr}{ta tb:TE}{pos:Pos}
def Kt {r:R2}(hr:JS X r)(ha:PE X a ta)(hb:PE X b tb)(hs:vb b):PE X (.Subscript a b pos) (KN r ta tb):=by
 intro Y s U H Q I h;exact Subscript_ (FR ha hb I h λv u s2 x y H2 I2 rx ry q=>hr a b Y s2 U H2 x y v u Q I2 rx ry q (hs _ _))
abbrev LR (K:W.Frag):R2:=λx y H Q=>∃ p xs i v,x=.ref p/\y=.int i/\aS K H p xs/\lH xs i=some v/\Q v H
abbrev LJ (K:W.Frag):R2:=λx y H Q=>∃ p xs i v,x=.ref p/\y=.int i/\a8 K H p xs/\lH xs i=some v/\Q v H
def D6:JS X (LR X.K):=by
 intro value slice Y s U H x y v u Q I rx ry h hs;obtain⟨p,xs,i,z,rfl,rfl,hq,he,q⟩:=h;cases rx;obtain⟨t,rfl⟩:=ry;obtain⟨its,r,pl,hz⟩:=I.list hq;obtain⟨j,h1,h2,h3,h4,h5⟩:=aF he;obtain⟨w,ew,rw'⟩:=r.get h2;have hl:=r.length;have hn:=fU;have fin:EP X Y U Q w s:=⟨z,H,I,rw',q⟩
 by_cases h0:0<=i
 .have hj:i.toNat=j:=by
   rw[seqIndex_of h0 h5]at h1;exact Option.some.inj h1
  exact item_listR pl.isList h0 nofun (by rw[hj];simpa using ew) fin hs
 .have hj:(i+(its.toArray.size:Int)).toNat=j:=by
   rw[seqIndex_neg nofun h4]at h1;rw[ii,<-hl];exact Option.some.inj h1
  exact subscriptTail_builtinR (x:=w) pl.isList.typeIs slot_list_getitem.lookup
   (wpAny_getItem_list_neg (Q:=λr s'=>r=w/\EP X Y U Q r s') pl.isList nofun (by rw[ii]<;>omega) nofun (by rw[hj];simpa using ew) ⟨rfl,fin⟩) hs
def HH:JS X (LJ X.K):=by
 intro value slice Y s U H x y v u Q I rx ry h hs;obtain⟨p,xs,i,z,rfl,rfl,hq,he,q⟩:=h;cases rx;obtain⟨t,rfl⟩:=ry;obtain⟨its,r,pl,hz⟩:=I.tuple hq;obtain⟨j,h1,h2,h3,h4,h5⟩:=aF he;obtain⟨w,ew,rw'⟩:=r.get h2;have hl:=r.length;have hn:=fU;have fin:EP X Y U Q w s:=⟨z,H,I,rw',q⟩;exact subscriptTail_builtinR (x:=w) pl.typeIs slot_tuple_getitem.lookup
  (getItem_tuple (j:=j) (Q:=λr s'=>r=w/\EP X Y U Q r s') pl nofun nofun (by rw[ii,<-hl];exact h1) (by simpa using ew) ⟨rfl,fin⟩) hs
def tZ (its:List Value)(n j:Nat)(u:Value):Obj.mapSeq (·.setIfInBounds j u) { cls:=.type "list",data:=.seq its.toArray n }={ cls:=.type "list",data:=.seq (its.set j u).toArray n }:=by
 simp[Obj.mapSeq]
def Inv.lst {Y:NI}{U:St}{H:Hp}{s:Shared}{p:Addr}{xs:List V}(I:Inv X Y U H s)(h:H p=some (.lst xs)):
  ∃ (its:List Value) (n:Nat),Vals xs its/\s.heap.get? p=some { cls:=.type "list",data:=.seq its.toArray n }/\xs.length<=bn:=by
 obtain⟨z,its,n,r,e⟩:=I.hok p _ h;exact⟨its,n,r,e,z⟩
def Inv.F7 {p:Addr}{xs ys:List V}{its its':List Value}{n':Nat}{f:Obj->Obj}(I:Inv X Y U H s)(h:H p=some (.lst xs))
  (ho:s.heap.get? p=some { cls:=.type "list",data:=.seq its.toArray n }) (hf:f { cls:=.type "list",data:=.seq its.toArray n }={ cls:=.type "list",data:=.seq its'.toArray n' }) (r:Vals ys its') (hz:ys.length<=bn) (t:Nat):
  Inv X Y U (upd H p (.lst ys)) { s with heap:=s.heap.update p f,toks:=t }:=by
 have e:(s.heap.update p f).get? p=some { cls:=.type "list",data:=.seq its'.toArray n' }:=by
  rw[Heap.get?_update_self f ho (by rw[hf]<;>rfl),hf]
 refine I.write (x:=p) (e:=p) (by rw[h];trivial) (.inl rfl) (λb u hb q=>(Heap.get?_update_other _ _ (Ne.symm hb)).trans q) ⟨_,e⟩ ?_;exact⟨hz,its',n',r,e⟩
abbrev IP:V->V->V->Hp->(Hp->Prop)->Prop:=λo i v H Q=>∃ p xs k j,o=.ref p/\i=.int k/\H p=some (.lst xs)/\yB xs.length k=some j/\Q (upd H p (.lst (xs.set j v)))
def set_list:BX X IP:=by
 intro Y s U H o i v ov iv u Q I ro ri rv h;obtain⟨p,xs,k,j,rfl,rfl,hp,hj,q⟩:=h;cases ro;obtain⟨t,rfl⟩:=ri;obtain⟨its,n,r,ho,hz⟩:=I.lst hp;obtain⟨h1,h2,h3,h4⟩:=vV hj;have hl:=r.length;have hn:=fU;have I':Inv X Y U (upd H p (.lst (xs.set j v))) { s with heap:=s.heap.update p (Obj.mapSeq (·.setIfInBounds j u)) }:=
  I.F7 hp ho (tZ its n j u) (r.set rv j) (by rw[length_set];exact hz) s.toks
 by_cases h0:0<=k
 .have hk:k.toNat=j:=by
   rw[seqIndex_of h0 h4]at h1;exact Option.some.inj h1
  exact W.ki_setAt ho h0 nofun (by rw[ii,<-hl];exact h4) (by rw[hk];exact⟨_,I',q⟩)
 .have hk:(k+(its.toArray.size:Int)).toNat=j:=by
   rw[seqIndex_neg nofun h3]at h1;rw[ii,<-hl];exact Option.some.inj h1
  exact W.ki_setBack ho nofun (by rw[ii,<-hl];exact h3) nofun (by rw[hk];exact⟨_,I',q⟩)
def ow (lo hi:Option Int)(n:Nat):(sliceBounds lo hi none n).1=((HT.rq n 0 lo:Nat):Int)/\(sliceBounds lo hi none n).2.1=((HT.rq n n hi:Nat):Int)/\(sliceBounds lo hi none n).2.2=1:=by
 refine⟨?_,?_,rfl⟩
 .cases lo with
  |none=>simp[sliceBounds,HT.rq]
  |some i=>
   simp only[sliceBounds,HT.rq,Option.getD_none,show(1:Int)>0 by decide,if_true]
   by_cases h:i<0
   .simp only[h,if_true]<;>omega
   .simp only[h,if_false]<;>omega
 .cases hi with
  |none=>simp[sliceBounds,HT.rq]
  |some i=>
   simp only[sliceBounds,HT.rq,Option.getD_none,show(1:Int)>0 by decide,if_true]
   by_cases h:i<0
   .simp only[h,if_true]<;>omega
   .simp only[h,if_false]<;>omega
def mD (its:List Value)(lo hi:Option Int):slicePick its.toArray lo hi none=((its.drop (HT.rq its.length 0 lo)).take (HT.rq its.length its.length hi-HT.rq its.length 0 lo)).toArray:=by
 obtain⟨h1,h2,h3⟩:=ow lo hi its.toArray.size;unfold slicePick;rw[h1,h2,h3];simp only[sliceRange_one,pick_run,ii]<;>rfl
abbrev Ln (K:W.Frag):V->Option Int->Option Int->Hp->VK->Prop:=λx lo hi H Q=>∃ a xs,x=.ref a/\aS K H a xs/\∀ p,H p=none->Q (.ref p) (upd H p (.lst (dQ xs lo hi)))
def DY:K6 X (Ln X.K):=by
 intro Y s U H x v vl vu lo hi sl Q I rx hs pl pu h;obtain⟨a,xs,rfl,hx,q⟩:=h;cases rx;obtain⟨its,r,ht,hz⟩:=I.list hx;have hlen:=r.length;refine⟨"list",_,slot_list_getitem.lookup,ht.isList.typeIs,?_⟩;refine wpAny_getItem_list_slice ht.isList hs pl pu .none (by simp) ?_ (by rw[ii]<;>omega);rw[mD,<-hlen];refine⟨.ref s.heap.objs.size,_,I.laid (t':=s.toks) (o:=.lst (dQ xs lo hi)) (λb ob q=>ul _ q) (re _) ?_,rfl,q _ (I.hok.fresh (re _))⟩;exact⟨Nat.le_trans (qO xs lo hi) hz,_,0,(r.drop (HT.rq xs.length 0 lo)).take (HT.rq xs.length xs.length hi-HT.rq xs.length 0 lo),v4 _ rfl⟩
abbrev aJ:V->Bool
 | .non=>true
 | .bl _=>true
 | .int _=>true
 | .str _=>true
 |_=>false
abbrev cV:V->V->Bool
 | .non,.non=>true
 | .bl a,.bl b=>a ==b
 | .bl a,.int b=>(if a then 1 else 0) ==b
 | .int a,.bl b=>a ==(if b then 1 else 0)
 | .int a,.int b=>a ==b
 | .str a,.str b=>a ==b
 |_,_=>false
def uK {A:Around}{x:V}{v:Value}(ry:RelV y u)(rx:RelV x v)(fy:aJ y=true)(fx:aJ x=true):SeqAt.EqAt A s u v (cV y x):=by
 cases y with
 |non=>
  cases ry;cases x with
  |non=>cases rx;exact SeqAt.EqAt.same _
  |bl b=>cases rx;exact SeqAt.EqAt.none_bool b
  |int b=>obtain⟨t,rfl⟩:=rx;exact SeqAt.EqAt.none_int b t
  |str b=>obtain⟨t,rfl⟩:=rx;exact SeqAt.EqAt.none_str b t
  |_=>exact absurd (show false=true from fx) Bool.false_ne_true
 |bl a=>
  cases ry;cases x with
  |non=>cases rx;exact SeqAt.EqAt.bool_none a
  |bl b=>cases rx;exact SeqAt.EqAt.bool_bool a b
  |int b=>obtain⟨t,rfl⟩:=rx;exact SeqAt.EqAt.bool_int a b t
  |str b=>obtain⟨t,rfl⟩:=rx;exact SeqAt.EqAt.bool_str a b t
  |_=>exact absurd (show false=true from fx) Bool.false_ne_true
 |int a=>
  obtain⟨t',rfl⟩:=ry;cases x with
  |non=>cases rx;exact SeqAt.EqAt.int_none a t'
  |bl b=>cases rx;exact SeqAt.EqAt.int_bool a t' b
  |int b=>obtain⟨t,rfl⟩:=rx;exact SeqAt.EqAt.int_int a t' b t
  |str b=>obtain⟨t,rfl⟩:=rx;exact SeqAt.EqAt.int_str a t' b t
  |_=>exact absurd (show false=true from fx) Bool.false_ne_true
 |str a=>
  obtain⟨t',rfl⟩:=ry;cases x with
  |non=>cases rx;exact SeqAt.EqAt.str_none a t'
  |bl b=>cases rx;exact SeqAt.EqAt.str_bool a t' b
  |int b=>obtain⟨t,rfl⟩:=rx;exact SeqAt.EqAt.str_int a t' b t
  |str b=>obtain⟨t,rfl⟩:=rx;exact SeqAt.EqAt.str_str a t' b t
  |_=>exact absurd (show false=true from fx) Bool.false_ne_true
 |_=>exact absurd (show false=true from fy) Bool.false_ne_true
abbrev Dd (x:V)(u:Value):Bool:=match u with
 | .none=>cV .non x
 | .bool b=>cV (.bl b) x
 | .int i _=>cV (.int i) x
 | .str z _=>cV (.str z) x
 |_=>false
def yE {x:V}(r:RelV y u)(f:aJ y=true):Dd x u=cV y x:=by
 cases y with
 |non=>cases r;rfl
 |bl b=>cases r;rfl
 |int i=>obtain⟨t,rfl⟩:=r;rfl
 |str z=>obtain⟨t,rfl⟩:=r;rfl
 |_=>exact absurd (show false=true from f) Bool.false_ne_true
def pf {x:V}:∀ {xs:List V}{us:List Value},Vals xs us->xs.all aJ=true->us.any (Dd x)=xs.any λy=>cV y x
 |_,_,.nil,_=>rfl
 |y::xs,u::us,.cons r t,f=>by
  rw[all_cons,nl]at f;rw[any_cons,any_cons,yE r f.1,pf t f.2]
def lG {A:Around}{s:Shared}{x:V}{v:Value}(rx:RelV x v)(fx:aJ x=true):∀ {xs:List V}{us:List Value},Vals xs us->xs.all aJ=true->∀ u ∈ us,SeqAt.EqAt A s u v (Dd x u)
 |_,_,.nil,_=>λu hu=>by cases hu
 |y::xs,u::us,.cons r t,f=>λu' hu=>by
  rw[all_cons,nl]at f;rcases nb.mp hu with rfl|hu
  .rw[yE r f.1];exact uK r rx f.1 fx
  .exact lG rx fx t f.2 u' hu
abbrev Ip (x:V)(xs:List V):Bool:=xs.any λy=>cV y x
abbrev Nz (K:W.Frag)(neg:Bool):R2:=λx y H Q=>∃ p xs,y=.ref p/\(aS K H p xs\/a8 K H p xs)/\aJ x=true/\xs.all aJ=true/\Q (.bl (if neg then !Ip x xs else Ip x xs)) H
def wb:cL X (compareOp .In) (Nz X.K false):=by
 intro Y s U H x y v u Q I rx ry h;obtain⟨p,xs,rfl,hq,fx,fs,q⟩:=h;cases ry;rcases hq with hq|hq
 .obtain⟨its,r,pl,hz⟩:=I.list hq;refine SeqAt.in_listAt (Dd x) pl.isList (λw hw=>lG rx fx r fs w (by simpa using hw)) ⟨.bl _,H,I,rfl,?_⟩;rw[show its.toArray.any (Dd x)=its.any (Dd x) by simp,pf r fs];exact q
 .obtain⟨its,r,pl,hz⟩:=I.tuple hq;refine SeqAt.in_tupleAt (Dd x) pl (λw hw=>lG rx fx r fs w (by simpa using hw)) ⟨.bl _,H,I,rfl,?_⟩;rw[show its.toArray.any (Dd x)=its.any (Dd x) by simp,pf r fs];exact q
def oH:cE X (.type "list") (λxs H Q=>∃ p ys,xs=[.ref p]/\(aS X.K H p ys\/a8 X.K H p ys)/\∀ l,H l=none->Q (.ref l) (upd H l (.lst ys))):=by
 intro Y s U H xs us Q I r h;obtain⟨p,ys,rfl,hq,q⟩:=h;obtain⟨u,rfl,rx⟩:=vals1 r;cases rx;have fin:∀ (its:List Value),Vals ys its->ys.length<=bn->∀ (h':Heap) (c':Nat),(∀ b o',s.heap.get? b=some o'->h'.get? b=some o')->
   h'.get? s.heap.objs.size=some { cls:=.type "list",dict:=none,data:=.seq its.toArray c',slots:=#[] }->EP X Y U Q (.ref s.heap.objs.size) { s with heap:=h' }:=λits r' hz h' c' kp e=>
  ⟨.ref s.heap.objs.size,_,I.laid (t':=s.toks) kp (re _) (show aN X.prog X.w _ h' _ (.lst ys) from⟨hz,its,c',r',e⟩),rfl,q _ (I.hok.fresh (re _))⟩
 rcases hq with hq|hq
 .obtain⟨its,r',pl,hz⟩:=I.list hq;have hlen:=r'.length;obtain⟨o,ho,hc,n,hd⟩:=pl.isList;exact call_list_seq p (.inl rfl) ho hc hd (λh' c' kp e=>fin its r' hz h' c' kp e) (by simp only[ii]<;>omega)
 .obtain⟨its,r',pl,hz⟩:=I.tuple hq;have hlen:=r'.length;obtain⟨o,ho,hc,n,hd⟩:=pl;exact call_list_seq p (.inr rfl) ho hc hd (λh' c' kp e=>fin its r' hz h' c' kp e) (by simp only[ii]<;>omega)
def mq:cE X (.type "tuple") (λxs H Q=>∃ p ys,xs=[.ref p]/\((aS X.K H p ys/\∀ l,H l=none->Q (.ref l) (upd H l (.tup ys)))\/(a8 X.K H p ys/\Q (.ref p) H))):=by
 intro Y s U H xs us Q I r h;obtain⟨p,ys,rfl,h⟩:=h;obtain⟨u,rfl,rx⟩:=vals1 r;cases rx;rcases h with⟨hq,q⟩|⟨hq,q⟩
 .obtain⟨its,r',pl,hz⟩:=I.list hq;have hlen:=r'.length;refine call_tuple_list pl.isList (λh' kp=>?_) (by simp only[ii]<;>omega);have I1:Inv X Y U H { s with heap:=h' }:=I.kept (t':=s.toks) kp;have I2:Inv X Y U (upd H h'.objs.size (.tup ys)) { s with heap:=h'.push { cls:=.type "tuple",data:=.seq its.toArray } }:=
   I1.laid (t':=s.toks) (λb o e=>ul _ e) (re _) (show aN X.prog X.w _ _ _ (.tup ys) from⟨hz,its,r',IsTup.new _ _⟩)
  exact⟨.ref h'.objs.size,_,I2,rfl,q _ (I1.hok.fresh (re _))⟩
 .obtain⟨its,r',pl,hz⟩:=I.tuple hq;exact call_tuple_same pl ⟨.ref p,H,I,rfl,q⟩
abbrev Lz (K:W.Frag)(T:String)(x:V)(H:Hp):Prop:=match x with
 | .str _=>T="str"
 | .int _=>T="int"
 | .ref p=>(T="list"/\∃ xs,aS K H p xs)\/(T="tuple"/\∃ o,K.lookup p=some o/\o.cls=.type "tuple"/\o.dict=none)\/
   (T="dict"/\((∃ kvs,H p=some (.dK kvs))\/∃ kvs,H p=some (.dT kvs)))\/(T="set"/\∃ S n,H p=some (.set S n))
 |_=>False
def tK {T:String}{x:V}{v:Value}(I:Inv X Y U H s)(r:RelV x v)(ty:Lz X.K T x H):
  s.TypeIs v T/\∀ a,v=.ref a->∃ ob,s.heap.get? a=some ob/\ob.dict=none:=by
 cases x with
 |str z=>
  obtain⟨t,rfl⟩:=r;cases(show T="str" from ty);exact⟨typeIs_str s z t,λ_ e=>nomatch e⟩
 |int i=>
  obtain⟨t,rfl⟩:=r;cases(show T="int" from ty);exact⟨typeIs_int s i t,λ_ e=>nomatch e⟩
 |ref p=>
  cases r;rcases ty with⟨rfl,xs,hq⟩|⟨rfl,o,hk,hc,hd⟩|⟨rfl,hk⟩|⟨rfl,S,n,hk⟩
  .obtain⟨its,_,pl,_⟩:=I.list hq;refine⟨pl.isList.typeIs,λa e=>?_⟩;cases e;obtain⟨o,n,e,c,hd,_⟩:=pl;exact⟨o,e,hd⟩
  .refine⟨⟨o,I.bV p o hk,hc⟩,λa e=>?_⟩;cases e;exact⟨o,I.bV _ o hk,hd⟩
  .have z:∃ o,s.heap.get? p=some o/\o.ExactDict:=by
    rcases hk with⟨kvs,hk⟩|⟨kvs,hk⟩
    .obtain⟨_,_,_,_,o,_,_,e,ex,_⟩:=I.hok p _ hk;exact⟨o,e,ex⟩
    .obtain⟨_,_,_,_,o,_,_,e,ex,_⟩:=I.hok p _ hk;exact⟨o,e,ex⟩
   obtain⟨o,e,ex⟩:=z;refine⟨⟨o,e,ex.1⟩,λa e2=>?_⟩;cases e2;exact⟨o,e,ex.2.1⟩
  .obtain⟨o,_,_,_,e,ex,_⟩:=I.hok p _ hk;refine⟨⟨o,e,ex.1⟩,λa e2=>?_⟩;cases e2;exact⟨o,e,ex.2.1⟩
 |_=>exact False.elim ty
abbrev LU (K:W.Frag)(T:String)(r:V->List V->Hp->VK->Prop)(to:TE):TE:=λU H Q=>to U H λx H1=>Lz K T x H1/\r x [] H1 Q
abbrev Np (K:W.Frag)(T:String)(r:V->List V->Hp->VK->Prop)(to:TE)(t:TA):TE:=λU H Q=>to U H λx H1=>Lz K T x H1/\t U H1 λxs H2=>r x xs H2 Q
variable {o e:Expr}{es:List Expr}{to:TE}{t:TA}{name:Str}{apos cpos:Pos}{T id:String}{r:V->List V->Hp->VK->Prop}
def Gw (pa:PlainAttrs T)(slot:Slot T name id)(hty:typeOf (.builtin id)=pure (.type "method_descriptor")) (hm:JR X id r) (ho:PE X o to)
  (hbase:attributeBase o name X.env (eval o X.env)=eval o X.env:=by rfl) (hline:(apos.endLine ==cpos.line)=true:=by rfl):PE X (.Call (.Attribute o name apos) [] [] cpos) (LU X.K T r to):=by
 intro Y s U H Q I h;refine wpAny_Call_method0_late hbase hline (aA (ho Y s U H _ I h) λv s1 ⟨x,H1,I1,r1,ty,q1⟩=>?_);obtain⟨h1,h2⟩:=tK I1 r1 ty;exact⟨T,id,pa,slot,hty,h1,h2,Calls.callWith_builtin rfl (PySem.evalArgs_none (hm Y s1 U H1 x [] v [] Q I1 r1 .nil q1))⟩
def JG (pa:PlainAttrs T)(slot:Slot T name id)(hty:typeOf (.builtin id)=pure (.type "method_descriptor")) (hm:JR X id r) (ho:PE X o to) (ha:PA X (e::es) t)
  (hbase:attributeBase o name X.env (eval o X.env)=eval o X.env:=by rfl)
  (hfew:((backTo cpos (bm (e::es) X.env)).all (λx=>!x.1)&&(backToKw cpos (keywordEach [] X.env)).all (λx=>x.1.isSome)
   &&decide ((e::es).length+([]:List Keyword).length+(if([]:List Keyword).isEmpty then 0 else 1)<30))=true:=by rfl)
  (hline:(apos.endLine ==cpos.line)=true:=by rfl) (hs:bm (e::es) X.env=(false,eval e X.env)::bm es X.env:=by rfl) (hplain:(backTo cpos (bm es X.env)).any (·.1)=false:=by rfl):
  PE X (.Call (.Attribute o name apos) (e::es) [] cpos) (Np X.K T r to t):=by
 intro Y s U H Q I h;refine wpAny_Call_method_late hbase hfew hline rfl (aA (ho Y s U H _ I h) λv s1 ⟨x,H1,I1,r1,ty,q1⟩=>?_);obtain⟨h1,h2⟩:=tK I1 r1 ty;refine⟨T,id,pa,slot,hty,h1,h2,?_⟩;have hA:=ha cpos Y s1 U H1 _ I1 q1;rw[hs]at hA⊢;refine Calls.callWith_builtin (by show(false||(backTo cpos (bm es X.env)).any (·.1))=false;rw[hplain]<;>rfl) (Calls.evalArgs_plain ?_);exact aA hA λus s2 ⟨vs,H2,I2,r2,q2⟩=>hm Y s2 U H2 x vs v us Q I2 r1 r2 q2
/- xs.append(e),list.index on a module's tuple .. are JR facts of 06m -/
end
abbrev Jv (X:Cx)(id:String)(r:V->List V->Hp->VK->Prop):Prop:=
 ∀ (Y:NI) (s:Shared) (U:St) (H:Hp) (x:V) (xs:List V) (v:Value) (us:List Value) (Q:VK),Inv X Y U H s->RelV x v->Vals xs us->r x xs H Q->
  wpAny (model X.prog X.w) X.A (call (.builtin id) (v::us)) (EP X Y U Q) X.xe s
def Vals.one:∀ {x:V}{us:List Value},Vals [x] us->∃ u,us=[u]/\RelV x u
 |_,_,.cons r .nil=>⟨_,rfl,r⟩
def Vals.zero:∀ {us:List Value},Vals [] us->us=[]
 |_,.nil=>rfl
variable {us:List Value}
def Vals.dropLast {xs:List V}(h:Vals xs us):Vals xs.dropLast us.dropLast:=by
 induction h with
 |nil=>exact .nil
 |cons r t ih=>
  cases t with
  |nil=>exact .nil
  |cons q t'=>exact .cons r ih
def Vals.eraseIdx:∀ {xs:List V}{us:List Value}(i:Nat),Vals xs us->Vals (xs.eraseIdx i) (us.eraseIdx i)
 |_,_,_,.nil=>.nil
 |_,_,0,.cons _ t=>t
 |_,_,i+1,.cons r t=>.cons r (Vals.eraseIdx i t)
def Vals.reverse {xs:List V}(h:Vals xs us):Vals xs.reverse us.reverse:=by
 induction h with
 |nil=>exact .nil
 |cons r t ih=>rw[List.reverse_cons,List.reverse_cons];exact Vals.append ih (.cons r .nil)
def Vals.rep {xs:List V}(h:Vals xs us):∀ k:Nat,Vals (sK k xs).flatten (sK k us).flatten
 |0=>.nil
 |k+1=>by
  rw[replicate_succ,replicate_succ,flatten_cons,flatten_cons];exact Vals.append h (Vals.rep h k)
def tN (l:List α):l.eraseIdx (l.length-1)=l.dropLast:=by
 induction l with
 |nil=>rfl
 |cons a r ih=>
  cases r with
  |nil=>rfl
  |cons b r=>
   have e:(a::b::r).length-1=((b::r).length-1)+1:=by
    have h1:(a::b::r).length=r.length+2:=rfl;have h2:(b::r).length=r.length+1:=rfl
    omega
   rw[e,List.eraseIdx_cons_succ,ih]
   all_goals rfl
def nc {α:Type}:∀ (l:List α) (i:Nat),(l.eraseIdx i).length<=l.length
 | [],_=>re _
 |_::_,0=>Nat.le_succ _
 |_::r,i+1=>Nat.succ_le_succ (nc r i)
def foldl_rep (its:List Value):∀ (k:Nat) (acc:List Value),
  List.foldl (λx1 x2=>x1++x2) acc.toArray (sK k its.toArray)=(acc++(sK k its).flatten).toArray
 |0,acc=>by simp
 |k+1,acc=>by
  have e:acc.toArray++its.toArray=(acc++its).toArray:=by simp
  have e2:(acc++its)++(sK k its).flatten=acc++(sK (k+1) its).flatten:=by
   rw[replicate_succ,flatten_cons,le]
  rw[<-e2,<-foldl_rep its k (acc++its),<-e,replicate_succ,foldl_cons]
section
variable {X:Cx}{Y:NI}{U:St}{H:Hp}{s:Shared}{l b:Addr}{xs ys zs:List V}
def Inv.yF {its its':List Value}{f:Array Value->Array Value}{t':Nat}(I:Inv X Y U H s)(hH:H l=some (.lst xs))
  (e:s.heap.get? l=some { cls:=.type "list",data:=.seq its.toArray n }) (hf:f its.toArray=its'.toArray) (hv:Vals ys its') (hz:ys.length<=bn):
  Inv X Y U (upd H l (.lst ys)) { s with heap:=s.heap.update l (Obj.mapSeq f),toks:=t' }:=by
 have q:=PySem.IsL.update e f;rw[hf]at q;refine I.write (x:=l) (e:=l) (by rw[hH];exact trivial) (.inl rfl) (λb' u hb hu=>(Heap.get?_update_other s.heap (Obj.mapSeq f) (Ne.symm hb)).trans hu) ⟨_,q⟩ ?_;exact⟨hz,its',_,hv,q⟩
def Inv.JZ {its:List Value}{t':Nat}(I:Inv X Y U H s)(hv:Vals ys its)(hz:ys.length<=bn):
  Inv X Y U (upd H s.heap.objs.size (.lst ys)) { s with heap:=s.heap.push { cls:=.type "list",data:=.seq its.toArray },toks:=t' }:=
 I.laid (λ_ _ q=>ul _ q) (re _) ⟨hz,its,0,hv,v4 _ rfl⟩
def Inv.fresh (I:Inv X Y U H s):H s.heap.objs.size=none:=I.hok.fresh (re _)
def Inv.k7 (I:Inv X Y U H s)(hH:H l=some (.lst xs)):xs.length<=bn/\∃ (its:List Value) (n:Nat),Vals xs its/\xs.length=its.length/\s.heap.get? l=some { cls:=.type "list",data:=.seq its.toArray n }:=by
 obtain⟨z,its,n,r,e⟩:=I.hok l _ hH;exact⟨z,its,n,r,r.length,e⟩
def sJ (h:n<=bn):Builtin.List.listTooLong n=false:=by
 unfold Builtin.List.listTooLong;exact decide_eq_false nofun
end
section
variable {X:Cx}
abbrev DF:V->List V->Hp->VK->Prop:=λx vs H Q=>∃ l xs y,x=.ref l/\vs=[y]/\H l=some (.lst xs)/\xs.length<bn/\Q .non (upd H l (.lst (xs++[y])))
def iL:Jv X "list.append" DF:=by
 intro Y s U H x vs v us Q I rx rv h;obtain⟨l,xs,y,rfl,rfl,hH,hz,q⟩:=h;cases rx;obtain⟨u,rfl,ru⟩:=rv.one;obtain⟨z,its,n,r,hl,e⟩:=I.k7 hH;refine call_meets F.slot_list_append ⟨_,e,rfl⟩ F.entry_list_append (F.args_list_append_2 _ _) (PySem.list_append l its.toArray n u (by rw[ii];omega)) ⟨e,?_⟩;refine⟨.non,_,I.yF (its':=its++[u]) hH e (by simp) (r.append (.cons ru .nil)) ?_,rfl,q⟩;rw[ci,ge]
 omega
abbrev B0:V->List V->Hp->VK->Prop:=λx vs H Q=>∃ l b xs zs,x=.ref l/\vs=[.ref b]/\H l=some (.lst xs)/\H b=some (.lst zs)/\xs.length+zs.length<=bn/\Q .non (upd H l (.lst (xs++zs)))
def xp:Jv X "list.extend" B0:=by
 intro Y s U H x vs v us Q I rx rv h;obtain⟨l,b,xs,zs,rfl,rfl,hH,hB,hz,q⟩:=h;cases rx;obtain⟨u,rfl,ru⟩:=rv.one;cases ru;obtain⟨z,its,n,r,hl,e⟩:=I.k7 hH;obtain⟨z2,jY,n2,r2,hl2,e2⟩:=I.k7 hB;have hsz:its.toArray.size+jY.toArray.size<=bn:=by rw[ii,ii];omega
 have hlong:¬ (!its.toArray.isEmpty&&Builtin.List.listTooLong (its.toArray.size+jY.toArray.size))=true:=by
  rw[sJ hsz,Bool.and_false];exact Bool.false_ne_true
 refine call_meets F.slot_list_extend ⟨_,e,rfl⟩ F.entry_list_extend (F.args_list_extend_2 _ _)
  (AutoSeq1.list_extend_list_list_0 l its.toArray n b jY.toArray n2 hlong (by rw[ii];omega) nofun) ⟨e,e2,?_⟩
 refine⟨.non,_,I.yF (its':=its++jY) hH e (by simp) (r.append r2) ?_,rfl,q⟩;rw[ci]
 omega
abbrev Mr:V->List V->Hp->VK->Prop:=λx vs H Q=>∃ l xs y,x=.ref l/\vs=[]/\H l=some (.lst xs)/\xs[xs.length-1]? =some y/\Q y (upd H l (.lst xs.dropLast))
def GU:Jv X "list.pop" Mr:=by
 intro Y s U H x vs v us Q I rx rv h;obtain⟨l,xs,y,rfl,rfl,hH,hy,q⟩:=h;cases rx;have hus:=rv.zero;subst hus;obtain⟨z,its,n,r,hl,e⟩:=I.k7 hH;obtain⟨u,hu,ru⟩:=r.get hy;have hy':its.toArray[its.toArray.size-1]? =some u:=by
  show its.toArray[its.length-1]? =some u;rw[<-Array.getElem?_toList,<-hl];exact hu
 refine call_meets F.slot_list_pop ⟨_,e,rfl⟩ F.entry_list_pop (F.args_list_pop_1 _) (MeetsSeq.list_pop_last l its.toArray n u hy' (by rw[ii];omega)) ⟨e,?_⟩;refine⟨y,_,I.yF (its':=its.dropLast) hH e ?_ r.dropLast ?_,ru,q⟩
 .show its.toArray.eraseIdxIfInBounds (its.toArray.size-1)=its.dropLast.toArray;rw[ii,List.eraseIdxIfInBounds_toArray,tN]
 .rw[List.length_dropLast]
  omega
abbrev Gi:V->List V->Hp->VK->Prop:=λx vs H Q=>∃ l xs i k y,x=.ref l/\vs=[.int i]/\H l=some (.lst xs)/\ -(2 ^ 63)<=i/\i<2 ^ 63/\seqIndex? i xs.length=some k/\xs[k]? =some y/\Q y (upd H l (.lst (xs.eraseIdx k)))
def Ah:Jv X "list.pop" Gi:=by
 intro Y s U H x vs v us Q I rx rv h;obtain⟨l,xs,i,k,y,rfl,rfl,hH,h1,h2,hk,hy,q⟩:=h;cases rx;obtain⟨u,rfl,ru⟩:=rv.one;obtain⟨t,rfl⟩:=ru;obtain⟨z,its,n,r,hl,e⟩:=I.k7 hH;obtain⟨w,hw,rw'⟩:=r.get hy;refine call_meets F.slot_list_pop ⟨_,e,rfl⟩ F.entry_list_pop (F.args_list_pop_2 _ _)
  (MeetsSeq.list_pop_at l its.toArray n i t k w (fitsIndex_both h1 h2) (by rw[ii,<-hl];exact hk) (by rw[<-Array.getElem?_toList];exact hw) (by rw[ii];omega)) ⟨e,?_⟩
 refine⟨y,_,I.yF (its':=its.eraseIdx k) hH e ?_ (r.eraseIdx k) ?_,rw',q⟩
 .show its.toArray.eraseIdxIfInBounds k=(its.eraseIdx k).toArray;rw[List.eraseIdxIfInBounds_toArray]
 .have:=nc xs k
  omega
abbrev LY:R2:=λx y H Q=>∃ l b xs zs,x=.ref l/\y=.ref b/\H l=some (.lst xs)/\H b=some (.lst zs)/\xs.length+zs.length<=bn/\∀ p,H p=none->Q (.ref p) (upd H p (.lst (xs++zs)))
def HJ:cL X (binaryOp .Add) LY:=by
 intro Y s U H x y v u Q I rx ry h;obtain⟨l,b,xs,zs,rfl,rfl,hH,hB,hz,q⟩:=h;cases rx;cases ry;obtain⟨z,its,n,r,hl,e⟩:=I.k7 hH;obtain⟨z2,jY,n2,r2,hl2,e2⟩:=I.k7 hB;refine PySem.P.add_list e e2 ?_ (by rw[ii,ii];omega);have ea:its.toArray++jY.toArray=(its++jY).toArray:=by simp
 rw[ea];exact⟨.ref _,_,I.JZ (t':=s.toks) (r.append r2) (by rw[ci];omega),rfl,q _ I.fresh⟩
abbrev LF:R2:=λx y H Q=>∃ l k xs,x=.ref l/\y=.int k/\H l=some (.lst xs)/\ -(2 ^ 63)<=k/\k<2 ^ 63/\xs.length*k.toNat<=bn/\
 ∀ p,H p=none->Q (.ref p) (upd H p (.lst (sK k.toNat xs).flatten))
def len_rep (xs:List α)(k:Nat):(sK k xs).flatten.length=k*xs.length:=by
 induction k with
 |zero=>simp
 |succ k ih=>rw[replicate_succ,flatten_cons,ci,ih,Nat.succ_mul,Nat.add_comm]
def HA:cL X (binaryOp .Mult) LF:=by
 intro Y s U H x y v u Q I rx ry h;obtain⟨l,k,xs,rfl,rfl,hH,h1,h2,hz,q⟩:=h;cases rx;obtain⟨t,rfl⟩:=ry;obtain⟨z,its,n,r,hl,e⟩:=I.k7 hH;have hlen:its.toArray.size*k.toNat<=bn:=by rw[ii,<-hl];exact hz
 have hcap:¬ its.toArray.size*k.toNat>(2 ^ 63-1) / 8:=by
  have:(bn:Nat)<=(2 ^ 63-1) / 8:=by decide
  omega
 have hfit:¬ (!Builtin.List.listFitsIndex k)=true:=by
  rw[fitsIndex_both h1 h2];exact Bool.false_ne_true
 have hlong:¬ Builtin.List.listTooLong (its.toArray.size*k.toNat)=true:=by
  rw[sJ hlen];exact Bool.false_ne_true
 have hnew:List.foldl (λx1 x2=>x1++x2) #[] (sK (if its.toArray.isEmpty=true then 0 else k.toNat) its.toArray)=(sK k.toNat its).flatten.toArray:=by
  have f0:∀ m:Nat,List.foldl (λx1 x2=>x1++x2) #[] (sK m its.toArray)=(sK m its).flatten.toArray:=λm=>by
   have:=foldl_rep its m [];rw[nil_append]at this;exact this
  rw[f0];cases its with
  |nil=>simp
  |cons a r'=>rw[if_neg (by simp)]
 refine wpAny_binaryOp_repeat_ref (T:="list") (U:="int") (by decide) ⟨_,e,rfl⟩ (λs'=>typeIs_int s' k t) noFill_list_mul F.fills_int_mul F.slot_int_rmul repeat_list F.slot_int_index.lookup
  (call_meets F.slot_int_rmul (typeIs_int s k t) F.entry_int_rmul (F.args_int_rmul_2 _ _) (int___rmul___int_list k t l its.toArray n)
   ⟨e,rfl,⟨_,e,rfl⟩,call_meets F.slot_list_mul ⟨_,e,rfl⟩ F.entry_list_mul (F.args_list_mul_2 _ _) (AutoListH.list___mul___list_int_3 l its.toArray n k t hfit hcap hlong) ⟨e,?_⟩⟩)
 rw[hnew];exact⟨.ref _,_,I.JZ (t':=s.toks) (r.rep k.toNat) (by rw[len_rep,Nat.mul_comm];exact hz),rfl,q _ I.fresh⟩
end
section
variable {prog:Program}{w:World}{A:Around}{E:NH}{s:Shared}
set_option maxRecDepth 100000 in
end
section
variable {X:Cx}
end
variable {o:Option V}
section
variable {κ:Type} [DecidableEq κ]
abbrev kb (kvs:List (κ×V))(k:κ):Option V:=(kvs.find? λkv=>decide (kv.1=k)).map (·.2)
abbrev putK (kvs:List (κ×V))(k:κ)(v:V):List (κ×V):=
 if(kvs.any λkv=>decide (kv.1=k))=true then kvs.map (λkv=>if kv.1=k then(kv.1,v) else kv) else kvs++[(k,v)]
def kK {p:κ×V}{r:List (κ×V)}{k:κ}(e:p.1=k):kb (p::r) k=some p.2:=by simp[kb,find?_cons,e]
def k8 {p:κ×V}{r:List (κ×V)}{k:κ}(e:¬ p.1=k):kb (p::r) k=kb r k:=by simp[kb,find?_cons,e]
def su (k:κ):∀ kvs:List (κ×V),(kvs.any λkv=>decide (kv.1=k))=(kb kvs k).isSome
 | []=>rfl
 |p::r=>by
  rw[any_cons]
  by_cases e:p.1=k
  .simp only[kK e,decide_eq_true e,Bool.true_or,Option.isSome_some]
  .rw[k8 e,decide_eq_false e,Bool.false_or];exact su k r
def eA (kvs:List (κ×V))(k:κ)(v:V):(putK kvs k v).length<=kvs.length+1:=by
 unfold putK
 split
 .rw[ce];omega
 .rw[ci,length_cons,length_nil];omega
def dc.wF {u:Option Value}(r:dc o u):o.isSome=u.isSome:=by
 cases o with
 |none=>cases u with
  |none=>rfl
  |some _=>exact(show False from r).elim
 |some _=>cases u with
  |none=>exact(show False from r).elim
  |some _=>rfl
def KV.val {kvs:List (κ×V)}{vs:List (κ×Value)}(r:KV kvs vs)(k:κ):dc (kb kvs k) (valueAt vs k):=by
 unfold KV at r
 induction r with
 |nil=>exact True.intro
 | @cons p q ps qs h t ih=>
  obtain⟨h1,h2⟩:=h
  by_cases e:p.1=k
  .have e':q.1=k:=h1.symm.trans e;have b:valueAt (q::qs) k=some q.2:=by simp[valueAt,find?_cons,e']
   rw[kK e,b];exact h2
  .have e':¬ q.1=k:=λz=>e (h1.trans z)
   have b:valueAt (q::qs) k=valueAt qs k:=by simp[valueAt,find?_cons,e']
   rw[k8 e,b];exact ih
def KV.any {kvs:List (κ×V)}{vs:List (κ×Value)}(r:KV kvs vs)(k:κ):(kvs.any λkv=>decide (kv.1=k))=vs.any λkv=>decide (kv.1=k):=by
 unfold KV at r
 induction r with
 |nil=>rfl
 |cons h t ih=>rw[any_cons,any_cons,ih,h.1]
def KV.FW {kvs:List (κ×V)}{vs:List (κ×Value)}(r:KV kvs vs)(k:κ)(ry:RelV y u):
  KV (kvs.map λkv=>if kv.1=k then(kv.1,y) else kv) (vs.map λkv=>if kv.1=k then(kv.1,u) else kv):=by
 unfold KV at r⊢
 induction r with
 |nil=>exact .nil
 | @cons p q ps qs h t ih=>
  rw[map_cons,map_cons];refine .cons ?_ ih;obtain⟨h1,h2⟩:=h
  by_cases e:p.1=k
  .rw[if_pos e,if_pos (h1.symm.trans e)];exact⟨h1,ry⟩
  .rw[if_neg e,if_neg (λz=>e (h1.trans z))];exact⟨h1,h2⟩
def KV.put {kvs:List (κ×V)}{vs:List (κ×Value)}(r:KV kvs vs)(k:κ)(ry:RelV y u):KV (putK kvs k y) (stored vs k u):=by
 unfold putK stored;rw[r.any k]
 by_cases e:(vs.any λkv=>decide (kv.1=k))=true
 .rw[if_pos e,if_pos e];exact r.FW k ry
 .rw[if_neg e,if_neg e];exact Paired.snoc r ⟨rfl,ry⟩
def KV.length {kvs:List (κ×V)}{vs:List (κ×Value)}(r:KV kvs vs):kvs.length=vs.length:=Paired.length r
end
variable {P:Program}{w:World}
def qv {k:Key}(r:RelV (kV k) u):(aw P w).is k u=true:=by
 cases k with
 |inl i=>obtain⟨t,e⟩:=(show ∃ t,u=Value.int i t from r);subst e;exact qB P w i t
 |inr x=>obtain⟨t,e⟩:=(show ∃ t,u=Value.str x t from r);subst e;exact sD P w x t
def nH {P:Program}{w:World}:∀ {ks:List Key}{us:List Value},Vals (ks.map kV) us->ItemsAre (aw P w) ks us
 | [],_,r=>by rw[List.map_nil]at r;cases r;exact .nil
 |k::ks,_,r=>by
  rw[map_cons]at r;cases r with
  |cons h t=>exact .cons (qv h) (nH t)
@[reducible]def KT (H:Hp):List (List Key×V)->List (List Key×Addr×Value)->Prop:=Paired λp q=>p.1=q.1/\H q.2.1=some (.tup (p.1.map kV))/\RelV p.2 q.2.2
variable {xs:List (List Key×Addr×Value)}{kvs:List (List Key×V)}
def KT.val (r:KT H kvs xs)(k:List Key):dc (kb kvs k) ((atKey xs k).map (·.2)):=by
 induction r with
 |nil=>exact True.intro
 | @cons p q ps qs h t ih=>
  obtain⟨h1,_,h2⟩:=h
  by_cases e:p.1=k
  .have e':q.1=k:=h1.symm.trans e;have b:atKey (q::qs) k=some q.2:=by simp[atKey,find?_cons,e']
   rw[kK e,b];exact h2
  .have e':¬ q.1=k:=λz=>e (h1.trans z)
   have b:atKey (q::qs) k=atKey qs k:=by simp[atKey,find?_cons,e']
   rw[k8 e,b];exact ih
def KT.FW (r:KT H kvs xs)(k:List Key)(ry:RelV y u):
  KT H (kvs.map λkv=>if kv.1=k then(kv.1,y) else kv) (xs.map (putAt k u)):=by
 induction r with
 |nil=>exact .nil
 | @cons p q ps qs h t ih=>
  rw[map_cons,map_cons];refine .cons ?_ ih;obtain⟨h1,h2,h3⟩:=h;unfold putAt
  by_cases e:p.1=k
  .rw[if_pos e,if_pos (h1.symm.trans e)];exact⟨h1,h2,ry⟩
  .rw[if_neg e,if_neg (λz=>e (h1.trans z))];exact⟨h1,h2,h3⟩
def KT.put (r:KT H kvs xs)(k:List Key){b:Addr}(hb:H b=some (.tup (k.map kV)))(ry:RelV y u):
  KT H (putK kvs k y) (storedH xs k b u):=by
 have e:(kvs.any λkv=>decide (kv.1=k))=(atKey xs k).isSome:=by
  rw[su,(r.val k).wF,Option.isSome_map]
 unfold putK storedH;rw[e]
 by_cases q:(atKey xs k).isSome=true
 .rw[if_pos q,if_pos q];exact r.FW k ry
 .rw[if_neg q,if_neg q];exact Paired.snoc r ⟨rfl,hb,ry⟩
variable {H':Hp}
def KT.keeps (r:KT H kvs xs)(ht:∀ b ys,H b=some (.tup ys)->H' b=some (.tup ys)):KT H' kvs xs:=
 Paired.Hr r λ_ _ z=>⟨z.1,ht _ _ z.2.1,z.2.2⟩
section
variable {P:Program}{w:World}{H:Hp}{h:Heap}{a:Addr}
def ET {u:HO}(ok:gk P w H h)(e:Rd H a u):aN P w H h a u:=e.ok ok
def kZ {kvs:List (Key×V)}(ok:gk P w H h)(e:Rd H a (.dK kvs)):kvs.length<=bn/\(a ==sysModules)=false/\∃ vs,KV kvs vs/\h.DictOf (aw P w) a vs:=
 show aN P w H h a (.dK kvs) from ET ok e
def E4 {kvs:List (Key×V)}(ok:gk P w H h)(e:H a=some (.dK kvs)):kvs.length<=bn/\(a ==sysModules)=false/\∃ vs,KV kvs vs/\h.DictOf (aw P w) a vs:=kZ ok (.inl e)
def t7 {ks:List Key}(ok:gk P w H h)(e:H a=some (.tup (ks.map kV))):(tupleKind (aw P w)).is h ks a:=by
 obtain⟨_,its,r,o,h1,h2,n,h3⟩:=(show aN P w H h a (.tup (ks.map kV)) from ok a _ e);exact⟨o,its.toArray,n,h1,h2,h3,by simpa using nH r⟩
def zR (ok:gk P w H h)(e:Rd H a (.dT kvs)):kvs.length<=bn/\(a ==sysModules)=false/\
  ∃ xs,KT H kvs xs/\h.DictOfH (tupleKind (aw P w)) a xs:=by
 obtain⟨z,y,xs,r,o,es,ep,h1,h2,h3,h4,h5⟩:=(show aN P w H h a (.dT kvs) from ET ok e);refine⟨z,y,xs,r,o,es,ep,h1,h2,h3,h4,λx hx=>?_,h5⟩;have all:∀ {l:List (List Key×V)}{m:List (List Key×Addr×Value)},KT H l m->∀ x ∈ m,(tupleKind (aw P w)).is h x.1 x.2.1:=by
  intro l m q
  induction q with
  |nil=>intro x hx;exact nomatch hx
  | @cons p q ps qs hq t ih=>
   intro x hx;rcases nb.mp hx with e|hx
   .subst e;exact t7 ok (by rw[<-hq.1];exact hq.2.1)
   .exact ih x hx
 exact all r x hx
def IM (ok:gk P w H h)(e:H a=some (.dT kvs)):kvs.length<=bn/\(a ==sysModules)=false/\
  ∃ xs,KT H kvs xs/\h.DictOfH (tupleKind (aw P w)) a xs:=zR ok (.inl e)
end
abbrev GB (H:Hp)(a:Addr)(y:V)(r:Option V):Prop:=
 (∃ kvs k,Rd H a (.dK kvs)/\y=kV k/\r=kb kvs k)\/∃ kvs k b,Rd H a (.dT kvs)/\y=.ref b/\H b=some (.tup (k.map kV))/\r=kb kvs k
abbrev IZ (H:Hp)(a:Addr)(y v:V)(H':Hp):Prop:=
 (∃ kvs k,H a=some (.dK kvs)/\y=kV k/\kvs.length<bn/\H'=upd H a (.dK (putK kvs k v)))\/
 ∃ kvs k b,H a=some (.dT kvs)/\y=.ref b/\H b=some (.tup (k.map kV))/\kvs.length<bn/\H'=upd H a (.dT (putK kvs k v))
section
variable {X:Cx}{Y:NI}{U:St}{H:Hp}{s:Shared}{a:Addr}{y v:V}{u r:Value}{o:Option V}{A:Around}{E:NH}
def Inv.big (I:Inv X Y U H s):sysModules<s.heap.objs.size:=by
 have h:mainGlobals<s.heap.objs.size:=(I.mod.glob.keeps I.bk).lt;exact Nat.lt_trans (by decide) h
def xB {Q:NH}(hu:A.units+1<cLine)(I:Inv X Y U H s)(g:GB H a y (some v))(ry:RelV y u)(h:∀ w' s',Inv X Y U H s'->RelV v w'->Q w' s'):
  wpAny (model X.prog X.w) A (getItem (.ref a) u) Q E s:=by
 rcases g with⟨kvs,k,e,ey,l⟩|⟨kvs,k,b,e,ey,eb,l⟩
 .subst ey;obtain⟨z,hd,vs,rel,dd⟩:=kZ I.hok e;obtain⟨w',hw,rw'⟩:=dc.some_of (v:=v) (o:=valueAt vs k) (by rw[l];exact rel.val k);exact wpAny_getItem_of (qv ry) dd.mapOf hw (h w' _ (I.tok _) rw')
 .subst ey;cases(show u=Value.ref b from ry);obtain⟨z,hd,xs,rel,dd⟩:=zR I.hok e;obtain⟨w',hw,rw'⟩:=dc.some_of (v:=v) (o:=(atKey xs k).map (·.2)) (by rw[l];exact rel.val k);obtain⟨p,hp,hp2⟩:=nw.mp hw;refine wpAny_getItem_heap (tupleKind_room_in1 hu) (t7 I.hok eb) dd hp ?_;rw[hp2];exact h w' _ (I.tok _) rw'
def qg {h':Heap}{t':Nat}{ob:HO}(I:Inv X Y U H s)(mu:JW (H a))(hs:Heap.SameBut a s.heap h')(he:∃ q,h'.get? a=some q) (new:aN X.prog X.w (upd H a ob) h' a ob):
  Inv X Y U (upd H a ob) { s with heap:=h',toks:=t' }:=
 I.write (x:=a) (e:=a) mu (.inl rfl) (λb q hb z=>(hs.2 b hb).trans z) he new
def ui {h':Heap}{kvs:List (Key×V)}{vs:List (Key×Value)}(z:kvs.length<=bn)(hd:(a ==sysModules)=false)(rel:KV kvs vs)(dd:h'.DictOf (aw P w) a vs):
  aN P w H' h' a (.dK kvs):=⟨z,hd,vs,rel,dd⟩
def wt {Q:NG}(hu:A.units+1<cLine)(I:Inv X Y U H s)(g:IZ H a y v H')(ry:RelV y u)(rv:RelV v r)(h:∀ s',Inv X Y U H' s'->Q () s'):
  wpAny (model X.prog X.w) A (setItem (.ref a) u r) Q E s:=by
 rcases g with⟨kvs,k,e,ey,l,eH⟩|⟨kvs,k,b,e,ey,eb,l,eH⟩
 .subst ey eH;obtain⟨z,hd,vs,rel,dd⟩:=E4 I.hok e;have hz:vs.length<=bn:=by rw[<-rel.length];exact z
  have hl:(putK kvs k v).length<=bn:=by have:=eA kvs k v;omega
  refine wpAny_setItem_pairs (hsz:=hz) (qv ry) dd λh' dd' hs=>h _ ?_
  have he:∃ q,h'.get? a=some q:=let⟨q,_,_,hq,_⟩:=dd';⟨q,hq⟩;exact qg I (by rw[e];exact True.intro) hs he (ui hl hd (rel.put k rv) dd')
 .subst ey eH;cases(show u=Value.ref b from ry);obtain⟨z,hd,xs,rel,dd⟩:=IM I.hok e;have hz:xs.length<=bn:=by rw[<-Paired.length rel];exact z
  have hl:(putK kvs k v).length<=bn:=by have:=eA kvs k v;omega
  refine wpAny_setItem_heap (hsz:=hz) (tupleKind_room_in1 hu) (t7 I.hok eb) dd λh' dd' hs=>h _ ?_
  obtain⟨q,es,ep,hq,h2,h3,h4,_,h5⟩:=dd';refine qg I (by rw[e];exact True.intro) hs ⟨q,hq⟩ ⟨hl,hd,_,(rel.put k eb rv).keeps λc ys ec=>?_,q,es,ep,hq,h2,h3,h4,h5⟩;rw[ah (JP ec e (λz=>nomatch z))];exact ec
end
section
variable {X:Cx}{Y:NI}{U:St}{H:Hp}{s:Shared}{a:Addr}{kvs:List (Key×V)}{k:Key}{u:Value}{A:Around}{E:NH}
end
def qX {X:Cx}{a:Addr}(I:Inv X Y U H s)(g:GB H a y o):s.TypeIs (.ref a) "dict":=by
 rcases g with⟨kvs,k,e,_,_⟩|⟨kvs,k,b,e,_,_,_⟩
 .obtain⟨_,_,vs,_,dd⟩:=kZ I.hok e;exact dd.typeIs
 .obtain⟨_,_,xs,_,dd⟩:=zR I.hok e;exact dd.typeIs
section
variable {X:Cx}{o i e value:Expr}{pos pos' tpos:Pos}{td ty tv:TE}
end
def yW (h:Heap)(hb:sysModules<h.objs.size):aN P w H (h.push { cls:=.type "dict",data:=.dict #[] }) h.objs.size (.dK []):=
 ⟨Nat.zero_le _,beq_eq_false_iff_ne.mpr (Ne.symm (pi hb)),[],.nil,Heap.DictOf.new h⟩
section
variable {X:Cx}{pos:Pos}
end
section
variable {X:Cx}{Y:NI}{U:St}{H:Hp}{s:Shared}{a:Addr}{y d:V}{u r:Value}{o:Option V}{A:Around}{E:NH}
end
section
variable {X:Cx}{o e f:Expr}{apos cpos:Pos}{td ty tx:TE}
end
section
variable {X:Cx}{Y:NI}{U:St}{H:Hp}{s:Shared}{a:Addr}{kvs:List (Key×V)}{A:Around}{E:NH}
end
section
variable {X:Cx}{Y:NI}{U:St}{H:Hp}{s:Shared}{a:Addr}{y:V}{u:Value}{A:Around}{E:NH}
end
end L2
namespace Att
open PySem PySem.W PySem.Calls PyProof.Rows
variable {P:Params}
def j0 {h:Heap}:∀ (ns:List Int) (vs:List Value),WellAll P h vs (ns.map WData.int)->IntsAre vs ns:=by
 intro ns
 induction ns with
 |nil=>
  intro vs w;rw[List.map_nil]at w;cases w;exact .nil
 |cons n ns ih=>
  intro vs w;rw[map_cons]at w;cases w with
  |cons a b=>
   cases a;exact .cons _ _ (ih _ b)
variable {l:OpenLaw}
def xX {n:Nat}(hn:l.most=some n){h:Heap}{args:List WData}{vals:List Value}
  (hpre:l.row.toRowW.claim.pre args=true) (hwl:WellAll P h vals args):
  ∃ a vs ns,vals=[Value.ref a]/\args=[WData.list (ns.map WData.int)]/\h.get? a=some { cls:=.type "list",data:=.seq vs.toArray }/\IntsAre vs ns/\ns.length<=n:=by
 have hsh:WShape.hasAll [] args [.list .int]=true:=(pre_splitW hpre).1;have hc:l.pre.holds [] { args:=args }=true:=(pre_splitW hpre).2;obtain⟨d,r,rfl,h1,h2⟩:=hasAllW_cons hsh;obtain rfl:=hasAllW_nil h2;obtain⟨xs,rfl,h3⟩:=hasW_list h1;obtain⟨ns,rfl⟩:=items_int h3;have hlen:ns.length<=n:=by
  unfold OpenLaw.pre at hc;have h4:(WTm.not (.lt (.lit (.int (n:Int))) (.len (.arg 0)))).holds [] { args:=[.list (ns.map .int)] }=true:=by
   have h4:=(holds_andW hc).1;rw[hn]at h4;exact h4
  have h5:=condW_of h4 (w_not (w_lt w_lit (w_len_list (w_arg rfl))));rw[ce]at h5;refine Nat.le_of_not_lt λq=>?_
  have q':(n:Int)<((ns.length:Nat):Int):=by omega
  first
   |(rw[decide_eq_true q']at h5;exact absurd h5 (by decide))
   |(simp at h5;omega)
 cases hwl with
 |cons w1 w2=>
  cases w2;cases w1 with
  |list ho hall=>exact⟨_,_,ns,rfl,rfl,ho,j0 ns _ hall,hlen⟩
def we (l:OpenLaw)(args:List WData):l.row.toRowW.claim.post args (.bool true) args=true:=
 postW_of (r:=l.row.toRowW) (X:=(true ==true))
  (show WShape.has [] (.bool true) .bool=true by first|rfl|decide|simp[WShape.has,WShape.arms,WShape.armsAll])
  (show(WTm.eq .res (.lit (.bool true))).value [] { args:=args,res:=some (.bool true),after:=args }=some (.bool (true ==true)) from w_eq_bool (w_res rfl) w_lit) rfl
def rX {n:Nat}{q:Program}{loose:List Str}{XP:(Str->Option Value)->Heap->Prop}{YP:World->Heap->Prop}{d:DefRec}
  (hn:l.most=some n) (hdf:d.params.defaults=[])
  (call:∀ (w:World) (s₀ s₁:Shared) (mg mb:NJ) (fa:Addr) (o:Obj) (pm cd doc:Value) (a:Addr) (vs:List Value) (ns:List Int),
   Ground q loose [] XP w s₀ mg mb s₁.heap->YP w s₁.heap->
   s₁.heap.get? fa=some o->o.data=.func (docDef d.name d.params d.body d.scope pm cd doc)->s₁.heap.CodeRec cd d.name->mg d.name=some (.ref fa)->
   s₁.heap.get? a=some { cls:=.type "list",data:=.seq vs.toArray }->IntsAre vs ns->ns.length<=n->s₁.gens=#[]->
   codeAny (model l.prog w) callerA (.call (.ref fa) ⟨[.ref a],[]⟩) (λr s'=>r=.ok (.ret (.bool true))/\OldK s₁.heap s'.heap/\s'.os=s₁.os/\AllBare s'.gens) s₁):
  WalkO q loose XP YP l.row.toRowW d [] (λf vs=>PySem.call f vs):=by
 intro w s₀ s₁ mg mb G Y fa o pm cd doc dV kV ho hd hcd hD hmg hg args vals as hpre hlay hrd hwl hlo;obtain rfl:dV=.none:=Dflts.none hD hdf;obtain rfl:kV=.none:=Dflts.noKw hD;obtain⟨a,vs,ns,rfl,rfl,hobj,hints,hlen⟩:=xX hn hpre hwl;refine enter_call (codeAny_mono (call w s₀ s₁ mg mb fa o pm cd doc a vs ns G Y ho (fd_plain hd) hcd hmg hobj hints hlen hg) λr s' hq=>?_);obtain⟨rfl,h2,h3,h4⟩:=hq;exact⟨.inl ⟨.bool true,.bool true,[],rfl,λ_=>rfl,.bool true,we l _,λ_=>⟨List.Pairwise.nil,λ_ hm=>(nomatch hm)⟩⟩,h2,h3,h4⟩
section
variable {prog:Program}{w:World}{A:Around}{E:NH}{s:Shared}{K:Frag}
end
end Att
namespace L2
open PySem PySem.Spec PyProof.Rows
def n6:∀ {vs:List Value}{ns:List Int},IntsAre vs ns->Vals (ns.map V.int) vs
 |_,_,.nil=>.nil
 |_,_,.cons n t h=>.cons ⟨t,rfl⟩ (n6 h)
abbrev HY (H:Hp):Prop:=∀ b,H b=none\/∃ o xs,H b=some (.frz o (.lst xs))
def A4 {P:Program}{w:World}{K:W.Frag}{mg mb:NJ}{CX:vt}{k:Nat}{fa a:Addr}{fd:FuncData}{x:Str}{sp:Sp}{s₁:Shared}{vs:List Value}{ns:List Int}
  (KX:K.In s₁.heap) (hns:s₁.heap.Ns mainGlobals mg) (hb:s₁.heap.Ns builtinsNs mb) (hbb:∀ x:Str,x≠"__name__"->mb x=bootBuiltins x) (hlim:s₁.heap.NoLimit) (hg:s₁.gens=#[])
  (ha:s₁.heap.get? a=some { cls:=.type "list",data:=.seq vs.toArray }) (hi:IntsAre vs ns) (hl:ns.length<=bn) (hr:bP k callerA)
  (F:∀ base:Heap,K.In base->base.Ns mainGlobals mg->cZ P w K mg base CX k fa fd [x] sp) (hbind:∀ (s:Shared) (u:Value),BindsTo s fd ⟨[u],[]⟩ [(x,u)])
  (hsp:∀ H:Hp,HY H->aS K H a (ns.map V.int)->sp [.ref a] H (λv _=>v=.bl true) λ_ _=>False)
  (hCX:∀ H e s',CX [] H s₁ (λ_ _=>False) e s'->False):
  codeAny (model P w) callerA (.call (.ref fa) ⟨[.ref a],[]⟩) (λr s'=>r=.ok (.ret (.bool true))/\OldK s₁.heap s'.heap/\s'.os=s₁.os/\AllBare s'.gens) s₁:=by
 have rv:=n6 hi;have lenV:=hi.length;have core:∀ H:Hp,HY H->aS K H a (ns.map V.int)->gk P w H s₁.heap->(∀ b,H b≠none->b=a)->(H a≠none->K.lookup a=none)->
   codeAny (model P w) callerA (.call (.ref fa) ⟨[.ref a],[]⟩) (λr s'=>r=.ok (.ret (.bool true))/\OldK s₁.heap s'.heap/\s'.os=s₁.os/\AllBare s'.gens) s₁:=by
  intro H hO hS hok hA hK;have base_of:∀ {b:Addr}{o:Obj},s₁.heap.get? b=some o->H b=none->(pK s₁.heap H).get? b=some o:=λe n=>zk e n
  have noA:∀ {b:Addr}{o:Obj}{es:Array DictEntry}{ep:Nat},s₁.heap.get? b=some o->o.data=.dict es ep->H b=none:=λ{b o es ep} e d=>by
   cases q:H b with
   |none=>rfl
   |some u=>
    have e':b=a:=hA b (by rw[q];simp);subst e';rw[ha]at e;cases e;have d':Data.seq vs.toArray _=Data.dict es ep:=d;cases d'
  have nsK:∀ {b:Addr}{m:NJ},s₁.heap.Ns b m->(pK s₁.heap H).Ns b m:=λ{b m} ⟨o,es,ep,e,d,r⟩=>⟨o,es,ep,base_of e (noA e d),d,r⟩
  have hKb:K.In (pK s₁.heap H):=λb o e=>base_of (KX b o e) (by
   cases q:H b with
   |none=>rfl
   |some u=>
    have e':b=a:=hA b (by rw[q];simp);subst e';rw[hK (by rw[q];simp)]at e;cases e)
  have hM:Mod K mg (pK s₁.heap H):=⟨hKb,nsK hns,⟨mb,nsK hb,hbb⟩,let⟨mc,h1,h2⟩:=hlim;⟨mc,nsK h1,h2⟩⟩;have e0:tI P w K mg (pK s₁.heap H) callerA [] s₁ H:=⟨rfl,hM,λb o e=>CU e,Nat.le_of_eq (wA _ _),trivial,λb hb=>absurd (show b ∈ ([]:List Addr) from hb) (by simp),hok,.of_eq hg⟩;refine codeAny_mono ((F _ hKb (nsK hns)).run callerA [] s₁ H ⟨[.ref a],[]⟩ [.ref a] [.ref a] _ _ hr e0 (hbind s₁ (.ref a)) (.cons rfl .nil) (hsp H hO hS)) λr s' h=>?_
  cases r with
  |error e=>exact(hCX H e s' h).elim
  |ok fl=>
   cases fl with
   |next=>exact False.elim h
   |brk=>exact False.elim h
   |cont=>exact False.elim h
   |ret u=>
    obtain⟨v,H',os,bare,un,hok',r',q⟩:=h;have q':v=.bl true:=q;subst q';obtain rfl:u=Value.bool true:=r';refine⟨rfl,OldK.of_keep λb o e=>?_,os,bare⟩;cases q:H b with
    |none=>exact un.keep b o e q (by intro z;exact absurd (show b ∈ ([]:List Addr) from z) (by simp)) (by simp)
    |some u=>
     rcases hO b with z|⟨ob,xs,z⟩
     .rw[q]at z;cases z
     .have z2:=un.frzs b ob _ z;obtain⟨e1,_⟩:=hok b _ z;obtain⟨e2,_⟩:=hok' b _ z2;rw[e]at e1;cases e1;exact e2
 cases hk:K.lookup a with
 |some o=>
  have e:=KX a o hk;rw[ha]at e;cases e;refine core (λ_=>none) (λ_=>.inl rfl) (.inr ⟨_,vs.toArray,_,hk,rfl,rfl,rfl,by rw[ii,lenV];exact hl,by simpa using rv⟩) (λb u z=>by have z':(none:Option HO)=some u:=z;cases z') (λb z=>absurd rfl z) λz=>absurd rfl z
 |none=>
  refine core (λb=>if b=a then some (.frz { cls:=.type "list",data:=.seq vs.toArray } (.lst (ns.map V.int))) else none) (λb=>?_) (.inl (.inr ⟨{ cls:=.type "list",data:=.seq vs.toArray },if_pos rfl⟩)) (λb u z=>?_) (λb z=>?_) λ_=>hk
  .by_cases hb:b=a
   .exact .inr ⟨_,_,if_pos hb⟩
   .exact .inl (if_neg hb)
  .by_cases hb:b=a
   .have z':=(if_pos hb).symm.trans z;cases z';subst hb;exact⟨ha,by rw[ce];exact hl,vs,_,rv,ha⟩
   .have z':=(if_neg hb).symm.trans z;cases z'
  .by_cases hb:b=a
   .exact hb
   .exact absurd (if_neg hb) z
def DM {l:W.OpenLaw}{n k:Nat}{q:Program}{loose:List Str}{XP:(Str->Option Value)->Heap->Prop}{YP:World->Heap->Prop}{d:DefRec}{K:Params->W.Frag}{CX:World->vt}{sp:World->Sp}{x:Str}
  (hn:l.most=some n) (hn2:n<=bn) (hdf:d.params.defaults=[]) (hr:bP k callerA)
  (hY:∀ (w:World) (h:Heap),YP w h->(K w.params).In h)
  (F:∀ (w:World) (mg:NJ) (fa:Addr) (h:Heap),(K w.params).In h->h.Ns mainGlobals mg->mg d.name=some (.ref fa)->
   ∃ fd:FuncData,(∀ (s:Shared) (u:Value),BindsTo s fd ⟨[u],[]⟩ [(x,u)])/\
    ∀ base:Heap,(K w.params).In base->base.Ns mainGlobals mg->cZ l.prog w (K w.params) mg base (CX w) k fa fd [x] (sp w))
  (hsp:∀ (w:World) (H:Hp) (a:Addr) (ns:List Int),ns.length<=n->HY H->aS (K w.params) H a (ns.map V.int)->sp w [.ref a] H (λv _=>v=.bl true) λ_ _=>False)
  (hCX:∀ (w:World) (H:Hp) (s:Shared) (e:Value) (s':Shared),CX w [] H s (λ_ _=>False) e s'->False):
  W.WalkO q loose XP YP l.row.toRowW d [] (λf vs=>PySem.call f vs):=by
 refine Att.rX hn hdf λw s₀ s₁ mg mb fa o pm cd doc a vs ns G Y ho hd hcd hmg hobj hints hlen hg=>?_
 have KX:=hY w _ Y;obtain⟨fd,hb,hF⟩:=F w mg fa _ KX G.T.g hmg;exact A4 KX G.T.g G.T.b G.T.builtins G.T.nolimit hg hobj hints (Nat.le_trans hlen hn2) hr hF hb (λH hO hS=>hsp w H a ns hlen hO hS) λH e s'=>hCX w H s₁ e s'
section
variable {P:Program}{w:World}{K:W.Frag}{mg:NJ}{base:Heap}
end
def cx {n:Nat}(h:n<=1000):n<bn:=Nat.lt_of_le_of_lt h (by decide)
section
variable {X:Cx}
end
end L2
namespace L2
open PySem PySem.Spec PySem.W PyProof.Rows PySem.Builtin PySem.Builtin.ObjectAttr
variable {rs:List Addr}
section
variable {prog:Program}{w:World}{A:Around}{E:NH}{s:Shared}{K:W.Frag}{x C:Addr}{ox od:Obj}{name:Str}{expr:Bool}{v:Value}{Q:NH}
def qT:builtinKind "BaseException.__getattribute__"=some .slot:=by decide+kernel
def m8:splitId "BaseException.__getattribute__"=some ("BaseException","__getattribute__"):=by decide+kernel
def Dn (X:K.In s.heap)(I:W.InstAt s.heap x ox C (some od))(hga:W.findIn K (.ref C) "__getattribute__"=some (some (.builtin "BaseException.__getattribute__"))) (hgn:W.findIn K (.ref C) "__getattr__"=some none)
  (hb:W.mroIn K C (.type "BaseException")=some true) (hf:W.findObj K C (some od) name=some (.value v)) (hh:W.handedIn v=true) (h:Q v { s with toks:=s.toks+1 }):
  wpAny (model prog w) A (getAttr (.ref x) name expr) Q E s:=by
 obtain⟨hp,g,d,t,os⟩:=s;have L0:=I.type (M:=model prog w);have L1:=looks_findIn (M:=model prog w) X hga;have L2':=looks_findIn (M:=model prog w) X hgn;have L3:=looks_find (M:=model prog w) X I hf;have L4:Looks (model prog w) hp (isInstance (.ref x) (.type "BaseException")) true:=I.type.andThen (looks_mroIn X hb);unfold getAttr getAttrBy;refine ad (wpAny_mkText (bd (ad (L0.at (ad (L1.at ?_))))));have e1:(Value.builtin "BaseException.__getattribute__" ==Value.builtin "object.__getattribute__")=false:=by decide+kernel
 dsimp only;rw[e1,Bool.and_false];show wpAny _ _ (getAttrByItsOwn _ _ _ _ _ _) _ _ _;unfold getAttrByItsOwn hookBefore;refine ad (L2'.at ?_);refine ad (wpAny_attempt (bd ?_));have e2:(expr&&onTheHeap (Value.builtin "BaseException.__getattribute__"))=false:=by cases expr<;>rfl
 unfold callGetattribute;rw[e2];show wpAny _ _ (boundAndCalled _ _ _) _ _ _;unfold boundAndCalled;rw[PySem.F.attr_ValueError.ga.bind];refine ad (am (wpAny_call (codeAny_call_builtin PySem.F.attr_ValueError.ga.plain PySem.F.entry_bexc_ga ?_)));refine @check_slot (model prog w) _ _ _ "BaseException.__getattribute__" "BaseException" "__getattribute__" (.ref x) [.str name t] [] _ qT m8 L4 (PySem.F.args_bexc_ga (.ref x) (.str name t)) ?_;unfold Builtin.«object.__getattribute__»;refine ad (am (ad (am (ad (L0.at (ad (L3.at ?_)))))));refine am ?_;show wpAny _ _ (handedOut v) _ _ _;rw[handedOut_of hh];exact am h
abbrev Bi:Value->Bool
 | .ref _=>true
 |_=>false
abbrev bU:List Value:=[.type "ValueError",.type "Exception",.type "BaseException",.type "object"]
abbrev dv (l:List Value):Bool:=l.dropWhile Bi ==bU
def dC:∀ {l:List Value},dv l=true->∃ rs:List Addr,l=rs.map Value.ref++bU
 | [],e=>by cases e
 |c::r,e=>by
  by_cases h:Bi c=true
  .have e':dv r=true:=by
    unfold dv at e⊢;rw[List.dropWhile_cons_of_pos h]at e;exact e
   obtain⟨rs,q⟩:=dC e';cases c with
   |ref a=>exact⟨a::rs,by rw[q];rfl⟩
   |_=>cases h
  .unfold dv at e;rw[List.dropWhile_cons_of_neg h]at e;exact⟨[],beq_iff_eq.mp e⟩
def l6 (self:Value):∀ rs:List Addr,refuseLoop self "__setattr__" (rs.map Value.ref++bU)=pure ()
 | []=>PySem.F.store_ValueError.passes self
 |a::r=>by rw[map_cons,cons_append,refuseLoop_ref];exact l6 self r
structure cM (K:W.Frag) (C:Addr):Prop where
 mt:W.typeIn K (.ref C)=some (.type "type")
 ov:(W.clsIn K C).any (λcd=>dv cd.mro)=true
 hd:W.hasDictIn K C=true
 ga:W.findIn K (.ref C) "__getattribute__"=some (some (.builtin "BaseException.__getattribute__"))
 gn:W.findIn K (.ref C) "__getattr__"=some none
 sa:W.findIn K (.ref C) "__setattr__"=some (some (.builtin "object.__setattr__"))
def cM.mro {K:W.Frag}(c:cM K C):∃ (cd:ClassData) (rs:List Addr),W.clsIn K C=some cd/\cd.mro=rs.map Value.ref++bU:=by
 obtain⟨cd,h1,h2⟩:=W.any_some c.ov;obtain⟨rs,h3⟩:=dC h2;exact⟨cd,rs,h1,h3⟩
def qK (h:bU.contains v=true):(rs.map Value.ref++bU).contains v=true:=by
 rw[List.contains_eq_mem,decide_eq_true_eq]at h⊢;exact im _ h
def vM:(rs.map Value.ref++bU).isEmpty=false:=by cases rs<;>rfl
def cM.sub {K:W.Frag}(c:cM K C)(h:bU.contains v=true):W.mroIn K C v=some true:=by
 obtain⟨cd,rs,h1,h2⟩:=c.mro;unfold W.mroIn;rw[h1,Option.bind_some,h2,if_neg (by rw[vM];decide),qK h]
variable {R:Result->Shared->Prop}
def qH {tk:Tok}{odo:Option Obj}(X:K.In s.heap)(I:W.InstAt s.heap x ox C odo)(c:cM K C)(ht:W.findIn K (.ref C) name=some none)
  (h:wpAny (model prog w) A.in1 (storeInOwnDict (.ref x) (.ref C) (.str name tk) name v false)
   (λfin s'=>match fin with| .done f=>R (.ok f) s'| .again c'=>c'.quiet=true/\codeAny (model prog w) A c' R s') (λe s'=>R (.error e) s') s):
  codeAny (model prog w) A (.call (.builtin "object.__setattr__") ⟨[.ref x,.str name tk,v],[]⟩) R s:=by
 have SF:=PySem.F.store_object;obtain⟨cd,rs,hc,hm⟩:=c.mro;have sub:Looks (model prog w) s.heap (isInstance (.ref x) (.type "object")) true:=I.type.andThen (looks_mroIn X (c.sub (by decide+kernel)));refine codeAny_call_builtin SF.slot.plain SF.entry (@check_slot (model prog w) _ _ s "object.__setattr__" "object" "__setattr__" (.ref x) [.str name tk,v] [] _ SF.kind SF.split sub (SF.args (.ref x) (.str name tk) v) ?_);have hl:Looks (model prog w) s.heap (mroOf (.ref C)) cd.mro:=(looks_clsIn X hc).andThen .now;rw[osa_eq,refuse_eq];refine ad (ad (I.type.here (ad (hl.here ?_))));rw[hm,l6];refine am (ad (I.type.here (ad ((looks_findIn X ht).here (ad (am ?_))))));exact h
end
variable {Q:NH}{u:Value}
section
variable {X:Cx}{Y:NI}{U:St}{H:Hp}{s:Shared}{a C dx:Addr}{fs:List (Str×V)}{f:Str}{v:V}{A:Around}{E:NH}{fr:Bool}
def xy {b:Bool}(I:Inv X Y U H s)(e:H a=some (.exc C (some dx) fs fr))(c:cM X.K C)(n:dY X.K C f)(l:fs.lookup f=some v)
  (h:∀ u s',Inv X Y U H s'->RelV v u->Q u s'):wpAny (model X.prog X.w) A (getAttr (.ref a) f b) Q E s:=by
 obtain⟨⟨vs,ho,_⟩,z⟩:=I.hok a _ e;rcases z with⟨z,_⟩|⟨d,ed,_,_,_,mA,hn,r,_⟩
 .cases z
 cases ed;obtain⟨u,hu,ru⟩:=dc.some_of (v:=v) (o:=mA f) (by rw[<-l];exact r f);obtain⟨od,hod,hl⟩:=iW hn;refine Dn (ox:={ cls:=.ref C,dict:=some dx,data:=.fields vs }) (od:=od) I.bV ⟨ho,rfl,rfl,hod⟩ c.ga c.gn (c.sub (by decide+kernel)) (W.findObj_own c.hd n rfl (by rw[hl,hu])) (nJ ru) (h u _ (I.tok _) ru)
def tT {y:V}{Q:NG}(I:Inv X Y U H s)(e:H a=some (.exc C (some dx) fs fr))(c:cM X.K C)(n:dY X.K C f)(hl:fs.length<1000)(ry:RelV y u)
  (h:∀ s',Inv X Y U (upd H a (.exc C (some dx) (cN f y fs) fr)) s'->Q () s'):wpAny (model X.prog X.w) A (setAttr (.ref a) f u) Q E s:=by
 obtain⟨⟨vs,ho,zz⟩,z⟩:=id (I.hok a _ e);rcases z with⟨z,_⟩|⟨d,ed,hown,_,hne,mA,hn,r,wi⟩
 .cases z
 cases ed;obtain⟨od,hod,hlk⟩:=iW hn;have hz:(fs.map (·.1)).length<=bn:=by rw[ce,sizeLine_eq];omega
 have J:W.InstAt s.heap a { cls:=.ref C,dict:=some dx,data:=.fields vs } C (some od):=⟨ho,rfl,rfl,hod⟩;refine W.set_plain I.bV J c.sa (qH (s:={ s with toks:=s.toks+1 }) I.bV J c n ?_);obtain⟨cd,hc,hd'⟩:=W.any_some c.hd;refine ad (am (ad (ad (wpAny_loadPart ho (ad (W.Looks.here (s:={ s with toks:=s.toks+1 }) (W.looks_clsIn I.bV hc) ?_))))));rw[hd'];refine am (a:=some dx) (ad (am (ad ?_)));refine wpAny_nsSet1 (s:={ s with toks:=s.toks+1 }) hn λh' hn2 hs2=>?_
 obtain⟨oD,esD,epD,hoD,hdD,hcD⟩:=hn2.count (PySem.Within.cons f u wi);refine ad (wpAny_lookBehind hoD (by rw[hdD];exact pastItsLine_dict (Nat.le_trans hcD (by rw[length_cons];omega))) ?_);refine am (h _ ?_);refine I.write (x:=a) (e:=dx) (by rw[e];exact True.intro) (.inr hown) (λb q hb z=>(hs2.2 b hb).trans z) ⟨oD,hoD⟩ ?_;refine⟨⟨vs,(hs2.2 _ (Ne.symm hne)).trans ho,zz⟩,.inr ⟨dx,rfl,by rw[ah hne];exact hown,?_,hne,_,hn2,λg=>?_,λg hg=>?_⟩⟩
 .have:=et f y fs;omega
 .show dc ((cN f y fs).lookup g) (if g=f then some u else mA g);rw[d4]
  by_cases q:g=f
  .rw[if_pos q,if_pos q];exact ry
  .rw[if_neg q,if_neg q];exact r g
 .by_cases q:g=f
  .rw[q];exact(c6 f y fs).1
  .refine(c6 f y fs).2 g (wi g λz=>hg ?_);show(if g=f then some u else mA g)=none;rw[if_neg q];exact z
def tD {y:V}{Q:NG}(I:Inv X Y U H s)(e:H a=some (.exc C none fs fr))(c:cM X.K C)(n:dY X.K C f)(ry:RelV y u)
  (h:∀ d s',H d=none->Inv X Y U (upd (upd H d (.own a)) a (.exc C (some d) [(f,y)] fr)) s'->Q () s'):wpAny (model X.prog X.w) A (setAttr (.ref a) f u) Q E s:=by
 obtain⟨⟨vs,ho,zz⟩,z⟩:=id (I.hok a _ e);have hfs:fs=[]:=by
  rcases z with⟨_,z⟩|⟨d,ed,_⟩
  .exact z
  .cases ed
 subst hfs;have J:W.InstAt s.heap a { cls:=.ref C,dict:=none,data:=.fields vs } C none:=⟨ho,rfl,rfl,True.intro⟩;refine W.set_plain I.bV J c.sa (qH (s:={ s with toks:=s.toks+1 }) I.bV J c n ?_);obtain⟨cd,hc,hd'⟩:=W.any_some c.hd;refine ad (am (ad (ad (wpAny_loadPart ho (ad (W.Looks.here (s:={ s with toks:=s.toks+1 }) (W.looks_clsIn I.bV hc) ?_))))));rw[hd'];have hlt:=ut ho;have hxs:a≠s.heap.objs.size:=pi hlt;have ho1:(s.heap.push { cls:=.type "dict",data:=.dict #[] }).get? a=some { cls:=.ref C,dict:=none,data:=.fields vs }:=ul _ ho;refine ad (wpAny_alloc' ?_);refine ad (wpAny_update' ho1 ?_);refine am ?_;have hgd:((s.heap.push { cls:=.type "dict",data:=.dict #[] }).update a λo=>{ o with dict:=some s.heap.objs.size }).get? s.heap.objs.size=some { cls:=.type "dict",data:=.dict #[] }:=
  (Heap.get?_update_ne _ _ _ _ hxs.symm).trans (Heap.get?_push_at rfl rfl)
 have hga:((s.heap.push { cls:=.type "dict",data:=.dict #[] }).update a λo=>{ o with dict:=some s.heap.objs.size }).get? a=some { cls:=.ref C,dict:=some s.heap.objs.size,data:=.fields vs }:=
  Heap.get?_update_self _ ho1 rfl
 have hnd:((s.heap.push { cls:=.type "dict",data:=.dict #[] }).update a λo=>{ o with dict:=some s.heap.objs.size }).Ns s.heap.objs.size (λ_=>none):=
  ⟨_,#[],_,hgd,rfl,λe he=>absurd he (by simp),λ_=>rfl⟩
 show wpAny _ _ (storeInDict s.heap.objs.size (.str f _) f u) _ _ _;unfold storeInDict newKeyGuard;refine ad (am (ad (wpAny_nsSet1 (Heap.Ns1.of_empty hnd) λh' hn2 hs2=>?_)));obtain⟨oD,esD,epD,hoD,hdD,hcD⟩:=hn2.count (PySem.Within.cons f u PySem.Within.nil);refine ad (wpAny_lookBehind hoD (by rw[hdD];exact pastItsLine_dict (Nat.le_trans hcD (by rw[length_cons,length_nil,sizeLine_eq];omega))) ?_);have hd0:H s.heap.objs.size=none:=I.hok.fresh (re _);refine am (h s.heap.objs.size _ hd0 ?_);have e':upd H s.heap.objs.size (.own a) a=some (.exc C none [] fr):=by rw[ah hxs];exact e
 have I1:Inv X Y U (upd H s.heap.objs.size (.own a)) { s with heap:=s.heap.push { cls:=.type "dict",data:=.dict #[] },toks:=s.toks+1 }:=
  I.laid (a:=s.heap.objs.size) (o:=.own a) (t':=s.toks+1) (λb u q=>ul _ q) (re _) ⟨_,v4 s.heap rfl⟩
 have I2:=I1.write (x:=a) (e:=a) (o:=.exc C (some s.heap.objs.size) [] fr) (t':=s.toks+1) (h':=(s.heap.push { cls:=.type "dict",data:=.dict #[] }).update a λo=>{ o with dict:=some s.heap.objs.size })
  (by rw[e'];exact True.intro) (.inl rfl) (λb q hb z=>(Heap.get?_update_ne _ _ _ _ hb).trans z) ⟨_,hga⟩
  ⟨⟨vs,hga,zz⟩,.inr ⟨_,rfl,by rw[ah hxs.symm,az],Nat.zero_le _,hxs.symm,_,Heap.Ns1.of_empty hnd,λ_=>True.intro,λy hy=>absurd rfl hy⟩⟩
 have ga':h'.get? a=some { cls:=.ref C,dict:=some s.heap.objs.size,data:=.fields vs }:=(hs2.2 a hxs).trans hga;have I3:=I2.write (x:=a) (e:=s.heap.objs.size) (o:=.exc C (some s.heap.objs.size) [(f,y)] fr) (t':=s.toks+1+1) (h':=h') (by rw[az];exact True.intro) (.inr (by rw[ah hxs.symm,az]))
  (λb q hb z=>(hs2.2 b hb).trans z) ⟨oD,hoD⟩
  ⟨⟨vs,ga',zz⟩,.inr ⟨_,rfl,by rw[ah hxs.symm,ah hxs.symm,az],by show 1<=1000;decide,hxs.symm,_,hn2,λg=>?_,λg hg=>?_⟩⟩
 .rw[Co]at I3;exact I3
 .show dc (List.lookup g [(f,y)]) (if g=f then some u else none)
  by_cases q:g=f
  .have hb:(g ==f)=true:=beq_iff_eq.mpr q;simp only[List.lookup,hb,if_pos q];exact ry
  .have hb:(g ==f)=false:=beq_eq_false_iff_ne.mpr q;simp only[List.lookup,hb,if_neg q];exact True.intro
 .by_cases q:g=f
  .rw[q];simp
  .exact absurd (show(if g=f then some u else none)=none by rw[if_neg q]) hg
end
section
variable {X:Cx}{Y:NI}{U:St}{H:Hp}{s:Shared}{a C:Addr}{dx:Option Addr}{fs:List (Str×V)}{f:Str}{v:V}{A:Around}{E:NH}{fr:Bool}
def Inv.fields {vs':Array Value}{h':Heap}{t':Nat}(I:Inv X Y U H s)(e:H a=some (.exc C dx fs fr))(hs:vs'.size=6)(h1:fr=true->vs'[1]? =some Value.none)
  (ha:h'.get? a=some { cls:=.ref C,dict:=dx,data:=.fields vs' }) (k:∀ b u,b≠a->s.heap.get? b=some u->h'.get? b=some u):Inv X Y U H { s with heap:=h',toks:=t' }:=by
 have I2:=I.write (x:=a) (e:=a) (o:=.exc C dx fs fr) (t':=t') (h':=h') (by rw[e];exact True.intro) (.inl rfl) k ⟨_,ha⟩ ?_
 .have:upd H a (.exc C dx fs fr)=H:=by
   funext b
   by_cases hb:b=a
   .rw[hb,az,e]
   .rw[ah hb]
  rw[this]at I2;exact I2
 .obtain⟨_,z⟩:=id (I.hok a _ e);refine⟨⟨vs',ha,hs,h1⟩,?_⟩;rcases z with z|⟨d,ed,d1,z1,ne,mA,⟨od,es,ep,e2,c⟩,r⟩
  .exact .inl z
  .exact .inr ⟨d,ed,by rw[ah ne];exact d1,z1,ne,mA,⟨od,es,ep,k _ _ ne e2,c⟩,r⟩
def lz {R:Result->Shared->Prop}(I:Inv X Y U H s)(e:H a=some (.exc C dx fs fr))(c:cM X.K C)
  (h:∀ s',Inv X Y U H s'->R (.ok (.ret .none)) s'):codeAny (model X.prog X.w) A (.call (.builtin "ValueError.__init__") ⟨[.ref a,u],[]⟩) R s:=by
 have F:=PySem.F.excCall_ValueError;obtain⟨⟨vs,ho,hsz,h1⟩,z⟩:=id (I.hok a _ e);have L4:Looks (model X.prog X.w) s.heap (isInstance (.ref a) (.type "ValueError")) true:=(show Looks (model X.prog X.w) s.heap (typeOf (.ref a)) (.ref C) from(Looks.ld ho).andThen .now).andThen (looks_mroIn I.bV (c.sub (by decide+kernel)));refine codeAny_call_builtin F.init.plain F.initEntry ?_;simp only[checkBuiltinCall,F.initKind,F.initSplit,F.initRow];refine ad (L4.here ?_);simp only[Bool.not_true,Bool.false_eq_true,if_false];have hshort:("ValueError" != "*")=true:=by decide
 have h0:∃ a0,vs[0]? =some a0:=⟨_,Array.getElem?_eq_getElem nofun⟩;obtain⟨a0,h0⟩:=h0;obtain⟨hp,g,d,t,os⟩:=s;unfold Bind.checkArgs;have hn:Looks (model X.prog X.w) hp (typeOf (.ref a)) (.ref C):=(Looks.ld ho).andThen .now;obtain⟨cd,rs,hcl,_⟩:=c.mro;obtain⟨oc,od,sl,hC⟩:∃ oc od sl,hp.get? C=some ⟨oc,od,.cls cd,sl⟩:=by
  unfold W.clsIn at hcl
  split at hcl
  .rename_i ho';cases hcl;exact⟨_,_,_,I.bV _ _ ho'⟩
  .cases hcl
 repeat(first|with_reducible refine wpAny_load hC ?_|wp_step)
 rw[h0];have ho1:(hp.push { cls:=.type "tuple",data:=.seq #[u] }).get? a=some { cls:=.ref C,dict:=dx,data:=.fields vs }:=ul _ ho;have hq:=Heap.get?_update_self (Obj.mapFields (·.setIfInBounds 0 (.ref hp.objs.size))) ho1 (Obj.isFreed_of_fields (Obj.data_mapFields rfl _));have fin:R (.ok (.ret Value.none)) ⟨(hp.push { cls:=.type "tuple",data:=.seq #[u] }).update a (Obj.mapFields (·.setIfInBounds 0 (.ref hp.objs.size))),g,d,t,os⟩:=by
  refine h _ (I.fields (vs':=vs.setIfInBounds 0 (.ref hp.objs.size)) (t':=t) e (by simpa using hsz) (λz=>?_) hq λb q hb z'=>?_)
  .rw[Array.getElem?_setIfInBounds_ne (by decide)];exact h1 z
  .exact(Heap.get?_update_ne _ _ _ _ hb).trans (ul _ z')
 refine am (ad (wpAny_setField ho1 rfl nofun ?_));cases a0<;>first|exact am (am fin)|exact wpAny_letGo (am fin)
def uj (I:Inv X Y U H s)(e:H a=some (.exc C dx fs fr))(c:cM X.K C)
  (h:∀ s',Inv X Y U H s'->Q .none s'):wpAny (model X.prog X.w) A (call (.builtin "ValueError.__init__") [.ref a,u]) Q E s:=wpAny_call (lz I e c h)
end
abbrev bX (K:W.Frag)(C:Addr):Bool:=match K.lookup C with
 |some ⟨_,_,.cls cd,sl⟩=>!cd.abstract&& !cd.hasDel&&(sl.toList[4]?).join ==some (.builtin "ValueError.__new__")&&dv cd.mro&&cd.mro.contains (.ref C)&&
   W.specialIn K (.ref C) "__call__" ==some (some (.builtin "type.__call__"))&&W.instIn K (.ref C) (.type "type") ==some true
 |_=>false
structure yg (M:Model) (h:Heap) (C:Addr):Prop where
 obj:∃ oc od cd sl,h.get? C=some ⟨oc,od,.cls cd,sl⟩/\cd.abstract=false/\cd.hasDel=false/\cd.mro.isEmpty=false
 made:W.Looks M h (Bind.madeBy (.ref C)) (some "ValueError.__new__")
 base:W.Looks M h (Bind.staticBase (.ref C)) (.ref C)
 self:W.Looks M h (isSubtype (.ref C) (.ref C)) true
 top:W.Looks M h (isSubtype (.ref C) (.type "ValueError")) true
 no1:W.Looks M h (isSubtype (.ref C) (.type "AttributeError")) false
 no2:W.Looks M h (isSubtype (.ref C) (.type "NameError")) false
 call:W.Looks M h (specialOf (.ref C) "__call__") (some (.builtin "type.__call__"))
 typ:W.Looks M h (isInstance (.ref C) (.type "type")) true
def vO {n:String}(h:bU.contains (.type n)=false):(rs.map Value.ref++bU).contains (.type n)=false:=by
 induction rs with
 |nil=>exact h
 |cons a r ih=>rw[map_cons,cons_append,List.contains_cons,ih];rfl
def nF {K:W.Frag}{M:Model}{h:Heap}(X:K.In h){C:Addr}(e:bX K C=true):yg M h C:=by
 unfold bX at e
 split at e
 .rename_i oc od cd sl ho;simp only[nl,Bool.not_eq_true',beq_iff_eq]at e;obtain⟨⟨⟨⟨⟨⟨e1,e2⟩,e3⟩,e4⟩,e5⟩,e7⟩,e8⟩:=e;obtain⟨rs,em⟩:=dC e4;have hc:W.clsIn K C=some cd:=by unfold W.clsIn;rw[ho]
  have hm:Looks M h (mroOf (.ref C)) cd.mro:=(looks_clsIn X hc).andThen .now;have ne:cd.mro.isEmpty=false:=by rw[em];exact vM
  obtain⟨c,l,hl⟩:∃ c l,cd.mro=c::l:=by
   cases q:cd.mro with
   |nil=>rw[q]at ne;cases ne
   |cons c l=>exact⟨c,l,rfl⟩
  have made:Looks M h (Bind.madeBy (.ref C)) (some "ValueError.__new__"):=by
   intro A Q E s k q;unfold Bind.madeBy;refine ad (hm A _ E s k ?_);rw[hl,forIn_cons];refine ad (ad (ad (ad (wpAny_loadPart (k _ _ (X _ _ ho)) (am ?_)))));dsimp only;rw[<-Array.getElem?_toList,e3];exact am (am (am q))
  have mro:∀ {v b},cd.mro.contains v=b->W.mroIn K C v=some b:=λ{v b} q=>by
   unfold W.mroIn;rw[hc,Option.bind_some,if_neg (by rw[ne];decide),q]
  refine⟨⟨oc,od,cd,sl,X _ _ ho,e1,e2,ne⟩,made,?_,looks_mroIn X (mro e5),looks_mroIn X (mro (by rw[em];exact qK (by decide+kernel))),looks_mroIn X (mro (by rw[em];exact vO (by decide+kernel))),looks_mroIn X (mro (by rw[em];exact vO (by decide+kernel))),looks_specialIn X e7,looks_instIn X e8⟩;intro A Q E s k q;unfold Bind.staticBase;refine ad (hm A _ E s k ?_);rw[hl,forIn_cons];exact ad (ad (ad (made A _ E s k (am (am (am q))))))
 .cases e
variable {rest:List Value}
section
variable {prog:Program}{w:World}{A:Around}{K:W.Frag}{C:Addr}{R:Result->Shared->Prop}{h:Heap}{g:Array GenState}{d:Drawn}{t:Nat}{os:OsState}
def EM (Y:yg (model prog w) h C)(hz:rest.length<=bn)
  (hq:R (.ok (.ret (.ref (h.objs.size+1)))) ⟨(h.push { cls:=.type "tuple",data:=.seq rest.toArray }).push { cls:=.ref C,data:=.fields #[.ref h.objs.size,.none,.none,.none,.bool false,.none] },g,d,t,os⟩):
  codeAny (model prog w) A (.call (.builtin "ValueError.__new__") ⟨.ref C::rest,[]⟩) R ⟨h,g,d,t,os⟩:=by
 obtain⟨⟨oc,od,cd,sl,hC,e1,e2,e4⟩,made,base,self,top,no1,no2,call,typ⟩:=Y;have F:=PySem.F.excBase_ValueError;have here:Looks (model prog w) h (Bind.madeHere "BaseException.__new__" (.ref C)) ():=base.andThen (made.andThen (Looks.of_pure (by simp only[Option.map_some,F.canon,bne_self_eq_false,Bool.false_eq_true,if_false])));refine codeAny_call_builtin_code (Code.quiet_builtin _ F.quiet) ?_;simp only[checkBuiltinCall,F.newKind,F.newSplit,F.newRow]
 repeat(first|simp only[bne_self_eq_false,Bool.false_eq_true,if_false]|lk)
 refine codeAny_builtinAt F.entry ?_;unfold Builtin.«BaseException.__new__»;refine PySem.wpAt_bind ?_;show PySem.wpAt _ _ _ (stack >>= _) _ _ _;refine PySem.wpAt_bind (PySem.wpAt_stack λp below=>PySem.wpAt_of_wpAny ?_);have hends:=F.ends
 wp_walk
 refine PySem.wpAt_of_wpAny ?_;rw[F.owner]
 repeat(first|simp only[Bool.not_true,Bool.false_eq_true,if_false]|lk)
 rw[if_neg (show ¬ (rest.toArray.size>bn) by rw[ii];omega)];unfold newObjAsIs;refine ad (wpAny_alloc (am (ad ?_)));show wpAny _ _ (newObjAsIs _ _ _) _ _ _;unfold newObjAsIs classHasDel;refine ad (wpAny_alloc (ad (ad (wpAny_load (ul _ (ul _ hC)) (am ?_)))));rw[e2];refine am (am ?_);show R _ _;rw[Heap.size_push];exact hq
def HL {fI:Addr}(X:K.In h)(hz:rest.length<=bn)(hm:bX K C=true)(hi:W.findIn K (.ref C) "__init__"=some (some (.ref fI))) (hf:W.typeIn K (.ref fI)=some (.type "function"))
  (hq:codeAny (model prog w) (A.under (.builtin "type.__call__" ⟨.ref C::rest,[]⟩)) (.call (.ref fI) ⟨.ref (h.objs.size+1)::rest,[]⟩) (InitBack (h.objs.size+1) R)
   ⟨(h.push { cls:=.type "tuple",data:=.seq rest.toArray }).push { cls:=.ref C,data:=.fields #[.ref h.objs.size,.none,.none,.none,.bool false,.none] },g,d,t,os⟩):
  codeAny (model prog w) A (.call (.ref C) ⟨rest,[]⟩) R ⟨h,g,d,t,os⟩:=by
 have Y:=nF (M:=model prog w) X hm;have Y':=Y;obtain⟨⟨oc,od,cd,sl,hC,e1,e2,e4⟩,made,base,self,top,no1,no2,call,typ⟩:=Y;refine codeAny_of_tree ?_;show wpAny _ _ (callAny (.ref C) _) _ _ _;refine nd_load hC ?_;show wpAny _ _ (callAny.viaDunder (.ref C) _) _ _ _;unfold callAny.viaDunder;refine ad (call.at ?_);dsimp only;rw[tc_bind];refine ad (am (ad (am ?_)));refine am (a:=Fin.again (.call (.builtin "type.__call__") ⟨.ref C::rest,[]⟩)) (And.intro rfl ?_);refine codeAny_call_builtin_at (Code.quiet_builtin _ (by decide+kernel)) entry_typeCall (check_slot tc_kind tc_split typ (tc_args _ _ _) ?_);unfold Builtin.«type.__call__»;have hmr:Looks (model prog w) h (mroOf (.ref C)) cd.mro:=((Looks.ld (part:=none) hC).andThen .now).andThen .now
 repeat(first|simp only[e4,Bool.false_eq_true,if_false]|with_reducible refine wpAny_call ?_|lk)
 refine EM Y' hz ?_;have k:∀ b o,h.get? b=some o->((h.push { cls:=.type "tuple",data:=.seq rest.toArray }).push { cls:=.ref C,data:=.fields #[.ref h.objs.size,.none,.none,.none,.bool false,.none] }).get? b=some o:=λb o e=>ul _ (ul _ e)
 have hx:((h.push { cls:=.type "tuple",data:=.seq rest.toArray }).push { cls:=.ref C,data:=.fields #[.ref h.objs.size,.none,.none,.none,.bool false,.none] }).get? (h.objs.size+1)=some { cls:=.ref C,data:=.fields #[.ref h.objs.size,.none,.none,.none,.bool false,.none] }:=by heap_get
 have t1:Looks (model prog w) ((h.push { cls:=.type "tuple",data:=.seq rest.toArray }).push { cls:=.ref C,data:=.fields #[.ref h.objs.size,.none,.none,.none,.bool false,.none] }) (typeOf (.ref (h.objs.size+1))) (.ref C):=(Looks.ld hx).andThen .now;have s1:=self.keeps k;have i1:=(looks_findIn (M:=model prog w) X hi).keeps k;have b1:=(bind_fn (M:=model prog w) X (.ref (h.objs.size+1)) hf).keeps k;unfold isInstance callSpecial? specialOf
 repeat(first|with_reducible refine wpAny_call ?_|lk)
 refine codeAny_mono hq λr s' z=>?_
 rcases r with e|(v|_|_|_)<;>first|exact z|exact z.elim|skip
 obtain⟨rfl,z⟩:=z;exact am (am z)
def Dy (X:K.In h)(hz:rest.length<=bn)(hm:bX K C=true)(hi:W.findIn K (.ref C) "__init__"=some (some (.builtin "ValueError.__init__")))
  (hq:codeAny (model prog w) (A.under (.builtin "type.__call__" ⟨.ref C::rest,[]⟩)) (.call (.builtin "ValueError.__init__") ⟨.ref (h.objs.size+1)::rest,[]⟩) (InitBack (h.objs.size+1) R)
   ⟨(h.push { cls:=.type "tuple",data:=.seq rest.toArray }).push { cls:=.ref C,data:=.fields #[.ref h.objs.size,.none,.none,.none,.bool false,.none] },g,d,t,os⟩):
  codeAny (model prog w) A (.call (.ref C) ⟨rest,[]⟩) R ⟨h,g,d,t,os⟩:=by
 have Y:=nF (M:=model prog w) X hm;have Y':=Y;obtain⟨⟨oc,od,cd,sl,hC,e1,e2,e4⟩,made,base,self,top,no1,no2,call,typ⟩:=Y;refine codeAny_of_tree ?_;show wpAny _ _ (callAny (.ref C) _) _ _ _;refine nd_load hC ?_;show wpAny _ _ (callAny.viaDunder (.ref C) _) _ _ _;unfold callAny.viaDunder;refine ad (call.at ?_);dsimp only;rw[tc_bind];refine ad (am (ad (am ?_)));refine am (a:=Fin.again (.call (.builtin "type.__call__") ⟨.ref C::rest,[]⟩)) (And.intro rfl ?_);refine codeAny_call_builtin_at (Code.quiet_builtin _ (by decide+kernel)) entry_typeCall (check_slot tc_kind tc_split typ (tc_args _ _ _) ?_);unfold Builtin.«type.__call__»;have hmr:Looks (model prog w) h (mroOf (.ref C)) cd.mro:=((Looks.ld (part:=none) hC).andThen .now).andThen .now
 repeat(first|simp only[e4,Bool.false_eq_true,if_false]|with_reducible refine wpAny_call ?_|lk)
 refine EM Y' hz ?_;have k:∀ b o,h.get? b=some o->((h.push { cls:=.type "tuple",data:=.seq rest.toArray }).push { cls:=.ref C,data:=.fields #[.ref h.objs.size,.none,.none,.none,.bool false,.none] }).get? b=some o:=λb o e=>ul _ (ul _ e)
 have hx:((h.push { cls:=.type "tuple",data:=.seq rest.toArray }).push { cls:=.ref C,data:=.fields #[.ref h.objs.size,.none,.none,.none,.bool false,.none] }).get? (h.objs.size+1)=some { cls:=.ref C,data:=.fields #[.ref h.objs.size,.none,.none,.none,.bool false,.none] }:=by heap_get
 have t1:Looks (model prog w) ((h.push { cls:=.type "tuple",data:=.seq rest.toArray }).push { cls:=.ref C,data:=.fields #[.ref h.objs.size,.none,.none,.none,.bool false,.none] }) (typeOf (.ref (h.objs.size+1))) (.ref C):=(Looks.ld hx).andThen .now;have s1:=self.keeps k;have i1:=(looks_findIn (M:=model prog w) X hi).keeps k;have b1:Looks (model prog w) ((h.push { cls:=.type "tuple",data:=.seq rest.toArray }).push { cls:=.ref C,data:=.fields #[.ref h.objs.size,.none,.none,.none,.bool false,.none] }) (bindSpecial (.builtin "ValueError.__init__") (.ref (h.objs.size+1))) (.builtin "ValueError.__init__",[.ref (h.objs.size+1)]):=Looks.of_pure (PySem.F.excCall_ValueError.init.bind _);unfold isInstance callSpecial? specialOf
 repeat(first|with_reducible refine wpAny_call ?_|lk)
 refine codeAny_mono hq λr s' z=>?_
 rcases r with e|(v|_|_|_)<;>first|exact z|exact z.elim|skip
 obtain⟨rfl,z⟩:=z;exact am (am z)
end
end L2
namespace L2
open PySem PySem.Spec PySem.W PyProof.Rows
abbrev bE (e:Addr)(h h':Heap):Prop:=∀ oe vs,h.get? e=some oe->oe.data=.fields vs->∃ vs',h'.get? e=some { oe with data:=.fields vs' }/\vs'.size=vs.size
abbrev Fv (as:List Addr)(h h':Heap):Prop:=∀ b o,b ∉ as->h.get? b=some o->h'.get? b=some o
abbrev BB (h:Heap)(e T:Addr)(fl:Value):Prop:=∃ oe vs oT ts,h.get? e=some oe/\oe.data=.fields vs/\vs[1]? =some (.ref T)/\T≠e/\h.get? T=some oT/\oT.data=.fields ts/\ts[3]? =some fl
def bE.trans {e:Addr}{h h1 h2:Heap}(a:bE e h h1)(b:bE e h1 h2):bE e h h2:=λoe vs x y=>by
 obtain⟨vs1,x1,z1⟩:=a oe vs x y;obtain⟨vs2,x2,z2⟩:=b _ vs1 x1 rfl;exact⟨vs2,x2,z2.trans z1⟩
def bE.same {e:Addr}{h h':Heap}(k:h'.get? e=h.get? e):bE e h h':=λoe vs x y=>⟨vs,by rw[k,x,<-y],rfl⟩
variable {Q:NG}
section
variable {M:Model}{A:Around}{E:NH}{s:Shared}{base:Heap}{env:Env}{outer:List Env}{L e:Addr}
def nU {oe:Obj}{vs:Array Value}{head:Value}{hadNext:Bool}(hfr:A.frames=some (env::outer))(hl:s.heap.FunFrames base (env::outer))(hf:env.frame=some L)
  (he:s.heap.get? e=some oe) (hd:oe.data=.fields vs) (hsz:1<vs.size)
  (q:∀ h' T,s.heap.objs.size<=T->BB h' e T (rawInt L)->bE e s.heap h'->(∀ b o,b≠e->s.heap.get? b=some o->∃ sl,h'.get? b=some { o with slots:=sl })->Fv (e::qe (env::outer)) s.heap h'->Q () { s with heap:=h' }):
  wpAny M A (do let a <-frameOf env;let pl <-entryPlaceOf L hadNext;let b <-EntryCells.newEntry head a .none (rawInt L) .none pl;setField (.ref e) 1 b) Q E s:=by
 have hne:e ∉ qe (env::outer):=λhm=>by
  obtain⟨_,o,ho,hnf⟩:=hl.mem hm;rw[he]at ho;cases ho;exact hnf vs hd
 refine ad (wpAny_frameOf_fun hfr hl hf λh1 s1=>ad (wpAny_entryPlaceOf λpl hpl=>?_));unfold EntryCells.newEntry newFields;refine ad (wpAny_newObj_type ?_ (hpl.sizeOk5 _ _ _ _ _));have e1:h1.get? e=some oe:=(s1.2.1 e hne).trans he;have e2:=ul (h:=h1) { cls:=.type "traceback",dict:=none,data:=.fields ([head,.ref L,.none,rawInt L,.none]++(if pl.isEmpty then sK 6 Value.none else pl)).toArray } e1;have hTe:h1.objs.size≠e:=Nat.ne_of_gt (ut e1);have d3:=Obj.data_mapFields hd (·.setIfInBounds 1 (Value.ref h1.objs.size));have e3:=Heap.get?_update_self (Obj.mapFields (·.setIfInBounds 1 (Value.ref h1.objs.size))) e2 (Obj.isFreed_of_fields d3);have t3:=(Heap.get?_update_other (h1.push { cls:=.type "traceback",dict:=none,data:=.fields ([head,.ref L,.none,rawInt L,.none]++(if pl.isEmpty then sK 6 Value.none else pl)).toArray })
  (Obj.mapFields (·.setIfInBounds 1 (Value.ref h1.objs.size))) (Ne.symm hTe)).trans (v4 h1 rfl)
 have keep:∀ b o,b≠e->h1.get? b=some o->((h1.push { cls:=.type "traceback",dict:=none,data:=.fields ([head,.ref L,.none,rawInt L,.none]++(if pl.isEmpty then sK 6 Value.none else pl)).toArray }).update e (Obj.mapFields (·.setIfInBounds 1 (Value.ref h1.objs.size)))).get? b=some o:=
  λb o hb hq=>(Heap.get?_update_other _ _ (Ne.symm hb)).trans (ul _ hq)
 refine wpAny_setField e2 hd hsz (q _ h1.objs.size ?_ ?_ ?_ (λb o hb ho=>?_) λb o hb ho=>?_)
 .rw[s1.1];exact re _
 .refine⟨_,_,_,_,e3,d3,by simp[hsz],hTe,t3,rfl,?_⟩
  first|(simp;done)|(rcases hpl with rfl|⟨_,_,_,_,_,_,_,rfl⟩<;>simp)
 .intro oe' vs' x y;rw[he]at x;cases x;rw[hd]at y;cases y;refine⟨vs.setIfInBounds 1 (.ref h1.objs.size),?_,by simp⟩;rw[e3];obtain⟨c0,d0,dt,sl0⟩:=oe;cases hd
  rfl
 .obtain⟨sl,z⟩:=s1.2.2 b o ho;exact⟨sl,keep b _ hb z⟩
 .exact keep b o (λz=>hb (by rw[z];exact mo)) ((s1.2.1 b λz=>hb (dL _ z)).trans ho)
abbrev HP (n₀:Nat)(ps:NI)(H:Hp)(h:Heap)(e:Addr):Prop:=(∃ oe vs,h.get? e=some oe/\oe.data=.fields vs/\vs[1]? =some Value.none)\/∃ T,n₀<=T/\H T=none/\(∀ p ∈ ps,p.1≠T)/\BB h e T .none
def Dz {n₀:Nat}{ps:NI}{H:Hp}(hfr:A.frames=some (env::outer))(hl:s.heap.FunFrames base (env::outer))(hf:env.frame=some L)(sf:HP n₀ ps H s.heap e)(h0:n₀<=s.heap.objs.size)(hps:∀ p ∈ ps,p.1<s.heap.objs.size)
  (q:∀ h' T T0,s.heap.objs.size<=T->n₀<=T0->(H T0=none\/s.heap.objs.size<=T0)->(∀ p ∈ ps,p.1≠T0)->(∀ o,s.heap.get? T0=some o->∃ ts,o.data=.fields ts)->BB h' e T (rawInt L)->bE e s.heap h'->h'.FunFrames base (env::outer)->(∀ b o,b≠e->b≠T0->s.heap.get? b=some o->∃ sl,h'.get? b=some { o with slots:=sl })->Fv (e::T0::qe (env::outer)) s.heap h'->(∀ b o,s.heap.get? b=some o->∃ o',h'.get? b=some o')->Q () { s with heap:=h' }):
  wpAny M A (noteFrame (.ref e) env) Q E s:=by
 have fun_of:∀ {h':Heap}{as:List Addr},(∀ b ∈ as,∀ o,s.heap.get? b=some o->∃ vs,o.data=.fields vs)->(∀ b o,b ∉ as->s.heap.get? b=some o->∃ sl,h'.get? b=some { o with slots:=sl })->h'.FunFrames base (env::outer):=
  λ{h' as} ha k=>hl.of_keeps λb o ho hnf=>by
   by_cases hb:b ∈ as
   .obtain⟨vs,z⟩:=ha b hb o ho;exact absurd z (hnf vs)
   .obtain⟨sl,z⟩:=k b o hb ho;exact⟨_,z,rfl⟩
 unfold noteFrame;simp only[hf];rcases sf with⟨oe,vs,he,hd,h1⟩|⟨T0,hT0,hH0,hp0,oe,vs,oT,ts,he,hd,h1,hTe,hT,hdT,h3⟩
 .skip
  refine ad (ap he hd h1 ?_);rw[if_neg (by decide)];refine nU hfr hl hf he hd (Array.getElem?_eq_some_iff.mp h1).1 λh' T hT st fo sl sy=>?_
  refine q h' T s.heap.objs.size hT h0 (.inr (re _)) (λp hp=>pi (hps p hp)) (λo z=>absurd (ut z) (Nat.lt_irrefl _)) st fo ?_ (λb o hb _ ho=>sl b o hb ho) (λb o hb ho=>sy b o (λz=>hb ?_) ho) λb o ho=>?_
  .refine fun_of (as:=[e]) (λb hb o ho=>?_) λb o hb ho=>sl b o (by simpa using hb) ho
   obtain rfl:b=e:=by simpa using hb
   rw[he]at ho;cases ho;exact⟨vs,hd⟩
  .rcases nb.mp z with z|z
   .exact nb.mpr (.inl z)
   .exact dL _ (dL _ z)
  .by_cases hb:b=e
   .subst hb;rw[he]at ho;cases ho;obtain⟨vs',z,_⟩:=fo _ _ he hd;exact⟨_,z⟩
   .obtain⟨sl',z⟩:=sl b o hb ho;exact⟨_,z⟩
 .refine ad (ap he hd h1 ?_);rw[if_pos (show(Value.ref T0 != Value.none)=true from by simp)];refine ad (ap hT hdT h3 ?_);rw[if_neg (show ¬ ((Value.none ==rawInt L)=true) from by simp[rawInt])];refine ad (wpAny_setField hT hdT (Array.getElem?_eq_some_iff.mp h3).1 ?_);have other:∀ b,b≠T0->(s.heap.update T0 (Obj.mapFields (·.setIfInBounds 3 Value.none))).get? b=s.heap.get? b:=λb hb=>Heap.get?_update_other _ _ (Ne.symm hb)
  have self':=Heap.get?_update_self (Obj.mapFields (·.setIfInBounds 3 Value.none)) hT (Obj.isFreed_of_fields (Obj.data_mapFields hdT _));have rec':∀ b o,s.heap.get? b=some o->(∀ vs,o.data≠.fields vs)->b≠T0:=λb o hb hnf z=>by
   rw[z,hT]at hb;cases hb;exact hnf ts hdT
  refine nU (base:=base) hfr (hl.of_keeps λb o hb hnf=>⟨o,(other b (rec' b o hb hnf)).trans hb,rfl⟩) hf ((other e (Ne.symm hTe)).trans he) hd (Array.getElem?_eq_some_iff.mp h1).1 λh' T hTn st fo sl sy=>?_
  have hTn':s.heap.objs.size<=T:=by
   have z:(s.heap.update T0 (Obj.mapFields (·.setIfInBounds 3 Value.none))).objs.size<=T:=hTn
   rwa [Heap.size_after_update]at z
  refine q h' T T0 hTn' hT0 (.inl hH0) hp0 (λo z=>by rw[hT]at z;cases z;exact⟨ts,hdT⟩) st (bE.trans (bE.same (other e (Ne.symm hTe))) fo) ?_ (λb o hb hb0 ho=>sl b o hb ((other b hb0).trans ho)) (λb o hb ho=>?_) λb o ho=>?_
  .refine fun_of (as:=[e,T0]) (λb hb o ho=>?_) λb o hb ho=>sl b o (λz=>hb (by simp[z])) ((other b λz=>hb (by simp[z])).trans ho)
   rcases nb.mp hb with hb|hb
   .subst hb;rw[he]at ho;cases ho;exact⟨vs,hd⟩
   .obtain rfl:b=T0:=by simpa using hb
    rw[hT]at ho;cases ho;exact⟨ts,hdT⟩
  .have n1:b≠e:=λz=>hb (by simp[z])
   have n2:b≠T0:=λz=>hb (by simp[z])
   refine sy b o (λz=>hb ?_) ((other b n2).trans ho);rcases nb.mp z with z|z
   .exact nb.mpr (.inl z)
   .exact dL _ (dL _ z)
  .by_cases hb:b=e
   .subst hb;obtain⟨vs',z,_⟩:=fo _ _ ((other b (Ne.symm hTe)).trans he) hd;exact⟨_,z⟩
   .by_cases hb0:b=T0
    .subst hb0;obtain⟨sl',z⟩:=sl b _ hb self';exact⟨_,z⟩
    .obtain⟨sl',z⟩:=sl b o hb ((other b hb0).trans ho);exact⟨_,z⟩
def v8 {T:Addr}{fl:Value}(st:BB s.heap e T fl)
  (q:∀ h',BB h' e T .none->(∀ b,b≠T->h'.get? b=s.heap.get? b)->(∃ o,s.heap.get? T=some o)->(∃ o,h'.get? T=some o)->(∃ oT ts,h'.get? T=some oT/\oT.data=.fields ts)->Q () { s with heap:=h' }):wpAny M A (setFlight (.ref e) none) Q E s:=by
 obtain⟨oe,vs,oT,ts,he,hd,h1,hTe,hT,hdT,h3⟩:=st;have hz:3<ts.size:=(Array.getElem?_eq_some_iff.mp h3).1;have other:∀ b,b≠T->(s.heap.update T (Obj.mapFields (·.setIfInBounds 3 ((none:Option Addr).elim Value.none λf=>rawInt f)))).get? b=s.heap.get? b:=λb hb=>Heap.get?_update_other _ _ (Ne.symm hb)
 have self':=Heap.get?_update_self (Obj.mapFields (·.setIfInBounds 3 ((none:Option Addr).elim Value.none λf=>rawInt f))) hT (Obj.isFreed_of_fields (Obj.data_mapFields hdT _));unfold setFlight;refine ad (ap he hd h1 ?_);rw[if_pos (show(Value.ref T != Value.none)=true from by simp)];refine wpAny_setField hT hdT hz (q _ ⟨oe,vs,_,_,(other e (Ne.symm hTe)).trans he,hd,h1,hTe,self',Obj.data_mapFields hdT _,by simp[hz]⟩ other ⟨_,hT⟩ ⟨_,self'⟩ ⟨_,_,self',Obj.data_mapFields hdT _⟩)
end
variable {A:Around}
section
variable {X:Cx}{U:St}{H:Hp}{s:Shared}{e C:Addr}{dx:Option Addr}{fs:List (Str×V)}{h':Heap}
def Inv.yw {Y:NI}(I:Inv X Y U H s):Inv X [] U H s:=I.pV λ_ z=>absurd z (by simp)
def Inv.Jw {T0:Addr}{as:List Addr}(I:Inv X [] U H s)(hpn:∀ p ∈ X.pn,p.1≠T0) (he:H e=some (.exc C dx fs false)) (has:as=qe X.stack)
  (hT:X.s₀.heap.objs.size<=T0) (hT0:H T0=none\/s.heap.objs.size<=T0) (hTd:∀ o,s.heap.get? T0=some o->∃ ts,o.data=.fields ts)
  (fo:bE e s.heap h') (sl:∀ b o,b≠e->b≠T0->s.heap.get? b=some o->∃ sl,h'.get? b=some { o with slots:=sl }) (sy:Fv (e::T0::as) s.heap h') (th:∀ b o,s.heap.get? b=some o->∃ o',h'.get? b=some o'):
  Inv X [] U H { s with heap:=h' }:=by
 subst has;obtain⟨⟨vs,ho,hsz,_⟩,z⟩:=id (I.hok e _ he);have hH0:H T0=none:=by
  rcases hT0 with z|z
  .exact z
  .exact I.hok.fresh z
 have nT:∀ {b:Addr}{o:Obj},s.heap.get? b=some o->(∀ vs,o.data≠.fields vs)->b≠T0:=λ{b o} hb hn z=>by
  subst z;obtain⟨ts,q⟩:=hTd _ hb;exact hn ts q
 have j4:∀ b o,H b=none->b≠T0->b ∉ qe X.stack->s.heap.get? b=some o->h'.get? b=some o:=λb o hb h0 hf hq=>sy b o (λm=>by
  rcases nb.mp m with m|m
  .rw[m,he]at hb;cases hb
  .rcases nb.mp m with m|m
   .exact h0 m
   .exact hf m) hq
 have El:∀ a u,H a=some u->a≠e->∀ o,s.heap.get? a=some o->h'.get? a=some o:=λa u ha ne o hq=>sy a o (λm=>by
  rcases nb.mp m with m|m
  .exact ne m
  .rcases nb.mp m with m|m
   .rw[m,hH0]at ha;cases ha
   .rw[I.qb a m]at ha;cases ha) hq
 refine I.step (g':=s.gens) (t':=s.toks) (d':=s.drawn) (ch:=[T0]) (h':=h') (λb hb=>?_) (λb o hL hfs hch hq hn=>?_) (λb o hL hfs hch hq hn=>?_) (λb o _ _ hn=>hn) (λb o _ hq=>th b o hq) (λ_ _ q=>q) (λ_ _ _ q=>q) (λb ps q=>⟨#[],by rw[q];simp⟩) (λm hm=>?_) (λa u ha=>?_) I.bare
 .obtain rfl:b=T0:=by simpa using hb
  refine⟨.inr hT,?_,λx c hc z=>?_,λp hp=>hpn p (by simpa using hp)⟩
  .obtain⟨m,⟨o,es,ep,ho',hd,_⟩,_⟩:=I.loc;intro z;exact nT ho' (λvs q=>by rw[hd]at q;cases q) z.symm
  .obtain⟨v,o,ho',hd⟩:=I.cell x c hc;exact nT ho' (λvs q=>by rw[hd]at q;cases q) z
 .refine j4 b o hn (by simpa using hch) (λm=>?_) hq;rcases nb.mp (I.iZ b m) with z|z
  .exact hL z
  .exact hfs z
 .exact sl b o (λz=>by rw[z,he]at hn;cases hn) (by simpa using hch) hq
 .obtain⟨o,es,ep,ho',hd,r⟩:=hm;have n1:X.env.locals≠e:=λz=>by have:=I.free;rw[z,he]at this;cases this
  obtain⟨sl',q⟩:=sl _ o n1 (nT ho' λvs q=>by rw[hd]at q;cases q) ho';exact⟨_,es,ep,q,hd,r⟩
 .by_cases hae:a=e
  .subst hae;rw[he]at ha;cases ha;obtain⟨vs',q,hz⟩:=fo _ vs ho rfl;refine⟨⟨vs',q,hz.trans hsz,λy=>by cases y⟩,?_⟩;rcases z with z|⟨d,ed,d1,z1,ne,mA,⟨od,es,ep,e2,c⟩,r⟩
   .exact .inl z
   .exact .inr ⟨d,ed,d1,z1,ne,mA,⟨od,es,ep,El d _ d1 ne _ e2,c⟩,r⟩
  .refine(I.hok a u ha).j4 (λb o hb hq=>?_) (λ_ q=>q) λ_ _ q=>q
   rcases hb with hb|hb
   .subst hb;exact El b u ha hae o hq
   .refine El b _ hb (λz=>?_) o hq;rw[z,he]at hb;cases hb
abbrev Bq (P:Program)(w:World):vt:=λouter H s E u s'=>∃ (e:Addr) (H':Hp) (C:Addr) (dx:Option Addr) (fs:List (Str×V)) (T:Addr),u=.ref e/\s'.os=s.os/\AllBare s'.gens/\Un (qe outer) [] H H' s.heap s'.heap/\gk P w H' s'.heap/\
 H' e=some (.exc C dx fs false)/\s.heap.objs.size<=T/\H' T=none/\BB s'.heap e T .none/\E e H'
abbrev Ih (X:Cx)(E:St->XK):Prop:=∀ (U:St) (H:Hp) (s:Shared) (e C:Addr) (dx:Option Addr) (fs:List (Str×V)),Inv X [] U H s->HP X.s₀.heap.objs.size X.pn H s.heap e->H e=some (.exc C dx fs false)->E U e H->X.xe (.ref e) s
def nq {E:St->XK}(x:Ih X E):Passes (Bq X.prog X.w) X E:=by
 intro Y U H s u s' I h;obtain⟨e,H',C,dx,fs,T,rfl,os,bare,un,hok,he,hT,hT0,st,q⟩:=h;have J:Inv X [] U H' s':=Inv.yP (ch:=[]) I.yw os un hok bare (λb z=>absurd z (by simp));exact x U H' s' e C dx fs J (.inr ⟨T,Nat.le_trans I.sz hT,hT0,λp hp=>pi (ol (ut (I.pin p (mem_append_left _ hp)).1) hT),st⟩) he q
def nu {M:Model}{E E':NH}{Q:Shared->Prop}(I:Inv X [] U H s)(hs:X.stack=X.env::X.outer)(hf:X.env.frame=some X.env.locals)(sf:HP X.s₀.heap.objs.size X.pn H s.heap e)(he:H e=some (.exc C dx fs false))
  (q:∀ s' T,Inv X [] U H s'->s'.os=s.os->X.s₀.heap.objs.size<=T->H T=none->(∀ p ∈ X.pn,p.1≠T)->BB s'.heap e T .none->Q s'):
  wpAny M X.A (noteFrame (.ref e) X.env) (λ_ s1=>wpAny M X.A (setFlight (.ref e) none) (λ_ s2=>Q s2) E s1) E' s:=by
 have hl:s.heap.FunFrames X.base (X.env::X.outer):=hs▸I.stack;refine Dz (by rw[<-hs];exact I.ok.frames) hl hf sf I.sz (λp hp=>ut (I.pin p (mem_append_left _ hp)).1) λh1 T T0 hT hT0 hH0 hp0 hTd st fo fF sl sy th=>?_
 have I1:=I.Jw (T0:=T0) (as:=qe (X.env::X.outer)) (h':=h1) hp0 he (by rw[hs]) hT0 hH0 hTd fo sl sy th;have hHT:H T=none:=I.hok.fresh hT;have hpT:∀ p ∈ X.pn,p.1≠T:=λp hp=>pi (ol (ut (I.pin p (mem_append_left _ hp)).1) hT)
 refine v8 (s:={ s with heap:=h1 }) st λh2 qm oth _ th2 rec2=>?_
 have I2:Inv X [] U H { s with heap:=h2 }:=by
  refine Inv.turned (s:={ s with heap:=h1 }) (it:=T) (h':=h2) (t':=s.toks) I1 (λb o hb hq=>(oth b hb).trans hq) hHT ?_ (.inr (Nat.le_trans I.sz hT)) (λx c hc z=>?_) λp hp=>hpT p (by simpa using hp)
  .exact λz=>absurd (ol I.lt hT) (by rw[z];exact Nat.lt_irrefl _)
  .obtain⟨v,o,ho,_⟩:=I.cell x c hc;exact absurd (ol (ut ho) hT) (by rw[z];exact Nat.lt_irrefl _)
 exact q _ T I2 rfl (Nat.le_trans I.sz hT) hHT hpT qm
def w9 {P:Program}{w:World}{K:W.Frag}{mg:NJ}{base:Heap}{N:List Str}{qual:Str}{scope:Scope}{f:Addr}{cd:Value}{outer:List Env}{E:XK}:
  Ih (wX (Bq P w) P w K mg base N qual scope f cd A outer s H E) (λ_=>E):=by
 intro σ' H' s' e C dx fs I sf he q;show wpAny _ _ (do noteFrame (.ref e) _;setFlight (.ref e) none) _ _ s';refine ad (nu I rfl rfl sf he λs2 T J os hT hH _ st=>?_);exact⟨e,H',C,dx,fs,T,rfl,J.os,J.bare,J.base,J.hok,he,hT,hH,st,q⟩
end
structure Lb (K:W.Frag) (C f:Addr):Prop where
 mks:bX K C=true
 init:W.findIn K (.ref C) "__init__"=some (some (.ref f))
 fn:W.isFn K (.ref f)=true
 kp:W.keepIn K (.ref C)=true
variable {us:List Value}{vs:List V}
section
variable {X:Cx}{Y:NI}{U:St}{H:Hp}{s:Shared}{C f:Addr}
def Inv.EC (us:List Value)(I:Inv X Y U H s):Inv X Y U (upd H (s.heap.objs.size+1) (.exc C none [] true))
  { s with heap:=(s.heap.push { cls:=.type "tuple",data:=.seq us.toArray }).push { cls:=.ref C,data:=.fields #[.ref s.heap.objs.size,.none,.none,.none,.bool false,.none] } }:=by
 have I1:=I.kept (h':=s.heap.push { cls:=.type "tuple",data:=.seq us.toArray }) (t':=s.toks) λb u q=>ul _ q
 refine Inv.laid (s:={ s with heap:=s.heap.push { cls:=.type "tuple",data:=.seq us.toArray } }) (a:=s.heap.objs.size+1) (o:=.exc C none [] true) (t':=s.toks) I1 (λb u q=>ul _ q) (Nat.le_of_eq (Heap.size_push _ _)) ?_;refine⟨⟨#[.ref s.heap.objs.size,.none,.none,.none,.bool false,.none],?_,rfl,λ_=>rfl⟩,.inl ⟨rfl,rfl⟩⟩;have:=v4 (s.heap.push { cls:=.type "tuple",data:=.seq us.toArray }) (o:={ cls:=.ref C,data:=.fields #[.ref s.heap.objs.size,.none,.none,.none,.bool false,.none] }) rfl
 rwa [Heap.size_push]at this
variable {CX:vt}{k:Nat}{fd:FuncData}{ps:List Str}{sp:Sp}{dvs:List V}{ds:List Value}{E:St->XK}{x m:Str}{p pos apos:Pos}{e o:Expr}{es:List Expr}{ta:TE}{t:TA}
abbrev yS (C:Addr)(sp:Sp)(dvs:List V)(E:St->XK)(t:TA):TE:=λU H Q=>t U H λvs H1=>vs.length<=1000/\∀ x,H1 x=none->sp (.ref x::(vs++dvs)) (upd H1 x (.exc C none [] true)) (λv H2=>v=.non/\Q (.ref x) H2) (E U)
def n8 {Q:VK}(M:Lb X.K C f)(F:cZ X.prog X.w X.K X.mg X.base CX k f fd ps sp)(hr:bP (k+1) X.A)(hb:Binds X.K fd ps ds)(hd:Vals dvs ds)
  (hx:Passes CX X E) (hz:us.length<=bn) (I:Inv X Y U H s) (r:Vals vs us)
  (h:∀ x,H x=none->sp (.ref x::(vs++dvs)) (upd H x (.exc C none [] true)) (λv H2=>v=.non/\Q (.ref x) H2) (E U)):
  wpAny (model X.prog X.w) X.A (call (.ref C) us) (EP X Y U Q) X.xe s:=by
 have hq:=h (s.heap.objs.size+1) (I.hok.fresh (Nat.le_succ _));have I2:=Inv.EC (C:=C) us I;have r2:Vals (V.ref (s.heap.objs.size+1)::(vs++dvs)) (Value.ref (s.heap.objs.size+1)::(us++ds)):=.cons rfl (r.append hd);have hl:(Value.ref (s.heap.objs.size+1)::us++ds).length=ps.length:=by
  have e:=r2.length;rw[F.len _ _ _ _ hq]at e;exact e.symm
 obtain⟨hh,g,d,tk,os⟩:=s;refine wpAny_call (HL (fI:=f) I.bV hz M.mks M.init (beq_iff_eq.mp M.fn) (codeAny_mono (F.run _ X.stack _ _ ⟨Value.ref (hh.objs.size+1)::us,[]⟩ (Value.ref (hh.objs.size+1)::(us++ds)) _ _ (E U) (hr.make C us [])
  (I2.jb.make C us []) (hb _ (Value.ref (hh.objs.size+1)::us) I2.bV hl) r2 hq) λr s' hq'=>?_))
 cases r with
 |error e=>exact hx Y U _ _ e s' I2 hq'
 |ok fl=>
  cases fl with
  |ret u=>
   obtain⟨v,H',J,rv,ev,q⟩:=I2.after hq';subst ev;obtain rfl:u=Value.none:=rv;exact⟨rfl,.ref _,H',J,rfl,q⟩
  |next=>exact False.elim hq'
  |brk=>exact False.elim hq'
  |cont=>exact False.elim hq'
def yG (M:Lb X.K C f)(F:cZ X.prog X.w X.K X.mg X.base CX k f fd ps sp)(hr:bP (k+1) X.A)(hg:Gl X x)(hm:X.mg x=some (.ref C))(hb:Binds X.K fd ps ds)(hd:Vals dvs ds)(hx:Passes CX X E)
  (ha:PA X (e::es) t) (hdb:(x ==("__debug__":Str))=false:=by decide) (he:bm (e::es) X.env=(false,eval e X.env)::bm es X.env:=by rfl) (hpl:(backTo pos (bm es X.env)).any (·.1)=false:=by rfl):
  PE X (.Call (.Name x p) (e::es) [] pos) (yS C sp dvs E t):=by
 intro Y s U H Q I h;refine bv (bI I hg hm ?_ hdb);refine W.callWith_K (h₀:=X.base) I.ok.mod.kin M.kp (aA (ha pos Y s U H _ I h) λus s1 ⟨vs,H1,I1,r,z,q⟩=>⟨I1.bV,?_⟩) he hpl;exact n8 M F hr hb hd hx (by rw[nil_append,<-r.length];exact Nat.le_of_lt (cx z)) I1 r q
structure FE (K:W.Frag) (C:Addr):Prop where
 mks:bX K C=true
 init:W.findIn K (.ref C) "__init__"=some (some (.builtin "ValueError.__init__"))
 kp:W.keepIn K (.ref C)=true
 cls:cM K C
abbrev Ca (C:Addr)(t:TA):TE:=λU H Q=>t U H λvs H1=>vs.length=1/\∀ x,H1 x=none->Q (.ref x) (upd H1 x (.exc C none [] true))
def uw {Q:VK}(M:FE X.K C)(I:Inv X Y U H s)(r:Vals vs us)(h1:vs.length=1)(h:∀ x,H x=none->Q (.ref x) (upd H x (.exc C none [] true))):
  wpAny (model X.prog X.w) X.A (call (.ref C) us) (EP X Y U Q) X.xe s:=by
 have hq:=h (s.heap.objs.size+1) (I.hok.fresh (Nat.le_succ _));have I2:=Inv.EC (C:=C) us I;obtain⟨u,rfl⟩:∃ u,us=[u]:=by
  have e:=r.length;rw[h1]at e
  match us,e with
  | [u],_=>exact⟨u,rfl⟩
 obtain⟨hh,g,d,tk,os⟩:=s;refine wpAny_call (Dy I.bV (by rw[sizeLine_eq];exact pc rfl) M.mks M.init (lz (C:=C) (dx:=none) (fs:=[]) (fr:=true) I2 az M.cls λs' J=>?_));exact⟨rfl,.ref _,_,J,rfl,hq⟩
def AQ (M:FE X.K C)(hg:Gl X x)(hm:X.mg x=some (.ref C))(ha:PA X (e::es) t)(hdb:(x ==("__debug__":Str))=false:=by decide) (he:bm (e::es) X.env=(false,eval e X.env)::bm es X.env:=by rfl) (hpl:(backTo pos (bm es X.env)).any (·.1)=false:=by rfl):
  PE X (.Call (.Name x p) (e::es) [] pos) (Ca C t):=by
 intro Y s U H Q I h;refine bv (bI I hg hm ?_ hdb);refine W.callWith_K (h₀:=X.base) I.ok.mod.kin M.kp (aA (ha pos Y s U H _ I h) λus s1 ⟨vs,H1,I1,r,z,q⟩=>⟨I1.bV,?_⟩) he hpl;exact uw M I1 r z q
structure MW (K:W.Frag) (B:Addr):Prop where
 ga:W.specialIn K (.ref B) "__getattribute__"=some (some (.builtin "type.__getattribute__"))
 rd:W.readsIn K B (.type "type")=true
 fi:W.findCls K (.ref B) (.type "type") "__init__"=some (.val (.builtin "ValueError.__init__"))
abbrev Ml (K:W.Frag)(t:TA):TE:=λU H Q=>t U H λvs H1=>∃ a C dx fs fr v,vs=[.ref a,v]/\H1 a=some (.exc C dx fs fr)/\cM K C/\Q .non H1
def HQ {B:Addr}{pl:Sem Bool}{np:Pos}(b:MW X.K B)(hg:Gl X x)(hm:X.mg x=some (.ref B))(ha:PA X (e::es) t)(hdb:(x ==("__debug__":Str))=false:=by decide)
  (hst:bm (e::es) X.env=(false,eval e X.env)::bm es X.env:=by rfl) (hpl:(backTo pos (bm es X.env)).any (·.1)=false:=by rfl)
  (ht:eval (.Call (.Attribute (.Name x np) "__init__" apos) (e::es) [] pos) X.env=(do
   let ov <-eval (.Name x np) X.env
   standAt apos.atName
   let(f,first) <-holding [ov] (getMethod ov "__init__" pl)
   callWith pos f first (backTo pos (bm (e::es) X.env)) (backToKw pos (keywordEach [] X.env))):=by rfl):
  PE X (.Call (.Attribute (.Name x np) "__init__" apos) (e::es) [] pos) (Ml X.K t):=by
 intro Y s U H Q I h;refine W.methodCall_KW (pl:=pl) (bI I hg hm ?_ hdb) ht;refine W.method_cls I.bV b.ga (W.cls_value I.bV b.rd b.fi (by decide+kernel) ?_);refine PyProof.Rows.callWith_builtin1 (aA (ha pos Y _ U H _ (I.tok _) h) λus s1 ⟨vs,H1,I1,r,a,C,dx,fs,fr,v,ev,ea,c,q⟩=>?_) hst hpl;subst ev;cases r with
 |cons r1 r2=>
  cases r2 with
  |cons r3 r4=>
   cases r4;cases r1;exact uj I1 ea c λs' J=>⟨.non,H1,J,rfl,q⟩
structure Nf (K:W.Frag) (C f:Addr):Prop where
 ga:W.specialIn K (.ref C) "__getattribute__"=some (some (.builtin "type.__getattribute__"))
 rd:W.readsIn K C (.type "type")=true
 fi:W.findCls K (.ref C) (.type "type") "__init__"=some (.val (.ref f))
 kp:W.keepIn K (.ref f)=true
end
section
open PySem.Builtin PySem.Builtin.ObjectAttr
variable {prog:Program}{w:World}{A:Around}{E:NH}{s:Shared}{K:W.Frag}{x C:Addr}{ox:Obj}{odo:Option Obj}
structure A5 (K:W.Frag) (C:Addr):Prop where
 ha:W.findIn K (.ref C) "__class__"=some (some (.builtin "object.__class__"))
 hn:W.specialIn K (.builtin "object.__class__") "__get__"=some (some (.builtin "getset_descriptor.__get__"))
 htk:W.takesIn K (.builtin "object.__class__")=some true
def DC {Q:Option Value->Shared->Prop}(X:K.In s.heap)(I:W.InstAt s.heap x ox C odo)(c:cM K C)(z:A5 K C)(hfo:W.findObj K C odo "__class__"=some (.bind (.builtin "getset_descriptor.__get__") (.builtin "object.__class__")))
  (h:Q (some (.ref C)) { s with toks:=s.toks+1 }):wpAny (model prog w) A (getAttr? (.ref x) "__class__") Q E s:=by
 obtain⟨hp,g,d,t,os⟩:=s;have L0:=I.type (M:=model prog w);have L1:=looks_findIn (M:=model prog w) X c.ga;have L2':=looks_findIn (M:=model prog w) X c.gn;have L3:=looks_find (M:=model prog w) X I hfo;have L4:Looks (model prog w) hp (isInstance (.ref x) (.type "BaseException")) true:=I.type.andThen (looks_mroIn X (c.sub (by decide+kernel)));unfold getAttr? getAttrBy? getAttrBy;refine ad (wpAny_mkText (ad (wpAny_attempt (bd (ad (L0.at (ad (L1.at ?_))))))));have e1:(Value.builtin "BaseException.__getattribute__" ==Value.builtin "object.__getattribute__")=false:=by decide+kernel
 dsimp only;rw[e1,Bool.and_false];show wpAny _ _ (getAttrByItsOwn _ _ _ _ _ _) _ _ _;unfold getAttrByItsOwn hookBefore;refine ad (L2'.at ?_);refine ad (wpAny_attempt (bd ?_));unfold callGetattribute;show wpAny _ _ (boundAndCalled _ _ _) _ _ _;unfold boundAndCalled;rw[PySem.F.attr_ValueError.ga.bind];refine ad (am (wpAny_call (codeAny_call_builtin PySem.F.attr_ValueError.ga.plain PySem.F.entry_bexc_ga ?_)));refine @check_slot (model prog w) _ _ _ "BaseException.__getattribute__" "BaseException" "__getattribute__" (.ref x) [.str "__class__" t] [] _ qT m8 L4 (PySem.F.args_bexc_ga (.ref x) (.str "__class__" t)) ?_;unfold Builtin.«object.__getattribute__»;refine ad (am (ad (am (ad (L0.at (ad (L3.at ?_)))))));show wpAny _ _ (holding [_] (call _ [_,.ref x,.ref C]) >>= ret) _ _ _;refine ad (bd (wpAny_call (class_get (s:=⟨hp,g,d,t+1,os⟩) (ox:=ox) (od:=odo) X I (c.sub (by decide+kernel)) ?_)));refine am ?_;show wpAny _ _ (handedOut (.ref C)) _ _ _;exact handed_on rfl (am h)
def zy (c:cM K C)(z:A5 K C):W.findObj K C odo "__class__"=some (.bind (.builtin "getset_descriptor.__get__") (.builtin "object.__class__")):=by
 obtain⟨cd,hc,_⟩:=W.any_some c.hd;unfold W.findObj;rw[hc,Option.bind_some,z.ha,Option.bind_some];simp[z.hn,z.htk]
def Bb (c:cM K C)(z:A5 K C):W.KitX K (.ref x) (.ref C) (λh=>W.InstAt h x ox C odo) where
 ty:=λ_ _ _ I=>I.type
 it:=λ_ _ X _=>by
  obtain⟨cdD,hcD,_⟩:=W.any_some c.hd;unfold W.clsIn at hcD
  split at hcD
  .rename_i c' d' cd' sl' ho;intro A' Q' E' s' k q;unfold isType loadHead;exact ad (wpAny_loadPart (k _ _ (X _ _ ho)) (am q))
  .cases hcD
 ne:=λh tp dd its n sl X htp=>by
  obtain⟨cdD,hcD,_⟩:=W.any_some c.hd;refine Bool.eq_false_iff.mpr λq=>?_
  have e:C=tp:=Value.ref.inj (beq_iff_eq.mp q);subst e;unfold W.clsIn at hcD
  split at hcD
  .rename_i c' d' cd' sl' ho;have z:=(X _ _ ho).symm.trans htp;cases z
  .cases hcD
 ca:=λX I k=>DC X I c z (zy c z) k
end
section
variable {X:Cx}{Y:NI}{U:St}{H:Hp}{s:Shared}{a C:Addr}{dx:Option Addr}{fs:List (Str×V)}{fr:Bool}
def yi (I:Inv X Y U H s)(e:H a=some (.exc C dx fs fr)):∃ ox odo,W.InstAt s.heap a ox C odo:=by
 obtain⟨⟨vs,ho,_⟩,z⟩:=id (I.hok a _ e);rcases z with⟨rfl,_⟩|⟨d,rfl,_,_,_,mA,⟨od,es,ep,hod,_⟩,_⟩
 .exact⟨_,none,ho,rfl,rfl,True.intro⟩
 .exact⟨_,some od,ho,rfl,rfl,hod⟩
def zQ {E:NH}{Q:NH}{cv:Value}{b:Bool}(I:Inv X Y U H s)(e:H a=some (.exc C dx fs fr))(c:cM X.K C)(z:A5 X.K C)(k:W.kitOne X.K (.ref C) cv=some b)
  (h:∀ tk,Q (.bool b) { s with toks:=tk }):wpAny (model X.prog X.w) A (call (.builtin "isinstance") [.ref a,cv]) Q E s:=by
 obtain⟨ox,odo,J⟩:=yi I e;exact W.kia_one (Bb (ox:=ox) (odo:=odo) c z) I.bV J k (λz=>nomatch z) h
end
end L2
namespace L2
open PySem PySem.Spec PySem.W PyProof.Rows
variable {dx:Option Addr}
section
variable {X:Cx}{f:Str}{o value ex:Expr}{ta tv te:TE}{pos pos':Pos}{E:St->XK}
def uA {h:Heap}{a:Addr}{C:Addr}{vs:Array Value}{M:Model}(ho:h.get? a=some { cls:=.ref C,dict:=dx,data:=.fields vs }):W.Looks M h (isType (.ref a)) false:=by
 intro A Q E s k q;unfold isType loadHead;exact ad (wpAny_loadPart (k _ _ ho) (am q))
abbrev Ga (K:W.Frag)(E:St->XK)(te:TE):TS:=λD U H=>te U H λv H1=>∃ a C dx fs,v=.ref a/\H1 a=some (.exc C dx fs true)/\cM K C/\E U a (upd H1 a (.exc C dx fs false))
def Bd (hx:Ih X E)(hc:X.calm=true)(he:PE X ex te):PS X (.Raise (some ex) none pos) (Ga X.K E te):=by
 intro Y s U H D I h;rw[arm_exec_Raise];simp only[evalOpt,Option.map];refine ad (wpAny_standAt ?_);unfold raiseStmt;refine ad (ad (aA (he Y s U H _ I h) λu s1 ⟨y,H1,I1,ry,a,C,dx,fs,ey,ea,c,q⟩=>ad (wpAny_standAt (am ?_))));subst ey;obtain rfl:u=Value.ref a:=ry;obtain⟨⟨vs,ho,hsz,h1⟩,z⟩:=id (I1.hok a _ ea);have h1':=h1 rfl;have hq:X.xe (.ref a) s1:=by
  have J:Inv X [] U (upd H1 a (.exc C dx fs false)) s1:=by
   have J1:=I1.yw.write (x:=a) (e:=a) (o:=.exc C dx fs false) (t':=s1.toks) (h':=s1.heap) (by rw[ea];exact True.intro) (.inl rfl) (λ_ _ _ q=>q) ⟨_,ho⟩ ?_
   .exact J1
   .refine⟨⟨vs,ho,hsz,λy=>by cases y⟩,?_⟩;rcases z with z|⟨d,ed,d1,z1,ne,r⟩
    .exact .inl z
    .exact .inr ⟨d,ed,by rw[ah ne];exact d1,z1,ne,r⟩
  exact hx U _ s1 a C dx fs J (.inl ⟨_,vs,ho,rfl,h1'⟩) az q
 obtain⟨hp,g,d,tk,os⟩:=s1;have L0:Looks (model X.prog X.w) hp (typeOf (.ref a)) (.ref C):=(Looks.ld ho).andThen .now;have L1:Looks (model X.prog X.w) hp (isType (.ref a)) false:=uA ho;have L2':Looks (model X.prog X.w) hp (isInstance (.ref a) (.type "BaseException")) true:=L0.andThen (looks_mroIn I1.bV (c.sub (by decide+kernel)));have L5:Looks (model X.prog X.w) hp (typeOf (.ref C)) (.type "type"):=looks_typeIn I1.bV c.mt;have tt:(Value.type "type" ==Value.type "type")=true:=by decide
 repeat(first|simp only[Bool.false_eq_true,if_false,if_true,tt]|lk)
 rw[h1'];refine am ?_;rw[if_neg (by decide)];exact am (wpAny_raiseNew_none (I1.ok.hd hc) hq)
end
@[reducible]def Cx.bF (X:Cx) (e:Value):Cx:={ X with A:=X.A.mark (some e),calm:=false,xe:=λ_ _=>False }
variable {xe:NH}{ps:NI}{D:Ends}
section
variable {X:Cx}{Y:NI}{U:St}{H:Hp}{s:Shared}
def Cx.Ok.bF (ok:X.Ok)(e:Value):(X.bF e).Ok:=
 ⟨ok.mod,ok.kind,ok.glob,ok.blt,ok.above,ok.inj,ok.has,ok.cab,(λz=>by cases z),ok.frames,ok.stk,ok.exf,ok.bs,ok.bsz,ok.noex,ok.exfs,ok.j9,ok.frf⟩
def Inv.bF (I:Inv X Y U H s)(e:Value):Inv (X.bF e) Y U H s:=⟨I.ok.bF e,I.os,I.bare,I.base,I.loc,I.cell,I.free,I.freeC,I.pin,I.hok,I.len⟩
def Inv.kC {e:Value}(ok:X.Ok)(I:Inv (X.bF e) Y U H s):Inv X Y U H s:=⟨ok,I.os,I.bare,I.base,I.loc,I.cell,I.free,I.freeC,I.pin,I.hok,I.len⟩
def fj {M:Model}{A:Around}{E:NH}{Q:NG}{i:Nat}{n:Str}{pos:Pos}(I:Inv X Y U H s)(hN:X.N.Nodup)(hi:X.N[i]? =some n)(hn:X.env.scope.names.lookup n=some .local)
  (h:∀ s',Inv X Y (U.set i none) H s'->Q () s'):wpAny M A (do bindName X.env n .none;unbindBehindTheSuite X.env n pos) Q E s:=by
 have hcls:(X.env.scope.kind ==.class||(X.env.scope.kind ==.module&&X.env.locals != X.env.globals))=false:=by rw[I.ok.kind];rfl
 refine ad (wpAny_bindName (bc I hN hi (.inl hn) (v:=.non) rfl (λs1 I1=>?_) (.inr hn)));obtain⟨m,hm,hl⟩:=I1.loc;unfold unbindBehindTheSuite;refine wpAny_onRaise ?_;unfold unbindName;refine ad (wpAny_point (ad ?_));unfold deleteName;have hk:X.env.kindOf n=some .local:=hn;have hiσ:i<U.length:=by rw[I.len];exact(tz.mp hi).1
 have hmn:(m n).isSome=true:=by
  obtain⟨u,_,l⟩:=hl i n .non hi (by rw[getElem?_set_self hiσ]) (.inl hn);rcases l with⟨_,q⟩|⟨q,_⟩
  .rw[q];rfl
  .rcases q with q|q<;>(rw[hk]at q;cases q)
 simp only[hk,hcls];rw[if_neg (by decide)];refine ad (wpAny_nsDel_keeps hm λh2 v hn2 hs2=>?_);rw[hmn];simp only[if_true,Bool.not_true,Bool.false_eq_true,if_false];refine am (wpAny_point (h { s1 with heap:=h2 } ?_));obtain⟨oL,esL,epL,hoL,_⟩:=id hm;have Ap:=I1.Ap;refine⟨I1.ok,I1.os,I1.bare,⟨λb o e n hb hx=>?_,λb o e n hb hx=>?_,I1.base.free,λb o e hx=>?_,I1.base.tups,I1.base.frzs,I1.base.tbls⟩,⟨_,hn2,λj y v' e1 e2 e3=>?_⟩,λy c e=>?_,I1.free,I1.freeC,λp hp=>?_,λa u ha=>?_,by rw[length_set];exact I.len⟩
 .exact(hs2.2 b (pi (ol (ut e) I1.ok.above))).trans (I1.base.keep b o e n hb hx)
 .obtain⟨sl,q⟩:=I1.base.slot b o e n hb hx;exact⟨sl,(hs2.2 b (pi (ol (ut e) I1.ok.above))).trans q⟩
 .obtain⟨o',q⟩:=I1.base.there b o e hx;exact⟨o',(hs2.2 b (pi (ol (ut e) I1.ok.above))).trans q⟩
 .have hj:j≠i:=λz=>by rw[z,getElem?_set_self hiσ]at e2;cases e2
  rw[getElem?_set_ne (Ne.symm hj)]at e2;obtain⟨u,r,q⟩:=hl j y v' e1 (by rw[getElem?_set_ne (Ne.symm hj)];exact e2) e3;refine⟨u,r,?_⟩;rcases q with⟨k,e⟩|⟨k,c,e,z⟩
  .refine .inl ⟨k,?_⟩;have ny:y≠n:=λz=>hj (lO hN e1 (z▸hi))
   show(if y=n then v else m y)=some u;rw[if_neg ny];exact e
  .exact .inr ⟨k,c,e,z.sameBut hs2 (Ap y c e)⟩
 .obtain⟨w',z⟩:=I1.cell y c e;exact⟨w',z.sameBut hs2 (Ap y c e)⟩
 .obtain⟨e,n,ne,nf,d⟩:=I1.pin p hp;exact⟨(hs2.2 p.1 ne).trans e,n,ne,nf,d⟩
 .refine(I1.hok a u ha).j4 (λb o hb hq=>(hs2.2 b ?_).trans hq) (λ_ q=>q) λ_ _ q=>q
  rintro rfl;rcases hb with hb|hb
  .rw[<-hb,I1.free]at ha;cases ha
  .rw[I1.free]at hb;cases hb
@[reducible]def Cx.gf (X:Cx) (Y:NI) (xe:NH):Cx:={ X with pn:=X.pn++Y,xe:=xe }
def Cx.Ok.gf (ok:X.Ok)(Y:NI)(xe:NH):(X.gf Y xe).Ok:=
 ⟨ok.mod,ok.kind,ok.glob,ok.blt,ok.above,ok.inj,ok.has,ok.cab,ok.hd,ok.frames,ok.stk,ok.exf,ok.bs,ok.bsz,ok.noex,ok.exfs,ok.j9,ok.frf⟩
def Inv.gf (I:Inv X Y U H s)(xe:NH):Inv (X.gf Y xe) [] U H s:=
 ⟨I.ok.gf Y xe,I.os,I.bare,I.base,I.loc,I.cell,I.free,I.freeC,λp hp=>I.pin p (by simpa using hp),I.hok,I.len⟩
def Inv.gj (ok:X.Ok)(I:Inv (X.gf Y xe) ps U H s):Inv X Y U H s:=
 ⟨ok,I.os,I.bare,I.base,I.loc,I.cell,I.free,I.freeC,λp hp=>I.pin p (mem_append_left _ hp),I.hok,I.len⟩
def SP.gj {f:Flow}(ok:X.Ok)(h:SP (X.gf Y xe) ps D f s):SP X Y D f s:=by
 cases f with
 |next=>obtain⟨σ',H',I,q⟩:=h;exact⟨σ',H',I.gj ok,q⟩
 |brk=>obtain⟨σ',H',I,q⟩:=h;exact⟨σ',H',I.gj ok,q⟩
 |cont=>obtain⟨σ',H',I,q⟩:=h;exact⟨σ',H',I.gj ok,q⟩
 |ret u=>obtain⟨v,σ',H',I,r,q⟩:=h;exact⟨v,σ',H',I.gj ok,r,q⟩
def FA {body:List Stmt}{h0:ExceptHandler}{hs:List ExceptHandler}{pos:Pos}{E':St->XK}(I:Inv X Y U H s)(hstk:X.stack=X.env::X.outer)(hfr:X.env.frame=some X.env.locals)
  (hb:∀ xe,Ih (X.gf Y xe) E'->PassesOwn (model X.prog X.w) X.A X.env xe->wpAny (model X.prog X.w) X.A (execs body X.env) (SP (X.gf Y xe) [] D) xe s)
  (hh:∀ (U:St) (H:Hp) (s:Shared) (e C:Addr) (dx:Option Addr) (fs:List (Str×V)) (T:Addr),Inv X Y U H s->H e=some (.exc C dx fs false)->X.s₀.heap.objs.size<=T->H T=none->(∀ p ∈ X.pn++Y,p.1≠T)->BB s.heap e T .none->E' U e H->
   wpAny (model X.prog X.w) X.A (handleBy (.ref e) X.env (h0::hs)) (SP X Y D) X.xe s):
  wpAny (model X.prog X.w) X.A (exec (.Try body (h0::hs) [] [] pos) X.env) (SP X Y D) X.xe s:=by
 refine wpAny_Try_except (wpAny_mono (hb (λu s1=>wpAny (model X.prog X.w) X.A (noteFrame u X.env) (λ_ s2=>wpAny (model X.prog X.w) X.A (setFlight u none) (λ_ s3=>wpAny (model X.prog X.w) X.A (handleBy u X.env (h0::hs)) (SP X Y D) X.xe s3) X.xe s2) X.xe s1) ?_ PassesOwn.looking) (λf s1 h1=>?_) λ_ _ z=>z)
 .intro σ' H' s' e C dx fs J sf he q;exact nu (X:=X.gf Y _) J hstk hfr sf he λs2 T J2 _ hT hH hp st=>hh σ' H' s2 e C dx fs T (J2.gj I.ok) he hT hH hp st q
 .have h2:=SP.gj I.ok h1;cases f with
  |next=>exact wpAny_execs_nil h2
  |brk=>exact h2
  |cont=>exact h2
  |ret u=>exact h2
def rj {n x:Str}{np hpos:Pos}{b0:Stmt}{bF:List Stmt}{rest:List ExceptHandler}{i:Nat}{e C Ch T:Addr}{fs:List (Str×V)}{b:Bool}(I:Inv X Y U H s)(he:H e=some (.exc C dx fs false))
  (hT:X.s₀.heap.objs.size<=T) (hH:H T=none) (hp:∀ p ∈ X.pn++Y,p.1≠T) (st:BB s.heap e T .none) (c:cM X.K C) (ch:cM X.K Ch) (hsub:W.mroIn X.K C (.ref Ch)=some b) (hg:Gl X x) (hm:X.mg x=some (.ref Ch))
  (hN:X.N.Nodup) (hi:X.N[i]? =some n) (hn:X.env.scope.names.lookup n=some .local) (hdb:(x ==("__debug__":Str))=false)
  (yes:b=true->∀ s2,Inv (X.bF (.ref e)) Y (U.set i (some (.ref e))) H s2->wpAny (model X.prog X.w) (X.A.mark (some (.ref e))) (execs (b0::bF) X.env)
   (SP (X.bF (.ref e)) Y { nx:=λσ' H'=>D.nx (σ'.set i none) H',rt:=D.rt,bk:=λσ' H'=>D.bk (σ'.set i none) H',ct:=λσ' H'=>D.ct (σ'.set i none) H' }) (λ_ _=>False) s2)
  (no:b=false->wpAny (model X.prog X.w) X.A (handleBy (.ref e) X.env rest) (SP X Y D) X.xe s):
  wpAny (model X.prog X.w) X.A (handleBy (.ref e) X.env (.ExceptHandler (some (.Name x np)) (some n) (b0::bF) hpos::rest)) (SP X Y D) X.xe s:=by
 have I':=I.bF (.ref e);refine wpAny_handleBy_cons (codeAny_handlers_test (bI (X:=X.bF (.ref e)) I' hg hm ?_ hdb)) (by intro q;cases q);obtain⟨⟨vs,ho,hsz,h1⟩,z⟩:=id (I.hok e _ he);have L0:Looks (model X.prog X.w) s.heap (typeOf (.ref e)) (.ref C):=(Looks.ld ho).andThen .now;have L1:Looks (model X.prog X.w) s.heap (typeOf (.ref Ch)) (.type "type"):=looks_typeIn I.bV ch.mt;have L2':Looks (model X.prog X.w) s.heap (isInstance (.ref Ch) (.type "tuple")) false:=L1.andThen (Looks.of_pure tc_notTuple);have L3:Looks (model X.prog X.w) s.heap (isType (.ref Ch)) true:=by
  obtain⟨cd,rs,hcl,_⟩:=ch.mro;unfold W.clsIn at hcl
  split at hcl
  .rename_i ho';intro A' Q' E' s' k q;unfold isType loadHead;exact ad (wpAny_loadPart (k _ _ (I.bV _ _ ho')) (am q))
  .cases hcl
 have L4:Looks (model X.prog X.w) s.heap (isSubtype (.ref Ch) (.type "BaseException")) true:=looks_mroIn I.bV (ch.sub (by decide+kernel));have L5:Looks (model X.prog X.w) s.heap (isSubtype (.ref C) (.ref Ch)) b:=looks_mroIn I.bV hsub;have L6:Looks (model X.prog X.w) s.heap (isExcClass (.ref Ch)) true:=by
  unfold isExcClass;exact L3.andThen L4
 unfold excMatches;refine ad (L2'.here ?_);rw[if_neg (by decide)];refine ad (am ?_);simp only[forIn_cons,forIn_nil];refine ad (ad (ad (L6.here ?_)));rw[if_neg (by decide)];refine am ?_;refine am ?_;refine ad (L0.here ?_);refine ad (ad (ad (L5.here ?_)));cases b with
 |false=>
  rw[if_neg (by decide)];refine am ?_;refine am ?_;refine am ?_;exact no rfl
 |true=>
  rw[if_pos rfl];refine am ?_;refine am ?_;refine am ?_;refine codeAny_handlers_suite_as (v8 st λh2 qm oth _ th2 _=>?_);have I2:Inv X Y U H { s with heap:=h2 }:=by
   refine Inv.turned (it:=T) (h':=h2) (t':=s.toks) I (λb o hb hq=>(oth b hb).trans hq) hH ?_ (.inr hT) (λy cc hc z=>?_) hp
   .intro z;obtain⟨m,⟨o,es,ep,ho',hd,_⟩,_⟩:=I.loc;obtain⟨_,_,oT,ts,_,_,_,_,hT2,hd2,_⟩:=st;rw[z,ho']at hT2;cases hT2;rw[hd]at hd2;cases hd2
   .obtain⟨v,o,ho',hd⟩:=I.cell y cc hc;obtain⟨_,_,oT,ts,_,_,_,_,hT2,hd2,_⟩:=st;rw[<-z,ho']at hT2;cases hT2;rw[hd]at hd2;cases hd2
  refine bc (X:=X.bF (.ref e)) (I2.bF (.ref e)) hN hi (.inl hn) (v:=.ref e) rfl (λs3 I3=>?_) (.inr hn);refine wpAny_mono (yes rfl s3 I3) (λf s4 h4=>?_) λ_ _ z=>z.elim
  cases f with
  |next=>
   obtain⟨σ',H',J,q⟩:=h4;exact fj (J.kC I.ok) hN hi hn λs5 J5=>⟨_,H',J5,q⟩
  |brk=>
   obtain⟨σ',H',J,q⟩:=h4;exact fj (J.kC I.ok) hN hi hn λs5 J5=>⟨_,H',J5,q⟩
  |cont=>
   obtain⟨σ',H',J,q⟩:=h4;exact fj (J.kC I.ok) hN hi hn λs5 J5=>⟨_,H',J5,q⟩
  |ret u=>
   obtain⟨v,σ',H',J,r,q⟩:=h4;exact fj (J.kC I.ok) hN hi hn λs5 J5=>⟨v,_,H',J5,r,q⟩
end
end L2
namespace L2
open PySem PySem.Spec PyProof.Rows
def Hi:bootBuiltins "isinstance"=some (.builtin "isinstance"):=by decide+kernel
section
variable {X:Cx}
abbrev IX (K:W.Frag):V->V->Hp->VK->Prop:=λx y H Q=>∃ p xs i v,x=.ref p/\y=.int i/\aS K H p xs/\0<=i/\xs[i.toNat]? =some v/\Q v H
def zV:Fs X (IX X.K):=by
 intro Y s U H o i ov iv Q I ro ri h;obtain⟨p,xs,k,z,rfl,rfl,hq,h0,he,q⟩:=h;cases ro;obtain⟨t,rfl⟩:=ri;obtain⟨its,r,pl,hz⟩:=I.list hq;obtain⟨w,ew,rw'⟩:=r.get he;have hl:k.toNat<xs.length:=(tz.mp he).1;have hn:=fU;exact wpAny_getItem_list pl.isList h0 nofun (by simpa using ew) ⟨z,H,I,rw',q⟩
def kA {xs:List V}{us:List Value}(r:Vals xs us){j:Nat}(h:j<us.toArray.size):∃ x,xs[j]? =some x/\RelV x (us.toArray[j]):=by
 have hl:=r.length;have hj:j<us.length:=by simpa using h
 have e:xs[j]? =some xs[j]:=li nofun;obtain⟨u,h1,h2⟩:=r.get e;refine⟨_,e,?_⟩;rw[li hj]at h1;cases h1;simpa using h2
end
section
variable {U:St}{H:Hp}{Q:VK}{D:Ends}{K:W.Frag}
abbrev sV (x:V)(H:Hp)(R:Bool->Hp->Prop):Prop:=∃ k,x=.bl k/\R k H
def kE {α:Type}{xs:List α}{i:Int}(h0:0<=i)(h1:i<xs.length):∃ v,lH xs i=some v/\v ∈ xs:=by
 obtain⟨n,rfl⟩:=sw h0;have hn:n<xs.length:=by omega
 exact⟨xs[n],pX (li hn),getElem_mem hn⟩
end
section
variable {K:W.Frag}{g:TG}{tb:TS}{D:Ends}{U:St}{H:Hp}{tl:TE}{ta:TA}
end
def fits {n:Nat}(h:n<=1000):n<=bn:=Nat.le_of_lt (cx h)
section
variable {X:Cx}{H:Hp}{Q:VK}
end
section
variable {K:W.Frag}
end
section
variable {H H':Hp}{h c p:Addr}{m n:Int}{o:HO}
end
def Jr (ns:List Int)(h:ns.length<=63):dQ (ns.map V.int) none (some 63)=ns.map V.int:=by
 have e1:HT.rq (ns.map V.int).length 0 none=0:=rfl;have e2:HT.rq (ns.map V.int).length (ns.map V.int).length (some 63)=(ns.map V.int).length:=by
  show(if(63:Int)<0 then((63:Int)+((ns.map V.int).length:Int)).toNat else min (63:Int).toNat (ns.map V.int).length)=(ns.map V.int).length;rw[if_neg (by decide),ce];show min 63 ns.length=ns.length
  omega
 unfold dQ;rw[e1,e2,drop_zero,Nat.sub_zero,take_length]
variable {ns:List Int}
def tm {i:Nat}{x:V}(h:(ns.map V.int)[i]? =some x):∃ z,x=V.int z:=by
 rw[io]at h;cases e:ns[i]? with
 |none=>rw[e]at h;cases h
 |some z=>rw[e]at h;exact⟨z,(Option.some.inj h).symm⟩
def yz {i:Int}(h0:0<=i)(h1:i<ns.length):∃ z,lH (ns.map V.int) i=some (.int z):=by
 obtain⟨v,a,m⟩:=kE (xs:=ns.map V.int) h0 (by rw[ce];exact h1);obtain⟨z,_,rfl⟩:=List.mem_map.mp m;exact⟨z,a⟩
section
variable {H:Hp}{Q:VK}
end
section
variable {X:Cx}
end
variable {A:Around}{E:NH}{s:Shared}
def Ew {α:Type}{t:Sem α}{Q Q':α->Shared->Prop}{M:Model}(h:wpAny M A t Q (λ_ _=>False) s) (hQ:∀ a s,Q a s->Q' a s):wpAny M A t Q' E s:=wpAny_mono h hQ λ_ _ x=>x.elim
abbrev fQ (X:Cx)(scope:Scope)(cl:List (Str×Addr))(N:List Str)(s:Shared)(H:Hp)(fp:List Addr):Cx:=
 { X with N:=N,s₀:=s,H₀:=H,env:=compEnvC scope cl s.heap.objs.size X.env,outer:=X.stack,stack:=X.stack,ex:=fp,fn:=λ_=>false,pn:=[],xe:=λ_ _=>False }
structure bA (X:Cx) (scope:Scope) (cl:List (Str×Addr)) (xs:List Str) (fr:List Str) (sel:List Nat):Prop where
 clos:closureFor scope X.env=pure cl
 sub:∀ y c,cl.lookup y=some c->X.env.cells.lookup y=some c
 has:∀ y,((relabel scope X.env).names.lookup y=some .cell\/(relabel scope X.env).names.lookup y=some .free)->∃ c,cl.lookup y=some c
 kind:scope.kind=.function
 nocell:∀ y ∈ scope.names,y.2≠.cell
 names:∀ y ∈ scope.names,y.2=.local->scope.names.lookup y.1=some .local
 own:∀ x ∈ xs,scope.names.lookup x=some .local
 len:sel.length=fr.length
 out:∀ (j:Nat) (y:Str),fr[j]? =some y->∃ i,sel[j]? =some i/\X.N[i]? =some y/\X.env.scope.names.lookup y=some .cell/\(relabel scope X.env).names.lookup y=some .cell
 nd:(xs++fr).Nodup
abbrev fw (U:St)(sel:List Nat):St:=sel.map λi=>U.getD i none
abbrev LC (te:TE)(J:It)(σ₀:St)(H1:Hp)(Q:VK):Prop:=∀ D,H1 D=none->∃ W:Nat->Nat->St->Hp->Prop,(∃ m,W 0 m σ₀ (upd H1 D (.lst [])))/\∀ i m σ' H',W i m σ' H'->
 (J.stop i H'/\Q (.ref D) H')\/(J.go i H'/\∃ N:St->Hp->Prop,(∀ σ2 H2,N σ2 H2->∃ m',m'<m/\W (i+1) m' σ2 H2)/\
  ∀ x H'',J.yld i H' x H''->te (σ'.set 0 (some x)) H'' λv H3=>∃ zs,H3 D=some (.lst zs)/\zs.length<bn/\N (σ'.set 0 (some x)) (upd H3 D (.lst (zs++[v]))))
abbrev gate (env:Env):List Expr->Sem Bool
 | []=>pure true
 |c::_=>isTrue c env (eval c env)
variable {ifs:List Expr}{scope:Scope}{pos:Pos}
def vX {M:Model}{elt target iter:Expr}{it acc:Value}{env:Env}{Q:PySem.Fin->Shared->Prop}(hi:ifs.length<=1)
  (h:wpAny M A (pyNext it) (λr s1=>match r with
   |none=>Q (.done .next) s1
   |some v=>wpAny M A (letOwnedTupleGo target it v) (λ_ s2=>wpAny M A (assign target env v) (λ_ s3=>wpAny M A (gate env ifs) (λok s4=>
    (ok=true->wpAny M A (eval elt env) (λx s5=>wpAny M A (call (.builtin "list.append") [acc,x]) (λ_ s6=>wpAny M A (again (.compLoop (.ListComp elt [⟨target,iter,ifs,0⟩] scope pos) 0 it acc env)) Q E s6) E s5) E s4)/\
    (ok=false->wpAny M A (again (.compLoop (.ListComp elt [⟨target,iter,ifs,0⟩] scope pos) 0 it acc env)) Q E s4)) E s3) E s2) E s1) E s):
  wpAny M A (compTurn (.ListComp elt [⟨target,iter,ifs,0⟩] scope pos) 0 it acc env) Q E s:=by
 have key:∀ {g:Sem Bool}{K:Sem PySem.Fin}{s:Shared},wpAny M A g (λok s4=>
    (ok=true->wpAny M A (eval elt env) (λx s5=>wpAny M A (call (.builtin "list.append") [acc,x]) (λ_ s6=>wpAny M A K Q E s6) E s5) E s4)/\
    (ok=false->wpAny M A K Q E s4)) E s->wpAny M A (g >>= λok=>if ok=true then(eval elt env >>= λx=>call (.builtin "list.append") [acc,x] >>= λ_=>pure ()) >>= λ_=>K else K) Q E s:=λ{g K s} h=>by
  refine ad (wpAny_mono h (λok s4 h4=>?_) λ_ _ e=>e);cases ok with
  |false=>exact h4.2 rfl
  |true=>exact ad (ad (wpAny_mono (h4.1 rfl) (λx s5 h5=>ad (wpAny_mono h5 (λ_ s6 h6=>am h6) λ_ _ e=>e)) λ_ _ e=>e))
 match ifs,hi with
 | [],_=>
  rw[compTurn_list1];refine ad (wpAny_standAt (ad (wpAny_mono h (λr s1 h1=>?_) λ_ _ e=>e)));cases r with
  |none=>exact am h1
  |some v=>
   refine ad (wpAny_mono h1 (λ_ s2 h2=>ad (wpAny_mono h2 (λ_ s3 h3=>?_) λ_ _ e=>e)) λ_ _ e=>e);exact key (g:=pure true) h3
 | [c],_=>
  unfold compTurn;simp only[List.getElem?_cons_zero,List.getElem?_cons_succ,List.getElem?_nil];dsimp only[forIn,List.forIn',List.forIn'.loop,forIn'];rw[if_neg (by decide),if_neg (by decide)];refine ad (wpAny_standAt (ad (wpAny_mono h (λr s1 h1=>?_) λ_ _ e=>e)));cases r with
  |none=>exact am h1
  |some v=>
   refine ad (wpAny_mono h1 (λ_ s2 h2=>ad (wpAny_mono h2 (λ_ s3 h3=>?_) λ_ _ e=>e)) λ_ _ e=>e);refine key ?_;rw[if_pos rfl];refine ad (ad (wpAny_mono h3 (λok s4 h4=>am ?_) λ_ _ e=>e));exact am h4
abbrev LCg (tg:TG)(tc:TT)(te:TE)(J:It)(σ₀:St)(H1:Hp)(Q:VK):Prop:=∀ D,H1 D=none->∃ W:Nat->Nat->St->Hp->Prop,(∃ m,W 0 m σ₀ (upd H1 D (.lst [])))/\∀ i m σ' H',W i m σ' H'->
 (J.stop i H'/\Q (.ref D) H')\/(J.go i H'/\∃ N:St->Hp->Prop,(∀ σ2 H2,N σ2 H2->∃ m',m'<m/\W (i+1) m' σ2 H2)/\
  ∀ x H'',J.yld i H' x H''->tg x σ' H'' λσ2 H2=>tc σ2 H2 λb H3=>(b=true->te σ2 H3 λv H4=>∃ zs,H4 D=some (.lst zs)/\zs.length<bn/\N σ2 (upd H4 D (.lst (zs++[v]))))/\(b=false->N σ2 H3))
abbrev yes:TT:=λ_ H Q=>Q true H
variable {te:TE}
def LC.g {J:It}{σ₀:St}{H1:Hp}{Q:VK}(h:LC te J σ₀ H1 Q):LCg (gH 0) yes te J σ₀ H1 Q:=λD hD=>by
 obtain⟨W,w0,turn⟩:=h D hD;refine⟨W,w0,λi m σ' H' w=>?_⟩;rcases turn i m σ' H' w with z|⟨go,N,hN,step⟩
 .exact .inl z
 .exact .inr ⟨go,N,hN,λx H'' y=>⟨λ_=>step x H'' y,λe=>nomatch e⟩⟩
abbrev K5 (X:Cx)(ifs:List Expr)(tc:TT):Prop:=ifs.length<=1/\∀ (Y:NI) (s:Shared) (U:St) (H:Hp) (Q:Bool->Hp->Prop),Inv X Y U H s->tc U H Q->wpAny (model X.prog X.w) X.A (gate X.env ifs) (TP X Y U Q) X.xe s
variable {X:Cx}
def kh:K5 X [] yes:=⟨Nat.zero_le _,λY s U H Q I q=>am ⟨H,I,q⟩⟩
def vE {c:Expr}{tc:TT}(h:PT X c tc):K5 X [c] tc:=⟨re _,h⟩
abbrev sv (xs:List Str):St:=xs.map λ_=>none
abbrev MB (wi:TI)(te:TE)(sel:List Nat):TE:=λU H Q=>wi U H λJ H1=>LC te J (none::fw U sel) H1 Q
abbrev Jy (wi:TI)(tg:TG)(tc:TT)(te:TE)(xs:List Str)(sel:List Nat):TE:=λU H Q=>wi U H λJ H1=>LCg tg tc te J (sv xs++fw U sel) H1 Q
variable {cl:List (Str×Addr)}{xs fr:List Str}{sel:List Nat}{fp:List Addr}
section
variable {X:Cx}
def Un.sameBut {fs ex:List Addr}{H H':Hp}{h h1 h2:Heap}{C:Addr}(u:Un fs ex H H' h h1)(hs:Heap.SameBut C h1 h2)(hC:h.objs.size<=C):Un fs ex H H' h h2:=by
 have ne:∀ b o,h.get? b=some o->b≠C:=λb o e=>pi (ol (ut e) hC)
 refine⟨λb o e n hb hx=>(hs.2 b (ne b o e)).trans (u.keep b o e n hb hx),λb o e n hb hx=>?_,u.free,λb o e hx=>?_,u.tups,u.frzs,u.tbls⟩
 .obtain⟨sl,q⟩:=u.slot b o e n hb hx;exact⟨sl,(hs.2 b (ne b o e)).trans q⟩
 .obtain⟨o',q⟩:=u.there b o e hx;exact⟨o',(hs.2 b (ne b o e)).trans q⟩
def qS {Y:NI}{U:St}{H:Hp}{h':Heap}{tk:Nat}{m':NJ}
  (S:bA X scope cl xs fr sel) (I:Inv X Y U H s) (f2:∀ b ∈ fp,iP X Y H b) (fo:∀ b ∈ fp,b<s.heap.objs.size) (hns:h'.Ns s.heap.objs.size m') (keep:∀ b o,s.heap.get? b=some o->h'.get? b=some o):
  Inv (fQ X scope cl (xs++fr) s H fp) (X.pn++Y) (sv xs++fw U sel) H { s with heap:=h',toks:=tk }:=by
 have stk:∀ b,b≠X.env.locals->b ∉ X.fs->b ∉ qe X.stack:=λb h1 h2 hb=>(nb.mp (I.iZ b hb)).elim h1 h2
 refine⟨⟨I.ok.mod,S.kind,I.ok.glob,I.ok.blt,re _,λy z c h1 h2=>I.ok.inj y z c (S.sub y c h1) (S.sub z c h2),λy hy=>S.has y hy,(λy c h=>nomatch h),I.ok.hd,I.ok.frames,.inl rfl,λb hb=>⟨pi (fo b hb),λy c h=>(f2 b hb).2.2.2.2.1 y c (S.sub y c h)⟩,I.bs,
  Nat.le_trans I.ok.bsz I.sz,λb o e hb=>?_,λb hb=>stk b (f2 b hb).2.1 (f2 b hb).2.2.1,I.stack,I.qb⟩,
  rfl,I.bare,Un.kept keep,⟨m',hns,λi y v e1 e2 e3=>?_⟩,λy c h=>?_,I.hok.fresh (re _),λy c h=>I.freeC y c (S.sub y c h),λp hp=>?_,I.hok.kept keep,?_⟩
 .rcases(f2 b hb).2.2.2.1 with z|z
  .exact I.ok.noex b o e z
  .exact absurd (ol (ol (ut e) I.ok.bsz) z) (Nat.lt_irrefl _)
 .have hln:(sv xs).length=xs.length:=ce ..
  by_cases hlt:i<xs.length
  .rw[List.getElem?_append_left (by rw[hln];exact hlt)]at e2;unfold sv at e2;rw[io,li hlt]at e2;cases e2
  .obtain⟨j,rfl⟩:∃ j,i=xs.length+j:=⟨i-xs.length,by omega⟩;have e1':fr[j]? =some y:=by
    have e1:(xs++fr)[xs.length+j]? =some y:=e1;rw[List.getElem?_append_right nofun,show xs.length+j-xs.length=j by omega]at e1;exact e1
   obtain⟨i,hi,hN,k1,k2⟩:=S.out j y e1';have e2':(fw U sel)[j]? =some (some v):=by
    rw[List.getElem?_append_right (by rw[hln];omega),hln,show xs.length+j-xs.length=j by omega]at e2;exact e2
   have e4:U[i]? =some (some v):=by
    unfold fw at e2';rw[io,hi]at e2';have e5:U.getD i none=some v:=Option.some.inj e2';rw[List.getD_eq_getElem?_getD]at e5;cases e6:U[i]? with
    |none=>rw[e6]at e5;cases e5
    |some z=>rw[e6]at e5;exact congrArg some e5
   obtain⟨m,hn,hl⟩:=I.loc;obtain⟨u,r,l⟩:=hl i y v hN e4 (.inr (.inl k1));refine⟨u,r,.inr ⟨.inl k2,?_⟩⟩;rcases l with⟨hk,_⟩|⟨_,c,hc,o,ho,hd⟩
   .have hk':X.env.scope.names.lookup y=some .local:=hk;rw[k1]at hk';cases hk'
   .obtain⟨c',hc'⟩:=S.has y (.inl k2);have:=(S.sub y c' hc').symm.trans hc;cases this;exact⟨c,hc',o,keep c o ho,hd⟩
 .obtain⟨v,o,ho,hd⟩:=I.cell y c (S.sub y c h);exact⟨v,o,keep c o ho,hd⟩
 .obtain⟨e,n,ne,nf,d⟩:=I.pin p (by simpa[fQ] using hp);exact⟨keep p.1 p.2 e,n,pi (ut e),stk p.1 ne nf,d⟩
 .show(sv xs++fw U sel).length=(xs++fr).length;unfold fw sv;simp[S.len]
def iX {elt iter tgt:Expr}{wi:TI}{tg:TG}{tc:TT}(hc:X.calm=true)(S:bA X scope cl xs fr sel)(hi:PI X tgt iter wi)
  (hg:∀ (s:Shared) (H:Hp) (fp:List Addr),PG (fQ X scope cl (xs++fr) s H fp) tgt tg) (ht:∀ (s:Shared) (H:Hp) (fp:List Addr),K5 (fQ X scope cl (xs++fr) s H fp) ifs tc)
  (he:∀ (s:Shared) (H:Hp) (fp:List Addr),PE (fQ X scope cl (xs++fr) s H fp) elt te) (hs:∀ x,foldedSetIterable iter X.env x=pure x):PE X (.ListComp elt [⟨tgt,iter,ifs,0⟩] scope pos) (Jy wi tg tc te xs sel):=by
 intro Y s U H Q I h;rw[eval_ListComp];refine wpAny_comprehension_free (use:=none) rfl hs S.clos S.kind S.names ?_;refine aA (hi Y s U H _ I h) λv s1 h1=>aA h1 λitv s2 h2=>?_
 obtain⟨it,fp,tn,J,H2,e,I2,T,qm,f2,h2⟩:=h2;subst e;refine wpAny_newObj_type ?_;have hD:H2 s2.heap.objs.size=none:=I2.hok.fresh (re _);have I3:Inv X Y U (upd H2 s2.heap.objs.size (.lst [])) { s2 with heap:=s2.heap.push { cls:=.type "list",dict:=none,data:=.seq ([]:List Value).toArray } }:=
  I2.laid (t':=s2.toks) (λb u e=>ul _ e) (re _) ⟨Nat.zero_le _,[],0,.nil,v4 _ rfl⟩
 have fo2:∀ b ∈ fp,b<s2.heap.objs.size:=λb hb=>by
  obtain⟨o,ho,_⟩:=T.obj _ _ qm b hb;exact ut ho
 have f3:∀ b ∈ fp,iP X Y (upd H2 s2.heap.objs.size (.lst [])) b:=λb hb=>⟨by rw[ah (pi (fo2 b hb))];exact(f2 b hb).1,(f2 b hb).2⟩
 have st3:tn 0 (s2.heap.push { cls:=.type "list",dict:=none,data:=.seq ([]:List Value).toArray }):=T.keep _ _ _ qm λb hb o e=>ul _ e
 have fo3:∀ b ∈ fp,b<(s2.heap.push { cls:=.type "list",dict:=none,data:=.seq ([]:List Value).toArray }).objs.size:=λb hb=>by
  rw[Heap.size_push];exact Nat.lt_succ_of_lt (fo2 b hb)
 obtain⟨W,⟨m0,w0⟩,turn⟩:=h2 _ hD;generalize s2.heap.objs.size=D at*;generalize hs3:({ s2 with heap:=s2.heap.push { cls:=.type "list",dict:=none,data:=.seq ([]:List Value).toArray } }:Shared)=s3 at*;have st3':tn 0 s3.heap:=by rw[<-hs3];exact st3
 have fo3':∀ b ∈ fp,b<s3.heap.objs.size:=by rw[<-hs3];exact fo3
 refine wpAny_newFunctionEnv S.nocell (by intro y hy;simp at hy) (λh' hns hsb=>?_) S.kind;have keep:∀ b o,s3.heap.get? b=some o->h'.get? b=some o:=λb o e=>(hsb.2 b (pi (ut e))).trans (ul _ e)
 have I4:=qS (tk:=s3.toks+([]:List (Str×Value)).length) S I3 f3 fo3' hns keep;have st4:tn 0 h':=T.keep _ _ _ st3' λb hb o e=>keep b o e
 have stat:∀ {H':Hp},(∀ b ∈ fp,H' b=none)->∀ b ∈ fp,iP (fQ X scope cl (xs++fr) s3 (upd H2 D (.lst [])) fp) (X.pn++Y) H' b:=λ{H'} hn b hb=>
  ⟨hn b hb,pi (fo3' b hb),λz=>(nb.mp (I3.iZ b z)).elim (f3 b hb).2.1 (f3 b hb).2.2.1,.inl hb,λy c hy=>(f3 b hb).2.2.2.2.1 y c (S.sub y c hy),λp hp=>(f3 b hb).2.2.2.2.2 p (by simpa[fQ] using hp)⟩
 have loop:codeAny (model X.prog X.w) X.A (.compLoop (.ListComp elt [⟨tgt,iter,ifs,0⟩] scope pos) 0 (.ref it) (.ref D) (compEnvC scope cl s3.heap.objs.size X.env))
   (compPost (model X.prog X.w) X.A X.xe none (EP X Y U Q) (.ref D) s3.heap.objs.size) { s3 with heap:=h',toks:=s3.toks+([]:List (Str×Value)).length }:=by
  refine codeAny_loop rfl (λn s'=>∃ i σ' H',Inv (fQ X scope cl (xs++fr) s3 (upd H2 D (.lst [])) fp) (X.pn++Y) σ' H' s'/\tn i s'.heap/\(∀ b ∈ fp,H' b=none)/\W i n σ' H') (λn s5 hI=>?_) m0 ⟨0,_,_,I4,st4,λb hb=>(f3 b hb).1,w0⟩;show wpAny _ _ ((compTurn (.ListComp elt [⟨tgt,iter,ifs,0⟩] scope pos) 0 (.ref it) (.ref D) (compEnvC scope cl s3.heap.objs.size X.env)).onRaise (λx=>do noteFrame x (compEnvC scope cl s3.heap.objs.size X.env);theTreesLotGoes x)) _ _ s5;refine wpAny_noted ?_;refine vX (ht s3 (upd H2 D (.lst [])) fp).1 ?_;obtain⟨i,σ5,H5,I5,st5,fr5,w5⟩:=hI;rcases turn i n σ5 H5 w5 with⟨stop,q⟩|⟨go,Nn,hN,step⟩
  .refine aA (T.done (fQ X scope cl (xs++fr) s3 (upd H2 D (.lst [])) fp) rfl rfl rfl hc i _ s5 σ5 H5 _ I5 (stat fr5) st5 stop) λr s6 ⟨hr,I6⟩=>?_
   subst hr;obtain⟨m,hn,_⟩:=I6.loc;refine⟨m,hn,λh'' hs''=>⟨.ref D,H5,I3.yP (ch:=fp) I6.os (I6.base.sameBut hs'' (re _)) (λb ob e=>?_) I6.bare λb hb=>⟨(f3 b hb).2.2.2.1,(f3 b hb).2.1,(f3 b hb).2.2.2.2.1,(f3 b hb).2.2.2.2.2⟩,rfl,q⟩⟩;refine(I6.hok b ob e).j4 (λc w' hc' q'=>(hs''.2 c ?_).trans q') (λ_ q'=>q') λ_ _ q'=>q'
   have fC:H5 s3.heap.objs.size=none:=I6.free;intro z;rcases hc' with z2|z2
   .rw[z2]at z;rw[z,fC]at e;cases e
   .rw[z,fC]at z2;cases z2
  .have fin:∀ {σ8:St}{H10:Hp}{s10:Shared},Inv (fQ X scope cl (xs++fr) s3 (upd H2 D (.lst [])) fp) (X.pn++Y) σ8 H10 s10/\tn (i+1) s10.heap/\(∀ b ∈ fp,H10 b=none)->Nn σ8 H10->∃ m',m'<n/\∃ i σ' H',Inv (fQ X scope cl (xs++fr) s3 (upd H2 D (.lst [])) fp) (X.pn++Y) σ' H' s10/\tn i s10.heap/\(∀ b ∈ fp,H' b=none)/\W i m' σ' H':=λ⟨I,t,f⟩ nn=>by
    obtain⟨m',hm,w10⟩:=hN _ _ nn;exact⟨m',hm,i+1,_,_,I,t,f,w10⟩
   refine aA (T.item (fQ X scope cl (xs++fr) s3 (upd H2 D (.lst [])) fp) rfl rfl rfl hc i _ s5 σ5 H5 _ I5 (stat fr5) st5 go) λr s6 ⟨u,hr,h6⟩=>?_
   subst hr;refine aA h6 λ_ s7 ⟨xv,H7,I7,r7,y7,st7,fr7⟩=>?_
   have I7':=I7.pinned (stat fr7) (T.obj _ _ st7);refine Ew (hg s3 _ fp _ s7 σ5 H7 xv u _ I7' r7 (step xv _ y7)) λ_ s8 ⟨σ8,H8,I8,q8⟩=>?_
   refine Ew ((ht s3 _ fp).2 _ s8 σ8 H8 _ I8 q8) λok s9 ⟨H9,I9,q9⟩=>?_
   have back:∀ {H10:Hp}{s10:Shared},Inv (fQ X scope cl (xs++fr) s3 (upd H2 D (.lst [])) fp) _ σ8 H10 s10->Inv (fQ X scope cl (xs++fr) s3 (upd H2 D (.lst [])) fp) (X.pn++Y) σ8 H10 s10/\tn (i+1) s10.heap/\(∀ b ∈ fp,H10 b=none):=λ{H10 s10} I10=>⟨I10.ff,T.keep _ _ _ st7 λb hb o e=>(I10.pin (b,o) (im _ (im _ (bO hb e)))).1,λb hb=>by
    obtain⟨o,e,d⟩:=T.obj _ _ st7 b hb;exact(I10.pin (b,o) (im _ (im _ (bO hb e)))).2.1⟩
   refine⟨λek=>?_,λek=>am ⟨rfl,fin (back I9) (q9.2 ek)⟩⟩;refine Ew (he s3 _ fp _ s9 _ _ _ I9 (q9.1 ek)) λuv s10 ⟨vv,H10,I10,r10,zs,hz,hzl,n10⟩=>?_
   refine Ew (iL (X:=fQ X scope cl (xs++fr) s3 (upd H2 D (.lst [])) fp) _ s10 _ H10 (.ref D) [vv] (.ref D) [uv] (λ_ H'=>H'=upd H10 D (.lst (zs++[vv]))) I10 rfl (.cons r10 .nil) ⟨D,zs,vv,rfl,rfl,hz,hzl,rfl⟩) λ_ s11 ⟨_,H11,I11,_,e11⟩=>?_
   subst e11;exact am ⟨rfl,fin (back I11) n10⟩
 exact codeAny_compStart_list loop (T.self _ 0 _ _ _ st4 loop)
def n9 {x:Str}{px:Pos}{H:Hp}(S:bA X scope cl [x] fr sel):PG (fQ X scope cl ([x]++fr) s H fp) (.Name x px) (gH 0):=gP S.nd rfl (.inl (lookup_relabel_local (S.own x (mo ..)))) (.inr (lookup_relabel_local (S.own x (mo ..))))
abbrev Nh (wi:TI):TI:=λU H R=>∃ R0:It->Hp->Prop,wi U H R0/\∀ J H,R0 J H->R J H
def PI.up {tg iter:Expr}{wi:TI}(h:PI X tg iter wi):PI X tg iter (Nh wi):=λY s U H R I ⟨R0,q,m⟩=>
 aA (h Y s U H R0 I q) λv s1 h1=>wpAny_mono h1 (λitv s2 ⟨it,fp,tn,J,H',e,I,T,t0,f,r⟩=>⟨it,fp,tn,J,H',e,I,T,t0,f,m _ _ r⟩) λ_ _ e=>e
def yR {elt iter:Expr}{x:Str}{px:Pos}{wi:TI}(hc:X.calm=true)(S:bA X scope cl [x] fr sel)(hi:PI X (.Name x px) iter wi)
  (he:∀ (s:Shared) (H:Hp) (fp:List Addr),PE (fQ X scope cl (x::fr) s H fp) elt te) (hs:∀ x,foldedSetIterable iter X.env x=pure x):PE X (.ListComp elt [⟨.Name x px,iter,[],0⟩] scope pos) (MB wi te sel):=λY s U H Q I h=>
 iX (tg:=gH 0) hc S hi.up (λs H fp=>n9 S) (λ_ _ _=>kh) he hs Y s U H Q I ⟨_,h,λ_ _ q=>q.g⟩
end
section
variable {U:St}{H:Hp}{Q:VK}{te tl:TE}{ta:TA}{sel:List Nat}{σ₀ rest:St}{K:W.Frag}
end
def dB {env:Env}:∀ {names:List (Str×NameKind)}{y:Str}{k':NameKind},(names.map λ(n,k)=>if(k ==NameKind.free&&env.scope.kind ==.function&&env.kindOf n ==some .cell) then(n,NameKind.cell) else(n,k)).lookup y=some k'->∃ k,(y,k) ∈ names/\(k'=k\/(k=.free/\k'=.cell))
 | [],_,_,h=>by simp at h
 |(n,k)::r,y,k',h=>by
  rw[map_cons,lookup_cons]at h
  by_cases hc:(k ==NameKind.free&&env.scope.kind ==.function&&env.kindOf n ==some .cell)=true
  .simp only[hc,if_true]at h
   by_cases e:y=n
   .subst e;simp at h;simp at hc;exact⟨k,mo,.inr ⟨hc.1.1,h.symm⟩⟩
   .rw[show(y ==n)=false from beq_eq_false_iff_ne.mpr e]at h;obtain⟨k2,m,q⟩:=dB (env:=env) h;exact⟨k2,dL _ m,q⟩
  .rw[Bool.not_eq_true]at hc;simp only[hc,Bool.false_eq_true,if_false]at h
   by_cases e:y=n
   .subst e;simp at h;exact⟨k,mo,.inl h.symm⟩
   .simp only[show(y ==n)=false from beq_eq_false_iff_ne.mpr e]at h;obtain⟨k2,m,q⟩:=dB (env:=env) h;exact⟨k2,dL _ m,q⟩
section
variable {K:W.Frag}
end
section
variable {K:W.Frag}{H:Hp}
end
section
variable {U:St}{H:Hp}{Q:VK}
end
abbrev notStar:Expr->Bool
 | .Starred ..=>false
 |_=>true
variable {es:List Expr}
def ag {e:Expr}{env:Env}(h:notStar e=true):bm (e::es) env=(false,eval e env)::bm es env:=by
 cases e<;>first|rfl|cases h
def pv {e:Expr}{t:TA}(ha:PE X e te)(hr:PA X es t)(h:notStar e=true:=by rfl):PA X (e::es) (EJ te t):=BW ha hr (ag h)
section
variable {X:Cx}{Y:NI}{U:St}{H:Hp}{s:Shared}{h':Heap}
def Inv.qy {t':Nat}{ch:List Addr}{a:Addr}{o:HO}(I:Inv X Y U H s)(k:∀ b u,b ∉ ch->s.heap.get? b=some u->h'.get? b=some u) (hf:∀ b ∈ ch,iP X Y H b)
  (hp:s.heap.objs.size<=a) (new:aN X.prog X.w (upd H a o) h' a o):Inv X Y U (upd H a o) { s with heap:=h',toks:=t' }:=by
 have hn:H a=none:=I.hok.fresh hp;have nch:∀ b u,H b=some u->b ∉ ch:=λb u e z=>by rw[(hf b z).1]at e;cases e
 refine I.step (g':=s.gens) (d':=s.drawn) (ch:=ch) (λb hb=>?_) (λb o _ _ hc e _=>k b o hc e) (λb o _ _ hc e _=>⟨o.slots,k b o hc e⟩) (λb o hc e n=>?_)
  (λb o hc e=>⟨o,k b o hc e⟩) (λb xs e=>?_) (λb ob u e=>?_) (λb ps e=>?_) (λm hm=>?_) (λb u e=>?_) I.bare
 .obtain⟨_,f1,_,f3,f4,f5⟩:=hf b hb;exact⟨f3,f1,f4,f5⟩
 .rw[ah (pi (ol (ut e) hp))];exact n
 .rw[ah (aR e hn)];exact e
 .rw[ah (aR e hn)];exact e
 .exact⟨#[],by rw[ah (aR e hn),e];simp⟩
 .obtain⟨o,es,ep,ho,r⟩:=hm;exact⟨o,es,ep,k _ o (λz=>(hf _ z).2.1 rfl) ho,r⟩
 .by_cases hb:b=a
  .subst hb;rw[az]at e;cases e;exact new
  .rw[ah hb]at e;refine(I.hok b u e).j4 (λc v hc q=>k c v ?_ q) (λc q=>by rw[ah (aR q hn)];exact q) λc xs q=>by rw[ah (aR q hn)];exact q
   rcases hc with rfl|hc
   .exact nch _ _ e
   .exact nch _ _ hc
end
abbrev IH (l:Addr):It:=
 ⟨λi H=>∃ xs x,H l=some (.lst xs)/\xs[i]? =some x,λi H x H'=>∃ T y,H T=none/\x=.ref T/\H'=upd H T (.tup [.int i,y])/\∀ xs,H l=some (.lst xs)->xs[i]? =some y,λi H=>∃ xs,H l=some (.lst xs)/\xs.length<=i⟩
variable {elts:List Expr}
def xO {P:Program}{w:World}{K:W.Frag}{k:Nat}(l e it:Addr)(hei:e≠it):
  Turn P w K (.Tuple elts k pos) (IH l) [e,it] e (λi h=>(∃ old,IsEnum h e it ((i:Nat):Int) old)/\h.IsListIter it l i) where
 mem:=by simp
 obj:=λi h st b hb=>by
  obtain⟨⟨old,he⟩,hit⟩:=st;rcases nb.mp hb with rfl|hb
  .exact⟨_,he,λv z=>by
    have z':Data.fields _=Data.cell v:=z;cases z'⟩
  .have e':b=it:=by simpa using hb
   subst e';obtain⟨o,e,c,d⟩:=hit;exact⟨o,e,λv z=>by rw[d]at z;cases z⟩
 keep:=λi h h' st k=>by
  obtain⟨⟨old,he⟩,hit⟩:=st;exact⟨⟨old,k e (by simp) _ he⟩,hit.at λo q=>k it (by simp) o q⟩
 item:=by
  intro X hP hw hK hc i Y s U H E I hf st hg;subst hP hw hK;obtain⟨xs,x,hq,hx⟩:=hg;obtain⟨⟨old,he⟩,hit⟩:=st;obtain⟨its,rv,p,hz⟩:=I.list (aS.of hq);obtain⟨u,hu,ru⟩:=rv.get hx;have heN:H e=none:=(hf e (by simp)).1;have hes:e≠s.heap.objs.size:=pi (ut he);obtain⟨oi,hoi,_⟩:=id hit;have his:it≠s.heap.objs.size:=pi (ut hoi);refine wpAny_pyNext_enum_item he hit p.isList (x:=u) (by simpa using hu) hei λh1 heo hit1 ht1 hz1 hk1=>?_
  have I1:Inv X Y U (upd H s.heap.objs.size (.tup [.int i,x])) { s with heap:=h1,toks:=s.toks+1 }:=
   I.qy (ch:=[e,it]) (λb o hb q=>hk1 b o (λz=>hb (by simp[z])) (λz=>hb (by simp[z])) q) hf (re _)
    ⟨fits (pc rfl),[.int i s.toks,u],.cons ⟨_,rfl⟩ (.cons ru .nil),⟨_,ht1,rfl,_,rfl⟩⟩
  refine⟨_,rfl,wpAny_letOwnedTupleGo_enum heo λh2 he2 hs2=>?_⟩;obtain⟨f0,f1,f2,f3,f4,f5⟩:=hf e (by simp);have I2:=I1.turned (h':=h2) (t':=s.toks+1) (it:=e) (λb o hb q=>(hs2.2 b hb).trans q) (by rw[ah hes];exact heN) f1 f3 f4 f5;refine⟨.ref s.heap.objs.size,_,I2,rfl,⟨_,x,I.hok.fresh (re _),rfl,rfl,λys hy=>?_⟩,⟨⟨_,by simpa using he2⟩,hit1.at λo q=>(hs2.2 it hei.symm).trans q⟩,λb hb=>?_⟩
  .rw[hq]at hy;cases hy;exact hx
  .have hb':b≠s.heap.objs.size:=by
    rcases nb.mp hb with rfl|hb
    .exact hes
    .have e':b=it:=by simpa using hb
     subst e';exact his
   rw[ah hb'];exact(hf b hb).1
 done:=by
  intro X hP hw hK hc i Y s U H E I hf st hg;subst hP hw hK;obtain⟨xs,hq,hx⟩:=hg;obtain⟨⟨old,he⟩,hit⟩:=st;obtain⟨its,rv,p,hz⟩:=I.list (aS.of hq);obtain⟨f0,f1,f2,f3,f4,f5⟩:=hf it (by simp);have hl:=rv.length;exact wpAny_pyNext_enum_end (I.ok.hd hc) he hit p.isList (by simp;omega) λh' eb=>⟨rfl,I.turned (t':=s.toks) (λb o hb q=>eb b o hb q) f0 f1 f3 f4 f5⟩
 self:=λ_ _ _ _ _ st h=>by
  obtain⟨⟨old,he⟩,hit⟩:=st;exact wpAny_pyIter_enum he h
def pR:bootBuiltins "enumerate"=some (.type "enumerate"):=by decide+kernel
abbrev IC (ta:TA):TI:=λU H R=>ta U H λvs H1=>∃ l,vs=[.ref l]/\(∃ xs,H1 l=some (.lst xs))/\R (IH l) H1
def Ed {k:Nat}{a:Expr}{ta:TA}{p pos':Pos}(hg:Gl X "enumerate") (hm:X.mg "enumerate"=none) (ha:PA X [a] ta) (hs:bm [a] X.env=[(false,eval a X.env)]:=by rfl):
  PI X (.Tuple elts k pos') (.Call (.Name "enumerate" p) [a] [] pos) (IC ta):=by
 intro Y s U H R I h;refine Call_ (cW I hg hm pR (PyProof.Rows.callWith_type1 (aA (ha pos Y s U H _ I h) λus s1 ⟨vs,H1,I1,r1,q1⟩=>?_) hs rfl));obtain⟨l,e,⟨xs,hl⟩,q⟩:=q1;subst e;cases r1 with
 |cons r rr=>
  cases rr;cases r;obtain⟨z,its,n,r,hlen,e⟩:=I1.k7 hl;refine call_enumerate_1 e λh' he hit hsz hk=>?_
  refine wpAny_pyIter_enum he ?_;refine⟨s1.heap.objs.size+1,[s1.heap.objs.size+1,s1.heap.objs.size],_,_,H1,rfl,I1.kept (t':=s1.toks) hk,xO l _ _ (Nat.succ_ne_self _),⟨⟨_,he⟩,hit⟩,λb hb=>?_,q⟩;have hb':s1.heap.objs.size<=b:=by
   rcases nb.mp hb with rfl|hb
   .exact Nat.le_succ _
   .have e':b=s1.heap.objs.size:=by simpa using hb
    exact Nat.le_of_eq e'.symm
  exact I1.zY hb' (I1.hok.fresh hb')
section
variable {g:TG}{tb:TS}{D:Ends}{U:St}{H:Hp}{ta:TA}
end
section
variable {X:Cx}
abbrev CJ:V->List V->Hp->VK->Prop:=λx vs H Q=>∃ l xs i y,x=.ref l/\vs=[.int i,y]/\H l=some (.lst xs)/\0<=i/\i<=xs.length/\xs.length<bn/\Q .non (upd H l (.lst (xs.take i.toNat++y::xs.drop i.toNat)))
def Vals.take':∀ {xs:List V}{us:List Value}(n:Nat),Vals xs us->Vals (xs.take n) (us.take n)
 |_,_,0,_=>by simpa using Paired.nil
 |_,_,n+1,.nil=>.nil
 |_,_,n+1,.cons r t=>.cons r (Vals.take' n t)
def Vals.drop':∀ {xs:List V}{us:List Value}(n:Nat),Vals xs us->Vals (xs.drop n) (us.drop n)
 |_,_,0,r=>r
 |_,_,n+1,.nil=>.nil
 |_,_,n+1,.cons r t=>Vals.drop' n t
def xD:Jv X "list.insert" CJ:=by
 intro Y s U H x vs v us Q I rx rv h;obtain⟨l,xs,i,y,rfl,rfl,hH,h0,h1,hz,q⟩:=h;cases rx;obtain⟨u,u2,rfl,ru,ru2⟩:=vals2 rv;obtain⟨t,rfl⟩:=ru;obtain⟨z,its,n,r,hl,e⟩:=I.k7 hH;have hk:i.toNat<=its.length:=by omega
 have hn:=fU;have hfit:¬ (!Builtin.List.listFitsIndex i)=true:=by
  rw[fitsIndex_both (k:=i) nofun nofun]
  decide
 have hsz:its.toArray.size<=bn:=by rw[ii];omega
 have hmt:=AutoSeq1.list_insert_list_int_val_1 l its.toArray n i t u2 hfit hsz;refine call_meets F.slot_list_insert ⟨_,e,rfl⟩ F.entry_list_insert (F.args_list_insert_3 _ _ _) hmt ⟨e,?_⟩;refine⟨.non,_,I.yF (its':=its.take i.toNat++u2::its.drop i.toNat) hH e ?_ ?_ ?_,rfl,q⟩
 .have ek:(if i<0 then(i+(its.toArray.size:Int)).toNat else min i.toNat its.toArray.size)=i.toNat:=by
   rw[if_neg nofun,ii];exact Nat.min_eq_left hk
  show((its.toArray.extract 0 (if i<0 then(i+(its.toArray.size:Int)).toNat else min i.toNat its.toArray.size)).push u2++its.toArray.extract (if i<0 then(i+(its.toArray.size:Int)).toNat else min i.toNat its.toArray.size))=_;rw[ek];apply Array.ext';simp;exact take_of_length_le (by rw[jp];omega)
 .exact(Vals.take' i.toNat r).append (.cons ru2 (Vals.drop' i.toNat r))
 .rw[ci,length_cons,db,jp]
  omega
end
section
variable {K:W.Frag}{r:V->List V->Hp->VK->Prop}{to:TE}{t:TA}{U:St}{H:Hp}{Q:VK}
end
section
variable {H H1 H2:Hp}{p h c:Addr}{o:HO}{m:Int}
end
section
variable {H H':Hp}{xs ys:List V}{f:Nat->Int×Int}
end
section
variable {X:Cx}{a b c d:Expr}{ta tb tc td:TE}{pos:Pos}
abbrev Cr (r r' r2:R2)(ta tb tc td:TE):TE:=λU H Q=>ta U H λx H1=>tb U H1 λy H2=>r x y H2 λz H3=>sV z H3 λk H3=>
 (if k=true then tc U H3 λw' H4=>r' y w' H4 λz' H5=>sV z' H5 λk' H5=>(if k'=true then td U H5 λw2 H6=>r2 w' w2 H6 Q else Q (.bl false) H5) else Q (.bl false) H3)
def xk {op op' op2:CmpOp}{r r' r2:R2}(ho:cL X (compareOp op) r)(ho':cL X (compareOp op') r')(ho2:cL X (compareOp op2) r2)(ha:PE X a ta)(hb:PE X b tb)(hc:PE X c tc)(hd:PE X d td)
  (hm:lastMarks [op,op',op2] [b,c,d]=false:=by with_unfolding_all rfl):PE X (.Compare a [op,op',op2] [b,c,d] pos) (Cr r r' r2 ta tb tc td):=by
 intro Y s U H Q I h;refine Compare_chain (aA (ha Y s U H _ I h) λv s1 ⟨x,H1,I1,r1,q1⟩=>chain_link (aA (hb Y s1 U H1 _ I1 q1) λu s2 ⟨y,H2,I2,r2',q2⟩=>
  aA (ho Y s2 U H2 x y v u _ I2 r1 r2' q2) λd s3 ⟨z,H3,I3,r3,k,e,q3⟩=>?_)) hm
 subst e;cases r3;refine bi ?_;cases k with
 |false=>exact ite_ff ⟨.bl false,H3,I3,rfl,q3⟩
 |true=>
  refine ite_tt (chain_link (aA (hc Y s3 U H3 _ I3 q3) λw' s4 ⟨z',H4,I4,r4,q4⟩=>aA (ho' Y s4 U H4 y z' u w' _ I4 r2' r4 q4) λd2 s5 ⟨z2,H5,I5,r5,k2,e2,q5⟩=>?_));subst e2;cases r5;refine bi ?_;cases k2 with
  |false=>exact ite_ff ⟨.bl false,H5,I5,rfl,q5⟩
  |true=>exact ite_tt (chain_last (aA (hd Y s5 U H5 _ I5 q5) λw2 s6 ⟨z3,H6,I6,r6,q6⟩=>ho2 Y s6 U H6 z' z3 w' w2 Q I6 r4 r6 q6))
end
section
variable {K:W.Frag}{U:St}{H:Hp}{Q:VK}{ta tb tc td tv:TE}{t:TA}{f m:Str}{D:Ends}{C:Addr}{sp:Sp}{dvs:List V}{E:XK}
end
section
variable {g:TG}{tb:TS}{D:Ends}{U:St}{H:Hp}{ta:TA}
end
section
variable {C:Addr}{H H':Hp}{S D h c:Addr}{rs:List Rec}{r:Rec}
end
section
variable {X:Cx}
end
end L2
namespace L2
end L2
namespace L2
open PySem PySem.Spec PyProof.Rows
section
variable {C:Addr}{H HF:Hp}{S D h c:Addr}{rs:List Rec}{r':Rec}
end
section
variable {X:Cx}
end
structure Mo (K:W.Frag) (C:Addr):Prop where
 ha:W.findIn K (.ref C) "__class__"=some (some (.builtin "object.__class__"))
 hn:W.specialIn K (.builtin "object.__class__") "__get__"=some (some (.builtin "getset_descriptor.__get__"))
 htk:W.takesIn K (.builtin "object.__class__")=some true
 hm:W.mroIn K C (.type "object")=some true
end L2
namespace L2
open PySem PySem.Spec PySem.W PyProof.Rows
abbrev a9 (tp:Bool)(h:Heap)(j b:Addr)(k:Nat):Prop:=match tp with
 |true=>h.IsTupleIter j b k
 |false=>h.IsListIter j b k
abbrev bJ (tp:Bool)(h:Heap)(b:Addr)(xs:Array Value):Prop:=match tp with
 |true=>h.IsTuple b xs
 |false=>h.IsList b xs
variable {tp:Bool}{h:Heap}{k:Nat}
def a9.to {h':Heap}{j b:Addr}(g:a9 tp h j b k)(e:∀ o,h.get? j=some o->h'.get? j=some o):a9 tp h' j b k:=by
 cases tp
 .obtain⟨o,e1,r⟩:=(show h.IsListIter j b k from g);exact⟨o,e o e1,r⟩
 .obtain⟨o,e1,r⟩:=(show h.IsTupleIter j b k from g);exact⟨o,e o e1,r⟩
def bJ.to {h':Heap}{b:Addr}{xs:Array Value}(g:bJ tp h b xs)(e:∀ o,h.get? b=some o->h'.get? b=some o):bJ tp h' b xs:=by
 cases tp
 .obtain⟨o,e1,r⟩:=(show h.IsList b xs from g);exact⟨o,e o e1,r⟩
 .obtain⟨o,e1,r⟩:=(show h.IsTuple b xs from g);exact⟨o,e o e1,r⟩
def a9.lt {tp:Bool}{h:Heap}{j b:Addr}{k:Nat}(g:a9 tp h j b k):j<h.objs.size:=by
 cases tp
 .obtain⟨o,e1,r⟩:=(show h.IsListIter j b k from g);exact ut e1
 .obtain⟨o,e1,r⟩:=(show h.IsTupleIter j b k from g);exact ut e1
def bJ.lt {tp:Bool}{h:Heap}{b:Addr}{xs:Array Value}(g:bJ tp h b xs):b<h.objs.size:=by
 cases tp
 .obtain⟨o,e1,r⟩:=(show h.IsList b xs from g);exact ut e1
 .obtain⟨o,e1,r⟩:=(show h.IsTuple b xs from g);exact ut e1
variable {Q:Option Value->Shared->Prop}{c:Addr}{T:Int}{fb:Bool}{oT:Obj}{elts:List Expr}{pos:Pos}
section
variable {prog:Program}{w:World}{A:Around}{E:NH}{s:Shared}
def HZ {j b:Addr}{xs:Array Value}{x:Value}{Q:NH}(g:s.heap.IsTupleIter j b k)(t:s.heap.IsTuple b xs)(hx:xs[k]? =some x)
  (q:∀ h',h'.IsTupleIter j b (k+1)->Heap.SameBut j s.heap h'->Q x { s with heap:=h' }):wpAny (model prog w) A (Builtin.SmallTypes.nextOf (.ref j)) Q E s:=by
 obtain⟨o1,e1,c1,d1⟩:=id g;obtain⟨o2,e2,_,n2,d2⟩:=t;unfold Builtin.SmallTypes.nextOf;refine ad (wpAny_callSpecial?_slot (name:=Str.ofString "__next__") g.typeIs F.slot_tuple_iterator_next (wpAny_call_entry F.slot_tuple_iterator_next g.typeIs F.entry_tuple_iterator_next ?_ (F.args_tuple_iterator_next_1 _)));show wpAny _ _ (field (.ref j) 0 >>= _) _ _ s;refine ad (ap e1 d1 (x:=.ref b) rfl ?_);show wpAny _ _ (if(Value.ref b ==Value.none)=true then _ else _) _ _ s;rw[if_neg (show ¬ ((Value.ref b ==Value.none)=true) from Bool.false_ne_true)];show wpAny _ _ (field (.ref j) 1 >>= _) _ _ s;refine ad (ap e1 d1 (x:=.int k 0) rfl ?_);show wpAny _ _ (seqItems? (.ref b) >>= _) _ _ s;refine ad (wpAny_seqItems e2 d2 ?_);simp only[sn,hx];refine ad (wpAny_setField e1 d1 (by simp) (am ⟨x,rfl,am (q _ ?_ (Heap.SameBut.update ..))⟩));refine⟨_,Heap.get?_update_self _ e1 (Obj.isFreed_of_fields (Obj.data_mapFields d1 _)),(Obj.cls_mapFields ..).trans c1,?_⟩;rw[Obj.data_mapFields d1];simp[rawInt]
def Cw {j b:Addr}{xs:Array Value}{Q:NH}(hh:A.handled=none)(g:s.heap.IsTupleIter j b k)(t:s.heap.IsTuple b xs)(hx:xs[k]? =none)
  (q:∀ h' e,Heap.ExtBut j s.heap h'->(∃ o,h'.get? e=some o/\o.cls=.type "StopIteration")->E (.ref e) { s with heap:=h' }):wpAny (model prog w) A (Builtin.SmallTypes.nextOf (.ref j)) Q E s:=by
 obtain⟨o1,e1,c1,d1⟩:=id g;obtain⟨o2,e2,_,n2,d2⟩:=t;unfold Builtin.SmallTypes.nextOf;refine ad (wpAny_callSpecial?_slot (name:=Str.ofString "__next__") g.typeIs F.slot_tuple_iterator_next (wpAny_call_entry F.slot_tuple_iterator_next g.typeIs F.entry_tuple_iterator_next ?_ (F.args_tuple_iterator_next_1 _)));show wpAny _ _ (field (.ref j) 0 >>= _) _ _ s;refine ad (ap e1 d1 (x:=.ref b) rfl ?_);show wpAny _ _ (if(Value.ref b ==Value.none)=true then _ else _) _ _ s;rw[if_neg (show ¬ ((Value.ref b ==Value.none)=true) from Bool.false_ne_true)];show wpAny _ _ (field (.ref j) 1 >>= _) _ _ s;refine ad (ap e1 d1 (x:=.int k 0) rfl ?_);show wpAny _ _ (seqItems? (.ref b) >>= _) _ _ s;refine ad (wpAny_seqItems e2 d2 ?_);simp only[sn,hx];refine ad (wpAny_rule (ad (wpAny_setField e1 d1 (by simp) ?_)));show wpAny _ _ (newExc (.type "StopIteration") [] >>= _) _ _ _;refine ad ?_;simp only[newExc,newTuple];refine ad (wpAny_newObj_type ?_ (by size_fits));refine ad (m:=firstArgMember _ _) (wpAny_of_eq (a:=Value.none) (by first|rfl|(simp only[firstArgMember];rfl)) ?_);refine wpAny_newObj_type ?_ (by size_fits);simp only[raiseNew];refine ad (wpAny_handled ?_);first|rw[show A.in1.handled=none from hh]|rw[hh]
 refine ad (am (wpAny_throw ?_));exact q _ _ (((Heap.SameBut.update ..).extBut.push _).push _) ⟨_,v4 _ rfl,rfl⟩
def fh {j b:Addr}{xs:Array Value}{x:Value}{Q:NH}(g:a9 tp s.heap j b k)(t:bJ tp s.heap b xs)(hx:xs[k]? =some x)
  (q:∀ h',a9 tp h' j b (k+1)->Heap.SameBut j s.heap h'->Q x { s with heap:=h' }):wpAny (model prog w) A (Builtin.SmallTypes.nextOf (.ref j)) Q E s:=by
 cases tp
 .exact wpAny_nextOf_list_item g t hx q
 .exact HZ g t hx q
def pB {j b:Addr}{xs:Array Value}{Q:NH}(hh:A.handled=none)(g:a9 tp s.heap j b k)(t:bJ tp s.heap b xs)(hx:xs[k]? =none)
  (q:∀ h' e,Heap.ExtBut j s.heap h'->(∃ o,h'.get? e=some o/\o.cls=.type "StopIteration")->E (.ref e) { s with heap:=h' }):wpAny (model prog w) A (Builtin.SmallTypes.nextOf (.ref j)) Q E s:=by
 cases tp
 .exact wpAny_nextOf_list_end hh g t hx q
 .exact Cw hh g t hx q
@[reducible]def bN (h:Heap) (z TI TO:Addr) (f0 f1:Value):Prop:=h.get? z=some { cls:=.type "zip",dict:=none,data:=.fields #[f0,f1,.bool false,.ref TI,.ref TO],slots:=#[] }
variable {z TI TO i1 i2 l1 l2:Addr}{k1 k2:Nat}{tp1 tp2:Bool}{xs ys:Array Value}{x y a b f1:Value}
def vU (D:ZipApart z TI TO i1 i2 l1 l2)(hz:bN s.heap z TI TO .none f1)(hI:IsPair s.heap TI (.ref i1) (.ref i2))(hO:IsPair s.heap TO a b)
  (g1:a9 tp1 s.heap i1 l1 k1) (g2:a9 tp2 s.heap i2 l2 k2) (t1:bJ tp1 s.heap l1 xs) (t2:bJ tp2 s.heap l2 ys) (hx:xs[k1]? =some x) (hy:ys[k2]? =some y)
  (q:∀ h',bN h' z TI TO (rawInt s.heap.objs.size) (.bool false)->IsPair h' TO x y->a9 tp1 h' i1 l1 (k1+1)->a9 tp2 h' i2 l2 (k2+1)->IsPair h' s.heap.objs.size x y->h'.objs.size=s.heap.objs.size+1->
   (∀ c o,c≠z->c≠TO->c≠i1->c≠i2->s.heap.get? c=some o->h'.get? c=some o)->Q (some (.ref s.heap.objs.size)) { s with heap:=h' }):wpAny (model prog w) A (pyNext (.ref z)) Q E s:=by
 have hZ:s.TypeIs (.ref z) "zip":=⟨_,hz,rfl⟩;unfold pyNext;refine ad (wpAny_attempt (wpAny_callSpecial?_slot (name:=Str.ofString "__next__") hZ F.slot_zip_next (wpAny_call_entry F.slot_zip_next hZ F.entry_zip_next ?_ (F.args_zip_next_1 _))));show wpAny _ _ (field (.ref z) 2 >>= _) _ _ _;refine ad (ap (x:=.bool false) hz rfl rfl ?_);show wpAny _ _ (field (.ref z) 3 >>= _) _ _ _;refine ad (ap (x:=.ref TI) hz rfl rfl ?_);refine ad (wpAny_seqItems hI rfl ?_);show wpAny _ _ (Builtin.SmallTypes.ownedTupleIsFree (.ref z) >>= _) _ _ _;refine ad ?_;unfold Builtin.SmallTypes.ownedTupleIsFree;refine ad (ap (x:=.none) hz rfl rfl (am ?_));simp only[if_true];refine ad (wpAny_rule ?_);refine ad (ap (x:=.ref TO) hz rfl rfl ?_);refine ad (wpAny_setField_rec hz (by simp) λp1 z1 b1=>?_)
 replace z1:bN p1 z TI TO .ellipsis f1:=z1
 refine ad ?_;simp only[List.zipIdx_cons,List.zipIdx_nil,forIn_cons,forIn_nil];refine ad (ad (wpAny_onRaise ?_));show wpAny _ _ (Builtin.SmallTypes.nextOf (.ref i1) >>= _) _ _ _;refine ad (fh (g1.to λo e=>b1.extBut _ o D.i1z e) (t1.to λo e=>b1.extBut _ o D.l1z e) hx λp2 g1b b2=>am ?_);have hO2:IsPair p2 TO a b:=b2.extBut _ _ D.TOi1 (b1.extBut _ _ D.TOz hO);refine ad (wpAny_seqItems hO2 rfl ?_);refine ad (wpAny_updateSeq_pair hO2 λp3 hO3 b3=>?_)
 replace hO3:IsPair p3 TO x b:=hO3
 refine ad (wpAny_letGo (am ?_));refine ad (ad (wpAny_onRaise ?_));show wpAny _ _ (Builtin.SmallTypes.nextOf (.ref i2) >>= _) _ _ _;refine ad (fh (g2.to λo e=>b3.extBut _ o D.TOi2.symm (b2.extBut _ o D.i12.symm (b1.extBut _ o D.i2z e))) (t2.to λo e=>b3.extBut _ o D.l2TO (b2.extBut _ o D.l2i1 (b1.extBut _ o D.l2z e))) hy λp4 g2b b4=>am ?_);have hO4:IsPair p4 TO x b:=b4.extBut _ _ D.TOi2 hO3;refine ad (wpAny_seqItems hO4 rfl ?_);refine ad (wpAny_updateSeq_pair hO4 λp5 hO5 b5=>?_)
 replace hO5:IsPair p5 TO x y:=hO5
 refine ad (wpAny_letGo (am (am ?_)));refine ad (wpAny_seqItems hO5 rfl ?_);refine ad (wpAny_newTuple ?_);have hsz:p5.objs.size=s.heap.objs.size:=by rw[b5.1,b4.1,b3.1,b2.1,b1.1]
 have z5:bN p5 z TI TO .ellipsis f1:=b5.extBut _ _ D.TOz.symm (b4.extBut _ _ D.i2z.symm (b3.extBut _ _ D.TOz.symm (b2.extBut _ _ D.i1z.symm z1)));have k5:∀ c o,c≠z->c≠TO->c≠i1->c≠i2->s.heap.get? c=some o->p5.get? c=some o:=λc o n1 n2 n3 n4 e=>b5.extBut _ _ n2 (b4.extBut _ _ n4 (b3.extBut _ _ n2 (b2.extBut _ _ n3 (b1.extBut _ _ n1 e))))
 have g15:a9 tp1 p5 i1 l1 (k1+1):=g1b.to λo e=>b5.extBut _ o D.TOi1.symm (b4.extBut _ o D.i12 (b3.extBut _ o D.TOi1.symm e))
 have g25:a9 tp2 p5 i2 l2 (k2+1):=g2b.to λo e=>b5.extBut _ o D.TOi2.symm e
 have zlt:z<p5.objs.size:=ut z5;show wpAny _ _ (Builtin.SmallTypes.ownedTupleHandOut (.ref z) (.ref p5.objs.size) >>= _) _ _ _;refine ad ?_;unfold Builtin.SmallTypes.ownedTupleHandOut;have z6:bN (p5.push { cls:=.type "tuple",data:=.seq #[x,y] }) z TI TO .ellipsis f1:=ul _ z5;refine ad (wpAny_setField_rec z6 (by simp) λp7 z7 b7=>?_)
 replace z7:bN p7 z TI TO (rawInt p5.objs.size) f1:=z7
 refine wpAny_setField_rec z7 (by simp) λp8 z8 b8=>?_
 replace z8:bN p8 z TI TO (rawInt p5.objs.size) (.bool false):=z8
 have up:∀ c o,c≠z->p5.get? c=some o->p8.get? c=some o:=λc o n1 e=>b8.extBut _ _ n1 (b7.extBut _ _ n1 (ul _ e))
 have hT:IsPair p8 p5.objs.size x y:=b8.extBut _ _ (Nat.ne_of_gt zlt) (b7.extBut _ _ (Nat.ne_of_gt zlt) (v4 _ rfl));have h8:p8.objs.size=p5.objs.size+1:=by rw[b8.1,b7.1,Heap.size_push]
 rw[hsz]at z8 hT h8;refine am ⟨_,rfl,?_⟩;rw[hsz];exact am (q p8 z8 (up _ _ D.TOz hO5) (g15.to λo e=>up _ o D.i1z e) (g25.to λo e=>up _ o D.i2z e) hT h8 λc o n1 n2 n3 n4 e=>up c o n1 (k5 c o n1 n2 n3 n4 e))
def HS {Q:Fin->Shared->Prop}(hh:A.handled=none)(D:ZipApart z TI TO i1 i2 l1 l2)(hz:bN s.heap z TI TO .none f1)(hI:IsPair s.heap TI (.ref i1) (.ref i2))(hO:IsPair s.heap TO a b)
  (g1:a9 tp1 s.heap i1 l1 k1) (g2:a9 tp2 s.heap i2 l2 k2) (t1:bJ tp1 s.heap l1 xs) (t2:bJ tp2 s.heap l2 ys) (hx:xs[k1]? =none\/ys[k2]? =none)
  (q:∀ h' e,(∀ c o,c≠z->c≠TO->c≠i1->c≠i2->s.heap.get? c=some o->h'.get? c=some o)->(∃ o,h'.get? e=some o/\o.cls=.type "StopIteration")->E (.ref e) { s with heap:=h' }):
  wpAny (model prog w) A (Builtin.«zip.__next__» ⟨[.ref z],[]⟩) Q E s:=by
 show wpAny _ _ (field (.ref z) 2 >>= _) _ _ _;refine ad (ap (x:=.bool false) hz rfl rfl ?_);show wpAny _ _ (field (.ref z) 3 >>= _) _ _ _;refine ad (ap (x:=.ref TI) hz rfl rfl ?_);refine ad (wpAny_seqItems hI rfl ?_);show wpAny _ _ (Builtin.SmallTypes.ownedTupleIsFree (.ref z) >>= _) _ _ _;refine ad ?_;unfold Builtin.SmallTypes.ownedTupleIsFree;refine ad (ap (x:=.none) hz rfl rfl (am ?_));simp only[if_true];refine ad (wpAny_rule ?_);refine ad (ap (x:=.ref TO) hz rfl rfl ?_);refine ad (wpAny_setField_rec hz (by simp) λp1 z1 b1=>?_)
 replace z1:bN p1 z TI TO .ellipsis f1:=z1
 refine ad ?_;simp only[List.zipIdx_cons,List.zipIdx_nil,forIn_cons,forIn_nil];refine ad (ad (wpAny_onRaise ?_));show wpAny _ _ (Builtin.SmallTypes.nextOf (.ref i1) >>= _) _ _ _;cases e1:xs[k1]? with
 |none=>
  refine ad (pB hh (g1.to λo e=>b1.extBut _ o D.i1z e) (t1.to λo e=>b1.extBut _ o D.l1z e) e1 λp2 e b2 he=>?_);obtain⟨oe,ho,hc⟩:=he;have z2:bN p2 z TI TO .ellipsis f1:=b2 _ _ D.i1z.symm z1;have ne:e≠z:=λn=>by subst n;rw[z2]at ho;cases ho;simp at hc
  exact wpAny_setField_rec z2 (by simp) λp3 _ b3=>q p3 e (λc o n1 _ n3 _ v=>b3.extBut _ _ n1 (b2 _ _ n3 (b1.extBut _ _ n1 v))) ⟨oe,b3.extBut _ _ ne ho,hc⟩
 |some x=>
  have e2:ys[k2]? =none:=by rcases hx with h|h;(rw[e1]at h;cases h);exact h
  refine ad (fh (g1.to λo e=>b1.extBut _ o D.i1z e) (t1.to λo e=>b1.extBut _ o D.l1z e) e1 λp2 g1b b2=>am ?_);have hO2:IsPair p2 TO a b:=b2.extBut _ _ D.TOi1 (b1.extBut _ _ D.TOz hO);refine ad (wpAny_seqItems hO2 rfl ?_);refine ad (wpAny_updateSeq_pair hO2 λp3 hO3 b3=>?_);refine ad (wpAny_letGo (am ?_));refine ad (ad (wpAny_onRaise ?_));show wpAny _ _ (Builtin.SmallTypes.nextOf (.ref i2) >>= _) _ _ _;refine ad (pB hh (g2.to λo e=>b3.extBut _ o D.TOi2.symm (b2.extBut _ o D.i12.symm (b1.extBut _ o D.i2z e))) (t2.to λo e=>b3.extBut _ o D.l2TO (b2.extBut _ o D.l2i1 (b1.extBut _ o D.l2z e))) e2 λp4 e b4 he=>?_);obtain⟨oe,ho,hc⟩:=he;have z4:bN p4 z TI TO .ellipsis f1:=b4 _ _ D.i2z.symm (b3.extBut _ _ D.TOz.symm (b2.extBut _ _ D.i1z.symm z1));have ne:e≠z:=λn=>by subst n;rw[z4]at ho;cases ho;simp at hc
  exact wpAny_setField_rec z4 (by simp) λp5 _ b5=>q p5 e (λc o n1 n2 n3 n4 v=>b5.extBut _ _ n1 (b4 _ _ n4 (b3.extBut _ _ n2 (b2.extBut _ _ n3 (b1.extBut _ _ n1 v))))) ⟨oe,b5.extBut _ _ ne ho,hc⟩
def rE {Q:Option Obj->Shared->Prop}(h:Q (s.heap.get? c) s):wpAny (model prog w) A (loadIfAlive c) Q E s:=λ_ _ _=>h
variable {t:Tok}
def rl {Q:Bool->Shared->Prop}(hz:bN s.heap z TI TO (.int T t) (.bool fb))(hT:s.heap.get? T.toNat=some oT)(q:∀ h',bN h' z TI TO (.int T t) (.bool true)->Heap.SameBut z s.heap h'->Q false { s with heap:=h' }):
  wpAny (model prog w) A (Builtin.SmallTypes.ownedTupleIsFree (.ref z)) Q E s:=by
 unfold Builtin.SmallTypes.ownedTupleIsFree;refine ad (ap (x:=.int T t) hz rfl rfl ?_);refine ad (rE ?_);rw[hT];refine ad (ap (x:=.bool fb) hz rfl rfl ?_);cases fb
 .refine ad (wpAny_setField_rec hz (by simp) λp1 z1 b1=>am ?_);exact q p1 z1 b1
 .exact ad (am (am (q s.heap hz (Heap.SameBut.refl ..))))
def B6 (D:ZipApart z TI TO i1 i2 l1 l2)(hz:bN s.heap z TI TO (.int T t) (.bool fb))(hT:s.heap.get? T.toNat=some oT)(hI:IsPair s.heap TI (.ref i1) (.ref i2))
  (g1:a9 tp1 s.heap i1 l1 k1) (g2:a9 tp2 s.heap i2 l2 k2) (t1:bJ tp1 s.heap l1 xs) (t2:bJ tp2 s.heap l2 ys) (hx:xs[k1]? =some x) (hy:ys[k2]? =some y)
  (q:∀ h',bN h' z TI TO (.int T t) (.bool true)->a9 tp1 h' i1 l1 (k1+1)->a9 tp2 h' i2 l2 (k2+1)->IsPair h' s.heap.objs.size x y->h'.objs.size=s.heap.objs.size+1->
   (∀ c o,c≠z->c≠i1->c≠i2->s.heap.get? c=some o->h'.get? c=some o)->Q (some (.ref s.heap.objs.size)) { s with heap:=h' }):wpAny (model prog w) A (pyNext (.ref z)) Q E s:=by
 have hZ:s.TypeIs (.ref z) "zip":=⟨_,hz,rfl⟩;unfold pyNext;refine ad (wpAny_attempt (wpAny_callSpecial?_slot (name:=Str.ofString "__next__") hZ F.slot_zip_next (wpAny_call_entry F.slot_zip_next hZ F.entry_zip_next ?_ (F.args_zip_next_1 _))));show wpAny _ _ (field (.ref z) 2 >>= _) _ _ _;refine ad (ap (x:=.bool false) hz rfl rfl ?_);show wpAny _ _ (field (.ref z) 3 >>= _) _ _ _;refine ad (ap (x:=.ref TI) hz rfl rfl ?_);refine ad (wpAny_seqItems hI rfl ?_);show wpAny _ _ (Builtin.SmallTypes.ownedTupleIsFree (.ref z) >>= _) _ _ _;refine ad (rl hz hT λp1 z1 b1=>?_);simp only[Bool.false_eq_true,if_false];simp only[List.forIn_toArray,forIn_cons,forIn_nil];refine ad (ad (ad (bd ?_)));show wpAny _ _ (Builtin.SmallTypes.nextOf (.ref i1) >>= _) _ _ _;refine ad (fh (g1.to λo e=>b1.extBut _ o D.i1z e) (t1.to λo e=>b1.extBut _ o D.l1z e) hx λp2 g1b b2=>am (am ?_));dsimp only;refine ad (ad (bd ?_));show wpAny _ _ (Builtin.SmallTypes.nextOf (.ref i2) >>= _) _ _ _;refine ad (fh (g2.to λo e=>b2.extBut _ o D.i12.symm (b1.extBut _ o D.i2z e)) (t2.to λo e=>b2.extBut _ o D.l2i1 (b1.extBut _ o D.l2z e)) hy λp3 g2b b3=>am (am (am ?_)));dsimp only;refine ad (wpAny_newTuple ?_ (hsz:=fits (pc rfl)));have hsz:p3.objs.size=s.heap.objs.size:=by rw[b3.1,b2.1,b1.1]
 refine am ⟨_,rfl,?_⟩;have z3:bN p3 z TI TO (.int T t) (.bool true):=b3.extBut _ _ D.i2z.symm (b2.extBut _ _ D.i1z.symm z1);rw[hsz];refine am (q _ (ul _ z3) (g1b.to λo e=>ul _ (b3.extBut _ o D.i12 e)) (g2b.to λo e=>ul _ e) (by rw[<-hsz];exact v4 _ rfl) (by rw[Heap.size_push,hsz]) λc o n1 n2 n3 e=>?_);exact ul _ (b3.extBut _ _ n3 (b2.extBut _ _ n2 (b1.extBut _ _ n1 e)))
def AN {Q:Fin->Shared->Prop}(hh:A.handled=none)(D:ZipApart z TI TO i1 i2 l1 l2)(hz:bN s.heap z TI TO (.int T t) (.bool fb))(hT:s.heap.get? T.toNat=some oT)(hI:IsPair s.heap TI (.ref i1) (.ref i2))
  (g1:a9 tp1 s.heap i1 l1 k1) (g2:a9 tp2 s.heap i2 l2 k2) (t1:bJ tp1 s.heap l1 xs) (t2:bJ tp2 s.heap l2 ys) (hx:xs[k1]? =none\/ys[k2]? =none)
  (q:∀ h' e,(∀ c o,c≠z->c≠i1->c≠i2->s.heap.get? c=some o->h'.get? c=some o)->(∃ o,h'.get? e=some o/\o.cls=.type "StopIteration")->E (.ref e) { s with heap:=h' }):
  wpAny (model prog w) A (Builtin.«zip.__next__» ⟨[.ref z],[]⟩) Q E s:=by
 show wpAny _ _ (field (.ref z) 2 >>= _) _ _ _;refine ad (ap (x:=.bool false) hz rfl rfl ?_);show wpAny _ _ (field (.ref z) 3 >>= _) _ _ _;refine ad (ap (x:=.ref TI) hz rfl rfl ?_);refine ad (wpAny_seqItems hI rfl ?_);show wpAny _ _ (Builtin.SmallTypes.ownedTupleIsFree (.ref z) >>= _) _ _ _;refine ad (rl hz hT λp1 z1 b1=>?_);simp only[Bool.false_eq_true,if_false];simp only[List.forIn_toArray,forIn_cons,forIn_nil];refine ad (ad (ad (bd ?_)));show wpAny _ _ (Builtin.SmallTypes.nextOf (.ref i1) >>= _) _ _ _;cases e1:xs[k1]? with
 |none=>exact ad (pB hh (g1.to λo e=>b1.extBut _ o D.i1z e) (t1.to λo e=>b1.extBut _ o D.l1z e) e1 λp2 e b2 he=>q p2 e (λc o n1 n2 n3 v=>b2 _ _ n2 (b1.extBut _ _ n1 v)) he)
 |some x=>
  have e2:ys[k2]? =none:=by rcases hx with h|h;(rw[e1]at h;cases h);exact h
  refine ad (fh (g1.to λo e=>b1.extBut _ o D.i1z e) (t1.to λo e=>b1.extBut _ o D.l1z e) e1 λp2 g1b b2=>am (am ?_));dsimp only;refine ad (ad (bd ?_));show wpAny _ _ (Builtin.SmallTypes.nextOf (.ref i2) >>= _) _ _ _;exact ad (pB hh (g2.to λo e=>b2.extBut _ o D.i12.symm (b1.extBut _ o D.i2z e)) (t2.to λo e=>b2.extBut _ o D.l2i1 (b1.extBut _ o D.l2z e)) e2 λp4 e b4 he=>q p4 e (λc o n1 n2 n3 v=>b4 _ _ n3 (b2.extBut _ _ n2 (b1.extBut _ _ n1 v))) he)
def Ak (hh:A.handled=none)(D:ZipApart z TI TO i1 i2 l1 l2)(hz:bN s.heap z TI TO .none f1)(hI:IsPair s.heap TI (.ref i1) (.ref i2))(hO:IsPair s.heap TO a b)
  (g1:a9 tp1 s.heap i1 l1 k1) (g2:a9 tp2 s.heap i2 l2 k2) (t1:bJ tp1 s.heap l1 xs) (t2:bJ tp2 s.heap l2 ys) (hx:xs[k1]? =none\/ys[k2]? =none)
  (q:∀ h',(∀ c o,c≠z->c≠TO->c≠i1->c≠i2->s.heap.get? c=some o->h'.get? c=some o)->Q none { s with heap:=h' }):wpAny (model prog w) A (pyNext (.ref z)) Q E s:=by
 have hT:s.TypeIs (.ref z) "zip":=⟨_,hz,rfl⟩;unfold pyNext;refine ad (wpAny_attempt (wpAny_callSpecial?_slot (name:=Str.ofString "__next__") hT F.slot_zip_next (wpAny_call_entry F.slot_zip_next hT F.entry_zip_next (HS hh D hz hI hO g1 g2 t1 t2 hx λh' e k ⟨o,ho,hc⟩=>?_) (F.args_zip_next_1 _))));exact ad (wpAny_isInstance (T:="StopIteration") (b:=true) ⟨o,ho,hc⟩ isSubtype_stop (am (q _ k)))
def Aw (hh:A.handled=none)(D:ZipApart z TI TO i1 i2 l1 l2)(hz:bN s.heap z TI TO (.int T t) (.bool fb))(hT:s.heap.get? T.toNat=some oT)(hI:IsPair s.heap TI (.ref i1) (.ref i2))
  (g1:a9 tp1 s.heap i1 l1 k1) (g2:a9 tp2 s.heap i2 l2 k2) (t1:bJ tp1 s.heap l1 xs) (t2:bJ tp2 s.heap l2 ys) (hx:xs[k1]? =none\/ys[k2]? =none)
  (q:∀ h',(∀ c o,c≠z->c≠i1->c≠i2->s.heap.get? c=some o->h'.get? c=some o)->Q none { s with heap:=h' }):wpAny (model prog w) A (pyNext (.ref z)) Q E s:=by
 have hT':s.TypeIs (.ref z) "zip":=⟨_,hz,rfl⟩;unfold pyNext;refine ad (wpAny_attempt (wpAny_callSpecial?_slot (name:=Str.ofString "__next__") hT' F.slot_zip_next (wpAny_call_entry F.slot_zip_next hT' F.entry_zip_next (AN hh D hz hT hI g1 g2 t1 t2 hx λh' e k ⟨o,ho,hc⟩=>?_) (F.args_zip_next_1 _))));exact ad (wpAny_isInstance (T:="StopIteration") (b:=true) ⟨o,ho,hc⟩ isSubtype_stop (am (q _ k)))
abbrev yk (tp:Bool)(c:Addr):Obj:=match tp with
 |true=>{ cls:=.type "tuple_iterator",data:=.fields #[.ref c,.int 0 0] }
 |false=>{ cls:=.type "list_iterator",data:=.fields #[.ref c,.int 0 0] }
def rp {vs:Array Value}{Q:NH}(t:bJ tp s.heap c vs)(q:Q (.ref s.heap.objs.size) { s with heap:=s.heap.push (yk tp c) }):wpAny (model prog w) A (pyIter (.ref c)) Q E s:=by
 cases tp
 .exact wpAny_pyIter_list t q
 .exact wpAny_pyIter_tuple t q
@[reducible]def Ii (a:Array Value):Obj:={ cls:=.type "tuple",data:=.seq a }
@[reducible]def GF (m n:Addr):Obj:={ cls:=.type "zip",data:=.fields #[.none,.bool false,.bool false,.ref m,.ref n] }
def KG {l:Addr}:(yk tp l).isFreed=false:=by cases tp<;>rfl
def IV {n:Nat}(o:Obj)(hn:h.objs.size=n)(ho:o.isFreed=false:=by first|rfl|exact KG):∃ h',h.push o=h'/\h'.get? n=some o/\h'.objs.size=n+1/\∀ c o',h.get? c=some o'->h'.get? c=some o':=
 ⟨_,rfl,hn▸v4 _ ho,by rw[Heap.size_push,hn],λ_ _ e=>ul _ e⟩
def MV {i l:Addr}(e:h.get? i=some (yk tp l)):a9 tp h i l 0:=by
 cases tp
 .exact⟨_,e,rfl,rfl⟩
 .exact⟨_,e,rfl,rfl⟩
noncomputable abbrev Eg (h:Heap)(tp1 tp2:Bool)(l1 l2:Addr):Heap:=((((h.push (yk tp1 l1)).push (yk tp2 l2)).push (Ii #[.ref h.objs.size,.ref (h.objs.size+1)])).push (Ii #[.none,.none])).push (GF (h.objs.size+2) (h.objs.size+3))
def Dq (tp1 tp2:Bool)(l1 l2:Addr)(xs ys:Array Value):Meets (Builtin.«zip.__new__» ⟨[.type "zip",.ref l1,.ref l2],[]⟩)
  (λ_ R s=>bJ tp1 s.heap l1 xs/\bJ tp2 s.heap l2 ys/\R (.ok (.ret (.ref (s.heap.objs.size+4)))) { s with heap:=Eg s.heap tp1 tp2 l1 l2 }):=.of_wp λprog w A R s h=>by
 obtain⟨hp,g,d,tk,os⟩:=s;obtain⟨t1,t2,q⟩:=h;have hsub:=sub_zip;have t2':bJ tp2 (hp.push (yk tp1 l1)) l2 ys:=t2.to λo e=>ul _ e
 wp_walk using rp (s:=⟨hp,g,d,tk,os⟩) t1,rp (s:=⟨hp.push (yk tp1 l1),g,d,tk,os⟩) t2'
 refine⟨_,rfl,?_⟩;simp only[Heap.size_push,Nat.add_assoc]at q⊢;exact q
def rL {Q:NH}(t1:bJ tp1 s.heap l1 xs)(t2:bJ tp2 s.heap l2 ys)
  (q:∀ h',bN h' (s.heap.objs.size+4) (s.heap.objs.size+2) (s.heap.objs.size+3) .none (.bool false)->IsPair h' (s.heap.objs.size+2) (.ref s.heap.objs.size) (.ref (s.heap.objs.size+1))->
   IsPair h' (s.heap.objs.size+3) .none .none->a9 tp1 h' s.heap.objs.size l1 0->a9 tp2 h' (s.heap.objs.size+1) l2 0->h'.objs.size=s.heap.objs.size+5->
   (∀ c o,s.heap.get? c=some o->h'.get? c=some o)->Q (.ref (s.heap.objs.size+4)) { s with heap:=h' }):
  wpAny (model prog w) A (call (.type "zip") [.ref l1,.ref l2]) Q E s:=by
 refine callType_new F.called_zip (by decide) (F.typeCall_zip_2 _ _) (F.newCall_zip_2 _ _) (λobj=>F.args_object_init_3 obj _ _) F.entry_zip_new (Dq tp1 tp2 l1 l2 xs ys) ⟨t1,t2,?_⟩;generalize hn:s.heap.objs.size=n at q⊢;have hz:Eg s.heap tp1 tp2 l1 l2=((((s.heap.push (yk tp1 l1)).push (yk tp2 l2)).push (Ii #[.ref n,.ref (n+1)])).push (Ii #[.none,.none])).push (GF (n+2) (n+3)):=by rw[<-hn]
 obtain⟨_,a1,e0,z0,k0⟩:=IV (yk tp1 l1) hn;obtain⟨_,a2,e1,z1,k1⟩:=IV (yk tp2 l2) z0;obtain⟨_,a3,e2,z2,k2⟩:=IV (Ii #[.ref n,.ref (n+1)]) z1;obtain⟨_,a4,e3,z3,k3⟩:=IV (Ii #[.none,.none]) z2;obtain⟨_,a5,e4,z4,k4⟩:=IV (GF (n+2) (n+3)) z3;rw[hz,a1,a2,a3,a4,a5];exact⟨⟨_,e4,rfl⟩,q _ e4 (k4 _ _ (k3 _ _ e2)) (k4 _ _ e3) ((MV e0).to λo e=>k4 _ _ (k3 _ _ (k2 _ _ (k1 _ _ e)))) ((MV e1).to λo e=>k4 _ _ (k3 _ _ (k2 _ _ e))) z4 λc o e=>k4 _ _ (k3 _ _ (k2 _ _ (k1 _ _ (k0 _ _ e))))⟩
def AJ {n:Addr}(a1:l1<n)(a2:l2<n):ZipApart (n+4) (n+2) (n+3) n (n+1) l1 l2:=by
 constructor<;>(intro e;have e':=(show @Eq Nat _ _ from e);have b1:=(show @LT.lt Nat _ l1 n from a1);have b2:=(show @LT.lt Nat _ l2 n from a2);omega)
def wV {m:Nat}{T:Addr}{Q:NG}(hz:bN s.heap z TI TO (rawInt T) f1)(q:∀ h',bN h' z TI TO .none f1->Heap.SameBut z s.heap h'->Q () { s with heap:=h' }):
  wpAny (model prog w) A (letOwnedTupleGo (.Tuple elts m pos) (.ref z) (.ref T)) Q E s:=by
 unfold letOwnedTupleGo;refine ad (wpAny_load hz ?_);show wpAny _ _ (if(["enumerate","zip","dict_itemiterator","dict_reverseitemiterator","odict_iterator","itertools.zip_longest","itertools.pairwise"].contains "zip"&&(#[rawInt T,f1,.bool false,.ref TI,.ref TO]:Array Value)[0]? ==some (rawInt T))=true then _ else _) Q E s;rw[if_pos (by simp)];exact ad (wpAny_rule (wpAny_setField_rec hz (by simp) λh' z' b'=>q h' z' b'))
def lX {f0:Value}{Q:NH}(hz:bN s.heap z TI TO f0 f1)(h:Q (.ref z) s):wpAny (model prog w) A (pyIter (.ref z)) Q E s:=by
 have hT:s.TypeIs (.ref z) "zip":=⟨_,hz,rfl⟩;refine wpAny_pyIter_slot hT F.slot_zip_iter (wpAny_call_entry F.slot_zip_iter hT F.entry_zip_iter ?_ (F.args_zip_iter_1 _));show wpAny _ _ (ret (.ref z)) _ _ s;exact am ⟨_,rfl,"zip",_,hT,F.slot_zip_next.lookup,h⟩
end
variable {X:Cx}{Y:NI}{U:St}{H:Hp}{s:Shared}
def Inv.BP {h':Heap}{t':Nat}{ch:List Addr}(I:Inv X Y U H s)(k:∀ b u,b ∉ ch->s.heap.get? b=some u->h'.get? b=some u) (hf:∀ b ∈ ch,iP X Y H b):Inv X Y U H { s with heap:=h',toks:=t' }:=by
 have nch:∀ b u,H b=some u->b ∉ ch:=λb u e z=>by rw[(hf b z).1]at e;cases e
 refine I.step (g':=s.gens) (d':=s.drawn) (ch:=ch) (λb hb=>?_) (λb o _ _ hc e _=>k b o hc e) (λb o _ _ hc e _=>⟨o.slots,k b o hc e⟩) (λ_ _ _ _ n=>n)
  (λb o hc e=>⟨o,k b o hc e⟩) (λ_ _ e=>e) (λ_ _ _ e=>e) (λb ps e=>⟨#[],by rw[e];simp⟩) (λm hm=>?_) (λb u e=>?_) I.bare
 .obtain⟨_,f1,_,f3,f4,f5⟩:=hf b hb;exact⟨f3,f1,f4,f5⟩
 .obtain⟨o,es,ep,ho,r⟩:=hm;exact⟨o,es,ep,k _ o (λz=>(hf _ z).2.1 rfl) ho,r⟩
 .refine(I.hok b u e).j4 (λc v hc q=>k c v ?_ q) (λ_ q=>q) λ_ _ q=>q
  rcases hc with rfl|hc
  .exact nch _ _ e
  .exact nch _ _ hc
abbrev Sq (K:W.Frag)(tp:Bool)(H:Hp)(c:Addr)(xs:List V):Prop:=match tp with
 |true=>a8 K H c xs
 |false=>aS K H c xs
def Inv.sq {xs:List V}(I:Inv X Y U H s)(h:Sq X.K tp H c xs):∃ its:List Value,Vals xs its/\bJ tp s.heap c its.toArray:=by
 cases tp
 .obtain⟨its,r,p,_⟩:=I.list h;exact⟨its,r,p.isList⟩
 .obtain⟨its,r,p,_⟩:=I.tuple h;exact⟨its,r,p⟩
def Inv.zj {xs ys:List V}(I:Inv X Y U H s)(h:Sq X.K tp H c xs)(h':Sq X.K tp H c ys):xs=ys:=by
 cases tp
 .exact I.eh h h'
 .exact I.i8 h h'
abbrev Ik (K:W.Frag)(tp1:Bool)(l1:Addr)(tp2:Bool)(l2:Addr):It:=
 ⟨λi H=>∃ xs ys x y,Sq K tp1 H l1 xs/\Sq K tp2 H l2 ys/\xs[i]? =some x/\ys[i]? =some y,
  λi H v H'=>∃ T x y,H T=none/\v=.ref T/\H'=upd H T (.tup [x,y])/\(∀ xs,Sq K tp1 H l1 xs->xs[i]? =some x)/\∀ ys,Sq K tp2 H l2 ys->ys[i]? =some y,
  λi H=>∃ xs ys,Sq K tp1 H l1 xs/\Sq K tp2 H l2 ys/\(xs.length<=i\/ys.length<=i)⟩
def yy {P:Program}{w:World}{K:W.Frag}{tp1 tp2:Bool}{z TI TO i1 i2 l1 l2:Addr}(D:ZipApart z TI TO i1 i2 l1 l2):
  Turn P w K (.Tuple elts k pos) (Ik K tp1 l1 tp2 l2) [z,TI,TO,i1,i2] z (λi h=>(∃ f1,bN h z TI TO .none f1)/\IsPair h TI (.ref i1) (.ref i2)/\(∃ a b,IsPair h TO a b)/\a9 tp1 h i1 l1 i/\a9 tp2 h i2 l2 i) where
 mem:=by simp
 obj:=λi h st b hb=>by
  obtain⟨⟨f1,hz⟩,hI,⟨a,b',hO⟩,g1,g2⟩:=st;have it:∀ {tp:Bool}{j c:Addr}{k:Nat},a9 tp h j c k->∃ o,h.get? j=some o/\∀ v,o.data≠.cell v:=λ{tp j c k} g=>by
   cases tp
   .obtain⟨o,e,_,d⟩:=(show h.IsListIter j c k from g);exact⟨o,e,λv z=>by rw[d]at z;cases z⟩
   .obtain⟨o,e,_,d⟩:=(show h.IsTupleIter j c k from g);exact⟨o,e,λv z=>by rw[d]at z;cases z⟩
  simp only[nb,not_mem_nil,or_false]at hb;rcases hb with rfl|rfl|rfl|rfl|rfl
  .exact⟨_,hz,λv e=>by cases(show Data.fields _=Data.cell v from e)⟩
  .exact⟨_,hI,λv e=>by cases(show Data.seq _ _=Data.cell v from e)⟩
  .exact⟨_,hO,λv e=>by cases(show Data.seq _ _=Data.cell v from e)⟩
  .exact it g1
  .exact it g2
 keep:=λi h h' st k=>by
  obtain⟨⟨f1,hz⟩,hI,⟨a,b',hO⟩,g1,g2⟩:=st;exact⟨⟨f1,k z (by simp) _ hz⟩,k TI (by simp) _ hI,⟨a,b',k TO (by simp) _ hO⟩,g1.to λo e=>k i1 (by simp) o e,g2.to λo e=>k i2 (by simp) o e⟩
 item:=by
  intro X hP hw hK hc i Y s U H E I hf st hg;subst hP hw hK;obtain⟨xs,ys,x,y,hq1,hq2,hx,hy⟩:=hg;obtain⟨⟨f1,hz⟩,hI,⟨a,b,hO⟩,g1,g2⟩:=st;obtain⟨is1,r1,t1⟩:=I.sq hq1;obtain⟨is2,r2,t2⟩:=I.sq hq2;obtain⟨u,hu,ru⟩:=r1.get hx;obtain⟨v,hv,rv⟩:=r2.get hy;have n0:∀ {c o},s.heap.get? c=some o->c≠s.heap.objs.size:=λe=>pi (ut e)
  refine vU D hz hI hO g1 g2 t1 t2 (x:=u) (y:=v) (by simpa using hu) (by simpa using hv) λh1 z1 o1 j1 j2 hT hs1 k1=>?_
  have I1:Inv X Y U (upd H s.heap.objs.size (.tup [x,y])) { s with heap:=h1,toks:=s.toks }:=
   I.qy (ch:=[z,TI,TO,i1,i2]) (λb o hb q=>k1 b o (λe=>hb (by simp[e])) (λe=>hb (by simp[e])) (λe=>hb (by simp[e])) (λe=>hb (by simp[e])) q) hf (re _)
    ⟨fits (pc rfl),[u,v],.cons ru (.cons rv .nil),⟨_,hT,rfl,_,rfl⟩⟩
  refine⟨_,rfl,wV z1 λh2 z2 b2=>?_⟩;obtain⟨f0,f1',f2,f3,f4,f5⟩:=hf z (by simp);have I2:=I1.turned (h':=h2) (t':=s.toks) (it:=z) (λb o hb q=>(b2.2 b hb).trans q) (by rw[ah (n0 hz)];exact f0) f1' f3 f4 f5;refine⟨.ref s.heap.objs.size,_,I2,rfl,⟨_,x,y,I.hok.fresh (re _),rfl,rfl,λzs hz'=>?_,λzs hz'=>?_⟩,⟨⟨_,z2⟩,?_,⟨_,_,b2.extBut _ _ D.TOz o1⟩,j1.to λo e=>b2.extBut _ o D.i1z e,j2.to λo e=>b2.extBut _ o D.i2z e⟩,λb hb=>?_⟩
  .rw[I.zj hz' hq1];exact hx
  .rw[I.zj hz' hq2];exact hy
  .exact b2.extBut _ _ D.TIz (k1 _ _ D.TIz D.TITO D.TIi1 D.TIi2 hI)
  .have hb':b≠s.heap.objs.size:=by
    simp only[nb,not_mem_nil,or_false]at hb;rcases hb with rfl|rfl|rfl|rfl|rfl
    .exact n0 hz
    .exact n0 hI
    .exact n0 hO
    .exact pi g1.lt
    .exact pi g2.lt
   rw[ah hb'];exact(hf b hb).1
 done:=by
  intro X hP hw hK hc i Y s U H E I hf st hg;subst hP hw hK;obtain⟨xs,ys,hq1,hq2,hx⟩:=hg;obtain⟨⟨f1,hz⟩,hI,⟨a,b,hO⟩,g1,g2⟩:=st;obtain⟨is1,r1,t1⟩:=I.sq hq1;obtain⟨is2,r2,t2⟩:=I.sq hq2;have e1:=r1.length;have e2:=r2.length;refine Ak (I.ok.hd hc) D hz hI hO g1 g2 t1 t2 (by simp;omega) λh' k'=>⟨rfl,?_⟩
  exact I.BP (t':=s.toks) (ch:=[z,TI,TO,i1,i2]) (λb o hb q=>k' b o (λe=>hb (by simp[e])) (λe=>hb (by simp[e])) (λe=>hb (by simp[e])) (λe=>hb (by simp[e])) q) hf
 self:=λ_ _ _ _ _ st h=>by
  obtain⟨⟨f1,hz⟩,_⟩:=st;exact lX hz h
def y8:bootBuiltins "zip"=some (.type "zip"):=by decide+kernel
abbrev Kq (K:W.Frag)(v u:V)(H:Hp)(R:It->Hp->Prop):Prop:=∃ tp1 l1 tp2 l2,v=.ref l1/\u=.ref l2/\(∃ xs,Sq K tp1 H l1 xs)/\(∃ ys,Sq K tp2 H l2 ys)/\R (Ik K tp1 l1 tp2 l2) H
abbrev Mc (K:W.Frag)(ta:TA):TI:=λU H R=>ta U H λvs H1=>∃ v u,vs=[v,u]/\Kq K v u H1 R
variable {ta:TA}{p:Pos}
def Hw {a b:Expr}{pos':Pos}(hg:Gl X "zip") (hm:X.mg "zip"=none) (ha:PA X [a,b] ta) (hs:bm [a,b] X.env=(false,eval a X.env)::bm [b] X.env:=by rfl) (hpl:(backTo pos (bm [b] X.env)).any (·.1)=false:=by rfl):
  PI X (.Tuple elts k pos') (.Call (.Name "zip" p) [a,b] [] pos) (Mc X.K ta):=by
 intro Y s U H R I h;refine Call_ (cW I hg hm y8 (PyProof.Rows.callWith_type1 (aA (ha pos Y s U H _ I h) λus s1 ⟨vs,H1,I1,r1,q1⟩=>?_) hs hpl));obtain⟨v,u,e,tp1,l1,tp2,l2,e1,e2,⟨xs,q1⟩,⟨ys,q2⟩,q⟩:=q1;subst e e1 e2;cases r1 with
 |cons r rr=>
  cases rr with
  |cons r' rr'=>
   cases rr';cases r;cases r';obtain⟨is1,s1',t1⟩:=I1.sq q1;obtain⟨is2,s2',t2⟩:=I1.sq q2;refine rL t1 t2 λh' hz hI hO g1 g2 hsz hk=>?_
   refine lX hz ?_;refine⟨s1.heap.objs.size+4,[s1.heap.objs.size+4,s1.heap.objs.size+2,s1.heap.objs.size+3,s1.heap.objs.size,s1.heap.objs.size+1],_,_,H1,rfl,I1.kept (t':=s1.toks) hk,yy (AJ t1.lt t2.lt),⟨⟨_,hz⟩,hI,⟨_,_,hO⟩,g1,g2⟩,λb hb=>?_,q⟩;have hb':s1.heap.objs.size<=b:=by
    simp only[nb,not_mem_nil,or_false]at hb;rcases hb with rfl|rfl|rfl|rfl|rfl<;>first|exact re _|exact Nat.le_add_right _ _
   exact I1.zY hb' (I1.hok.fresh hb')
def pd:entryFor table "zip.__getattribute__"=some Builtin.«object.__getattribute__»:=entryFor_alias (id':="object.__getattribute__") (by kernel_rfl) (by first|rfl|decide+kernel) (by decide+kernel) (by kernel_rfl)
def rF:typeLookup (.type "zip") "keys"=pure none:=by rw[typeLookup_type,builtinLookup_eq_fast];kernel_rfl
def xT:typeLookup (.type "zip") "__getattr__"=pure none:=by rw[typeLookup_type,builtinLookup_eq_fast];kernel_rfl
def wR (a:Addr)(vs:Array Value)(u:Tok):Meets (Builtin.«object.__getattribute__» ⟨[.ref a,.str "keys" u],[]⟩) (λA R s=>s.heap.get? a=some { cls:=.type "zip",dict:=none,data:=.fields vs,slots:=#[] }/\raisesAttr (.ref a) "keys" A R s):=
 Meets.of_wp λprog w A R s ⟨hx,hs⟩=>by
  obtain⟨hp,g,d,tk,os⟩:=s;have hT:(⟨hp,g,d,tk,os⟩:Shared).TypeIs (.ref a) "zip":=⟨_,hx,rfl⟩;have f4:=rF;unfold Builtin.«object.__getattribute__»
  repeat(any_goals first|assumption|wp_step)
  exact wpAny_raiseAttrError hs.1 hs.2 (attrMsg_fits (by decide+kernel) (by rw[sizeLine_eq];decide+kernel))
section
variable {prog:Program}{w:World}{A:Around}{E:NH}{s:Shared}{a:Addr}{vs:Array Value}
def AZ (hA:A.handled=none)(hx:s.heap.get? a=some { cls:=.type "zip",dict:=none,data:=.fields vs,slots:=#[] })
  (q:∀ h' t',(∀ c u,s.heap.get? c=some u->h'.get? c=some u)->Q none { s with heap:=h',toks:=t' }):wpAny (model prog w) A (getAttr? (.ref a) "keys") Q E s:=by
 obtain⟨hp,g,d,tk,os⟩:=s;have hT:∀ t',(⟨hp,g,d,t',os⟩:Shared).TypeIs (.ref a) "zip":=λ_=>⟨_,hx,rfl⟩
 have f1:=sub_AttributeError;have f3:=PySem.F.slot_zip_getattribute.lookup;have f4:=PySem.F.slot_zip_getattribute.bind (.ref a);have f5:=xT;unfold getAttr? getAttrBy? getAttrBy
 repeat(any_goals first|assumption|((with_reducible show wpAny _ _ (call (Value.builtin "zip.__getattribute__") _ _) _ _ _);refine call_meets PySem.F.slot_zip_getattribute (hT _) pd (PySem.F.args_zip_getattribute_2 _ _) (wR a vs _) ⟨hx,hA,λh' tk' e he=>?_⟩)|wp_step)
 obtain⟨t1,u1,e1⟩:=he.there;show wpAny _ _ (getattributeRaised _ _ _ _ _ _ _) _ _ _;unfold getattributeRaised
 repeat(any_goals first|assumption|wp_step)
 exact q _ _ he.keeps
end
structure Zs (h:Heap) (tp1 tp2:Bool) (z TI TO i1 i2 l1 l2:Addr) (i:Nat) (xs ys:Array Value):Prop where
 zo:(∃ f1,bN h z TI TO .none f1)\/∃ (T:Int) (fb:Bool) (o:Obj),bN h z TI TO (rawInt T) (.bool fb)/\h.get? T.toNat=some o/\T.toNat≠z/\T.toNat≠TO/\T.toNat≠i1/\T.toNat≠i2
 hI:IsPair h TI (.ref i1) (.ref i2)
 hO:∃ a b,IsPair h TO a b
 g1:a9 tp1 h i1 l1 i
 g2:a9 tp2 h i2 l2 i
 t1:bJ tp1 h l1 xs
 t2:bJ tp2 h l2 ys
variable {d:Addr}
section
variable {prog:Program}{w:World}{A:Around}{E:NH}{s:Shared}{tp1 tp2:Bool}{z TI TO i1 i2 l1 l2:Addr}{i:Nat}{xs ys:Array Value}{x y:Value}
def Zs.next (D:ZipApart z TI TO i1 i2 l1 l2)(Z:Zs s.heap tp1 tp2 z TI TO i1 i2 l1 l2 i xs ys)(hx:xs[i]? =some x)(hy:ys[i]? =some y)
  (q:∀ h',Zs h' tp1 tp2 z TI TO i1 i2 l1 l2 (i+1) xs ys->IsPair h' s.heap.objs.size x y->h'.objs.size=s.heap.objs.size+1->(∀ c o,c≠z->c≠TO->c≠i1->c≠i2->s.heap.get? c=some o->h'.get? c=some o)->Q (some (.ref s.heap.objs.size)) { s with heap:=h' }):
  wpAny (model prog w) A (pyNext (.ref z)) Q E s:=by
 obtain⟨zo,hI,⟨a,b,hO⟩,g1,g2,t1,t2⟩:=Z;have n0:∀ {c o},s.heap.get? c=some o->s.heap.objs.size≠c:=λe=>Nat.ne_of_gt (ut e)
 rcases zo with⟨f1,hz⟩|⟨T,fb,o,hz,hT,n1,n2,n3,n4⟩
 .refine vU D hz hI hO g1 g2 t1 t2 hx hy λh' z1 o1 j1 j2 p1 sz k=>?_
  refine q h' ⟨.inr ⟨s.heap.objs.size,false,_,z1,p1,n0 hz,n0 hO,Nat.ne_of_gt g1.lt,Nat.ne_of_gt g2.lt⟩,k _ _ D.TIz D.TITO D.TIi1 D.TIi2 hI,⟨_,_,o1⟩,j1,j2,t1.to λo e=>k _ o D.l1z D.l1TO D.l1i1 D.l1i2 e,t2.to λo e=>k _ o D.l2z D.l2TO D.l2i1 D.l2i2 e⟩ p1 sz k
 .refine B6 D hz hT hI g1 g2 t1 t2 hx hy λh' z1 j1 j2 p1 sz k=>?_
  exact q h' ⟨.inr ⟨T,true,o,z1,k _ _ n1 n3 n4 hT,n1,n2,n3,n4⟩,k _ _ D.TIz D.TIi1 D.TIi2 hI,⟨a,b,k _ _ D.TOz D.TOi1 D.TOi2 hO⟩,j1,j2,t1.to λo e=>k _ o D.l1z D.l1i1 D.l1i2 e,t2.to λo e=>k _ o D.l2z D.l2i1 D.l2i2 e⟩ p1 sz λc o m1 _ m3 m4 e=>k c o m1 m3 m4 e
def Zs.stop (hh:A.handled=none)(D:ZipApart z TI TO i1 i2 l1 l2)(Z:Zs s.heap tp1 tp2 z TI TO i1 i2 l1 l2 i xs ys)(hx:xs[i]? =none\/ys[i]? =none)
  (q:∀ h',(∀ c o,c≠z->c≠TO->c≠i1->c≠i2->s.heap.get? c=some o->h'.get? c=some o)->Q none { s with heap:=h' }):wpAny (model prog w) A (pyNext (.ref z)) Q E s:=by
 obtain⟨zo,hI,⟨a,b,hO⟩,g1,g2,t1,t2⟩:=Z;rcases zo with⟨f1,hz⟩|⟨T,fb,o,hz,hT,_⟩
 .exact Ak hh D hz hI hO g1 g2 t1 t2 hx q
 .exact Aw hh D hz hT hI g1 g2 t1 t2 hx λh' k=>q h' λc o m1 _ m3 m4 e=>k c o m1 m3 m4 e
def Zs.keep {h':Heap}(Z:Zs h tp1 tp2 z TI TO i1 i2 l1 l2 i xs ys)(k:∀ c o,h.get? c=some o->c≠d->h'.get? c=some o) (n:d≠z/\d≠TI/\d≠TO/\d≠i1/\d≠i2/\d≠l1/\d≠l2) (hd:∃ o,h'.get? d=some o):Zs h' tp1 tp2 z TI TO i1 i2 l1 l2 i xs ys:=by
 obtain⟨zo,hI,⟨a,b,hO⟩,g1,g2,t1,t2⟩:=Z;obtain⟨m1,m2,m3,m4,m5,m6,m7⟩:=n;refine⟨?_,k _ _ hI m2.symm,⟨a,b,k _ _ hO m3.symm⟩,g1.to λo e=>k _ o e m4.symm,g2.to λo e=>k _ o e m5.symm,t1.to λo e=>k _ o e m6.symm,t2.to λo e=>k _ o e m7.symm⟩;rcases zo with⟨f1,hz⟩|⟨T,fb,o,hz,hT,r⟩
 .exact .inl ⟨f1,k _ _ hz m1.symm⟩
 .by_cases e:T.toNat=d
  .obtain⟨o',ho⟩:=hd;exact .inr ⟨T,fb,o',k _ _ hz m1.symm,by rw[e];exact ho,r⟩
  .exact .inr ⟨T,fb,o,k _ _ hz m1.symm,k _ _ hT e,r⟩
end
def fq:plainId "dict.update.loop"=true:=by decide+kernel
def nW:entryFor table "dict.update.loop"=some Builtin.«dict.update.loop»:=entryFor_of_tree (by kernel_rfl)
section
variable {prog:Program}{w:World}{A:Around}{tp1 tp2:Bool}{z TI TO i1 i2 l1 l2 d:Addr}{xs ys:Array Value}{Ky:Type} [DecidableEq Ky] {knd:KeyKind prog w Ky}
def AV (hh:A.handled=none)(D:ZipApart z TI TO i1 i2 l1 l2)(nd:d≠z/\d≠TI/\d≠TO/\d≠i1/\d≠i2/\d≠l1/\d≠l2)(ks:List Ky)(hk:∀ (j:Nat) x,xs[j]? =some x->∃ k,ks[j]? =some k/\knd.is k x=true) (hz:xs.size=ys.size):
  ∀ (m i:Nat),xs.size-i=m->i<=xs.size->∀ (s:Shared) (kvs:List (Ky×Value)) (R:Result->Shared->Prop),Zs s.heap tp1 tp2 z TI TO i1 i2 l1 l2 i xs ys->s.heap.DictOf knd d kvs->kvs.length+m<=bn->
  (∀ h' t',h'.DictOf knd d (merged kvs ((ks.zip ys.toList).drop i))->(∀ c o,c≠z->c≠TO->c≠i1->c≠i2->c≠d->s.heap.get? c=some o->h'.get? c=some o)->R (.ok (.ret .none)) { s with heap:=h',toks:=t' })->
  wpAny (model prog w) A.in1 (Builtin.«dict.update.loop» ⟨[.ref d,.ref z,rawInt i,.none],[]⟩) (λfin s'=>match fin with| .done f=>R (.ok f) s'| .again c'=>c'.quiet=true/\codeAny (model prog w) A c' R s') (λe s'=>R (.error e) s') s:=by
 intro m
 induction m with
 |zero=>
  intro i hm hi s kvs R Z dd hl q;show wpAny _ _ (pyNext (.ref z) >>= _) _ _ _;refine ad (Z.stop (show A.in1.handled=none from hh) D (.inl (by simp;omega)) λh' k=>?_);show wpAny _ _ (Builtin.Dict.addKeywords d [] >>= _) _ _ _;refine ad (am (am ?_));have e:(ks.zip ys.toList).drop i=[]:=by
   rw[List.drop_eq_nil_iff,length_zip];simp
   omega
  rw[e]at q;refine q h' s.toks ?_ λc o n1 n2 n3 n4 _ e=>k c o n1 n2 n3 n4 e
  obtain⟨o,es,ep,ho,r⟩:=dd;exact⟨o,es,ep,k _ _ nd.1 nd.2.2.1 nd.2.2.2.1 nd.2.2.2.2.1 ho,r⟩
 |succ m ih=>
  intro i hm hi s kvs R Z dd hl q;have h1:i<xs.size:=by omega
  have h2:i<ys.size:=by omega
  have e1:xs[i]? =some xs[i]:=Array.getElem?_eq_getElem h1;have e2:ys[i]? =some ys[i]:=Array.getElem?_eq_getElem h2;obtain⟨k,hk1,hk2⟩:=hk i _ e1;show wpAny _ _ (pyNext (.ref z) >>= _) _ _ _;refine ad (Z.next D e1 e2 λh' Z' p sz fr=>?_);show wpAny _ _ (holding [_] _ >>= _) _ _ _;refine ad (bd ?_);refine ad ?_;have hT:({ s with heap:=h' }:Shared).TypeIs (.ref s.heap.objs.size) "tuple":=⟨_,p,rfl⟩;refine wpAny_tryCatch ?_;unfold Builtin.Dict.pairItems;refine ad (wpAny_typeOf hT ?_);rw[if_pos (by decide)];refine ad (wpAny_seqItems p rfl (am ?_));show wpAny _ _ (holding [_,_] (dictSet d xs[i] ys[i])) _ _ _;refine bd ?_;have dd':h'.DictOf knd d kvs:=by
   obtain⟨o,es,ep,ho,r⟩:=dd;exact⟨o,es,ep,fr _ _ nd.1 nd.2.2.1 nd.2.2.2.1 nd.2.2.2.2.1 ho,r⟩
  refine wpAny_dictSet_pairs (s:={ s with heap:=h' }) (hsz:=by omega) hk2 dd' λh2' d2 b2=>?_
  show wpAny _ _ (pure (Fin.again (.builtin "dict.update.loop" ⟨[.ref d,.ref z,rawInt ((i:Int)+1),.none],[]⟩))) _ _ _;refine am ⟨plainId_quiet fq _,codeAny_builtin nW ?_⟩;rw[Around.under_plainId fq _,show((i:Int)+1)=((i+1:Nat):Int) by push_cast;rfl];have hd:∃ o,h2'.get? d=some o:=let⟨o,_,_,ho,_⟩:=d2;⟨o,ho⟩;refine ih (i+1) nofun nofun { s with heap:=h2',toks:=s.toks+1 } (stored kvs k ys[i]) R (Z'.keep (λc o e n=>b2.extBut _ _ n e) nd hd) d2 ?_ λh3 t3 d3 f3=>?_
  .have:(stored kvs k ys[i]).length<=kvs.length+1:=by
    unfold stored
    split
    .rw[ce];omega
    .rw[ci];simp
   omega
  .have ed:(ks.zip ys.toList).drop i=(k,ys[i])::(ks.zip ys.toList).drop (i+1):=by
    have:(ks.zip ys.toList)[i]? =some (k,ys[i]):=by
     rw[List.getElem?_zip_eq_some];exact⟨hk1,by simpa using h2⟩
    obtain⟨hlt,he⟩:=tz.mp this;rw[List.drop_eq_getElem_cons hlt,he]
   refine q h3 t3 ?_ λc o n1 n2 n3 n4 n5 e=>f3 c o n1 n2 n3 n4 n5 (b2.extBut _ _ n5 (fr c o n1 n2 n3 n4 e))
   rw[ed];exact d3
def qd {E:NH}{Q:NH}(hh:A.handled=none)(D:ZipApart z TI TO i1 i2 l1 l2)(ks:List Ky)(hk:∀ (j:Nat) x,xs[j]? =some x->∃ k,ks[j]? =some k/\knd.is k x=true) (hz:xs.size=ys.size) (hn:ks.Nodup) (hkl:ks.length=xs.size) (hsz:xs.size<=bn)
  (Z:Zs s.heap tp1 tp2 z TI TO i1 i2 l1 l2 0 xs ys) (hzo:∃ f1,bN s.heap z TI TO .none f1)
  (q:∀ h' t',h'.DictOf knd s.heap.objs.size (ks.zip ys.toList)->(∀ c o,c≠z->c≠TO->c≠i1->c≠i2->s.heap.get? c=some o->h'.get? c=some o)->Q (.ref s.heap.objs.size) { s with heap:=h',toks:=t' }):
  wpAny (model prog w) A (call (.type "dict") [.ref z]) Q E s:=by
 refine callType_codes (Q₁:=λobj s1=>obj=.ref s.heap.objs.size/\s1={ s with heap:=s.heap.push { cls:=.type "dict",data:=.dict #[] } }) PySem.F.kt_called_dict (PySem.F.kt_typeCall_dict_1 _) PySem.F.entry_dict_init (kt_code_dict_new _ ⟨rfl,rfl⟩) ?_;rintro obj s1 ⟨rfl,rfl⟩;have dn:(s.heap.push { cls:=.type "dict",data:=.dict #[] }).DictOf knd s.heap.objs.size []:=Heap.DictOf.new s.heap;refine⟨dn.typeIs,PySem.F.args_dict_init_2 _ _,?_⟩;unfold Builtin.«dict.__init__»;refine ad ?_;unfold Builtin.Dict.selfAndRest;refine ad (wpAny_notOrdered_dict dn.typeIs ?_);show wpAny _ _ (pure (s.heap.objs.size,[Value.ref z])) _ _ _;refine am ?_;show wpAny _ _ (Builtin.Dict.updateFrom "dict.__init__" s.heap.objs.size (.ref z) [] .none) _ _ _;unfold Builtin.Dict.updateFrom;obtain⟨f1,hz0⟩:=hzo;have hz1:(s.heap.push { cls:=.type "dict",data:=.dict #[] }).get? z=some _:=ul _ hz0;have hT:({ s with heap:=s.heap.push { cls:=.type "dict",data:=.dict #[] } }:Shared).TypeIs (.ref z) "zip":=⟨_,hz1,rfl⟩;refine ad (wpAny_typeOf hT ?_);rw[if_pos (by decide)];refine ad (AZ hh hz1 λh1 t1 k1=>?_);rw[if_pos (show(none:Option Value).isNone=true from rfl)];refine ad (wpAny_rule ?_);refine ad (lX (s:={ s with heap:=h1,toks:=t1 }) (k1 _ _ hz1) ?_);have n0:∀ {c o},s.heap.get? c=some o->s.heap.objs.size≠c:=λe=>Nat.ne_of_gt (ut e)
 have nd:s.heap.objs.size≠z/\s.heap.objs.size≠TI/\s.heap.objs.size≠TO/\s.heap.objs.size≠i1/\s.heap.objs.size≠i2/\s.heap.objs.size≠l1/\s.heap.objs.size≠l2:=by
  obtain⟨a,b,hO⟩:=Z.hO;exact⟨n0 hz0,n0 Z.hI,n0 hO,Nat.ne_of_gt Z.g1.lt,Nat.ne_of_gt Z.g2.lt,Nat.ne_of_gt Z.t1.lt,Nat.ne_of_gt Z.t2.lt⟩
 have kk:∀ c o,s.heap.get? c=some o->h1.get? c=some o:=λc o e=>k1 _ _ (ul _ e)
 have d1:h1.DictOf knd s.heap.objs.size []:=by
  obtain⟨o,es,ep,ho,r⟩:=dn;exact⟨o,es,ep,k1 _ _ ho,r⟩
 refine am ⟨plainId_quiet fq _,codeAny_builtin nW ?_⟩;rw[Around.under_plainId fq _];refine AV (A:=A.in1) (d:=s.heap.objs.size) hh D nd ks hk hz _ 0 rfl (Nat.zero_le _) { s with heap:=h1,toks:=t1 } [] _ (Z.keep (λc o e _=>kk c o e) nd (let⟨o,_,_,ho,_⟩:=d1;⟨o,ho⟩)) d1 (by simpa using hsz) λh' t' d' f'=>?_
 rw[drop_zero,merged_nil_of_nodup _ (by rw[List.map_fst_zip (by simp;omega)];exact hn)]at d';exact⟨rfl,q h' t' d' λc o n1 n2 n3 n4 e=>f' c o n1 n2 n3 n4 (n0 e).symm (kk c o e)⟩
end
def zB:bootBuiltins "dict"=some (.type "dict"):=by decide+kernel
def Eu {P:Program}{w:World}:∀ {ks:List Key}{us:List Value},Vals (ks.map kV) us->∀ (j:Nat) u,us[j]? =some u->∃ k,ks[j]? =some k/\(aw P w).is k u=true
 | [],_,.nil,j,u,h=>by simp at h
 |k::ks,_,.cons r rs,0,u,h=>by
  simp at h;subst h;exact⟨k,rfl,qv r⟩
 |k::ks,_,.cons r rs,j+1,u,h=>by
  simp at h;obtain⟨k',e1,e2⟩:=Eu (P:=P) (w:=w) rs j u h;exact⟨k',by simpa using e1,e2⟩
def Ey:∀ {ks:List Key}{ys:List V}{us:List Value},Vals ys us->KV (ks.zip ys) (ks.zip us)
 | [],_,_,_=>by simp[List.zip];exact .nil
 |_::_,_,_,.nil=>.nil
 |k::ks,_,_,.cons r rs=>.cons ⟨rfl,r⟩ (Ey rs)
abbrev MX (K:W.Frag)(v u:V)(H:Hp)(Q:VK):Prop:=∃ tp1 l1 tp2 l2,∃ (ks:List Key) (ys:List V),v=.ref l1/\u=.ref l2/\Sq K tp1 H l1 (ks.map kV)/\Sq K tp2 H l2 ys/\ks.Nodup/\ks.length=ys.length/\ks.length<=1000/\∀ p,H p=none->Q (.ref p) (upd H p (.dK (ks.zip ys)))
abbrev NA (K:W.Frag)(ta:TA):TE:=λU H Q=>ta U H λvs H1=>∃ v u,vs=[v,u]/\MX K v u H1 Q
def CP {a b:Expr}{p2 pos2:Pos}(hc:X.calm=true)(hg:Gl X "dict") (hm:X.mg "dict"=none) (hg2:Gl X "zip") (hm2:X.mg "zip"=none) (ha:PA X [a,b] ta)
  (hs:bm [a,b] X.env=(false,eval a X.env)::bm [b] X.env:=by rfl) (hpl:(backTo pos2 (bm [b] X.env)).any (·.1)=false:=by rfl):
  PE X (.Call (.Name "dict" p) [.Call (.Name "zip" p2) [a,b] [] pos2] [] pos) (NA X.K ta):=by
 intro Y s U H Q I h;have h1:bm [.Call (.Name "zip" p2) [a,b] [] pos2] X.env=[(false,eval (.Call (.Name "zip" p2) [a,b] [] pos2) X.env)]:=rfl;refine Call_ (cW I hg hm zB (PyProof.Rows.callWith_type1 ?_ h1 rfl));rw[h1];show wpAny _ _ (spliced ((false,eval (.Call (.Name "zip" p2) [a,b] [] pos2) X.env)::backTo pos [])) _ _ _;refine Calls.spliced_cons ?_;refine Call_ (cW I hg2 hm2 y8 (PyProof.Rows.callWith_type1 (aA (ha pos2 Y s U H _ I h) λus s1 ⟨vs,H1,I1,r1,q1⟩=>?_) hs hpl));obtain⟨v,u,e,tp1,l1,tp2,l2,ks,ys,e1,e2,q1,q2,kn,kl,kz,q⟩:=q1;subst e e1 e2;cases r1 with
 |cons r rr=>
  cases rr with
  |cons r' rr'=>
   cases rr';cases r;cases r';obtain⟨is1,v1,t1⟩:=I1.sq q1;obtain⟨is2,v2,t2⟩:=I1.sq q2;refine rL t1 t2 λh' hz hI hO g1 g2 hsz hk=>?_
   refine Calls.spliced_nil ?_;have n1:is1.length=ks.length:=by rw[<-v1.length,ce]
   have n2:is2.length=ks.length:=by rw[<-v2.length,kl]
   refine qd (s:={ s1 with heap:=h' }) (knd:=aw X.prog X.w) (I1.ok.hd hc) (AJ t1.lt t2.lt) ks (λj x hx=>Eu v1 j x (by simpa using hx)) (by simp;omega) kn (by simp;omega) (by simp;rw[n1];exact fits kz)
    ⟨.inl ⟨_,hz⟩,hI,⟨_,_,hO⟩,g1,g2,t1.to λo e=>hk _ o e,t2.to λo e=>hk _ o e⟩ ⟨_,hz⟩ λh2 t2' d2 f2=>?_
   have lt0:∀ {c o},s1.heap.get? c=some o->c<s1.heap.objs.size:=λe=>ut e
   have hfree:H1 h'.objs.size=none:=I1.hok.fresh (by rw[hsz];exact Nat.le_add_right _ _);refine⟨.ref h'.objs.size,_,I1.laid (a:=h'.objs.size) (o:=.dK (ks.zip ys)) (t':=t2') (λc o e=>?_) (by rw[hsz];exact Nat.le_add_right _ _) ⟨?_,?_,_,Ey v2,by simpa using d2⟩,rfl,q _ hfree⟩
   .have hl:=lt0 e;refine f2 c o (pi (ol hl (Nat.le_add_right _ _))) (pi (ol hl (Nat.le_add_right _ _))) (pi hl) (pi (ol hl (Nat.le_add_right _ _))) (hk c o e)
   .rw[length_zip];exact fits (Nat.le_trans (Nat.min_le_left _ _) kz)
   .exact beq_eq_false_iff_ne.mpr (Nat.ne_of_gt (ol I1.big (by rw[hsz];exact Nat.le_add_right _ _)))
section
variable {X:Cx}{Y:NI}{U:St}{H:Hp}{s:Shared}{a:Addr}{kvs:List (Key×V)}{A:Around}{E:NH}
def AR {Q:NH}(I:Inv X Y U H s)(e:Rd H a (.dK kvs))(h:∀ p s',H p=none->Inv X Y U (upd H p (.dK kvs)) s'->Q (.ref p) s'):wpAny (model X.prog X.w) A (call (.type "dict") [.ref a]) Q E s:=by
 obtain⟨z,hd,vs,rel,dd⟩:=kZ I.hok e;refine kt_call_dict hd dd (by rw[<-rel.length];exact z) λh' dd' hs=>?_
 refine h _ _ (I.hok.fresh (re _)) (I.laid (a:=s.heap.objs.size) (o:=.dK kvs) (t':=s.toks) (λb q hq=>?_) (re _) (ui z (beq_eq_false_iff_ne.mpr (Ne.symm (pi I.big))) rel dd'));exact(hs.2 b (pi (ut hq))).trans (ul _ hq)
end
section
variable {X:Cx}{Y:NI}{U:St}{H:Hp}{s:Shared}
end
def JJ (d:Addr)(hd:(d ==sysModules)=false)(dd:Option Addr)(ep:Nat)(sl:Array (Option Value)):Meets (Builtin.«dict.__eq__» ⟨[.ref d,.ref d],[]⟩) (λ_ R s=>s.heap.get? d=some ⟨.type "dict",dd,.dict #[] ep,sl⟩/\R (.ok (.ret (.bool true))) s):=by
 intro prog w A R s hs;obtain⟨h,g,dp,tt,os⟩:=s;obtain⟨ho,q⟩:=hs;have hT:(⟨h,g,dp,tt,os⟩:Shared).TypeIs (.ref d) "dict":=⟨_,ho,rfl⟩;unfold Builtin.«dict.__eq__»
 k_delta "equality"
 unfold Builtin.Dict.dictSlotArgs;refine ad (ad (wpAny_notOrdered_dict hT ?_));show wpAny _ _ (pure (Value.ref d,[Value.ref d]) >>= _) _ _ _;refine ad (am (am ?_));have hi:=PySem.F.kt_sub_dict;show wpAny _ _ (isInstance (.ref d) (.type "dict") >>= _) _ _ _;unfold Builtin.Dict.samePairs;simp only[Std.Legacy.Range.forIn_eq_forIn_range']
 repeat(any_goals first|assumption|wp_step)
variable {A:Around}{dd:Option Addr}{sl:Array (Option Value)}
def Kg (hd:(d ==sysModules)=false){ep:Nat}(ho:s.heap.get? d=some ⟨.type "dict",dd,.dict #[] ep,sl⟩) (hu:A.units<cLine):SeqAt.RcAt A s (.ref d) (.ref d) true:=λprog w E Q h=>
 richCompare_meets_room (op:=.Eq) ⟨_,ho,rfl⟩ ⟨_,ho,rfl⟩ PySem.F.slot_dict_eq PySem.F.entry_dict_eq (PySem.F.args_dict_eq_2 _ _) (JJ d hd dd ep sl) ⟨ho,show Value.bool true≠Value.notImplemented/\Q (.bool true) s from⟨(λx=>nomatch x),h⟩⟩ hu
abbrev yH (K:W.Frag)(H:Hp)(a:Addr):Prop:=(∃ xs,aS K H a xs)\/(∃ xs,a8 K H a xs)\/H a=some (.dK [])
def CG {a:Addr}(I:Inv X Y U H s)(h:yH X.K H a)(hu:A.units+2<cLine):SeqAt.RcAt A s (.ref a) (.ref a) true:=by
 rcases h with⟨xs,h⟩|⟨xs,h⟩|h
 .obtain⟨ia,ra,pa,_⟩:=I.list h;have rc:=SeqAt.RcAt.lists (A:=A) (e:=λ_=>true) pa.isList pa.isList rfl nofun λj h1 h2=>SeqAt.EqAt.same _
  have e:(List.range ia.toArray.size).all (λ_=>true)=true:=by simp
  rwa [e]at rc
 .obtain⟨ia,ra,pa,_⟩:=I.tuple h;have rc:=SeqAt.RcAt.tuples (A:=A) (e:=λ_=>true) (show s.heap.IsTuple a ia.toArray from pa) (show s.heap.IsTuple a ia.toArray from pa) nofun λj h1 h2=>SeqAt.EqAt.same _
  have e:((List.range (min ia.toArray.size ia.toArray.size)).all (λ_=>true)&&ia.toArray.size ==ia.toArray.size)=true:=by simp
  rwa [e]at rc
 .obtain⟨z,hd,vs,rel,dd⟩:=kZ I.hok (.inl h);cases rel;obtain⟨⟨c,d,da,sl⟩,es,ep,ho,hx,he,_,hp,_⟩:=dd;have e0:es=#[]:=by
   cases hp':es.toList with
   |nil=>exact Array.toList_eq_nil_iff.mp hp'
   |cons a b=>rw[hp']at hp;cases hp
  subst e0;obtain rfl:da=.dict #[] ep:=he;obtain⟨rfl,_⟩:=hx;exact Kg hd ho nofun
section
variable {prog:Program}{w:World}{A:Around}{E:NH}{s:Shared}{T:String}{r d:Addr}{n:Nat}{P:Nat->Value->Prop}{OK:Heap->Prop}
def qC {Q:List Value->Shared->Prop}(K:KdlSrc prog w T r d n P OK)(hh:A.handled=none)(hok:OK s.heap)(hn:n<=bn)
  (hQ:∀ h' tk (acc:Array Value),(∀ b o,s.heap.get? b=some o->h'.get? b=some o)->ItemsOf P acc n->Q acc.toList { s with heap:=h',toks:=tk }):wpAny (model prog w) A (collect (.ref r)) Q E s:=by
 have hlt:=K.there _ hok;unfold collect;refine ad (wpAny_runValue (codeAny_builtin PySem.F.entry_proto_collect ?_));rw[Around.under_plainId PySem.F.plain_proto_collect _];show wpAny _ A.in1 (newList [] >>= λz=>again (.builtin "list.__iadd__" ⟨[z,.ref r],[]⟩)) _ _ s;refine ad (wpAny_newObj_type (am ⟨plainId_quiet PySem.F.plain_list_iadd _,codeAny_builtin PySem.F.entry_list_iadd ?_⟩));rw[Around.under_plainId PySem.F.plain_list_iadd _];show wpAny _ A.in1 (Builtin.List.listExtendWith (.ref s.heap.objs.size) (.ref r) (.ref s.heap.objs.size)) _ _ _;have hS:(s.heap.push { cls:=.type "list",data:=.seq ([]:List Value).toArray }).get? s.heap.objs.size=some { cls:=.type "list",data:=.seq #[] 0 }:=v4 s.heap rfl;have fin:∀ (x:Result) (s':Shared),(x=.ok (.ret (.ref s.heap.objs.size))/\∃ h' tk acc c',s'={ s with heap:=h',toks:=tk }/\(∀ b o,s.heap.get? b=some o->h'.get? b=some o)/\h'.get? s.heap.objs.size=some { cls:=.type "list",dict:=none,data:=.seq acc c',slots:=#[] }/\ItemsOf P acc n)->
   wpAny (model prog w) A (match Value.ref s.heap.objs.size with
    |Value.ref a=>do
     match (<-load a).data with
      |Data.seq xs _=>pure xs.toList
      |_=>unsupported "internal:collect"
    |_=>unsupported "internal:collect") Q E s':=λx s' ⟨_,h',tk,acc,c',e,hk,ho,hi⟩=>by
  subst e;show wpAny _ A (load s.heap.objs.size >>= _) _ _ _;exact ad (wpAny_load ho (am (hQ h' tk acc hk hi)))
 refine wpAny_mono (kdl_extend (A:=A) (s:={ s with heap:=s.heap.push { cls:=.type "list",data:=.seq ([]:List Value).toArray } })
  (R:=λx s'=>x=.ok (.ret (.ref s.heap.objs.size))/\∃ h' tk acc c',s'={ s with heap:=h',toks:=tk }/\(∀ b o,s.heap.get? b=some o->h'.get? b=some o)/\h'.get? s.heap.objs.size=some { cls:=.type "list",dict:=none,data:=.seq acc c',slots:=#[] }/\ItemsOf P acc n)
  K hh (K.keep _ _ hok λb _ o e=>ul _ e) s.heap.objs.size (Nat.ne_of_gt hlt.1) (Nat.ne_of_gt hlt.2) (.ref s.heap.objs.size) 0 hS (λh' tk acc c' hk ho hi=>⟨rfl,h',tk,acc,c',rfl,λb o e=>hk b o (pi (ut e)) (ul _ e),ho,hi⟩) hn) (λfi s' h=>?_) (λe s' h=>?_)
 .cases fi with
  |done f=>
   have hf:=h.1;cases hf;exact fin _ _ h
  |again c'=>exact⟨h.1,codeAny_mono h.2 λx s'' hx=>by
    have e:=hx.1;subst e;exact fin _ _ hx⟩
 .exact absurd h.1 (by simp)
def mj {Q₁:NH}(K:KdlSrc prog w T r d n P OK)(hT0:(T =="tuple")=false) (hh:A.handled=none) (hok:OK s.heap) (hn:n<=bn)
  (h:∀ (h':Heap) (tk:Nat) (acc:Array Value),(∀ b o,s.heap.get? b=some o->h'.get? b=some o)->ItemsOf P acc n->Q₁ (.ref h'.objs.size) { s with heap:=h'.push { cls:=.type "tuple",data:=.seq acc },toks:=tk }):
  codeAny (model prog w) A (.call (.builtin "tuple.__new__") ⟨[.type "tuple",.ref r],[]⟩) (wants Q₁ E) s:=by
 refine codeAny_of_tree ?_;show wpAny _ A.in1 (do checkBuiltinCall "tuple.__new__" ⟨[.type "tuple",.ref r],[]⟩;again (.builtin "tuple.__new__" ⟨[.type "tuple",.ref r],[]⟩)) _ _ s;refine ad (wpAny_of_eq (PySem.F.newCall_tuple_1 _) (am ⟨plainId_quiet PySem.F.plain_tuple_new _,codeAny_builtin PySem.F.entry_tuple_new ?_⟩));rw[Around.under_plainId PySem.F.plain_tuple_new _];have h1:=sub_tuple_self;have h2:=init_tuple_lookup;have h3:=madeHere_tuple;have hTI:=K.type s hok;have h4:=K.notTuple
 wp_walk using wpAny_typeOf hTI,qC (A:=A.in1) K hh hok hn
 intro h' tk acc hk hi;show wpAny _ _ (Builtin.Tuple.tupleExact acc.toList.toArray >>= λz=>ret z) _ _ _;unfold Builtin.Tuple.tupleExact;have e:acc.toList.toArray=acc:=Array.toArray_toList;rw[e];refine ad (wpAny_newObj_type (am ?_) (by show acc.size<=bn;rw[hi.1];exact hn));exact h h' tk acc hk hi
def lK {Q:NH}(K:KdlSrc prog w T r d n P OK)(hT0:(T =="tuple")=false) (hh:A.handled=none) (hok:OK s.heap) (hn:n<=bn)
  (h:∀ (h':Heap) (tk:Nat) (acc:Array Value),(∀ b o,s.heap.get? b=some o->h'.get? b=some o)->ItemsOf P acc n->Q (.ref h'.objs.size) { s with heap:=h'.push { cls:=.type "tuple",data:=.seq acc },toks:=tk }):
  wpAny (model prog w) A (call (.type "tuple") [.ref r]) Q E s:=by
 refine callType_codes (Q₁:=λz s₁=>s₁.TypeIs z "tuple"/\Q z s₁) PySem.F.called_tuple (PySem.F.typeCall_tuple_1 _) PySem.F.entry_object_init (mj K hT0 hh hok hn λh' tk acc hk hi=>⟨⟨_,v4 _ rfl,rfl⟩,h h' tk acc hk hi⟩) λz s₁ g=>?_
 exact⟨g.1,PySem.F.args_object_init_2 z _,object_init_meets PySem.F.called_tuple.init.lookup PySem.F.called_tuple.made (by decide) prog w A.in1 _ s₁ ⟨g.1,rfl,g.2⟩⟩
end
def AF:bootBuiltins "list"=some (.type "list"):=by decide+kernel
def xU:bootBuiltins "tuple"=some (.type "tuple"):=by decide+kernel
abbrev G3 (tp:Bool)(xs:List V):HO:=match tp with
 |true=>.tup xs
 |false=>.lst xs
abbrev iU (tp:Bool):String:=match tp with
 |true=>"tuple"
 |false=>"list"
abbrev Cj (tp:Bool):Str:=match tp with
 |true=>"tuple"
 |false=>"list"
abbrev Et (tp:Bool)(x:V)(H:Hp)(Q:VK):Prop:=∃ d kvs,x=.ref d/\H d=some (.dK kvs)/\∀ p,H p=none->Q (.ref p) (upd H p (G3 tp (kvs.map (·.2))))
def pF:∀ {kvs:List (Key×V)}{vs:List (Key×Value)},KV kvs vs->Vals (kvs.map (·.2)) (vs.map (·.2))
 |_,_,.nil=>.nil
 |_,_,.cons r rs=>.cons r.2 (pF rs)
def xZ {Q:VK}{kvs:List (Key×V)}(tp:Bool)(hc:X.calm=true)(I:Inv X Y U H s)(e:H d=some (.dK kvs))(q:∀ p,H p=none->Q (.ref p) (upd H p (G3 tp (kvs.map (·.2))))):
  wpAny (model X.prog X.w) X.A (call (.builtin "dict.values") [.ref d]) (λv s1=>wpAny (model X.prog X.w) X.A (call (.type (iU tp)) [v]) (EP X Y U Q) X.xe s1) X.xe s:=by
 obtain⟨hz,hd,vs,rel,dd⟩:=kZ I.hok (.inl e);refine call_meetsIn PySem.F.slot_dict_values dd.typeIs PySem.F.entry_dict_values (PySem.F.args_dict_values_1 _) (meets_dict_values (aw X.prog X.w) d hd) ⟨⟨vs,dd⟩,?_⟩;obtain⟨o,es,ep,ho,hx,he,hk,hp,hn⟩:=dd;have hA:s.heap.DictAt (aw X.prog X.w) d vs ep:=⟨o,es,ho,hx,he,hk,hp,hn⟩;have hok:(s.heap.push { cls:=.type "dict_values",data:=.fields #[.ref d] }).IsValuesView s.heap.objs.size d/\(s.heap.push { cls:=.type "dict_values",data:=.fields #[.ref d] }).DictAt (aw X.prog X.w) d vs ep:=⟨⟨_,v4 _ rfl,rfl,rfl⟩,hA.push _⟩;have hl:vs.length<=bn:=by rw[<-rel.length];exact hz
 have hv:∀ (acc:Array Value),ItemsOf (λi v=>∃ k,vs[i]? =some (k,v)) acc vs.length->acc.toList=vs.map (·.2):=λacc hi=>kdl_vals_eq acc.toList (by rw[Array.length_toList];exact hi.1) λj v hj=>hi.2 j v (by rw[<-Array.getElem?_toList];exact hj)
 have I0:Inv X Y U H { s with heap:=s.heap.push { cls:=.type "dict_values",data:=.fields #[.ref d] } }:=I.kept (t':=s.toks) λb u hb=>ul _ hb
 have hlen:(kvs.map (·.2)).length<=bn:=by rw[ce];exact hz
 cases tp with
 |false=>
  refine kdl_call (s:={ s with heap:=s.heap.push { cls:=.type "dict_values",data:=.fields #[.ref d] } }) (kdl_values (prog:=X.prog) (w:=X.w) (knd:=aw X.prog X.w) (r:=s.heap.objs.size) (d:=d) (kvs:=vs) (ep:=ep)) (I.ok.hd hc) hok hl λh' tk acc c' hk' hD hi=>?_
  have ea:=hv acc hi;refine⟨.ref _,_,I0.laid (t':=tk) hk' (re _) (show aN X.prog X.w _ h' _ (.lst (kvs.map (·.2))) from⟨hlen,acc.toList,c',by rw[ea];exact pF rel,by rw[Array.toArray_toList];exact hD⟩),rfl,q _ (I0.hok.fresh (re _))⟩
 |true=>
  refine lK (s:={ s with heap:=s.heap.push { cls:=.type "dict_values",data:=.fields #[.ref d] } }) (kdl_values (prog:=X.prog) (w:=X.w) (knd:=aw X.prog X.w) (r:=s.heap.objs.size) (d:=d) (kvs:=vs) (ep:=ep)) (by decide) (I.ok.hd hc) hok hl λh' tk acc hk' hi=>?_
  have ea:=hv acc hi;have I1:Inv X Y U H { s with heap:=h',toks:=tk }:=I0.kept (t':=tk) hk';have I2:Inv X Y U (upd H h'.objs.size (.tup (kvs.map (·.2)))) { s with heap:=h'.push { cls:=.type "tuple",data:=.seq acc },toks:=tk }:=
   I1.laid (t':=tk) (λb u hb=>ul _ hb) (re _) (show aN X.prog X.w _ _ _ (.tup (kvs.map (·.2))) from⟨hlen,acc.toList,by rw[ea];exact pF rel,by rw[Array.toArray_toList];exact IsTup.new _ _⟩)
  exact⟨.ref h'.objs.size,_,I2,rfl,q _ (I1.hok.fresh (re _))⟩
abbrev IL (tp:Bool)(ta:TE):TE:=λU H Q=>ta U H λx H1=>Et tp x H1 Q
def DR {a:Expr}{ta:TE}{apos cpos:Pos}(tp:Bool)(hc:X.calm=true)(hg:Gl X (Cj tp))(hm:X.mg (Cj tp)=none)(ha:PE X a ta)(hb:attributeBase a "values" X.env (eval a X.env)=eval a X.env) (hl:(apos.endLine ==cpos.line)=true):
  PE X (.Call (.Name (Cj tp) p) [.Call (.Attribute a "values" apos) [] [] cpos] [] pos) (IL tp ta):=by
 intro Y s U H Q I h;have h1:bm [.Call (.Attribute a "values" apos) [] [] cpos] X.env=[(false,eval (.Call (.Attribute a "values" apos) [] [] cpos) X.env)]:=rfl;have go:wpAny (model X.prog X.w) X.A (eval (.Call (.Attribute a "values" apos) [] [] cpos) X.env) (λv s1=>wpAny (model X.prog X.w) X.A (call (.type (iU tp)) [v]) (EP X Y U Q) X.xe s1) X.xe s:=by
  refine wpAny_Call_method0_late hb hl (aA (ha Y s U H _ I h) λv s1 ⟨x,H1,I1,r1,q1⟩=>?_);obtain⟨d,kvs,ex,e,q⟩:=q1;subst ex;obtain⟨g1,g2⟩:=tK (T:="dict") I1 r1 (.inr (.inr (.inl ⟨rfl,.inl ⟨kvs,e⟩⟩)));cases r1;exact⟨"dict","dict.values",PySem.F.plainAttrs_dict,PySem.F.slot_dict_values,PySem.F.type_dict_values,g1,g2,Calls.callWith_builtin rfl (PySem.evalArgs_none (xZ tp hc I1 e q))⟩
 cases tp with
 |true=>
  refine Call_ (cW I hg hm xU (PyProof.Rows.callWith_type1 ?_ h1 rfl));rw[h1];show wpAny _ _ (spliced ((false,eval (.Call (.Attribute a "values" apos) [] [] cpos) X.env)::backTo pos [])) _ _ _;exact Calls.spliced_cons (aA go λv s1 z=>Calls.spliced_nil z)
 |false=>
  refine Call_ (cW I hg hm AF (PyProof.Rows.callWith_type1 ?_ h1 rfl));rw[h1];show wpAny _ _ (spliced ((false,eval (.Call (.Attribute a "values" apos) [] [] cpos) X.env)::backTo pos [])) _ _ _;exact Calls.spliced_cons (aA go λv s1 z=>Calls.spliced_nil z)
abbrev Bh (K:W.Frag)(C:Addr):Bool:=findIn K (.ref C) "__eq__" ==some (some (.builtin "object.__eq__"))&&subIn K (.ref C) (.type "str") ==some false&&subIn K (.ref C) (.type "object") ==some true
def tY {prog:Program}{w:World}{K:Frag}{C:Addr}{R:Result->Shared->Prop}(X:K.In s.heap)(hm:makesIn K C=true)(hi:findIn K (.ref C) "__init__"=some (some (.builtin "object.__init__")))
  (h:R (.ok (.ret (.ref (s.heap.objs.size+1)))) { s with heap:=(s.heap.push emptyDict).push (instObj C s.heap.objs.size) }):codeAny (model prog w) A (.call (.ref C) ⟨[],[]⟩) R s:=by
 obtain⟨hh,g,d,t,os⟩:=s;have Y:=makes_of (M:=model prog w) X hm;refine make_core Y (looks_findIn X hi) (λz=>Looks.of_pure (oi_bind z)) (.inr ⟨rfl,rfl⟩) ?_;have k:∀ b o,hh.get? b=some o->((hh.push emptyDict).push (instObj C hh.objs.size)).get? b=some o:=λb o e=>ul _ (ul _ e)
 have hx:((hh.push emptyDict).push (instObj C hh.objs.size)).get? (hh.objs.size+1)=some (instObj C hh.objs.size):=by heap_get
 have t1:Looks (model prog w) ((hh.push emptyDict).push (instObj C hh.objs.size)) (typeOf (.ref (hh.objs.size+1))) (.ref C):=Looks.andThen (Looks.ld hx) .now;have t2:Looks (model prog w) ((hh.push emptyDict).push (instObj C hh.objs.size)) (isInstance (.ref (hh.objs.size+1)) (.type "object")) true:=t1.andThen (Y.top.keeps k);refine codeAny_call_builtin oi_plain entry_oi (@check_slot (model prog w) _ _ _ "object.__init__" "object" "__init__" (.ref (hh.objs.size+1)) [] [] _ oi_kind oi_split t2 (oi_args _) ?_);rw[oi_run];exact am ⟨rfl,h⟩
structure MJ (K:Frag) (C:Addr):Prop where
 makes:makesIn K C=true
 init:findIn K (.ref C) "__init__"=some (some (.builtin "object.__init__"))
 kp:keepIn K (.ref C)=true
abbrev Me (C:Addr):TE:=λ_ H Q=>∀ x dx,H x=none->H dx=none->dx≠x->Q (.ref x) (upd (upd H dx (.own x)) x (.ins C dx []))
def AM {C:Addr}{x:Str}(M:MJ X.K C)(hg:Gl X x)(hm:X.mg x=some (.ref C))(hdb:(x ==("__debug__":Str))=false):PE X (.Call (.Name x p) [] [] pos) (Me C):=by
 intro Y s U H Q I h;refine bv (bI I hg hm ?_ hdb);refine W.callWith_K0 I.bV M.kp (wpAny_call (tY I.bV M.makes M.init ?_));have I2:=Inv.made (C:=C) I;exact⟨.ref (s.heap.objs.size+1),_,I2,rfl,h (s.heap.objs.size+1) s.heap.objs.size (I.hok.fresh (Nat.le_succ _)) (I.hok.fresh (re _)) (pi (Nat.lt_succ_self _))⟩
@[reducible]def VV:List (V×V)->List (Value×Value)->Prop:=Paired λp q=>RelV p.1 q.1/\RelV p.2 q.2
abbrev PQ (X:Cx)(pos:Pos)(keys:List (Option Expr))(values:List Expr)(t:St->Hp->(List (V×V)->Hp->Prop)->Prop):Prop:=
 ∀ (Y:NI) (s:Shared) (U:St) (H:Hp) (Q:List (V×V)->Hp->Prop),Inv X Y U H s->t U H Q->
  wpAny (model X.prog X.w) X.A (evalPairs (pairTrees keys values X.env pos)) (λvs s'=>∃ ps H',Inv X Y U H' s'/\VV ps vs/\Q ps H') X.xe s
def Fm:PQ X pos [] [] (λ_ H Q=>Q [] H):=λY s U H Q I h=>pairTrees_nil_walk ⟨[],H,I,.nil,h⟩
variable {t:St->Hp->(List (V×V)->Hp->Prop)->Prop}{vs:List Expr}
def Dx {k v:Expr}{ks:List (Option Expr)}{tk tv:TE}(hk:PE X k tk)(hv:PE X v tv)(hr:PQ X pos ks vs t):
  PQ X pos (some k::ks) (v::vs) (λU H Q=>tk U H λx H1=>tv U H1 λy H2=>t U H2 λps H3=>Q ((x,y)::ps) H3):=λY s U H Q I h=>
 pairTrees_cons_walk (aA (hk Y s U H _ I h) λu s1 ⟨x,H1,I1,rx,q1⟩=>aA (hv Y s1 U H1 _ I1 q1) λw2 s2 ⟨y,H2,I2,ry,q2⟩=>
  aA (hr Y s2 U H2 _ I2 q2) λws s3 ⟨ps,H3,I3,rel,q3⟩=>⟨(x,y)::ps,H3,I3,.cons ⟨rx,ry⟩ rel,q3⟩)
abbrev ja (kvs more:List (Key×V)):List (Key×V):=more.foldl (λacc kv=>putK acc kv.1 kv.2) kvs
def KV.merge:∀ {more:List (Key×V)}{rs:List (Key×Value)}{kvs:List (Key×V)}{vs:List (Key×Value)},KV more rs->KV kvs vs->KV (ja kvs more) (merged vs rs):=by
 intro more rs kvs vs r;unfold KV at r
 induction r generalizing kvs vs with
 |nil=>intro q;exact q
 | @cons p q ps qs h t ih=>
  intro r0;have e:KV (putK kvs p.1 p.2) (stored vs q.1 q.2):=by
   have:=r0.put p.1 h.2;rw[<-h.1];exact this
  exact ih e
def fM:∀ (more kvs:List (Key×V)),(ja kvs more).length<=kvs.length+more.length
 | [],kvs=>by show kvs.length<=kvs.length+0;omega
 |p::r,kvs=>by
  have h1:=fM r (putK kvs p.1 p.2);have h2:=eA kvs p.1 p.2;show(ja (putK kvs p.1 p.2) r).length<=_;rw[length_cons];omega
def lZ {P:Program}{w:World}:∀ {kvs:List (Key×V)}{ws:List (Value×Value)},VV (kvs.map λkv=>(kV kv.1,kv.2)) ws->∃ rs,Carries (aw P w) ws rs/\KV kvs rs
 | [],_,r=>by rw[List.map_nil]at r;cases r;exact⟨[],True.intro,.nil⟩
 |p::kvs,_,r=>by
  rw[map_cons]at r;cases r with
  | @cons a b as bs h t=>
   obtain⟨rs,c,q⟩:=lZ (P:=P) (w:=w) t;obtain⟨b1,b2⟩:=b;exact⟨(p.1,b2)::rs,⟨qv h.1,rfl,c⟩,.cons ⟨rfl,h.2⟩ q⟩
abbrev Kc (t:St->Hp->(List (V×V)->Hp->Prop)->Prop):TE:=λU H Q=>∀ p,H p=none->t U (upd H p (.dK [])) λps H2=>H2 p=some (.dK [])/\∃ kvs:List (Key×V),ps=kvs.map (λkv=>(kV kv.1,kv.2))/\kvs.length<=15/\Q (.ref p) (upd H2 p (.dK (ja [] kvs)))
def C3 {keys:List (Option Expr)}{values:List Expr}(h:PQ X pos keys values t)(hall:keys.all (·.isSome)=true)(hl:keys.length=values.length)(h0:keys≠[])
  (h15:keys.length<=15):PE X (.Dict keys values pos) (Kc t):=by
 intro Y s U H Q I q;have hn:=I.hok.fresh (re s.heap.objs.size);have I1:=I.laid (a:=s.heap.objs.size) (o:=.dK []) (h':=s.heap.push { cls:=.type "dict",data:=.dict #[] }) (t':=s.toks) (λ_ _ q=>ul _ q) (re _) (yW s.heap I.big);refine wpAny_Dict_walk (knd:=aw X.prog X.w) hall hl h0 h15 (aA (h Y _ U _ _ I1 (q _ hn)) λws s2 ⟨ps,H2,I2,rel,e,kvs,ep,lk,q2⟩=>?_);subst ep;obtain⟨rs,c,rk⟩:=lZ (P:=X.prog) (w:=X.w) rel;obtain⟨z,hd,vs0,r0,dd⟩:=E4 I2.hok e;cases r0;refine⟨rs,c,dd,λh' dd' hs=>⟨.ref s.heap.objs.size,_,?_,rfl,q2⟩⟩;have hz:(ja [] kvs).length<=bn:=by
  have h1:=fM kvs [];rw[length_nil]at h1;rw[sizeLine_eq];omega
 have he:∃ q,h'.get? s.heap.objs.size=some q:=let⟨q,_,_,hq,_⟩:=dd';⟨q,hq⟩;exact qg I2 (by rw[e];exact True.intro) hs he (ui hz hd (rk.merge .nil) dd')
abbrev yX:Expr->Nat
 | .Tuple vs _ _=>vs.length
 |_=>0
abbrev GZ (sc:Scope)(tg v:Expr)(ns:List Str):Bool:=match swappedStores [tg] v { scope:=sc,locals:=0,globals:=0,cells:=[] } with
 | .pure (some l)=>l ==ns&&decide (yX v=ns.length)
 |_=>false
variable {tg:Expr}{ns:List Str}
def Au {env:Env}{v:Expr}(h:GZ env.scope tg v ns=true):swappedStores [tg] v env=pure (some ns):=by
 have e:swappedStores [tg] v env=swappedStores [tg] v { scope:=env.scope,locals:=0,globals:=0,cells:=[] }:=by
  obtain⟨sc,a,b,c,d,f,g,i,j⟩:=env
  rfl
 rw[e];unfold GZ at h
 split at h
 .rename_i l e2;rw[nl]at h;rw[e2,beq_iff_eq.mp h.1]
  rfl
 .cases h
variable {sc:Scope}
def uX {v:Expr}(h:GZ sc tg v ns=true):yX v=ns.length:=by
 unfold GZ at h
 split at h
 .rw[nl,decide_eq_true_eq]at h;exact h.2
 .cases h
def Cc {x y:Str}(h:GZ sc tg (.Tuple vs k p) [x,y]=true):∃ a b,vs=[a,b]:=by
 have h:=uX h
 match vs,h with
 | [a,b],_=>exact⟨a,b,rfl⟩
def xP {x y z:Str}(h:GZ sc tg (.Tuple vs k p) [x,y,z]=true):∃ a b c,vs=[a,b,c]:=by
 have h:=uX h
 match vs,h with
 | [a,b,c],_=>exact⟨a,b,c,rfl⟩
abbrev Iy (i j:Nat)(ta:TA):TS:=λD U H=>ta U H λvs H1=>∃ v w,vs=[v,w]/\D.nx ((U.set i (some v)).set j (some w)) H1
def DS {i j:Nat}{x y:Str}{a b:Expr}{px py pt:Pos} {kt k2 pt2} (hc:X.calm=true)(hN:X.N.Nodup)(hi:X.N[i]? =some x)(hj:X.N[j]? =some y)(hij:i≠j)
  (hx:X.env.scope.names.lookup x=some .local) (hy:X.env.scope.names.lookup y=some .local) (ha:PA X [a,b] ta)
  (hw:swappedStores [.Tuple [.Name x px,.Name y py] kt pt] (.Tuple [a,b] k2 pt2) X.env=pure (some [x,y]))
  (hs:swapsWithSole [.Tuple [.Name x px,.Name y py] kt pt] (.Tuple [a,b] k2 pt2) pos.line X.env=pure false:=by rfl):
  PS X (.Assign [.Tuple [.Name x px,.Name y py] kt pt] (.Tuple [a,b] k2 pt2) pos) (Iy i j ta):=by
 intro Y s U H D I h;rw[exec_Assign_arm];refine ad (wpAny_standAt ?_);rw[hs];refine ad (am ?_);rw[if_neg (by decide)];refine ad (Tuple_ (aA (ha _ Y s U H _ I h) λus s1 ⟨vs,H1,I1,r1,q1⟩=>?_));obtain⟨v,w,e1,q1⟩:=q1;subst e1;obtain⟨u1,u2,rfl,rv,rw'⟩:∃ u1 u2,us=[u1,u2]/\RelV v u1/\RelV w u2:=by
  cases r1 with
  |cons p q=>
   cases q with
   |cons p' q'=>
    cases q';exact⟨_,_,rfl,p,p'⟩
 refine wpAny_newObj_type ?_ (by show 2<=bn;decide);have I2:Inv X Y U H1 { s1 with heap:=s1.heap.push { cls:=.type "tuple",data:=.seq [u1,u2].toArray } }:=I1.kept (t':=s1.toks) λb o e=>ul _ e
 rw[hw];refine ad (am ?_);show wpAny (model X.prog X.w) X.A (do rule "assign.swapped-stores";let items <-unpackItems (.ref s1.heap.objs.size) 2 none;assignInOrder [λv=>bindName X.env y v,λv=>bindName X.env x v] items.reverse;pure Flow.next) _ _ _;refine ad (wpAny_rule (ad (unpackItems_tuple (items:=#[u1,u2]) (I.ok.hd hc) (IsTup.new s1.heap _) λh' hx'=>?_)));have I3:=I2.kept (h':=h') (t':=s1.toks) λb o e=>hx' b o (pi (ut e)) e
 show wpAny _ _ (assignInOrder [λv=>bindName X.env y v,λv=>bindName X.env x v] [u2,u1] >>= λ_=>pure Flow.next) _ _ _;refine ad (assignInOrder_cons (wpAny_bindName (bc I3 hN hj (.inl hy) rw' (λs2 I4=>?_) (.inr hy))));refine assignInOrder_cons (wpAny_bindName (bc I4 hN hi (.inl hx) rv (λs3 I5=>assignInOrder_nil (am ?_)) (.inr hx)));rw[set_comm _ _ (Ne.symm hij)]at I5;exact⟨_,H1,I5,q1⟩
abbrev Iz (i j l:Nat)(ta:TA):TS:=λD U H=>ta U H λvs H1=>∃ v w x,vs=[v,w,x]/\D.nx (((U.set i (some v)).set j (some w)).set l (some x)) H1
def CC {i j l:Nat}{x y z:Str}{a b c:Expr}{px py pz pt:Pos} {kt k2 pt2} (hc:X.calm=true)(hN:X.N.Nodup)(hi:X.N[i]? =some x)(hj:X.N[j]? =some y)(hl:X.N[l]? =some z)(hij:i≠j)(hil:i≠l)(hjl:j≠l)
  (hx:X.env.scope.names.lookup x=some .local) (hy:X.env.scope.names.lookup y=some .local) (hz:X.env.scope.names.lookup z=some .local) (ha:PA X [a,b,c] ta)
  (hw:swappedStores [.Tuple [.Name x px,.Name y py,.Name z pz] kt pt] (.Tuple [a,b,c] k2 pt2) X.env=pure (some [x,y,z]))
  (hs:swapsWithSole [.Tuple [.Name x px,.Name y py,.Name z pz] kt pt] (.Tuple [a,b,c] k2 pt2) pos.line X.env=pure false:=by rfl):
  PS X (.Assign [.Tuple [.Name x px,.Name y py,.Name z pz] kt pt] (.Tuple [a,b,c] k2 pt2) pos) (Iz i j l ta):=by
 intro Y s U H D I h;rw[exec_Assign_arm];refine ad (wpAny_standAt ?_);rw[hs];refine ad (am ?_);rw[if_neg (by decide)];refine ad (Tuple_ (aA (ha _ Y s U H _ I h) λus s1 ⟨vs,H1,I1,r1,q1⟩=>?_));obtain⟨v,w,x',e1,q1⟩:=q1;subst e1;obtain⟨u1,u2,u3,rfl,rv,rw',rx'⟩:∃ u1 u2 u3,us=[u1,u2,u3]/\RelV v u1/\RelV w u2/\RelV x' u3:=by
  cases r1 with
  |cons p q=>
   cases q with
   |cons p' q'=>
    cases q' with
    |cons p2 q2=>
     cases q2;exact⟨_,_,_,rfl,p,p',p2⟩
 refine wpAny_newObj_type ?_ (by show 3<=bn;decide);have I2:Inv X Y U H1 { s1 with heap:=s1.heap.push { cls:=.type "tuple",data:=.seq [u1,u2,u3].toArray } }:=I1.kept (t':=s1.toks) λb o e=>ul _ e
 rw[hw];refine ad (am ?_);show wpAny (model X.prog X.w) X.A (do rule "assign.swapped-stores";let items <-unpackItems (.ref s1.heap.objs.size) 3 none;assignInOrder [λv=>bindName X.env z v,λv=>bindName X.env y v,λv=>bindName X.env x v] items.reverse;pure Flow.next) _ _ _;refine ad (wpAny_rule (ad (unpackItems_tuple (items:=#[u1,u2,u3]) (I.ok.hd hc) (IsTup.new s1.heap _) λh' hx'=>?_)));have I3:=I2.kept (h':=h') (t':=s1.toks) λb o e=>hx' b o (pi (ut e)) e
 show wpAny _ _ (assignInOrder [λv=>bindName X.env z v,λv=>bindName X.env y v,λv=>bindName X.env x v] [u3,u2,u1] >>= λ_=>pure Flow.next) _ _ _;refine ad (assignInOrder_cons (wpAny_bindName (bc I3 hN hl (.inl hz) rx' (λs2 I4=>?_) (.inr hz))));refine assignInOrder_cons (wpAny_bindName (bc I4 hN hj (.inl hy) rw' (λs3 I5=>?_) (.inr hy)));refine assignInOrder_cons (wpAny_bindName (bc I5 hN hi (.inl hx) rv (λs4 I6=>assignInOrder_nil (am ?_)) (.inr hx)));rw[set_comm _ _ (Ne.symm hij),set_comm _ _ (Ne.symm hil),set_comm _ _ (Ne.symm hjl)]at I6;exact⟨_,H1,I6,q1⟩
abbrev uh (K:W.Frag)(C:Addr):Bool:=findIn K (.ref C) "__ne__" ==some (some (.builtin "object.__ne__"))&&Bh K C
section
variable {A:Around}{s:Shared}{l C dx:Addr}{od:Option Obj}{K:W.Frag}{prog:Program}{w:World}{E:NH}
def JY (X:K.In s.heap)(I:InstAt s.heap l (instObj C dx) C od)(h1:findIn K (.ref C) "__eq__"=some (some (.builtin "object.__eq__"))) (h3:subIn K (.ref C) (.type "object")=some true) (h:Q (some (.bool true)) s):wpAny (model prog w) A (callSpecialIfBound? (.ref l) "__eq__" [.ref l]) Q E s:=by
 simp only[callSpecialIfBound?,bindSpecialIfBound?];refine bd (ad (ad (ad (I.type.here ((looks_findIn X h1).here ?_)))));simp only[PySem.F.cmp_object.eq.bind];have fin:wpAny (model prog w) A (call (.builtin "object.__eq__") ([.ref l]++[.ref l]) >>= λv=>pure (some v)) Q E s:=by
  refine ad (wpAny_call (codeAny_call_builtin PySem.F.cmp_object.eq.plain PySem.F.cmpEntry_eq ?_));simp only[checkBuiltinCall,PySem.F.cmpKind_eq,PySem.F.cmpSplit_eq];refine ad (ad (I.type.here ((looks_subIn X h3).here ?_)));rw[if_neg (by simp)];have ha:=PySem.F.cmpArgs_eq (.ref l) (.ref l);have h0:(match Manifest.signature? "object.__eq__" with|some sig=>Bind.checkArgs "object.__eq__" sig { pos:=[Value.ref l]++[Value.ref l] }|x=>pure ())=pure ():=ha;refine wpAny_of_eq h0 ?_;exact objEq_entry_same (am h)
 refine ad (wpAny_askSetting (wpAny_ite ?_))
 split
 .exact ad (am (am fin))
 .exact wpAny_tryCatch (ad (am (am fin)))
def IW (X:K.In s.heap)(I:InstAt s.heap l (instObj C dx) C od)(h1:findIn K (.ref C) "__eq__"=some (some (.builtin "object.__eq__"))) (h2:findIn K (.ref C) "__ne__"=some (some (.builtin "object.__ne__"))) (h3:subIn K (.ref C) (.type "object")=some true) (hu:A.units+2<cLine) (h:Q (some (.bool false)) s):wpAny (model prog w) A (callSpecialIfBound? (.ref l) "__ne__" [.ref l]) Q E s:=by
 simp only[callSpecialIfBound?,bindSpecialIfBound?];refine bd (ad (ad (ad (I.type.here ((looks_findIn X h2).here ?_)))));simp only[PySem.F.cmp_object.ne.bind];have fin:wpAny (model prog w) A (call (.builtin "object.__ne__") ([.ref l]++[.ref l]) >>= λv=>pure (some v)) Q E s:=by
  refine ad (wpAny_call (codeAny_call_builtin PySem.F.cmp_object.ne.plain PySem.F.cmpEntry_ne ?_));simp only[checkBuiltinCall,PySem.F.cmpKind_ne,PySem.F.cmpSplit_ne];refine ad (ad (I.type.here ((looks_subIn X h3).here ?_)));rw[if_neg (by simp)];have ha:=PySem.F.cmpArgs_ne (.ref l) (.ref l);have h0:(match Manifest.signature? "object.__ne__" with|some sig=>Bind.checkArgs "object.__ne__" sig { pos:=[Value.ref l]++[Value.ref l] }|x=>pure ())=pure ():=ha;refine wpAny_of_eq h0 ?_;unfold Builtin.«object.__ne__»;show wpAny _ _ (pure (Value.ref l,[Value.ref l]) >>= _) _ _ _;refine ad (am ?_);refine ad (wpAny_cRoomFor (show A.units+1<cLine by omega) ?_);refine ad (JY X I h1 h3 ?_);refine ad (bi ?_);exact am (am h)
 refine ad (wpAny_askSetting (wpAny_ite ?_))
 split
 .exact ad (am (am fin))
 .exact wpAny_tryCatch (ad (am (am fin)))
def wz (X:K.In s.heap)(I:InstAt s.heap l (instObj C dx) C od)(hC:uh K C=true)(hu:A.units+3<cLine):SeqAt.RcNeAt A s (.ref l) (.ref l) false:=λprog w E Q h=>by
 unfold uh Bh at hC;simp only[nl,beq_iff_eq]at hC;obtain⟨h0,⟨h1,h2⟩,h3⟩:=hC;simp only[richCompare,PySem.cmpInfo_NotEq]
 try with_reducible refine bd ?_
 refine ad (wpAny_cRoomFor nofun ?_);show wpAny _ _ (typeOf (Value.ref l) >>= _) _ _ _;refine ad (I.type.here (ad (I.type.here ?_)));rw[if_neg (by simp)];refine ad (am ?_);rw[if_neg (by simp)];refine ad ?_;simp only[tryCompare];refine ad (IW X I h1 h0 h3 nofun ?_);exact am (am h)
def Jb (d:Addr)(hd:(d ==sysModules)=false)(dd:Option Addr)(ep:Nat)(sl:Array (Option Value)):Meets (Builtin.«dict.__ne__» ⟨[.ref d,.ref d],[]⟩) (λ_ R s=>s.heap.get? d=some ⟨.type "dict",dd,.dict #[] ep,sl⟩/\R (.ok (.ret (.bool false))) s):=by
 intro prog w A R s hs;obtain⟨h,g,dp,tt,os⟩:=s;obtain⟨ho,q⟩:=hs;have hT:(⟨h,g,dp,tt,os⟩:Shared).TypeIs (.ref d) "dict":=⟨_,ho,rfl⟩;unfold Builtin.«dict.__ne__»
 k_delta "equality"
 unfold Builtin.Dict.dictSlotArgs;refine ad (ad (wpAny_notOrdered_dict hT ?_));show wpAny _ _ (pure (Value.ref d,[Value.ref d]) >>= _) _ _ _;refine ad (am (am ?_));have hi:=PySem.F.kt_sub_dict;show wpAny _ _ (isInstance (.ref d) (.type "dict") >>= _) _ _ _;unfold Builtin.Dict.samePairs;simp only[Std.Legacy.Range.forIn_eq_forIn_range']
 repeat(any_goals first|assumption|wp_step)
def B8 (hd:(d ==sysModules)=false){ep:Nat}(ho:s.heap.get? d=some ⟨.type "dict",dd,.dict #[] ep,sl⟩) (hu:A.units<cLine):SeqAt.RcNeAt A s (.ref d) (.ref d) false:=λprog w E Q h=>
 richCompare_meets_room (op:=.NotEq) ⟨_,ho,rfl⟩ ⟨_,ho,rfl⟩ PySem.F.slot_dict_ne PySem.F.entry_dict_ne (PySem.F.args_dict_ne_2 _ _) (Jb d hd dd ep sl) ⟨ho,show Value.bool false≠Value.notImplemented/\Q (.bool false) s from⟨(λx=>nomatch x),h⟩⟩ hu
abbrev yj (K:W.Frag)(H:Hp)(a:Addr):Prop:=(∃ xs,a8 K H a xs)\/H a=some (.dK [])\/∃ C dx fs,H a=some (.ins C dx fs)/\uh K C=true
def CO {a:Addr}(I:Inv X Y U H s)(h:yj X.K H a)(hu:A.units+3<cLine):SeqAt.RcNeAt A s (.ref a) (.ref a) false:=by
 rcases h with⟨xs,h⟩|h|⟨C,dx,fs,h,hn⟩
 .obtain⟨ia,ra,pa,_⟩:=I.tuple h;have rc:=SeqAt.RcNeAt.tuples (A:=A) (e:=λ_=>true) (show s.heap.IsTuple a ia.toArray from pa) (show s.heap.IsTuple a ia.toArray from pa) nofun λj h1 h2=>SeqAt.EqAt.same _
  have e:((List.range (min ia.toArray.size ia.toArray.size)).all (λ_=>true)&&ia.toArray.size ==ia.toArray.size)=true:=by simp
  rw[e]at rc;exact rc
 .obtain⟨z,hd,vs,rel,dd⟩:=kZ I.hok (.inl h);cases rel;obtain⟨⟨c,d,da,sl⟩,es,ep,ho,hx,he,_,hp,_⟩:=dd;have e0:es=#[]:=by
   cases hp':es.toList with
   |nil=>exact Array.toList_eq_nil_iff.mp hp'
   |cons a b=>rw[hp']at hp;cases hp
  subst e0;obtain rfl:da=.dict #[] ep:=he;obtain⟨rfl,_⟩:=hx;exact B8 hd ho nofun
 .obtain⟨mA,o,_⟩:=g7 I.hok h;obtain⟨od,i,_⟩:=o.look;exact wz I.bV i hn hu
end
end L2
namespace L2
open PySem PySem.Spec PyProof.Rows
section
variable {X:Cx}{tg:Expr}
end
end L2
namespace L2
open PySem PySem.Spec PySem.W PyProof.Rows
open PySem.AutoSeq1 (wpAny_loadPart')
section
variable {prog:Program}{w:World}{A:Around}{E:NH}{s:Shared}
end
section
variable {X:Cx}{Y:NI}{U:St}{H:Hp}{s:Shared}
end
section
variable {prog:Program}{w:World}{A:Around}{E:NH}{s:Shared}
variable {z TI TO i1 i2 i3 l1 l2 l3:Addr}{k1 k2 k3:Nat}{tp1 tp2 tp3:Bool}{xs ys zs:Array Value}{x y v a b c f1:Value}
end
end L2
namespace L2
open PySem PySem.Spec PyProof.Rows
inductive gm (K:W.Frag) (H:Hp):Nat->V->V->Bool->Prop where
 |flat {n:Nat}{x y:V}(fx:aJ x=true) (fy:aJ y=true):gm K H n x y (cV x y)
 |same {n:Nat}(a:Addr):gm K H (n+1) (.ref a) (.ref a) true
 |ll {n:Nat}{a b:Addr}{xs ys:List V}{e:Nat->Bool}(ha:aS K H a xs) (hb:aS K H b ys) (hl:xs.length=ys.length) (h:∀ j x y,xs[j]? =some x->ys[j]? =some y->gm K H (n+1) x y (e j)):gm K H (n+2) (.ref a) (.ref b) ((List.range xs.length).all e)
 |lln {n:Nat}{a b:Addr}{xs ys:List V}(ha:aS K H a xs) (hb:aS K H b ys) (hl:xs.length≠ys.length):gm K H (n+2) (.ref a) (.ref b) false
 |tt {n:Nat}{a b:Addr}{xs ys:List V}{e:Nat->Bool}(ha:a8 K H a xs) (hb:a8 K H b ys) (h:∀ j x y,xs[j]? =some x->ys[j]? =some y->gm K H (n+1) x y (e j)):gm K H (n+2) (.ref a) (.ref b) ((List.range (min xs.length ys.length)).all e&&xs.length ==ys.length)
variable {A:Around}
section
variable {X:Cx}{Y:NI}{s:Shared}{U:St}{H:Hp}
def zF {y x:V}{u v:Value}(ry:RelV y u)(rx:RelV x v)(fy:aJ y=true)(fx:aJ x=true):SeqAt.RcAt A s u v (cV y x):=by
 cases y<;>first|cases fy|skip
 all_goals (cases x<;>first|cases fx|skip)
 all_goals (first|(obtain⟨t,rfl⟩:=ry)|cases ry)
 all_goals (first|(obtain⟨t',rfl⟩:=rx)|cases rx)
 .exact SeqAt.RcAt.none_none
 .exact SeqAt.RcAt.none_bool _
 .exact SeqAt.RcAt.none_int _ _
 .exact SeqAt.RcAt.none_str _ _
 .exact SeqAt.RcAt.bool_none _
 .exact SeqAt.RcAt.bool_bool _ _
 .exact SeqAt.RcAt.bool_int _ _ _
 .exact SeqAt.RcAt.bool_str _ _ _
 .exact SeqAt.RcAt.int_none _ _
 .exact SeqAt.RcAt.int_bool _ _ _
 .exact SeqAt.RcAt.int_int _ _ _ _
 .exact SeqAt.RcAt.int_str _ _ _ _
 .exact SeqAt.RcAt.str_none _ _
 .exact SeqAt.RcAt.str_bool _ _ _
 .exact SeqAt.RcAt.str_int _ _ _ _
 .exact SeqAt.RcAt.str_str _ _ _ _
def rV {y x:V}{u v:Value}(ry:RelV y u)(rx:RelV x v)(fy:aJ y=true)(fx:aJ x=true):SeqAt.RcNeAt A s u v (!cV y x):=by
 cases y<;>first|cases fy|skip
 all_goals (cases x<;>first|cases fx|skip)
 all_goals (first|(obtain⟨t,rfl⟩:=ry)|cases ry)
 all_goals (first|(obtain⟨t',rfl⟩:=rx)|cases rx)
 .exact SeqAt.RcNeAt.none_none
 .exact SeqAt.RcNeAt.none_bool _
 .exact SeqAt.RcNeAt.none_int _ _
 .exact SeqAt.RcNeAt.none_str _ _
 .exact SeqAt.RcNeAt.bool_none _
 .exact SeqAt.RcNeAt.bool_bool _ _
 .exact SeqAt.RcNeAt.bool_int _ _ _
 .exact SeqAt.RcNeAt.bool_str _ _ _
 .exact SeqAt.RcNeAt.int_none _ _
 .exact SeqAt.RcNeAt.int_bool _ _ _
 .exact SeqAt.RcNeAt.int_int _ _ _ _
 .exact SeqAt.RcNeAt.int_str _ _ _ _
 .exact SeqAt.RcNeAt.str_none _ _
 .exact SeqAt.RcNeAt.str_bool _ _ _
 .exact SeqAt.RcNeAt.str_int _ _ _ _
 .exact SeqAt.RcNeAt.str_str _ _ _ _
def eqv_refl (I:Inv X Y U H s):∀ {n:Nat}{x y:V}{b:Bool},gm X.K H n x y b->x=y->b=true:=by
 intro n x y b h
 induction h with
 | @flat n x y fx fy=>
  rintro rfl;cases x<;>first|(exact absurd fx Bool.false_ne_true)|simp[cV]
 |same a=>intro _;rfl
 | @ll n a b xs ys e ha hb hl h ih=>
  intro z;cases z;have:=I.eh ha hb;subst this;rw[all_eq_true];intro j hj;have hj':j<xs.length:=mem_range.mp hj;exact ih j _ _ (li hj') (li hj') rfl
 |lln ha hb hl=>intro z;cases z;exact absurd (congrArg List.length (I.eh ha hb)) hl
 | @tt n a b xs ys e ha hb h ih=>
  intro z;cases z;have:=I.i8 ha hb;subst this;rw[beq_self_eq_true,Bool.and_true,Nat.min_self,all_eq_true];intro j hj;have hj':j<xs.length:=mem_range.mp hj;exact ih j _ _ (li hj') (li hj') rfl
def qu (I:Inv X Y U H s):∀ {n:Nat}{x y:V}{b:Bool},gm X.K H n x y b->∀ {A:Around}{u v:Value},A.units+n<cLine->RelV x u->RelV y v->
  (SeqAt.EqAt A s u v b)/\(x=y\/SeqAt.RcAt A s u v b/\SeqAt.RcNeAt A s u v (!b)):=by
 intro n x y b h
 induction h with
 |flat fx fy=>intro A u v _ rx ry;exact⟨uK rx ry fx fy,.inr ⟨zF rx ry fx fy,rV rx ry fx fy⟩⟩
 |same a=>intro A u v _ rx ry;cases rx;cases ry;exact⟨SeqAt.EqAt.same _,.inl rfl⟩
 | @ll n a b xs ys e ha hb hl h ih=>
  intro A u v hu rx ry;have hall:=gm.ll ha hb hl h;cases rx;cases ry
  by_cases hab:a=b
  .subst hab;have z:=eqv_refl I hall rfl;rw[z];exact⟨SeqAt.EqAt.same _,.inl rfl⟩
  obtain⟨ia,ra,pa,_⟩:=I.list ha;obtain⟨ib,rb,pb,_⟩:=I.list hb;have e1:ia.toArray.size=xs.length:=by rw[ii,ra.length]
  have e2:ib.toArray.size=ys.length:=by rw[ii,rb.length]
  have he:∀ j (h1:j<ia.toArray.size) (h2:j<ib.toArray.size),SeqAt.EqAt A.in1 s ia.toArray[j] ib.toArray[j] (e j):=λj h1 h2=>by
   obtain⟨x1,f1,r1⟩:=kA ra h1;obtain⟨y1,f2,r2⟩:=kA rb h2;exact(ih j x1 y1 f1 f2 (by show A.units+1+(n+1)<cLine;omega) r1 r2).1
  have rc:=SeqAt.RcAt.lists (A:=A) pa.isList pb.isList (by rw[e1,e2,hl]) nofun he;have rn:=SeqAt.RcNeAt.lists (A:=A) pa.isList pb.isList (by rw[e1,e2,hl]) nofun he;rw[e1]at rc rn;exact⟨SeqAt.EqAt.of_refs hab rc,.inr ⟨rc,rn⟩⟩
 | @lln n a b xs ys ha hb hl=>
  intro A u v hu rx ry;cases rx;cases ry;obtain⟨ia,ra,pa,_⟩:=I.list ha;obtain⟨ib,rb,pb,_⟩:=I.list hb;have hab:a≠b:=λz=>by subst z;exact hl (congrArg List.length (I.eh ha hb))
  have hz:(ia.toArray.size != ib.toArray.size)=true:=by
   rw[ii,ii,<-ra.length,<-rb.length];simpa using hl
  have rc:=SeqAt.RcAt.lists_lengths (A:=A) pa.isList pb.isList hz nofun;exact⟨SeqAt.EqAt.of_refs hab rc,.inr ⟨rc,SeqAt.RcNeAt.lists_lengths (A:=A) pa.isList pb.isList hz nofun⟩⟩
 | @tt n a b xs ys e ha hb h ih=>
  intro A u v hu rx ry;have hall:=gm.tt ha hb h;cases rx;cases ry
  by_cases hab:a=b
  .subst hab;have z:=eqv_refl I hall rfl;rw[z];exact⟨SeqAt.EqAt.same _,.inl rfl⟩
  obtain⟨ia,ra,pa,_⟩:=I.tuple ha;obtain⟨ib,rb,pb,_⟩:=I.tuple hb;have e1:ia.toArray.size=xs.length:=by rw[ii,ra.length]
  have e2:ib.toArray.size=ys.length:=by rw[ii,rb.length]
  have he:∀ j (h1:j<ia.toArray.size) (h2:j<ib.toArray.size),SeqAt.EqAt A.in1 s ia.toArray[j] ib.toArray[j] (e j):=λj h1 h2=>by
   obtain⟨x1,f1,r1⟩:=kA ra h1;obtain⟨y1,f2,r2⟩:=kA rb h2;exact(ih j x1 y1 f1 f2 (by show A.units+1+(n+1)<cLine;omega) r1 r2).1
  have rc:=SeqAt.RcAt.tuples (A:=A) (show s.heap.IsTuple a ia.toArray from pa) (show s.heap.IsTuple b ib.toArray from pb) nofun he;have rn:=SeqAt.RcNeAt.tuples (A:=A) (show s.heap.IsTuple a ia.toArray from pa) (show s.heap.IsTuple b ib.toArray from pb) nofun he;rw[e1,e2]at rc rn;exact⟨SeqAt.EqAt.of_refs hab rc,.inr ⟨rc,rn⟩⟩
@[irreducible] noncomputable def gq (K:W.Frag) (neg:Bool):R2:=λx y H Q=>∃ n b,gm K H n x y b/\n<=100/\(aJ x=true\/x≠y\/(neg=false/\∃ a,x=.ref a/\yH K H a)\/(neg=true/\∃ a,x=.ref a/\yj K H a))/\Q (.bl (if neg then !b else b)) H
def Hk (hu:X.A.units+200<cLine):cL X (compareOp .Eq) (gq X.K false):=by
 intro Y s U H x y v u Q I rx ry h;unfold gq at h;obtain⟨n,b,e,hn,hx,q⟩:=h;rcases(qu I e (A:=X.A) nofun rx ry).2 with z|⟨z,_⟩
 .subst z;rcases hx with hx|hx
  .have z:=eqv_refl I e rfl;have r:=zF (s:=s) (A:=X.A) rx ry hx hx;have z2:=eqv_refl I (gm.flat (K:=X.K) (H:=H) (n:=0) hx hx) rfl;rw[z2]at r;rw[z]at q;exact PySem.EqBoolInt.of_rc r ⟨.bl true,H,I,rfl,q⟩
  rcases hx with hx|⟨_,a,rfl,hs⟩|⟨hx,_⟩
  .exact absurd rfl hx
  .have z:=eqv_refl I e rfl;rw[z]at q;cases rx;cases ry;exact PySem.EqBoolInt.of_rc (CG (A:=X.A) I hs nofun) ⟨.bl true,H,I,rfl,q⟩
  .cases hx
 .exact PySem.EqBoolInt.of_rc z ⟨.bl b,H,I,rfl,q⟩
def Ft (hu:X.A.units+200<cLine):cL X (compareOp .NotEq) (gq X.K true):=by
 intro Y s U H x y v u Q I rx ry h;unfold gq at h;obtain⟨n,b,e,hn,hx,q⟩:=h;rcases(qu I e (A:=X.A) nofun rx ry).2 with z|⟨_,z⟩
 .subst z;rcases hx with hx|hx
  .have z:=eqv_refl I e rfl;have r:=rV (s:=s) (A:=X.A) rx ry hx hx;have z2:=eqv_refl I (gm.flat (K:=X.K) (H:=H) (n:=0) hx hx) rfl;rw[z2]at r;rw[z]at q;exact PySem.EqBoolInt.of_rcne r ⟨.bl false,H,I,rfl,q⟩
  rcases hx with hx|⟨hx,_⟩|⟨_,a,rfl,hs⟩
  .exact absurd rfl hx
  .cases hx
  .have z:=eqv_refl I e rfl;rw[z]at q;cases rx;cases ry;exact PySem.EqBoolInt.of_rcne (CO (A:=X.A) I hs nofun) ⟨.bl false,H,I,rfl,q⟩
 .exact PySem.EqBoolInt.of_rcne z ⟨.bl (!b),H,I,rfl,q⟩
end
@[irreducible] noncomputable def Ct (K:W.Frag) (a b:Addr) (H:Hp) (Q:VK):Prop:=(∃ xs ys,H a=some (.lst xs)/\H b=some (.lst ys)/\xs.length+ys.length<=100000/\∀ p,H p=none->Q (.ref p) (upd H p (.lst (xs++ys))))\/False
@[irreducible] noncomputable def DP (K:W.Frag) (a:Addr) (k:Int) (H:Hp) (Q:VK):Prop:=(∃ xs,H a=some (.lst xs)/\ -1000<=k/\k<=1000/\xs.length<=1000/\∀ p,H p=none->Q (.ref p) (upd H p (.lst (sK k.toNat xs).flatten)))\/False
abbrev F9 (K:W.Frag):R2:=λx y H Q=>match x,y with
 | .int i,.int j=>Q (.int (i+j)) H
 | .str a,.str b=>a.length+b.length<=100000/\Q (.str (a++b)) H
 | .ref a,.ref b=>Ct K a b H Q
 |_,_=>False
abbrev G1:R2:=λx y H Q=>match x,y with
 | .int i,.int j=>Q (.int (i-j)) H
 |_,_=>False
abbrev GD (K:W.Frag):R2:=λx y H Q=>match x,y with
 | .int i,.int j=>qx i j/\Q (.int (i*j)) H
 | .ref a,.int k=>DP K a k H Q
 |_,_=>False
abbrev F8:R2:=λx y H Q=>match x,y with
 | .int i,.int j=>(0<j/\j<1073741824)/\Q (.int (i / j)) H
 |_,_=>False
abbrev Fi:R2:=λx y H Q=>match x,y with
 | .int i,.int j=>0<j/\Q (.int (i % j)) H
 |_,_=>False
abbrev FI:R2:=λx y H Q=>match x,y with
 | .int i,.int j=>B5 i j/\Q (.int (i ^ j.toNat)) H
 |_,_=>False
abbrev Hj (K:W.Frag)(op:Operator):R2:=match op with
 | .Add=>F9 K
 | .Sub=>G1
 | .Mult=>GD K
 | .FloorDiv=>F8
 | .Mod=>Fi
 | .Pow=>FI
 |_=>λ_ _ _ _=>False
section
variable {X:Cx}
def nv {n:Nat}(h:n<=1000000):n<=bn:=by rw[sizeLine_eq];omega
def FY (op:Operator):cL X (binaryOp op) (Hj X.K op):=by
 intro Y s U H x y v u Q I rx ry h;cases op with
 |Add=>
  have h':F9 X.K x y H Q:=h;unfold F9 at h'
  split at h'
  .exact GO Y s U H _ _ v u Q I rx ry ⟨_,_,rfl,rfl,h'⟩
  .exact tW Y s U H _ _ v u Q I rx ry ⟨_,_,rfl,rfl,nv nofun,h'.2⟩
  .unfold Ct at h';rcases h' with⟨xs,ys,ha,hb,hz,q⟩|h'
   .exact HJ Y s U H _ _ v u Q I rx ry ⟨_,_,xs,ys,rfl,rfl,ha,hb,nv nofun,q⟩
   .exact h'.elim
  .exact h'.elim
 |Sub=>
  have h':G1 x y H Q:=h;unfold G1 at h'
  split at h'
  .exact Fp Y s U H _ _ v u Q I rx ry ⟨_,_,rfl,rfl,h'⟩
  .exact h'.elim
 |Mult=>
  have h':GD X.K x y H Q:=h;unfold GD at h'
  split at h'
  .exact GQ Y s U H _ _ v u Q I rx ry ⟨_,_,rfl,rfl,h'.1,h'.2⟩
  .rename_i k;unfold DP at h';rcases h' with⟨xs,ha,h1,h2,hz,q⟩|h'
   .refine HA Y s U H _ _ v u Q I rx ry ⟨_,k,xs,rfl,rfl,ha,by omega,by omega,nv ?_,q⟩;have:xs.length*k.toNat<=1000*1000:=Nat.mul_le_mul hz nofun
    omega
   .exact h'.elim
  .exact h'.elim
 |FloorDiv=>
  have h':F8 x y H Q:=h;unfold F8 at h'
  split at h'
  .exact BG Y s U H _ _ v u Q I rx ry ⟨_,_,rfl,rfl,h'.1,h'.2⟩
  .exact h'.elim
 |Mod=>
  have h':Fi x y H Q:=h;unfold Fi at h'
  split at h'
  .exact HE Y s U H _ _ v u Q I rx ry ⟨_,_,rfl,rfl,h'.1,h'.2⟩
  .exact h'.elim
 |Pow=>
  have h':FI x y H Q:=h;unfold FI at h'
  split at h'
  .exact GX Y s U H _ _ v u Q I rx ry ⟨_,_,rfl,rfl,h'.1,h'.2⟩
  .exact h'.elim
 |_=>exact(show False from h).elim
abbrev xb (f:Int->Int->Bool):R2:=λx y H Q=>match x,y with
 | .int i,.int j=>Q (.bl (f i j)) H
 |_,_=>False
@[irreducible] noncomputable def Kz (K:W.Frag) (neg:Bool):R2:=λx y H Q=>match y with
 | .ref p=>(∃ xs,(aS K H p xs\/a8 K H p xs)/\aJ x=true/\xs.all aJ=true/\Q (.bl (if neg then !Ip x xs else Ip x xs)) H)\/False\/False
 | .str j=>False
 |_=>False
@[irreducible] noncomputable def By (neg:Bool):R2:=λx y H Q=>match y with
 | .non=>Q (.bl (if neg then !decide (x=.non) else decide (x=.non))) H
 | .bl b=>False
 | .ref b=>False
 |_=>False
abbrev lD (K:W.Frag)(op:CmpOp):R2:=match op with
 | .Eq=>gq K false
 | .NotEq=>gq K true
 | .Lt=>xb λi j=>decide (i<j)
 | .LtE=>xb λi j=>decide (i<=j)
 | .Gt=>xb λi j=>decide (j<i)
 | .GtE=>xb λi j=>decide (j<=i)
 | .In=>Kz K false
 | .NotIn=>λ_ _ _ _=>False
 | .Is=>By false
 | .IsNot=>By true
def pM {f:Int->Int->Bool}{op:CmpOp}(ho:cL X (compareOp op) (C9 λi j=>.bl (f i j))):cL X (compareOp op) (xb f):=by
 intro Y s U H x y v u Q I rx ry h;unfold xb at h
 split at h
 .exact ho Y s U H _ _ v u Q I rx ry ⟨_,_,rfl,rfl,h⟩
 .exact h.elim
def FQ (hu:X.A.units+200<cLine)(op:CmpOp):cL X (compareOp op) (lD X.K op):=by
 cases op with
 |Eq=>exact Hk hu
 |NotEq=>exact Ft hu
 |Lt=>exact pM JD
 |LtE=>exact pM Kk
 |Gt=>exact pM JN
 |GtE=>exact pM KL
 |In=>
  intro Y s U H x y v u Q I rx ry h;have h':Kz X.K false x y H Q:=h;unfold Kz at h'
  split at h'
  .rcases h' with⟨xs,hx,f1,f2,q⟩|g|z
   .exact wb Y s U H _ _ v u Q I rx ry ⟨_,xs,rfl,hx,f1,f2,q⟩
   .exact g.elim
   .exact z.elim
  .exact h'.elim
  .exact h'.elim
 |NotIn=>exact λ_ _ _ _ _ _ _ _ _ _ _ _ h=>(show False from h).elim
 |Is=>
  intro Y s U H x y v u Q I rx ry h;have h':By false x y H Q:=h;unfold By at h'
  split at h'
  .exact HD Y s U H _ _ v u Q I rx ry ⟨rfl,h'⟩
  .exact h'.elim
  .exact h'.elim
  .exact h'.elim
 |IsNot=>
  intro Y s U H x y v u Q I rx ry h;have h':By true x y H Q:=h;unfold By at h'
  split at h'
  .exact Cz Y s U H _ _ v u Q I rx ry ⟨rfl,h'⟩
  .exact h'.elim
  .exact h'.elim
  .exact h'.elim
@[irreducible] noncomputable def sj (K:W.Frag):R2:=λx y H Q=>match x with
 | .ref p=>(∃ xs i v,y=.int i/\(aS K H p xs\/a8 K H p xs)/\lH xs i=some v/\Q v H)\/∃ v,GB H p y (some v)/\Q v H
 | .str z=>False
 |_=>False
def uF (hu:X.A.units+200<cLine):JS X (sj X.K):=by
 intro value slice Y s U H x y v u Q I rx ry h hs;unfold sj at h
 split at h
 .rcases h with⟨xs,i,w,rfl,hx,ha,q⟩|⟨w,g,q⟩
  .rcases hx with hx|hx
   .exact D6 value slice Y s U H _ _ v u Q I rx ry ⟨_,xs,i,w,rfl,rfl,hx,ha,q⟩ hs
   .exact HH value slice Y s U H _ _ v u Q I rx ry ⟨_,xs,i,w,rfl,rfl,hx,ha,q⟩ hs
  .cases rx;exact tail_any (qX I g) PySem.F.slot_dict_getitem.lookup (xB nofun I g ry λw' s3 I3 rw'=>⟨w,H,I3,rw',q⟩) hs
 .exact h.elim
 .exact h.elim
@[irreducible] noncomputable def hX:wM:=λo i v H Q=>match o with
 | .ref p=>(∃ xs k j,i=.int k/\H p=some (.lst xs)/\yB xs.length k=some j/\Q (upd H p (.lst (xs.set j v))))\/∃ H4,IZ H p i v H4/\Q H4
 |_=>False
def uU (hu:X.A.units+200<cLine):BX X hX:=by
 intro Y s U H o i v ov iv u Q I ro ri rv h;unfold hX at h
 split at h
 .rcases h with⟨xs,k,j,rfl,hp,hj,q⟩|⟨H4,g,q⟩
  .exact set_list Y s U H _ _ v ov iv u Q I ro ri rv ⟨_,xs,k,j,rfl,rfl,hp,hj,q⟩
  .cases ro;exact wt nofun I g ri rv λs4 I4=>⟨H4,I4,q⟩
 .exact h.elim
@[irreducible] noncomputable def E6 (K:W.Frag):V->Option Int->Option Int->Hp->VK->Prop:=λx lo hi H Q=>match x with
 | .ref a=>(∃ xs,aS K H a xs/\∀ p,H p=none->Q (.ref p) (upd H p (.lst (dQ xs lo hi))))\/False
 | .str z=>False
 |_=>False
def HG:K6 X (E6 X.K):=by
 intro Y s U H x v vl vu lo hi sl Q I rx hs pl pu h;unfold E6 at h
 split at h
 .rcases h with⟨xs,hx,q⟩|h
  .exact DY Y s U H _ v vl vu lo hi sl Q I rx hs pl pu ⟨_,xs,rfl,hx,q⟩
  .exact h.elim
 .exact h.elim
 .exact h.elim
end
end L2
namespace L3
open PySem L2
set_option genSizeOf false
inductive Bf where
 |len|list|tuple|int|str|min|max|abs|all|any|dict|sum
 deriving DecidableEq
inductive Lm where
 |append|extend|insert|pop|clear|reverse|count
 deriving DecidableEq
inductive Cl where
 |own (c:Nat)|ty (n:String)
mutual
inductive Ex where
 |v (i:Nat)|int (i:Int)|bl (b:Bool)|non|str (x:Str)|gl (x:Str)
 |bin (op:Operator) (a b:Ex)|neg (a:Ex)|not (a:Ex)|and (a b:Ex)|or (a b:Ex)
 |cmp (op:CmpOp) (a b:Ex)|cmp2 (o1 o2:CmpOp) (a b c:Ex)|cmp3 (o1 o2 o3:CmpOp) (a b c d:Ex)
 |ife (c:Tx) (a b:Ex)|tup (es:f7)|lst (es:f7)|ix (a i:Ex)|sl (a:Ex) (lo hi:K8)
 |fld (a:Ex) (f:Str)|call (f:Nat) (es:f7)|meth (a:Ex) (m:Str) (es:f7)|lm (m:Lm) (a:Ex) (es:f7)|make (c:Nat) (es:f7)|bini (es:f7)|cini (c:Nat) (es:f7)
 |bf (b:Bf) (es:f7)|isi (a:Ex) (c:Cl)|lc (elt:Ex) (sel:List Nat) (it:ER)|lci (elt:Ex) (c:Tx) (sel:List Nat) (it:ER)|lct (elt:Ex) (n:Nat) (sel:List Nat) (it:ER)|lcu (elt:Ex) (c:Tx) (n:Nat) (sel:List Nat) (it:ER)|dnew|up (a:Ex)|dzip (a b:Ex)|isiT (a:Ex) (cs:List Nat)|vals (tp:Bool) (a:Ex)|vp (c:Nat)|disp (ks:List Str) (es:f7)|lix (a b:Ex)|dget (a k d:Ex)
inductive Tx where
 |not (a:Tx)|and (a b:Tx)|or (a b:Tx)|cmp (op:CmpOp) (a b:Ex)|cmp2 (o1 o2:CmpOp) (a b c:Ex)|val (e:Ex)
inductive f7 where
 |nil|cons (e:Ex) (es:f7)
inductive K8 where
 |no|yes (e:Ex)
inductive ER where
 |rng1 (a:Ex)|rng2 (a b:Ex)|rng3 (a b c:Ex)|enm (a:Ex)|enf (a:Ex)|seq (a:Ex)|zip (a b:Ex)|zip3 (a b c:Ex)
end
inductive KZ where
 |nm (i:Nat)|tp (is:List Nat)|nt (i:Nat) (is:List Nat)
mutual
inductive Sx where
 |asg (i:Nat) (e:Ex)|asgT (is:List Nat) (e:Ex)|par (is:List Nat) (es:f7)|sub (o i v:Ex)|fld (o:Ex) (f:Str) (v:Ex)
 |aug (i:Nat) (op:Operator) (e:Ex)|augS (o i:Ex) (op:Operator) (e:Ex)
 |ret (e:Ex)|retN|pass|brk|cont|expr (e:Ex)
 |ife (c:Tx) (a b:pO)|whl (c:Tx) (b:pO)|for (t:KZ) (it:ER) (b:pO)|rais (e:Ex)|tryx (b:pO) (hs:BA)
inductive pO where
 |nil|cons (s:Sx) (r:pO)
inductive BA where
 |nil|cons (c:Nat) (i:Nat) (b:pO) (hs:BA)
end
structure ao where
 ps:List Str
 N:List Str
 dfl:List V
 body:pO
/-- what of the text never changes. gfn,gcl:the global names of defs and classes,by number;gbl:built-in names that are not shadowed;gbi:classes of exceptions whose __init__ is the built-in one;na:class and name that no class of it has;
  me:class,name,def;ini:class,its __init__;oc,xc:plain classes,classes of exceptions;sub,subT:isinstance -/
structure Tab where
 fns:List ao
 gfn:List (Str×Nat)
 gcl:List (Str×Nat)
 gbl:List Str
 gbi:List Str
 na:List (Nat×Str)
 me:List ((Nat×Str)×Nat)
 ini:List (Nat×Nat)
 ini0:List Nat
 inip:List Nat
 oc:List Nat
 xc:List Nat
 sub:List ((Nat×Nat)×Bool)
 subT:List ((Nat×String)×Bool)
 subB:List ((String×String)×Bool)
 subO:List ((String×Nat)×Bool)
 cin:List (Nat×Nat):=[]
structure Rt where
 K:W.Frag
 fad:Nat->Addr
 cad:Nat->Addr
 gl:Str->Option V
structure Gx where
 T:Tab
 R:Rt
 Ψ:Nat->Sp
 cm:Bool
@[irreducible] noncomputable def iG (c:Bool) (A B:Prop):Prop:=match c with
 |true=>A
 |false=>B
def cH (c:Bool)(A B:Prop):iG c A B=(if c=true then A else B):=by unfold iG;cases c<;>rfl
abbrev FX (K:W.Frag)(x:V)(H:Hp)(Q:Bool->Hp->Prop):Prop:=match x with
 | .bl k=>Q k H
 |y=>∃ k,CF K y H k/\Q k H
abbrev tyName:V->Hp->Option String
 | .non,_=>some "NoneType"
 | .bl _,_=>some "bool"
 | .int _,_=>some "int"
 | .str _,_=>some "str"
 | .ref a,H=>match H a with
  |some (.lst _)=>some "list"
  |some (.tup _)=>some "tuple"
  |some (.dK _)=>some "dict"
  |_=>none
 |_,_=>none
@[irreducible] noncomputable def mh (G:Gx) (b:Bf) (vs:List V) (H:Hp) (Q:VK):Prop:=match b with
 | .len=>∃ x n,vs=[x]/\Kf G.R.K x H n/\Q (.int n) H
 | .list=>∃ p ys,vs=[.ref p]/\(aS G.R.K H p ys\/a8 G.R.K H p ys)/\∀ l,H l=none->Q (.ref l) (upd H l (.lst ys))
 | .tuple=>∃ p ys,vs=[.ref p]/\((aS G.R.K H p ys/\∀ l,H l=none->Q (.ref l) (upd H l (.tup ys)))\/(a8 G.R.K H p ys/\Q (.ref p) H))
 | .int=>(∃ i,vs=[.int i]/\Q (.int i) H)\/∃ k,vs=[.bl k]/\Q (.int (if k then 1 else 0)) H
 | .str=>(∃ i,vs=[.int i]/\i.natAbs.log2<1920/\Q (.str (toString i)) H)\/∃ z,vs=[.str z]/\Q (.str z) H
 | .min=>G.cm=true/\((∃ i j,vs=[.int i,.int j]/\Q (.int (if j<i then j else i)) H)\/False)
 | .max=>G.cm=true/\((∃ i j,vs=[.int i,.int j]/\Q (.int (if j>i then j else i)) H)\/False)
 | .abs=>False
 | .all=>G.cm=true/\∃ p,∃ bs:List Bool,vs=[.ref p]/\aS G.R.K H p (bs.map V.bl)/\Q (.bl (bs.all id)) H
 | .any=>False
 | .dict=>∃ p kvs,vs=[.ref p]/\H p=some (.dK kvs)/\∀ l,H l=none->Q (.ref l) (upd H l (.dK kvs))
 | .sum=>False
@[irreducible] noncomputable def AD (m:Lm) (p:Addr) (xs:List V) (vs:List V) (H:Hp) (Q:VK):Prop:=match m with
 | .append=>∃ y,vs=[y]/\xs.length<=10000/\Q .non (upd H p (.lst (xs++[y])))
 | .extend=>∃ b zs,vs=[.ref b]/\H b=some (.lst zs)/\xs.length+zs.length<=10000/\Q .non (upd H p (.lst (xs++zs)))
 | .insert=>∃ i y,vs=[.int i,y]/\0<=i/\i<=xs.length/\xs.length<=10000/\Q .non (upd H p (.lst (xs.take i.toNat++y::xs.drop i.toNat)))
 | .pop=>(∃ i,vs=[.int i]/\0<=i/\xs.length<=10000/\∃ y,xs[i.toNat]? =some y/\Q y (upd H p (.lst (xs.eraseIdx i.toNat))))\/(vs=[]/\∃ y,xs[xs.length-1]? =some y/\Q y (upd H p (.lst xs.dropLast)))
 | .clear=>False
 | .reverse=>False
 | .count=>∃ k,vs=[k]/\aJ k=true/\xs.all aJ=true/\Q (.int (xs.countP (λx=>cV x k))) H
abbrev dflt (G:Gx)(f n:Nat):List V:=match G.T.fns[f]? with
 |some d=>d.dfl.drop (n+d.dfl.length-d.ps.length)
 |none=>[]
abbrev f7.len:f7->Nat
 | .nil=>0
 | .cons _ es=>es.len+1
abbrev Bl (G:Gx)(H:Hp)(a:Addr)(i:Nat):Prop:=(G.T.oc.contains i=true/\∃ dx fs,H a=some (.ins (G.R.cad i) dx fs))\/(G.T.xc.contains i=true/\∃ dx fs fr,H a=some (.exc (G.R.cad i) dx fs fr))
@[irreducible] noncomputable def mK (G:Gx) (c:Cl) (x:V) (H:Hp) (Q:VK):Prop:=match c with
 | .ty n=>(∃ t b,tyName x H=some t/\G.T.subB.lookup (t,n)=some b/\Q (.bl b) H)\/∃ a i b,x=.ref a/\Bl G H a i/\G.T.subT.lookup (i,n)=some b/\Q (.bl b) H
 | .own j=>(∃ t b,tyName x H=some t/\G.T.subO.lookup (t,j)=some b/\Q (.bl b) H)\/∃ a i b,x=.ref a/\Bl G H a i/\G.T.sub.lookup (i,j)=some b/\Q (.bl b) H
@[irreducible] noncomputable def ux (G:Gx) (f:Str) (x:V) (H:Hp) (Q:VK):Prop:=∃ a i fs v,x=.ref a/\((G.T.oc.contains i=true/\∃ dx,H a=some (.ins (G.R.cad i) dx fs))\/(G.T.xc.contains i=true/\∃ dx fr,H a=some (.exc (G.R.cad i) (some dx) fs fr)))/\
 G.T.na.contains (i,f)=true/\fs.lookup f=some v/\Q v H
@[irreducible] noncomputable def C7 (G:Gx) (f:Str) (x y:V) (H:Hp) (Q:Hp->Prop):Prop:=∃ a i,x=.ref a/\G.T.na.contains (i,f)=true/\
 ((∃ dx fs,G.T.oc.contains i=true/\H a=some (.ins (G.R.cad i) dx fs)/\fs.length<1000/\Q (upd H a (.ins (G.R.cad i) dx (cN f y fs))))\/
  (∃ d fs fr,G.T.xc.contains i=true/\H a=some (.exc (G.R.cad i) (some d) fs fr)/\fs.length<1000/\Q (upd H a (.exc (G.R.cad i) (some d) (cN f y fs) fr)))\/
  (∃ fr,G.T.xc.contains i=true/\H a=some (.exc (G.R.cad i) none [] fr)/\∀ d,H d=none->Q (upd (upd H d (.own a)) a (.exc (G.R.cad i) (some d) [(f,y)] fr))))
abbrev KS (op:Operator)(x y:V)(H:Hp)(Q:VK):Prop:=match op,x,y with
 | .Add,.int i,.int j=>Q (.int (i+j)) H
 | .Sub,.int i,.int j=>Q (.int (i-j)) H
 |_,_,_=>False
@[irreducible] noncomputable def Aq (K:W.Frag) (x y:V) (H:Hp) (Q:VK):Prop:=match x,y with
 | .ref p,.int i=>∃ xs v,aS K H p xs/\0<=i/\xs[i.toNat]? =some v/\Q v H
 |_,_=>False
abbrev x6 (U:St):List Nat->List V->St
 |i::is,x::xs=>x6 (U.set i (some x)) is xs
 |_,_=>U
@[irreducible] noncomputable def BO (xs:List V) (H:Hp) (Q:VK):Prop:=xs.length<=10000/\∀ p,H p=none->Q (.ref p) (upd H p (.lst xs))
@[irreducible] noncomputable def iO (xs:List V) (H:Hp) (Q:VK):Prop:=xs.length<=10000/\∀ p,H p=none->Q (.ref p) (upd H p (.tup xs))
@[irreducible] noncomputable def DG (l:Addr) (H:Hp) (R:It->Hp->Prop):Prop:=(∃ xs,H l=some (.lst xs))/\R (IH l) H
@[irreducible] noncomputable def uz (K:W.Frag) (p:Addr) (H:Hp) (R:It->Hp->Prop):Prop:=((∃ xs,aS K H p xs)/\R (Ij K p) H)\/((∃ xs,a8 K H p xs)/\R (Iu K p) H)
@[irreducible] noncomputable def CS (K:W.Frag) (x y:V) (H:Hp) (R:It->Hp->Prop):Prop:=Kq K x y H R
@[irreducible] noncomputable def so (tp:Bool) (x:V) (H:Hp) (Q:VK):Prop:=Et tp x H Q
@[irreducible] noncomputable def AO (C:Addr) (H:Hp) (Q:VK):Prop:=∀ x dx,H x=none->H dx=none->dx≠x->Q (.ref x) (upd (upd H dx (.own x)) x (.ins C dx []))
@[irreducible] noncomputable def IQ (K:W.Frag) (x y:V) (H:Hp) (Q:VK):Prop:=MX K x y H Q
@[irreducible] noncomputable def AY (te:TE) (J:It) (σ₀:St) (H1:Hp) (Q:VK):Prop:=LC te J σ₀ H1 Q
def Bk: @AY= @LC:=by
 funext te J U H Q
 unfold AY
 rfl
@[irreducible] noncomputable def F4 (tc:TT) (te:TE) (J:It) (σ₀:St) (H1:Hp) (Q:VK):Prop:=LCg (gH 0) tc te J σ₀ H1 Q
def yN: @F4= @LCg (gH 0):=by
 funext tc te J U H Q
 unfold F4
 rfl
abbrev gl (is:List Nat):D8:=λvs U H Q=>vs.length=is.length/\Q (x6 U is vs) H
@[irreducible] noncomputable def LCt (K:W.Frag) (n:Nat) (te:TE) (J:It) (σ₀:St) (H1:Hp) (Q:VK):Prop:=LCg (Cb K n (gl (List.range n))) yes te J σ₀ H1 Q
def zp {K:W.Frag}{n:Nat}:LCt K n=LCg (Cb K n (gl (List.range n))) yes:=by
 funext te J U H Q
 unfold LCt
 rfl
abbrev Ie:List Str->List V->List (Key×V)
 |k::ks,x::xs=>(.inr k,x)::Ie ks xs
 |_,_=>[]
@[irreducible] noncomputable def vH (ks:List Str) (p:Addr) (xs:List V) (H:Hp) (Q:VK):Prop:=H p=some (.dK [])/\Q (.ref p) (upd H p (.dK (ja [] (Ie ks xs))))
mutual
noncomputable def wE (G:Gx):Ex->St->Hp->VK->XK->Prop
 | .v i,U,H,Q,_=>match U[i]? with
  |some (some x)=>Q x H
  |_=>False
 | .int i,_,H,Q,_=>Q (.int i) H
 | .bl b,_,H,Q,_=>Q (.bl b) H
 | .non,_,H,Q,_=>Q .non H
 | .str x,_,H,Q,_=>Q (.str x) H
 | .gl x,_,H,Q,_=>match G.R.gl x with
  |some v=>Q v H
  |none=>False
 | .bin op a b,U,H,Q,E=>wE G a U H (λx H1=>wE G b U H1 (λy H2=>Hj G.R.K op x y H2 Q) E) E
 | .neg a,U,H,Q,E=>wE G a U H (λx H1=>match x with| .int i=>Q (.int (-i)) H1|_=>False) E
 | .not a,U,H,Q,E=>wE G a U H (λx H1=>match x with| .bl c=>Q (.bl (!c)) H1|_=>False) E
 | .and a b,U,H,Q,E=>wE G a U H (λx H1=>match x with| .bl c=>iG c (wE G b U H1 Q E) (Q (.bl false) H1)|_=>False) E
 | .or a b,U,H,Q,E=>wE G a U H (λx H1=>match x with| .bl c=>iG c (Q (.bl true) H1) (wE G b U H1 Q E)|_=>False) E
 | .cmp op a b,U,H,Q,E=>wE G a U H (λx H1=>wE G b U H1 (λy H2=>lD G.R.K op x y H2 Q) E) E
 | .cmp2 o1 o2 a b c,U,H,Q,E=>wE G a U H (λx H1=>wE G b U H1 (λy H2=>lD G.R.K o1 x y H2 λz H3=>match z with| .bl k=>iG k (wE G c U H3 (λw H4=>lD G.R.K o2 y w H4 Q) E) (Q (.bl false) H3)|_=>False) E) E
 | .cmp3 o1 o2 o3 a b c d,U,H,Q,E=>wE G a U H (λx H1=>wE G b U H1 (λy H2=>lD G.R.K o1 x y H2 λz H3=>match z with| .bl k=>iG k (wE G c U H3 (λw H4=>lD G.R.K o2 y w H4 λz' H5=>match z' with| .bl k'=>iG k' (wE G d U H5 (λw2 H6=>lD G.R.K o3 w w2 H6 Q) E) (Q (.bl false) H5)|_=>False) E) (Q (.bl false) H3)|_=>False) E) E
 | .ife c a b,U,H,Q,E=>wT G c U H (λk H1=>iG k (wE G a U H1 Q E) (wE G b U H1 Q E)) E
 | .tup es,U,H,Q,E=>wEs G es U H (λxs H1=>iO xs H1 Q) E
 | .lst es,U,H,Q,E=>wEs G es U H (λxs H1=>BO xs H1 Q) E
 | .ix a i,U,H,Q,E=>wE G a U H (λx H1=>wE G i U H1 (λy H2=>sj G.R.K x y H2 Q) E) E
 | .sl a lo hi,U,H,Q,E=>wE G a U H (λx H1=>wO G lo U H1 (λl H2=>wO G hi U H2 (λu H3=>E6 G.R.K x l u H3 Q) E) E) E
 | .fld a f,U,H,Q,E=>wE G a U H (λx H1=>ux G f x H1 Q) E
 | .call f es,U,H,Q,E=>G.cm=true/\wEs G es U H (λvs H1=>G.Ψ f (vs++dflt G f es.len) H1 Q E) E
 | .meth a m es,U,H,Q,E=>G.cm=true/\wE G a U H (λx H1=>∃ p i dx fs f,x=.ref p/\H1 p=some (.ins (G.R.cad i) dx fs)/\fs.lookup m=none/\G.T.me.lookup (i,m)=some f/\
   wEs G es U H1 (λvs H2=>G.Ψ f (x::(vs++dflt G f (es.len+1))) H2 Q E) E) E
 | .lm m a es,U,H,Q,E=>wE G a U H (λx H1=>∃ p xs0,x=.ref p/\H1 p=some (.lst xs0)/\wEs G es U H1 (λvs H2=>∃ xs,H2 p=some (.lst xs)/\AD m p xs vs H2 Q) E) E
 | .make c es,U,H,Q,E=>G.cm=true/\match G.T.ini.lookup c with
  |none=>G.T.ini0.contains c=true/\wEs G es U H (λvs H1=>vs.length=1/\∀ x,H1 x=none->Q (.ref x) (upd H1 x (.exc (G.R.cad c) none [] true))) E
  |some f=>if G.T.xc.contains c=true then wEs G es U H (λvs H1=>vs.length<=1000/\∀ x,H1 x=none->G.Ψ f (.ref x::(vs++dflt G f (es.len+1))) (upd H1 x (.exc (G.R.cad c) none [] true)) (λv H2=>v=.non/\Q (.ref x) H2) E) E
   else wEs G es U H (λvs H1=>∀ x dx,H1 x=none->H1 dx=none->dx≠x->G.Ψ f (.ref x::(vs++dflt G f (es.len+1))) (upd (upd H1 dx (.own x)) x (.ins (G.R.cad c) dx [])) (λv H2=>v=.non/\Q (.ref x) H2) E) E
 | .bini es,U,H,Q,E=>wEs G es U H (λvs H1=>∃ a i dx fs fr v,vs=[.ref a,v]/\H1 a=some (.exc (G.R.cad i) dx fs fr)/\G.T.xc.contains i=true/\Q .non H1) E
 | .cini c es,U,H,Q,E=>False
 | .bf b es,U,H,Q,E=>wEs G es U H (λvs H1=>mh G b vs H1 Q) E
 | .isi a c,U,H,Q,E=>wE G a U H (λx H1=>mK G c x H1 Q) E
 | .lc elt sel it,U,H,Q,E=>G.cm=true/\wI G it U H (λJ H1=>AY (λσ' H' Q'=>wE G elt σ' H' Q' (λ_ _=>False)) J (none::fw U sel) H1 Q) E
 | .lci elt c sel it,U,H,Q,E=>G.cm=true/\wI G it U H (λJ H1=>F4 (λσ' H' Q'=>wT G c σ' H' Q' (λ_ _=>False)) (λσ' H' Q'=>wE G elt σ' H' Q' (λ_ _=>False)) J (none::fw U sel) H1 Q) E
 | .lct elt n sel it,U,H,Q,E=>G.cm=true/\wI G it U H (λJ H1=>LCt G.R.K n (λσ' H' Q'=>wE G elt σ' H' Q' (λ_ _=>False)) J (sK n none++fw U sel) H1 Q) E
 | .lcu elt c n sel it,U,H,Q,E=>False
 | .dnew,_,H,Q,_=>False
 | .up a,U,H,Q,E=>False
 | .isiT a cs,U,H,Q,E=>False
 | .vp c,_,H,Q,_=>AO (G.R.cad c) H Q
 | .disp ks es,U,H,Q,E=>∀ p,H p=none->wEs G es U (upd H p (.dK [])) (λxs H2=>vH ks p xs H2 Q) E
 | .dget a k d,U,H,Q,E=>False
 | .lix a b,U,H,Q,E=>False
 | .vals tp a,U,H,Q,E=>G.cm=true/\wE G a U H (λx H1=>so tp x H1 Q) E
 | .dzip a b,U,H,Q,E=>G.cm=true/\wE G a U H (λx H1=>wE G b U H1 (λy H2=>IQ G.R.K x y H2 Q) E) E
noncomputable def wT (G:Gx):Tx->St->Hp->(Bool->Hp->Prop)->XK->Prop
 | .not a,U,H,Q,E=>wT G a U H (λc H1=>Q (!c) H1) E
 | .and a b,U,H,Q,E=>wT G a U H (λc H1=>iG c (wT G b U H1 Q E) (Q false H1)) E
 | .or a b,U,H,Q,E=>wT G a U H (λc H1=>iG c (Q true H1) (wT G b U H1 Q E)) E
 | .cmp op a b,U,H,Q,E=>wE G a U H (λx H1=>wE G b U H1 (λy H2=>lD G.R.K op x y H2 λz H3=>match z with| .bl k=>Q k H3|_=>False) E) E
 | .cmp2 o1 o2 a b c,U,H,Q,E=>wE G a U H (λx H1=>wE G b U H1 (λy H2=>lD G.R.K o1 x y H2 λz H3=>match z with| .bl k=>iG k (wE G c U H3 (λw H4=>lD G.R.K o2 y w H4 λz H5=>match z with| .bl k=>Q k H5|_=>False) E) (Q false H3)|_=>False) E) E
 | .val e,U,H,Q,E=>wE G e U H (λx H1=>FX G.R.K x H1 Q) E
noncomputable def wEs (G:Gx):f7->St->Hp->(List V->Hp->Prop)->XK->Prop
 | .nil,_,H,Q,_=>Q [] H
 | .cons e es,U,H,Q,E=>wE G e U H (λx H1=>wEs G es U H1 (λxs H2=>Q (x::xs) H2) E) E
noncomputable def wO (G:Gx):K8->St->Hp->(Option Int->Hp->Prop)->XK->Prop
 | .no,_,H,Q,_=>Q none H
 | .yes e,U,H,Q,E=>wE G e U H (λx H1=>match x with| .int i=>Q (some i) H1|_=>False) E
noncomputable def wI (G:Gx):ER->St->Hp->(It->Hp->Prop)->XK->Prop
 | .rng1 a,U,H,R,E=>wE G a U H (λx H1=>match x with| .int j=>-(2 ^ 62)<=j/\j<2 ^ 62/\R (G0 0 j.toNat) H1|_=>False) E
 | .rng2 a b,U,H,R,E=>False
 | .rng3 a b c,U,H,R,E=>False
 | .enm a,U,H,R,E=>wE G a U H (λx H1=>match x with| .ref l=>DG l H1 R|_=>False) E
 | .enf a,U,H,R,E=>False
 | .seq a,U,H,R,E=>wE G a U H (λx H1=>match x with| .ref p=>uz G.R.K p H1 R|_=>False) E
 | .zip a b,U,H,R,E=>wE G a U H (λx H1=>wE G b U H1 (λy H2=>CS G.R.K x y H2 R) E) E
 | .zip3 a b c,U,H,R,E=>False
end
abbrev LO (D:Ends)(f:St->Hp->Prop):Ends:={ D with nx:=f }
abbrev En (D:Ends)(N:St->Hp->Prop):Ends:={ D with nx:=N,ct:=N,bk:=D.nx }
abbrev M7 (D:Ends)(i:Nat):Ends:={ nx:=λσ' H'=>D.nx (σ'.set i none) H',rt:=D.rt,bk:=λσ' H'=>D.bk (σ'.set i none) H',ct:=λσ' H'=>D.ct (σ'.set i none) H' }
abbrev wG (U:St)(t:KZ)(K:W.Frag)(x:V)(H:Hp)(Q:St->Prop):Prop:=match t with
 | .nm i=>Q (U.set i (some x))
 | .tp is=>∃ a xs,x=.ref a/\(a8 K H a xs\/aS K H a xs)/\xs.length=is.length/\Q (x6 U is xs)
 | .nt i is=>∃ a y b ys,x=.ref a/\a8 K H a [y,.ref b]/\a8 K H b ys/\ys.length=is.length/\Q (x6 (U.set i (some y)) is ys)
@[irreducible] noncomputable def mN (J:It) (D:Ends) (F:(St->Hp->Prop)->V->St->Hp->Prop) (U:St) (H1:Hp):Prop:=∃ W:Nat->Nat->St->Hp->Prop,(∃ m,W 0 m U H1)/\∀ i m U H,W i m U H->
 (J.stop i H/\D.nx U H)\/(J.go i H/\∃ N:St->Hp->Prop,(∀ σ' H',N σ' H'->∃ m',m'<m/\W (i+1) m' σ' H')/\∀ x H',J.yld i H x H'->F N x U H')
mutual
noncomputable def wS:Sx->Gx->Ends->(St->XK)->St->Hp->Prop
 | .asg i e,G,D,E,U,H=>wE G e U H (λx H1=>D.nx (U.set i (some x)) H1) (E U)
 | .asgT is e,G,D,E,U,H=>G.cm=true/\wE G e U H (λx H1=>wG U (.tp is) G.R.K x H1 λσ1=>D.nx σ1 H1) (E U)
 | .par is es,G,D,E,U,H=>G.cm=true/\wEs G es U H (λxs H1=>xs.length=is.length/\D.nx (x6 U is xs) H1) (E U)
 | .sub o i v,G,D,E,U,H=>wE G v U H (λy H1=>wE G o U H1 (λov H2=>wE G i U H2 (λiv H3=>hX ov iv y H3 (λH4=>D.nx U H4)) (E U)) (E U)) (E U)
 | .fld o f v,G,D,E,U,H=>wE G v U H (λy H1=>wE G o U H1 (λx H2=>C7 G f x y H2 (λH3=>D.nx U H3)) (E U)) (E U)
 | .aug i op e,G,D,E,U,H=>(match U[i]? with|some (some x)=>wE G e U H (λy H1=>KS op x y H1 λz H2=>D.nx (U.set i (some z)) H2) (E U)|_=>False)
 | .augS o i op e,G,D,E,U,H=>wE G o U H (λov H1=>wE G i U H1 (λiv H2=>Aq G.R.K ov iv H2 (λx H3=>wE G e U H3 (λy H4=>KS op x y H4 (λz H5=>hX ov iv z H5 (λH6=>D.nx U H6))) (E U))) (E U)) (E U)
 | .ret e,G,D,E,U,H=>wE G e U H D.rt (E U)
 | .retN,_,D,_,_,H=>False
 | .pass,_,D,_,U,H=>False
 | .brk,_,D,_,U,H=>False
 | .cont,_,D,_,U,H=>False
 | .expr e,G,D,E,U,H=>wE G e U H (λ_ H1=>D.nx U H1) (E U)
 | .ife c a b,G,D,E,U,H=>wT G c U H (λk H1=>iG k (wB a G D E U H1) (wB b G D E U H1)) (E U)
 | .whl c b,G,D,E,U,H=>∃ W:Nat->St->Hp->Prop,(∃ m,W m U H)/\∀ m U H,W m U H->wT G c U H (λk H1=>iG k (∃ N:St->Hp->Prop,(∀ σ' H',N σ' H'->∃ m',m'<m/\W m' σ' H')/\wB b G (En D N) E U H1) (D.nx U H1)) (E U)
 | .for t it b,G,D,E,U,H=>G.cm=true/\wI G it U H (λJ H1=>mN J D (λN x U H'=>wG U t G.R.K x H' λσ2=>wB b G (En D N) E σ2 H') U H1) (E U)
 | .rais e,G,_,E,U,H=>G.cm=true/\wE G e U H (λv H1=>∃ a i dx fs,v=.ref a/\H1 a=some (.exc (G.R.cad i) dx fs true)/\G.T.xc.contains i=true/\E U a (upd H1 a (.exc (G.R.cad i) dx fs false))) (E U)
 | .tryx b hs,G,D,_,U,H=>G.cm=true/\wB b G D (λσ' e H'=>wH hs G D σ' e H') U H
noncomputable def wB:pO->Gx->Ends->(St->XK)->St->Hp->Prop
 | .nil,_,D,_,U,H=>D.nx U H
 | .cons s r,G,D,E,U,H=>wS s G (LO D λσ1 H1=>wB r G D E σ1 H1) E U H
noncomputable def wH:BA->Gx->Ends->St->Addr->Hp->Prop
 | .nil,_,_,_,_,_=>False
 | .cons c i b hs,G,D,U,e,H=>∃ j dx fs k,H e=some (.exc (G.R.cad j) dx fs false)/\G.T.xc.contains j=true/\G.T.sub.lookup (j,c)=some k/\
   iG k (wB b { G with cm:=false } (M7 D i) (λ_ _ _=>False) (U.set i (some (.ref e))) H)
    (wH hs G D U e H)
end
end L3
namespace L3
open PySem PySem.Spec L2 PyProof.Rows
structure Sn where
 T:Tab
 sc:Scope
 N:List Str
abbrev Sn.qr (S:Sn)(x:Str):Bool:=decide (S.sc.names.lookup x=some .globalImplicit)&& !(x ==("__debug__":Str))
abbrev Sn.Gk (S:Sn)(x:Str):Bool:=(decide (S.sc.names.lookup x=some .local)||decide (S.sc.names.lookup x=some .cell)||decide (S.sc.names.lookup x=some .free))&& !(x ==("__debug__":Str))&& !(x ==("__classdict__":Str))
abbrev Sn.loc (S:Sn)(i:Nat)(x:Str):Bool:=decide (S.N[i]? =some x)&&(decide (S.sc.names.lookup x=some .local)||decide (S.sc.names.lookup x=some .cell))
abbrev tU:Expr->Bool
 | .ListComp .. | .SetComp .. | .DictComp ..=>false
 |_=>true
abbrev cj:Expr->Bool
 | .Set ..=>false
 |_=>true
abbrev ft:Expr->Bool
 | .Slice ..=>false
 |_=>true
abbrev fg:Expr->Bool
 | .Call (.Name _ _) [] [] _=>false
 |_=>true
abbrev plainT:Expr->Bool
 | .UnaryOp .Not _ _| .BoolOp .. | .IfExp .. | .Compare ..=>false
 |_=>true
abbrev A3:Bf->String
 | .len=>"len"| .list=>"list"| .tuple=>"tuple"| .int=>"int"| .str=>"str"| .min=>"min"| .max=>"max"| .abs=>"abs"| .all=>"all"| .any=>"any"| .dict=>"dict"| .sum=>"sum"
abbrev zr:Lm->String
 | .append=>"append"| .extend=>"extend"| .insert=>"insert"| .pop=>"pop"| .clear=>"clear"| .reverse=>"reverse"| .count=>"count"
abbrev kx:List String:=["int","bool","str","list","tuple","dict","ValueError"]
abbrev Df (S:Sn):Cl->Expr->Bool
 | .own c,.Name x _=>S.qr x&&decide (S.T.gcl.lookup x=some c)
 | .ty n,.Name x _=>S.qr x&&decide (x=(n:Str))&&S.T.gbl.contains x&&kx.contains n
 |_,_=>false
abbrev cU (outer inner:Scope):Scope:=
 { inner with names:=inner.names.map λ(n,k)=>if(k ==.free&&outer.kind ==.function&&outer.names.lookup n ==some .cell) then(n,.cell) else(n,k) }
abbrev eK (S:Sn)(scope:Scope)(xs:List Str)(sel:List Nat):Bool:=
 decide (scope.kind=.function)&&decide (S.sc.kind=.function)&&scope.names.all (λy=>y.2 != .cell&&(y.2 != .local||decide (scope.names.lookup y.1=some .local))&&(y.2 != .free||(decide (S.sc.names.lookup y.1=some .cell))))&&xs.all (λx=>decide (scope.names.lookup x=some .local))&&
 sel.all (λi=>match S.N[i]? with|some y=>decide (S.sc.names.lookup y=some .cell)&&decide ((cU S.sc scope).names.lookup y=some .cell)|none=>false)&&decide ((xs++sel.filterMap λi=>S.N[i]?).Nodup)
abbrev Du:List Expr->List Str
 | .Name x _::r=>x::Du r
 |_=>[]
abbrev x8 (S:Sn):List Nat->List Expr->Bool
 | [],[]=>true
 |i::is,.Name x _::r=>decide (S.N[i]? =some x)&&decide (S.sc.names.lookup x=some .local)&&x8 S is r
 |_,_=>false
abbrev pL:List Str->List (Option Expr)->Bool
 | [],[]=>true
 |k::ks,some (.Constant (.str x) _ _)::r=>decide (k=x)&&pL ks r
 |_,_=>false
mutual
noncomputable def mE (S:Sn):Ex->Expr->Bool
 | .v i,e=>match e with| .Name x _=>decide (S.N[i]? =some x)&&S.Gk x|_=>false
 | .int i,e=>match e with| .Constant y1 _ _=>(match y1 with| .int j=>decide (i=j)|_=>false)|_=>false
 | .bl i,e=>match e with| .Constant y1 _ _=>(match y1 with| .bool j=>decide (i=j)|_=>false)|_=>false
 | .non,e=>match e with| .Constant y1 _ _=>(match y1 with| .none=>true|_=>false)|_=>false
 | .str i,e=>match e with| .Constant y1 _ _=>(match y1 with| .str j=>decide (i=j)|_=>false)|_=>false
 | .gl x,e=>match e with| .Name y _=>decide (x=y)&&S.qr y|_=>false
 | .bin op a b,e=>match e with| .BinOp a' op' b' _=>decide (op=op')&&mE S a a'&&mE S b b'|_=>false
 | .neg a,e=>match e with| .UnaryOp y1 a' _=>(match y1 with| .USub=>mE S a a'|_=>false)|_=>false
 | .not a,e=>match e with| .UnaryOp y1 a' _=>(match y1 with| .Not=>mE S a a'|_=>false)|_=>false
 | .and a b,e=>match e with| .BoolOp y1 y2 p=>(match y1 with| .And=>(match y2 with|a'::b'::r=>mE S a a'&&mE S b (match r with| []=>b'|_=>.BoolOp .And (b'::r) p)|_=>false)|_=>false)|_=>false
 | .or a b,e=>match e with| .BoolOp y1 y2 p=>(match y1 with| .Or=>(match y2 with|a'::b'::r=>mE S a a'&&mE S b (match r with| []=>b'|_=>.BoolOp .Or (b'::r) p)|_=>false)|_=>false)|_=>false
 | .cmp op a b,e=>match e with| .Compare a' y1 y2 _=>(match y1 with| [op']=>(match y2 with| [b']=>decide (op=op')&&mE S a a'&&mE S b b'&&cj b'|_=>false)|_=>false)|_=>false
 | .cmp2 o1 o2 a b c,e=>match e with| .Compare a' y1 y2 _=>(match y1 with| [p1,p2]=>(match y2 with| [b',c']=>decide (o1=p1)&&decide (o2=p2)&&mE S a a'&&mE S b b'&&mE S c c'&&cj c'|_=>false)|_=>false)|_=>false
 | .cmp3 o1 o2 o3 a b c d,e=>match e with| .Compare a' y1 y2 _=>(match y1 with| [p1,p2,p3]=>(match y2 with| [b',c',d']=>decide (o1=p1)&&decide (o2=p2)&&decide (o3=p3)&&mE S a a'&&mE S b b'&&mE S c c'&&mE S d d'&&cj d'|_=>false)|_=>false)|_=>false
 | .ife c a b,e=>match e with| .IfExp c' a' b' _=>mT S c c'&&mE S a a'&&mE S b b'|_=>false
 | .tup es,e=>match e with| .Tuple es' _ _=>jn S es es'|_=>false
 | .lst es,e=>match e with| .List es' _=>jn S es es'|_=>false
 | .ix a i,e=>match e with| .Subscript a' i' _=>mE S a a'&&mE S i i'&&ft i'|_=>false
 | .sl a lo hi,e=>match e with| .Subscript a' y1 _=>(match y1 with| .Slice lo' hi' y2 _=>(match y2 with|none=>mE S a a'&&mO S lo lo'&&mO S hi hi'|_=>false)|_=>false)|_=>false
 | .fld a f,e=>match e with| .Attribute a' f' _=>mE S a a'&&decide (f=f')&&fg a'|_=>false
 | .call f es,e=>match e with| .Call y1 es' y2 _=>(match y1 with| .Name x _=>(match y2 with| []=>S.qr x&&decide (S.T.gfn.lookup x=some f)&&jn S es es'|_=>false)|_=>false)|_=>false
 | .meth a m es,e=>match e with| .Call y1 es' y2 q=>(match y1 with| .Attribute a' m' p=>(match y2 with| []=>mE S a a'&&decide (m=m')&&jn S es es'&&fg a'&&(p.endLine ==q.line)&&decide (es.len<20)|_=>false)|_=>false)|_=>false
 | .dget a k d,_=>false
 | .lix a b,_=>false
 | .lm m a es,e=>match e with| .Call y1 es' y2 q=>(match y1 with| .Attribute a' m' p=>(match y2 with| []=>mE S a a'&&decide (m'=(zr m:Str))&&jn S es es'&&fg a'&&(p.endLine ==q.line)&&decide (es.len<20)|_=>false)|_=>false)|_=>false
 | .make c es,e=>match e with| .Call y1 es' y2 _=>(match y1 with| .Name x _=>(match y2 with| []=>S.qr x&&decide (S.T.gcl.lookup x=some c)&&jn S es es'|_=>false)|_=>false)|_=>false
 | .bini es,e=>match e with| .Call y1 es' y2 q=>(match y1 with| .Attribute y3 m p=>(match y3 with| .Name x _=>(match y2 with| []=>S.qr x&&decide (m=("__init__":Str))&&S.T.gbi.contains x&&jn S es es'&&decide (es.len=2)&&(p.endLine ==q.line)|_=>false)|_=>false)|_=>false)|_=>false
 | .cini c es,_=>false
 | .bf b es,e=>match e with| .Call y1 es' y2 _=>(match y1 with| .Name x _=>(match y2 with| []=>S.qr x&&decide (x=(A3 b:Str))&&S.T.gbl.contains x&&jn S es es'&&decide (0<es.len)|_=>false)|_=>false)|_=>false
 | .isi a c,e=>match e with| .Call y1 y2 y3 _=>(match y1 with| .Name x _=>(match y3 with| []=>(match y2 with| [a',c']=>S.qr x&&decide (x=("isinstance":Str))&&S.T.gbl.contains x&&mE S a a'&&Df S c c'|_=>false)|_=>false)|_=>false)|_=>false
 | .lc elt sel it,e=>match e with| .ListComp elt' y1 scope _=>(match y1 with| [y2]=>(match y2 with|⟨y3,iter,y4,y5⟩=>(match y3 with| .Name x px=>(match y4 with| []=>(match y5 with|0=>eK S scope [x] sel&&mI S it (.Name x px) iter&&mE { S with sc:=cU S.sc scope,N:=x::sel.filterMap λi=>S.N[i]? } elt elt'&&cj iter|_=>false)|_=>false)|_=>false))|_=>false)|_=>false
 | .lci elt c sel it,e=>match e with| .ListComp elt' y1 scope _=>(match y1 with| [y2]=>(match y2 with|⟨y3,iter,y4,y5⟩=>(match y3 with| .Name x px=>(match y4 with| [c']=>(match y5 with|0=>eK S scope [x] sel&&mI S it (.Name x px) iter&&mE { S with sc:=cU S.sc scope,N:=x::sel.filterMap λi=>S.N[i]? } elt elt'&&mT { S with sc:=cU S.sc scope,N:=x::sel.filterMap λi=>S.N[i]? } c c'&&cj iter|_=>false)|_=>false)|_=>false))|_=>false)|_=>false
 | .lct elt n sel it,e=>match e with| .ListComp elt' y1 scope _=>(match y1 with| [y2]=>(match y2 with|⟨y3,iter,y4,y5⟩=>(match y3 with| .Tuple ts kt pt=>(match y4 with| []=>(match y5 with|0=>eK S scope (Du ts) sel&&x8 { S with sc:=cU S.sc scope,N:=Du ts++sel.filterMap λi=>S.N[i]? } (List.range n) ts&&decide ((Du ts).length=n)&&mI S it (.Tuple ts kt pt) iter&&mE { S with sc:=cU S.sc scope,N:=Du ts++sel.filterMap λi=>S.N[i]? } elt elt'&&cj iter|_=>false)|_=>false)|_=>false))|_=>false)|_=>false
 | .lcu elt c n sel it,_=>false
 | .dnew,_=>false
 | .up a,_=>false
 | .isiT a cs,_=>false
 | .vp c,e=>match e with| .Call y1 y2 y3 _=>(match y1 with| .Name x _=>(match y2 with| []=>(match y3 with| []=>S.qr x&&decide (S.T.gcl.lookup x=some c)&&S.T.inip.contains c|_=>false)|_=>false)|_=>false)|_=>false
 | .disp ks es,e=>match e with| .Dict keys vals _=>pL ks keys&&jn S es vals&&decide (es.len=ks.length)&&decide (0<ks.length)&&decide (ks.length<=15)|_=>false
 | .vals tp a,e=>match e with| .Call y1 y2 y3 _=>(match y1 with| .Name x _=>(match y3 with| []=>(match y2 with| [y4]=>(match y4 with| .Call y5 y6 y7 q=>(match y5 with| .Attribute a' m p=>(match y6 with| []=>(match y7 with| []=>S.qr x&&decide (x=Cj tp)&&S.T.gbl.contains x&&mE S a a'&&decide (m=("values":Str))&&fg a'&&(p.endLine ==q.line)|_=>false)|_=>false)|_=>false)|_=>false)|_=>false)|_=>false)|_=>false)|_=>false
 | .dzip a b,e=>match e with| .Call y1 y2 y3 _=>(match y1 with| .Name x _=>(match y3 with| []=>(match y2 with| [y4]=>(match y4 with| .Call y5 y6 y7 _=>(match y5 with| .Name y _=>(match y7 with| []=>(match y6 with| [a',b']=>S.qr x&&decide (x=("dict":Str))&&S.T.gbl.contains x&&S.qr y&&decide (y=("zip":Str))&&S.T.gbl.contains y&&mE S a a'&&mE S b b'&&notStar a'&&notStar b'|_=>false)|_=>false)|_=>false)|_=>false)|_=>false)|_=>false)|_=>false)|_=>false
noncomputable def mT (S:Sn):Tx->Expr->Bool
 | .not a,e=>match e with| .UnaryOp y1 a' _=>(match y1 with| .Not=>mT S a a'|_=>false)|_=>false
 | .and a b,e=>match e with| .BoolOp y1 y2 p=>(match y1 with| .And=>(match y2 with|a'::b'::r=>mT S a a'&&mT S b (match r with| []=>b'|_=>.BoolOp .And (b'::r) p)|_=>false)|_=>false)|_=>false
 | .or a b,e=>match e with| .BoolOp y1 y2 p=>(match y1 with| .Or=>(match y2 with|a'::b'::r=>mT S a a'&&mT S b (match r with| []=>b'|_=>.BoolOp .Or (b'::r) p)|_=>false)|_=>false)|_=>false
 | .cmp op a b,e=>match e with| .Compare a' y1 y2 _=>(match y1 with| [op']=>(match y2 with| [b']=>decide (op=op')&&mE S a a'&&mE S b b'&&cj b'|_=>false)|_=>false)|_=>false
 | .cmp2 o1 o2 a b c,e=>match e with| .Compare a' y1 y2 _=>(match y1 with| [p1,p2]=>(match y2 with| [b',c']=>decide (o1=p1)&&decide (o2=p2)&&mE S a a'&&mE S b b'&&mE S c c'&&cj c'|_=>false)|_=>false)|_=>false
 | .val e,e'=>mE S e e'&&plainT e'
noncomputable def jn (S:Sn):f7->List Expr->Bool
 | .nil,es=>es.isEmpty
 | .cons e es,l=>match l with|e'::es'=>mE S e e'&&notStar e'&&jn S es es'| []=>false
noncomputable def mO (S:Sn):K8->Option Expr->Bool
 | .no,o=>o.isNone
 | .yes e,o=>match o with|some e'=>mE S e e'|none=>false
noncomputable def mI (S:Sn):ER->Expr->Expr->Bool
 | .rng1 a,_,e=>match e with| .Call y1 y2 y3 _=>(match y1 with| .Name x _=>(match y3 with| []=>(match y2 with| [a']=>S.qr x&&decide (x=("range":Str))&&S.T.gbl.contains x&&mE S a a'&&notStar a'|_=>false)|_=>false)|_=>false)|_=>false
 | .rng2 a b,_,e=>false
 | .rng3 a b c,_,e=>false
 | .enm a,t,e=>match e with| .Call y1 y2 y3 _=>(match y1 with| .Name x _=>(match y3 with| []=>(match y2 with| [a']=>S.qr x&&decide (x=("enumerate":Str))&&S.T.gbl.contains x&&mE S a a'&&notStar a'&&(match t with| .Tuple ..=>true|_=>false)|_=>false)|_=>false)|_=>false)|_=>false
 | .enf a,t,e=>false
 | .seq a,_,e=>mE S a e
 | .zip a b,t,e=>match e with| .Call y1 y2 y3 _=>(match y1 with| .Name x _=>(match y3 with| []=>(match y2 with| [a',b']=>S.qr x&&decide (x=("zip":Str))&&S.T.gbl.contains x&&mE S a a'&&mE S b b'&&notStar a'&&notStar b'&&(match t with| .Tuple ..=>true|_=>false)|_=>false)|_=>false)|_=>false)|_=>false
 | .zip3 a b c,t,e=>false
end
end L3
namespace L3
open PySem PySem.Spec L2
variable {e:Expr}
def plainT_ok (h:plainT e=true)(env:Env)(whole:Sem Value):isTrue e env whole=(do let v <-whole;standAt e.pos;holding [v] (truthy v)):=by
 cases e<;>first|rfl|(cases h)|skip
 case UnaryOp op a p=>cases op<;>first|rfl|cases h
def bw (h:cj e=true)(env:Env)(x:Value):foldedSetIterable e env x=pure x:=by
 cases e<;>first|rfl|cases h
def cQ (h:cj e=true)(op:CmpOp):behindInMarks op e=false:=by
 cases e<;>first|rfl|cases h
def iu (h:tU e=true)(t:Option Expr)(n:Nat)(env:Env):swapsWith e t n env=pure false:=by
 cases e<;>first|rfl|cases h
variable {o:Expr}
def b6 (h:fg o=true)(a:Str)(env:Env)(whole:Sem Value):attributeBase o a env whole=whole:=by
 cases o with
 |Call f as ks p=>
  cases f<;>first|rfl|skip
  case Name x q=>
   cases as with
   |nil=>cases ks with
    |nil=>cases h
    |cons k ks=>rfl
   |cons b bs=>rfl
 |_=>rfl
variable {b:Expr}
def t5 (h:ft b=true):vb b:=by
 intro o i;cases b<;>first|rfl|cases h
variable {X:Cx}
def PE.cg {t:TE}(h:PE X e t):PE X e (λU H R=>∃ Q,t U H Q/\∀ x H1,Q x H1->R x H1):=λY s U H R I ⟨Q,q,i⟩=>
 aA (h Y s U H Q I q) λ_ _ ⟨v,H',J,r,z⟩=>⟨v,H',J,r,i _ _ z⟩
variable {t:TT}
def PT.cg (h:PT X e t):PT X e (λU H R=>∃ Q,t U H Q/\∀ x H1,Q x H1->R x H1):=λY s U H R I ⟨Q,q,i⟩=>
 aA (h Y s U H Q I q) λ_ _ ⟨H',J,z⟩=>⟨H',J,i _ _ z⟩
def PA.cg {e:List Expr}{t:TA}(h:PA X e t):PA X e (λU H R=>∃ Q,t U H Q/\∀ x H1,Q x H1->R x H1):=λpos Y s U H R I ⟨Q,q,i⟩=>
 aA (h pos Y s U H Q I q) λ_ _ ⟨v,H',J,r,z⟩=>⟨v,H',J,r,i _ _ z⟩
def PE.imp {t t':TE}(h:PE X e t)(hi:∀ U H Q,t' U H Q->t U H Q):PE X e t':=λY s U H Q I q=>h Y s U H Q I (hi _ _ _ q)
def PT.imp {t':TT}(h:PT X e t)(hi:∀ U H Q,t' U H Q->t U H Q):PT X e t':=λY s U H Q I q=>h Y s U H Q I (hi _ _ _ q)
def PS.imp {e:Stmt}{t t':TS}(h:PS X e t)(hi:∀ D U H,t' D U H->t D U H):PS X e t':=λY s U H D I q=>h Y s U H D I (hi _ _ _ q)
structure yc (P:Program) (w:World) (K:W.Frag) (mg:NJ) (base:Heap) (k:Nat) (f:Addr) (d:ao) (sp:Sp):Prop where
 fact:∃ fd,cZ P w K mg base (Bq P w) k f fd d.ps sp/\∀ j,∃ ds,Binds K fd d.ps ds/\Vals (d.dfl.drop j) ds
 own:∀ fd oc od osl,K.lookup f=some ⟨oc,od,.func fd,osl⟩->cZ P w K mg base (Bq P w) k f fd d.ps sp
structure BL (K:W.Frag) (mg:NJ) (T:Tab) (R:Rt):Prop where
 gfn:∀ x f,T.gfn.lookup x=some f->mg x=some (.ref (R.fad f))/\W.keepIn K (.ref (R.fad f))=true/\∃ d,T.fns[f]? =some d
 gcl:∀ x c,T.gcl.lookup x=some c->mg x=some (.ref (R.cad c))
 gbl:∀ x,T.gbl.contains x=true->mg x=none/\x≠"__name__"
 gbi:∀ x,T.gbi.contains x=true->∃ B,mg x=some (.ref B)/\MW K B
 gl:∀ x v,R.gl x=some v->∃ u,mg x=some u/\RelV v u
 na:∀ i f,T.na.contains (i,f)=true->dY K (R.cad i) f
 me:∀ i m f,T.me.lookup (i,m)=some f->BV K (R.cad i)/\Meth K (R.cad i) m (R.fad f)/\∃ d,T.fns[f]? =some d
 ini0:∀ c,T.ini0.contains c=true->FE K (R.cad c)
 inip:∀ c,T.inip.contains c=true->MJ K (R.cad c)
 ini:∀ c f,T.ini.lookup c=some f->(∃ d,T.fns[f]? =some d)/\if T.xc.contains c=true then Lb K (R.cad c) (R.fad f) else Mk K (R.cad c) (R.fad f)
 oc:∀ c,T.oc.contains c=true->BV K (R.cad c)/\Mo K (R.cad c)
 xc:∀ c,T.xc.contains c=true->cM K (R.cad c)/\A5 K (R.cad c)
 sub:∀ i j b,T.sub.lookup (i,j)=some b->W.kitOne K (.ref (R.cad i)) (.ref (R.cad j))=some b/\(T.xc.contains i=true->W.mroIn K (R.cad i) (.ref (R.cad j))=some b/\cM K (R.cad j))
 subT:∀ i n b,T.subT.lookup (i,n)=some b->W.kitOne K (.ref (R.cad i)) (.type n)=some b
 subB:∀ t n b,T.subB.lookup (t,n)=some b->W.kitOne K (.type t) (.type n)=some b
 subO:∀ t j b,T.subO.lookup (t,j)=some b->W.kitOne K (.type t) (.ref (R.cad j))=some b
 cin:∀ c f,T.cin.lookup c=some f->Nf K (R.cad c) (R.fad f)/\∃ d,T.fns[f]? =some d
structure Gd (X:Cx) (G:Gx) (S:Sn) (k:Nat) (E:St->XK):Prop where
 hK:G.R.K=X.K
 hT:S.T=G.T
 sc:X.env.scope=S.sc
 N:X.N=S.N
 nd:S.N.Nodup
 pass:Passes (Bq X.prog X.w) X E
 cm:G.cm=true->X.calm=true
 room:G.cm=true->bP (k+1) X.A
 un:X.A.units+200<cLine
 tab:BL X.K X.mg G.T G.R
 fns:∀ f d,G.T.fns[f]? =some d->yc X.prog X.w X.K X.mg X.base k (G.R.fad f) d (G.Ψ f)
variable {x:Str}{l es:List Expr}
section
variable {X:Cx}{G:Gx}{S:Sn}{k:Nat}{E:St->XK}
def Gd.bin (g:Gd X G S k E)(op:Operator):cL X (binaryOp op) (Hj G.R.K op):=g.hK▸FY op
def Gd.cmp (g:Gd X G S k E)(op:CmpOp):cL X (compareOp op) (lD G.R.K op):=g.hK▸FQ g.un op
def Gd.glob (g:Gd X G S k E)(h:S.qr x=true):Gl X x/\(x ==("__debug__":Str))=false:=by
 unfold Sn.qr at h;simp only[nl,decide_eq_true_eq,Bool.not_eq_true']at h;refine⟨?_,h.2⟩;show X.env.scope.names.lookup x=_;rw[g.sc];exact h.1
def Gd.Gk (g:Gd X G S k E)(h:S.Gk x=true):Jz X.env.scope x/\(x ==("__debug__":Str))=false/\(x ==("__classdict__":Str))=false:=by
 unfold Sn.Gk at h;simp only[nl,Bool.or_eq_true,decide_eq_true_eq,Bool.not_eq_true']at h;refine⟨?_,h.1.2,h.2⟩;unfold Jz;rw[g.sc];rcases h.1.1 with(h|h)|h
 .exact .inl h
 .exact .inr (.inl h)
 .exact .inr (.inr h)
def Gd.loc (g:Gd X G S k E){i:Nat}(h:S.loc i x=true):X.N[i]? =some x/\L2.Loc X.env.scope x:=by
 unfold Sn.loc at h;simp only[nl,Bool.or_eq_true,decide_eq_true_eq]at h;rw[g.N];refine⟨h.1,?_⟩;unfold L2.Loc;rw[g.sc];exact h.2
def aW:∀ {es:f7}{l:List Expr},jn S es l=true->∀ (env:Env) (pos:Pos),(backTo pos (bm l env)).any (·.1)=false
 | .nil,[],_,_,_=>rfl
 | .nil,_::_,h,_,_=>by cases(show false=true from h)
 | .cons e es,[],h,_,_=>by cases(show false=true from h)
 | .cons e es,e'::l,h,env,pos=>by
  have h:(mE S e e'&&notStar e'&&jn S es l)=true:=h;simp only[nl]at h;rw[ag h.1.2];show((backTo pos (bm l env)).any (·.1))=false;exact aW h.2 env pos
def pq:∀ {es:f7}{l:List Expr},jn S es l=true->l.length=es.len
 | .nil,[],_=>rfl
 | .nil,_::_,h=>by cases(show false=true from h)
 | .cons e es,[],h=>by cases(show false=true from h)
 | .cons e es,e'::l,h=>by
  have h:(mE S e e'&&notStar e'&&jn S es l)=true:=h;simp only[nl]at h;show l.length+1=es.len+1;rw[pq h.2]
def bG {es:f7}(h:jn S es (e::l)=true):notStar e=true/\∃ x es',es=.cons x es'/\jn S es' l=true:=by
 cases es with
 |nil=>cases(show false=true from h)
 |cons x es'=>
  have h:(mE S x e&&notStar e&&jn S es' l)=true:=h;simp only[nl]at h;exact⟨h.1.2,x,es',rfl,h.2⟩
def vG:∀ {es:f7}{l:List Expr},jn S es l=true->es.len<20->∀ (env:Env) (cpos:Pos),methodCallForm (l.length+([]:List Keyword).length) (backTo cpos (bm l env)) (backToKw cpos (keywordEach [] env))=true:=by
 intro es l h hl env cpos;have h1:=aW h env cpos;have h2:=pq h;have h3:(backTo cpos (bm l env)).all (λx=>!x.1)=true:=by
  rw[all_eq_true];intro x hx;rw[any_eq_false]at h1;simpa using h1 x hx
 unfold methodCallForm;rw[h3,h2];simp[keywordEach,backToKw]
 omega
def nG {m:Str}{apos pos:Pos}{env:Env}(hb:fg o=true)(hf:methodCallForm (es.length+([]:List Keyword).length) (backTo pos (bm es env)) (backToKw pos (keywordEach [] env))=true)(hl:(apos.endLine ==pos.line)=true):
  eval (.Call (.Attribute o m apos) es [] pos) env=(do
   let ov <-eval o env
   standAt apos.atName
   let(f,first) <-holding [ov] (getMethod ov m (do return (<-importBound o env).getD true))
   callWith pos f first (backTo pos (bm es env)) (backToKw pos (keywordEach [] env))):=by
 show(do
  let ov <-attributeBase o m env (eval o env)
  standAt apos.atName
  methodCall o m apos pos env ov (es.length+([]:List Keyword).length) (backTo pos (bm es env)) (backToKw pos (keywordEach [] env)))=_
 rw[b6 hb];unfold methodCall calleeOf methodCallPos;rw[hf,hl]
 rfl
def Gu {es:f7}(h:jn S es (e::l)=true)(hl:es.len<20)(env:Env)(cpos:Pos):
  ((backTo cpos (bm (e::l) env)).all (λx=>!x.1)&&(backToKw cpos (keywordEach [] env)).all (λx=>x.1.isSome)
   &&decide ((e::l).length+([]:List Keyword).length+(if([]:List Keyword).isEmpty then 0 else 1)<30))=true:=by
 have h1:=aW h env cpos;have h2:=pq h;have h3:(backTo cpos (bm (e::l) env)).all (λx=>!x.1)=true:=by
  rw[all_eq_true];intro x hx;rw[any_eq_false]at h1;simpa using h1 x hx
 rw[h3,h2];simp[keywordEach,backToKw]
 omega
end
variable {H:Hp}{Y:NI}{a:Addr}
section
variable {X:Cx}{G:Gx}{S:Sn}{k:Nat}{E:St->XK}
def nB {K:W.Frag}{x:V}{t:String}(h:tyName x H=some t):i6 K H x (.type t):=by
 unfold tyName at h
 split at h
 .cases h;exact .non
 .cases h;exact .bl _
 .cases h;exact .int _
 .cases h;exact .str _
 .split at h
  .rename_i e;cases h;exact .lst e
  .rename_i e;cases h;exact .tup e
  .rename_i e;cases h;exact .dK e
  .cases h
 .cases h
def vC {s:Shared}{U:St}{Q:VK}{i:Nat}{b:Bool}{cv:Value}(g:Gd X G S k E)(I:Inv X Y U H s)(o:Bl G H a i)
  (e:W.kitOne X.K (.ref (G.R.cad i)) cv=some b) (q:Q (.bl b) H):wpAny (model X.prog X.w) X.A (call (.builtin "isinstance") [.ref a,cv]) (EP X Y U Q) X.xe s:=by
 rcases o with⟨ho,dx,fs,ha⟩|⟨ho,dx,fs,fr,ha⟩
 .obtain⟨c,z⟩:=g.tab.oc i ho;exact i5 I (x:=.ref a) rfl (.ins ha c z.ha z.hn z.htk z.hm) e λtk=>⟨.bl b,H,I.tok _,rfl,q⟩
 .obtain⟨c,z⟩:=g.tab.xc i ho;exact zQ I ha c z e λtk=>⟨.bl b,H,I.tok _,rfl,q⟩
def BS (g:Gd X G S k E)(j:Nat):cE X (.builtin "isinstance") (λvs H Q=>∃ x,vs=[x,.ref (G.R.cad j)]/\mK G (.own j) x H Q):=by
 intro Y s U H xs us Q I r h;obtain⟨x,rfl,h⟩:=h;obtain⟨u,w',rfl,rx,rT⟩:=vals2 r;obtain rfl:w'=Value.ref (G.R.cad j):=rT;unfold mK at h;rcases h with⟨t,b,ht,hb,q⟩|⟨a,i,b,rfl,ho,hb,q⟩
 .exact i5 I rx (nB ht) (g.tab.subO t j b hb) λtk=>⟨.bl b,H,I.tok _,rfl,q⟩
 .obtain rfl:u=Value.ref a:=rx;exact vC g I ho (g.tab.sub i j b hb).1 q
def FK (g:Gd X G S k E)(n:String):cE X (.builtin "isinstance") (λvs H Q=>∃ x,vs=[x,.ty n]/\mK G (.ty n) x H Q):=by
 intro Y s U H xs us Q I r h;obtain⟨x,rfl,h⟩:=h;obtain⟨u,w',rfl,rx,rT⟩:=vals2 r;obtain rfl:w'=Value.type n:=rT;unfold mK at h;rcases h with⟨t,b,ht,hb,q⟩|⟨a,i,b,rfl,ho,hb,q⟩
 .exact i5 I rx (nB ht) (g.tab.subB t n b hb) λtk=>⟨.bl b,H,I.tok _,rfl,q⟩
 .obtain rfl:u=Value.ref a:=rx;exact vC g I ho (g.tab.subT i n b hb) q
def DW {n:String}(h:kx.contains n=true):bootBuiltins (n:Str)=some (.type n):=by
 have h':n ∈ kx:=by simpa using h
 simp only[kx,nb,not_mem_nil,or_false]at h';rcases h' with rfl|rfl|rfl|rfl|rfl|rfl|rfl<;>decide+kernel
abbrev MZ (G:Gx):Cl->V
 | .own c=>.ref (G.R.cad c)
 | .ty n=>.ty n
def Iw (g:Gd X G S k E){c:Cl}(h:Df S c e=true):PE X e (tC (MZ G c)):=by
 unfold Df at h
 split at h
 .simp only[nl,decide_eq_true_eq]at h;obtain⟨hg,hd⟩:=g.glob h.1;exact uW hg (g.tab.gcl _ _ (g.hT▸h.2)) rfl hd
 .simp only[nl,decide_eq_true_eq]at h;obtain⟨⟨⟨h1,rfl⟩,h3⟩,h4⟩:=h;obtain⟨hg,hd⟩:=g.glob h1;obtain⟨hm,hn⟩:=g.tab.gbl _ (g.hT▸h3);exact DV hg hm (DW h4) rfl hn hd
 .cases h
def Hg (g:Gd X G S k E)(c:Cl):cE X (.builtin "isinstance") (λvs H Q=>∃ x,vs=[x,MZ G c]/\mK G c x H Q):=by
 cases c with
 |own j=>exact BS g j
 |ty n=>exact FK g n
abbrev zK:Bf->Value
 | .len=>.builtin "len"| .list=>.type "list"| .tuple=>.type "tuple"| .int=>.type "int"| .str=>.type "str"| .min=>.builtin "min"| .max=>.builtin "max"| .abs=>.builtin "abs"| .all=>.builtin "all"| .any=>.builtin "any"| .dict=>.type "dict"| .sum=>.builtin "sum"
def Ci (b:Bf):bootBuiltins (A3 b:Str)=some (zK b):=by cases b<;>decide+kernel
def vo:∀ {bs:List Bool}{us:List Value},Vals (bs.map V.bl) us->PyProof.Rows.LSm.BoolsAre us bs
 | [],_,h=>by cases h;exact .nil
 |b::bs,_,h=>by
  cases h with
  |cons r1 r2=>
   obtain rfl:_=Value.bool b:=r1;exact .cons b (vo r2)
def xI (hc:X.calm=true):cE X (.builtin "all") (λxs H Q=>∃ p,∃ bs:List Bool,xs=[.ref p]/\aS X.K H p (bs.map V.bl)/\Q (.bl (bs.all id)) H):=by
 intro Y s U H xs us Q I r h;obtain⟨p,bs,rfl,hq,q⟩:=h;obtain⟨u,rfl,rx⟩:=vals1 r;cases rx;obtain⟨its,r',pl,hz⟩:=I.list hq;have hb:=vo r';have hl:=pl.isList;have lt:p<s.heap.objs.size:=by obtain⟨_,e,_⟩:=hl;exact ut e
 refine call_all_walk (wpAny_pyIter_list hl ⟨s.heap.objs.size,[s.heap.objs.size,p],[s.heap.objs.size],its.toArray.size,_,_,λi=>(bs[i]?).getD true,rfl,
  Walks.list (A:=X.A.in1) (I.ok.hd hc) _ p (pi lt) its.toArray,⟨⟨_,v4 _ rfl,rfl,rfl⟩,hl.push _⟩,λi v s' Q' E' hP hQ=>?_,λh' tk hk=>?_⟩)
 .obtain⟨b,e,rfl⟩:=hb.get i v (by simpa using hP);have hQ:Q' ((bs[i]?).getD _) s':=hQ;rw[e]at hQ;exact bi hQ
 .have e:((List.range its.toArray.size).all λi=>(bs[i]?).getD true)=bs.all id:=by
   rw[ii,hb.length,PyProof.Rows.LSm.range_all]
  rw[e];exact⟨.bl _,H,I.kept (PyProof.Rows.LSm.kept_iter hk),rfl,q⟩
def pT:cE X (.type "dict") (λvs H Q=>∃ p kvs,vs=[.ref p]/\H p=some (.dK kvs)/\∀ l,H l=none->Q (.ref l) (upd H l (.dK kvs))):=by
 intro Y s U H xs us Q I r h;obtain⟨p,kvs,rfl,hp,q⟩:=h;obtain⟨u,rfl,rx⟩:=vals1 r;cases rx;exact AR I (.inl hp) λl s' hl J=>⟨.ref l,_,J,rfl,q l hl⟩
def Kv (g:Gd X G S k E)(b:Bf):cE X (zK b) (mh G b):=by
 intro Y s U H xs us Q I r h;unfold mh at h;rw[g.hK]at h;cases b with
 |len=>exact y9 Y s U H _ us Q I r h
 |list=>exact oH Y s U H _ us Q I r h
 |tuple=>exact mq Y s U H _ us Q I r h
 |int=>exact wU Y s U H _ us Q I r h
 |str=>
  rcases h with h|⟨z,rfl,q⟩
  .exact pU Y s U H _ us Q I r h
  .obtain⟨u,rfl,t,rfl⟩:=vals1 r;exact PySem.P.str_of_str ⟨.str z,H,I,⟨_,rfl⟩,q⟩
 |min=>
  rcases h with⟨hc,h|h⟩
  .exact wN (g.cm hc) Y s U H _ us Q I r h
  .exact h.elim
 |max=>
  rcases h with⟨hc,h|h⟩
  .exact xW (g.cm hc) Y s U H _ us Q I r h
  .exact h.elim
 |abs=>exact h.elim
 |all=>exact xI (g.cm h.1) Y s U H _ us Q I r h.2
 |any=>exact h.elim
 |dict=>exact pT Y s U H _ us Q I r h
 |sum=>exact h.elim
abbrev GV:Lm->String
 | .append=>"list.append"| .extend=>"list.extend"| .insert=>"list.insert"| .pop=>"list.pop"| .clear=>"list.clear"| .reverse=>"list.reverse"| .count=>"list.count"
def vR (m:Lm):Slot "list" (zr m:Str) (GV m):=by
 cases m
 .exact PySem.F.slot_list_append
 .exact PySem.F.slot_list_extend
 .exact PySem.F.slot_list_insert
 .exact PySem.F.slot_list_pop
 .exact PySem.F.slot_list_clear
 .exact PySem.F.slot_list_reverse
 .exact PySem.F.slot_list_count
def E8 (m:Lm):typeOf (.builtin (GV m))=pure (.type "method_descriptor"):=by cases m<;>rfl
def rM {k:V}:∀ {xs:List V}{us:List Value},Vals xs us->us.countP (λu=>match GR u with|some x=>cV x k|none=>false)=xs.countP (λx=>cV x k)
 | [],_,.nil=>rfl
 |x::xs,_,.cons r1 r2=>by rw[List.countP_cons,List.countP_cons,rM r2,r1.abs]
def sM {u:Value}:∀ {xs:List V}{us:List Value},Vals xs us->u ∈ us->∃ x ∈ xs,RelV x u
 | [],_,.nil,h=>nomatch h
 |x::xs,_,.cons r1 r2,h=>by
  rcases nb.mp h with rfl|h
  .exact⟨x,mo,r1⟩
  .obtain⟨y,g1,g2⟩:=sM r2 h;exact⟨y,dL _ g1,g2⟩
def Bc:JR X "list.count" (λx vs H Q=>∃ l k xs,x=.ref l/\vs=[k]/\aJ k=true/\xs.all aJ=true/\H l=some (.lst xs)/\Q (.int (xs.countP (λx=>cV x k))) H):=by
 intro Y s U H x vs v us Q I rx rv h;obtain⟨l,k,xs,rfl,rfl,fk,fx,hH,q⟩:=h;cases rx;cases rv with
 |cons ry rr=>
  cases rr;obtain⟨z,its,n,r,hl,e⟩:=I.k7 hH;refine call_meets PySem.F.slot_list_count ⟨_,e,rfl⟩ PySem.F.entry_list_count (PySem.F.args_list_count_2 _ _) (SeqAt.list_countAt l _ n none #[] _ (λu=>match GR u with|some x=>cV x k|none=>false)) ⟨e,λy hy=>?_,?_⟩
  .obtain⟨x,hx,rx⟩:=sM r (List.mem_toArray.mp hy);rw[rx.abs];exact uK rx ry (all_eq_true.mp fx x hx) fk
  .rw[show its.toArray.toList=its from rfl,rM r];exact⟨.int _,H,I.tok _,⟨_,rfl⟩,q⟩
abbrev M9 (m:Lm):V->List V->Hp->VK->Prop:=λx vs H Q=>∃ p xs,x=.ref p/\H p=some (.lst xs)/\AD m p xs vs H Q
def ES (m:Lm):JR X (GV m) (M9 m):=by
 intro Y s U H x vs v us Q I rx rv h;obtain⟨p,xs,rfl,hp,h⟩:=h;unfold AD at h;cases m with
 |append=>
  obtain⟨y,rfl,h⟩:=h;exact iL Y s U H _ _ v us Q I rx rv ⟨p,xs,_,rfl,rfl,hp,Nat.lt_of_le_of_lt h.1 (by decide),h.2⟩
 |extend=>
  obtain⟨b,zs,rfl,hz,hl,q⟩:=h;exact xp Y s U H _ _ v us Q I rx rv ⟨p,_,xs,zs,rfl,rfl,hp,hz,nv nofun,q⟩
 |insert=>
  obtain⟨i,y,rfl,h⟩:=h;exact xD Y s U H _ _ v us Q I rx rv ⟨p,xs,_,_,rfl,rfl,hp,h.1,h.2.1,Nat.lt_of_le_of_lt h.2.2.1 (by decide),h.2.2.2⟩
 |pop=>
  rcases h with⟨i,rfl,h0,hl,y,hy,q⟩|⟨rfl,y,hy,q⟩
  .have hlt:i.toNat<xs.length:=(tz.mp hy).1;refine Ah Y s U H _ _ v us Q I rx rv ⟨p,xs,i,i.toNat,y,rfl,rfl,hp,by omega,by omega,?_,hy,q⟩;unfold seqIndex?;simp
   omega
  .exact GU Y s U H _ _ v us Q I rx rv ⟨p,xs,y,rfl,rfl,hp,hy,q⟩
 |clear=>exact h.elim
 |reverse=>exact h.elim
 |count=>
  obtain⟨k,rfl,fk,fx,h⟩:=h;exact Bc Y s U H _ _ v us Q I rx rv ⟨p,k,xs,rfl,rfl,fk,fx,hp,h⟩
def yd {m:Str}{apos pos:Pos}{ta:TE}{t:TA}{pl:Sem Bool}{n:Nat}(g:Gd X G S k E)(hc:G.cm=true)(he:PE X o ta)(ha:PA X es t)
  (hnil:es=[]->∀ U H R,t U H R->R [] H) (hst:∀ e r,es=e::r->bm es X.env=(false,eval e X.env)::bm r X.env) (hpl:∀ e r,es=e::r->(backTo pos (bm r X.env)).any (·.1)=false)
  (ht:eval (.Call (.Attribute o m apos) es [] pos) X.env=(do
   let ov <-eval o X.env
   standAt apos.atName
   let(f,first) <-holding [ov] (getMethod ov m pl)
   callWith pos f first (backTo pos (bm es X.env)) (backToKw pos (keywordEach [] X.env)))):
  PE X (.Call (.Attribute o m apos) es [] pos) (λU H Q=>ta U H λx H1=>∃ p i dx fs f,x=.ref p/\H1 p=some (.ins (G.R.cad i) dx fs)/\fs.lookup m=none/\G.T.me.lookup (i,m)=some f/\
   t U H1 λvs H2=>G.Ψ f (x::(vs++dflt G f n)) H2 Q (E U)):=by
 intro Y s U H Q I h;refine W.methodCall_KW (pl:=pl) (aA (he Y s U H _ I h) λu s1 ⟨x,H1,I1,rx,a,i,dx,fs,f,ex,ea,l,hf,q⟩=>?_) ht;subst ex;obtain rfl:u=Value.ref a:=rx;obtain⟨c,hm,d,hd⟩:=g.tab.me i m f hf;obtain⟨fd,F,B⟩:=(g.fns f d hd).fact;have hr:bP k X.A:=(g.room hc).mono (Nat.le_succ _);obtain⟨ds,hb,hv⟩:∃ ds,Binds X.K fd d.ps ds/\Vals (dflt G f n) ds:=by
  unfold dflt;rw[hd];exact B _
 refine tf I1 ea c hm l ?_;cases es with
 |nil=>
  refine W.callWith_K0 (first:=[.ref a]) I1.bV hm.kp ?_;exact oa (us:=[.ref a]) (vs:=[.ref a]) F hr hb hv g.pass I1 (.cons rfl .nil) (hnil rfl _ _ _ q)
 |cons e r=>
  refine W.callWith_K (first:=[.ref a]) (h₀:=X.base) I.ok.mod.kin hm.kp (aA (ha pos Y s1 U H1 _ I1 q) λus s2 ⟨vs,H2,I2,r,q2⟩=>⟨I2.bV,?_⟩) (hst e r rfl) (hpl e r rfl);exact oa (us:=.ref a::us) (vs:=.ref a::vs) F hr hb hv g.pass I2 (.cons rfl r) q2
end
def EI {α β:Type}{f:α->Option β}:∀ {l:List α}{j:Nat}{y:β},(∀ a ∈ l,(f a).isSome=true)->(l.filterMap f)[j]? =some y->∃ a,l[j]? =some a/\f a=some y
 | [],_,_,_,h=>by simp at h
 |a::l,j,y,hs,h=>by
  obtain⟨b,hb⟩:=Option.isSome_iff_exists.mp (hs a mo);rw[filterMap_cons,hb]at h;cases j with
  |zero=>simp at h;exact⟨a,rfl,by rw[hb,h]⟩
  |succ j=>
   simp at h;obtain⟨a',h1,h2⟩:=EI (λa ha=>hs a (dL _ ha)) h;exact⟨a',by simpa using h1,h2⟩
def Av {α β:Type}{f:α->Option β}:∀ {l:List α},(∀ a ∈ l,(f a).isSome=true)->(l.filterMap f).length=l.length
 | [],_=>rfl
 |a::l,hs=>by
  obtain⟨b,hb⟩:=Option.isSome_iff_exists.mp (hs a mo);rw[filterMap_cons,hb];simp[Av (λa ha=>hs a (dL _ ha))]
abbrev lW (env:Env):Str×NameKind->List (Str×Addr)->Sem (ForInStep (List (Str×Addr))):=λnk r=>do
 let cs:=r
 if(nk.2 ==NameKind.free)=true then do
  let a <-cellOf env nk.1
  pure (ForInStep.yield ((nk.1,a)::cs))
 else pure (ForInStep.yield cs)
def pY {env:Env}:∀ (names:List (Str×NameKind)) (cs:List (Str×Addr)),(∀ y ∈ names,y.2=.free->∃ c,env.cells.lookup y.1=some c)->
  ∃ cl,(forIn names cs (lW env):Sem _)=pure cl/\(∀ y c,cl.lookup y=some c->cs.lookup y=some c\/env.cells.lookup y=some c)/\(∀ y,(cs.lookup y).isSome=true->(cl.lookup y).isSome=true)/\∀ y ∈ names,y.2=.free->(cl.lookup y.1).isSome=true
 | [],cs,_=>⟨cs,rfl,λy c h=>.inl h,λy h=>h,λy hy=>absurd hy (by simp)⟩
 |(n,kd)::r,cs,h=>by
  by_cases hk:kd=.free
  .subst hk;obtain⟨c,hc⟩:=h (n,.free) mo rfl;obtain⟨cl,h1,h2,h3,h4⟩:=pY r ((n,c)::cs) λy hy=>h y (dL _ hy)
   have self:(((n,c)::cs).lookup n).isSome=true:=by simp[lookup_cons]
   refine⟨cl,?_,λy d q=>?_,λy q=>h3 y ?_,λy hy hf=>?_⟩
   .rw[forIn_cons];have e:lW env (n,.free) cs=pure (ForInStep.yield ((n,c)::cs)):=by
     unfold lW;simp only[cellOf,hc]
     rfl
    rw[e];exact h1
   .rcases h2 y d q with q|q
    .rw[lookup_cons]at q
     by_cases e:y=n
     .subst e;simp at q;subst q;exact .inr hc
     .rw[show(y ==n)=false from beq_eq_false_iff_ne.mpr e]at q;exact .inl q
    .exact .inr q
   .rw[lookup_cons];cases(y ==n)<;>simp[q]
   .rcases nb.mp hy with rfl|hy
    .exact h3 _ self
    .exact h4 y hy hf
  .obtain⟨cl,h1,h2,h3,h4⟩:=pY r cs λy hy=>h y (dL _ hy)
   refine⟨cl,?_,h2,h3,λy hy hf=>?_⟩
   .rw[forIn_cons];have e:lW env (n,kd) cs=pure (ForInStep.yield cs):=by
     unfold lW;cases kd<;>first|rfl|exact absurd rfl hk
    rw[e];exact h1
   .rcases nb.mp hy with rfl|hy
    .exact absurd hf hk
    .exact h4 y hy hf
variable {scope:Scope}
def CB {env:Env}(h:∀ y ∈ scope.names,y.2=.free->∃ c,env.cells.lookup y.1=some c):
  ∃ cl,closureFor scope env=pure cl/\(∀ y c,cl.lookup y=some c->env.cells.lookup y=some c)/\∀ y ∈ scope.names,y.2=.free->(cl.lookup y.1).isSome=true:=by
 obtain⟨cl,h1,h2,_,h4⟩:=pY scope.names [] h;refine⟨cl,?_,λy c q=>(h2 y c q).resolve_left (by simp),h4⟩;have e:closureFor scope env=(forIn scope.names [] (lW env) >>= λcs=>pure cs):=by
  unfold closureFor lW
  rfl
 rw[e,h1]
 rfl
variable {xs:List Str}{sel:List Nat}
section
variable {X:Cx}{G:Gx}{S:Sn}{k:Nat}{E:St->XK}
def qt (g:Gd X G S k E)(scope:Scope):relabel scope X.env=cU S.sc scope:=by
 unfold relabel cU Env.kindOf;rw[g.sc]
def bM (g:Gd X G S k E)(ok:X.Ok)(h:eK S scope xs sel=true):∃ cl,bA X scope cl xs (sel.filterMap λi=>S.N[i]?) sel:=by
 unfold eK at h;simp only[nl,decide_eq_true_eq,all_eq_true,Bool.or_eq_true,bne_iff_ne,ne_eq]at h;obtain⟨⟨⟨⟨⟨h1,h2⟩,h3⟩,h4⟩,h5⟩,h6⟩:=h;have hs:∀ i ∈ sel,(S.N[i]?).isSome=true:=λi hi=>by
  have:=h5 i hi
  split at this
  .rename_i e;rw[e];rfl
  .cases this
 obtain⟨cl,c1,c2,c3⟩:=CB (env:=X.env) (scope:=scope) λy hy hf=>ok.has y.1 (.inl (by
  show X.env.scope.names.lookup y.1=_;rw[g.sc];exact((h3 y hy).2).resolve_left λz=>z hf))
 refine⟨cl,⟨c1,c2,λy hy=>?_,h1,λy hy=>(h3 y hy).1.1,λy hy hl=>((h3 y hy).1.2).resolve_left λz=>z hl,h4,(Av hs).symm,λj y hj=>?_,h6⟩⟩
 .have:∃ kd,(y,kd) ∈ scope.names/\kd=.free:=by
   rcases hy with hy|hy
   .obtain⟨kd,m,q⟩:=dB hy;rcases q with q|q
    .subst q;exact absurd rfl (h3 _ m).1.1
    .exact⟨kd,m,q.1⟩
   .obtain⟨kd,m,q⟩:=dB hy;rcases q with q|q
    .exact⟨kd,m,q.symm⟩
    .exact nomatch q.2
  obtain⟨kd,m,rfl⟩:=this;exact Option.isSome_iff_exists.mp (c3 _ m rfl)
 .obtain⟨i,hi,hn⟩:=EI hs hj;have q:=h5 i (cr hi);rw[hn]at q;simp only[nl,decide_eq_true_eq]at q;refine⟨i,hi,by rw[g.N];exact hn,by rw[g.sc];exact q.1,by rw[qt g];exact q.2⟩
def Gd.comp (g:Gd X G S k E){cl:List (Str×Addr)}(C:bA X scope cl xs (sel.filterMap λi=>S.N[i]?) sel) (s:Shared) (H:Hp) (fp:List Addr):
  Gd (fQ X scope cl (xs++sel.filterMap λi=>S.N[i]?) s H fp) G { S with sc:=cU S.sc scope,N:=xs++sel.filterMap λi=>S.N[i]? } k (λ_ _ _=>False) where
 hK:=g.hK
 hT:=g.hT
 sc:=qt g scope
 N:=rfl
 nd:=C.nd
 pass:=λY U H s e s' I h=>by
  obtain⟨e,H',C,dx,fs,T,_,_,_,_,_,_,_,_,_,q⟩:=h;exact q.elim
 cm:=g.cm
 room:=g.room
 un:=g.un
 tab:=g.tab
 fns:=g.fns
def sC (env:Env):∀ {is:List Nat}{ts:List Expr},x8 S is ts=true->(assignEach ts env).length=is.length/\(assignEach ts env).findIdx? (·.1)=none
 | [],[],_=>⟨rfl,rfl⟩
 | [],_::_,h=>by simp[x8]at h
 |_::_,[],h=>by simp[x8]at h
 |i::is,t::ts,h=>by
  cases t<;>simp[x8]at h
  rename_i x p;obtain⟨h1,h2⟩:=sC env h.2;have e:assignEach (.Name x p::ts) env=(false,assign (.Name x p) env)::assignEach ts env:=rfl;rw[e];refine⟨by simp[h1],?_⟩;rw[List.findIdx?_cons];simp[h2]
def uO (g:Gd X G S k E):∀ {is:List Nat}{ts:List Expr},x8 S is ts=true->FJ X ts (gl is)
 | [],[],_=>λY s U H vs us Q I r h=>oZ Y s U H vs us Q I r ⟨length_eq_zero_iff.mp h.1,by
   have:=h.2;have e:vs=[]:=length_eq_zero_iff.mp h.1;subst e;exact this⟩
 | [],_::_,h=>by simp[x8]at h
 |_::_,[],h=>by simp[x8]at h
 |i::is,t::ts,h=>by
  cases t<;>simp[x8]at h
  rename_i x p;have hl:X.env.scope.names.lookup x=some .local:=by rw[g.sc];exact h.1.2
  have h1:PG X (.Name x p) (gH i):=gP (by rw[g.N];exact g.nd) (by rw[g.N];exact h.1.1) (.inl hl) (.inr hl);have h2:=uO g h.2;intro Y s U H vs us Q I r q;refine g9 h1 h2 rfl Y s U H vs us Q I r ?_;obtain⟨hl,q⟩:=q;cases vs with
  |nil=>simp at hl
  |cons v vs=>exact⟨v,vs,rfl,by simpa using hl,q⟩
def vD (g:Gd X G S k E)(hc:G.cm=true){n kt:Nat}{ts:List Expr}{pt:Pos}(h:x8 S (List.range n) ts=true):PG X (.Tuple ts kt pt) (Cb G.R.K n (gl (List.range n))):=by
 obtain⟨e1,e2⟩:=sC X.env h;rw[List.length_range]at e1;rw[g.hK];exact qk (g.cm hc) (uO g h) e1 e2
def vF {n:Nat}(h:xs.length=n):sv xs=sK n none:=by
 subst h;unfold sv;rw[List.map_const']
end
set_option maxHeartbeats 2000000
variable {r:List Expr}{p:Pos}{U:L2.St}{s1:Shared}{R:It->Hp->Prop}{keys:List (Option Expr)}
section
variable {G:Gx}{k:Nat}
def kW {o1 o2:CmpOp}{c:Expr}(h:cj c=true):lastMarks [o1,o2] [b,c]=false:=by
 show behindInMarks o2 c=false;exact cQ h _
def uD {o1 o2 o3:CmpOp}{c d:Expr}(h:cj d=true):lastMarks [o1,o2,o3] [b,c,d]=false:=by
 show behindInMarks o3 d=false;exact cQ h _
def AU {t:TE}(h:PE X (match r with| []=>b|_=>.BoolOp .And (b::r) p) t):PE X (.BoolOp .And (b::r) p) t:=by
 cases r with
 |nil=>exact zD h
 |cons c r=>exact h
def zM {t:TE}(h:PE X (match r with| []=>b|_=>.BoolOp .Or (b::r) p) t):PE X (.BoolOp .Or (b::r) p) t:=by
 cases r with
 |nil=>exact zD h
 |cons c r=>exact h
def ED {op:BoolOp}(h:PT X (.BoolOp op l p) t):PW X (.BoolOp op l p) t:=λwhole Y s U H Q I q=>by
 have:=h Y s U H Q I q;exact this
def zt (h:PT X (match r with| []=>b|_=>.BoolOp .And (b::r) p) t):PW X (.BoolOp .And (b::r) p) t:=by
 cases r with
 |nil=>exact DU h
 |cons c r=>exact ED h
def Aj (h:PT X (match r with| []=>b|_=>.BoolOp .Or (b::r) p) t):PW X (.BoolOp .Or (b::r) p) t:=by
 cases r with
 |nil=>exact HV h
 |cons c r=>exact ED h
def BK:La X (unaryOp .USub) (λx H Q=>match x with| .int i=>Q (.int (-i)) H|_=>False):=by
 intro Y s U H x v Q I r h
 split at h
 .exact(L2.Gv Y s U H _ v Q I r ⟨_,rfl,h⟩)
 .exact h.elim
def xH {CX:vt}{C f:Addr}{fd:FuncData}{ps:List Str}{sp:Sp}{dvs:List V}{ds:List Value}{E:St->XK}{pos:Pos}(M:Lb X.K C f)(F:cZ X.prog X.w X.K X.mg X.base CX k f fd ps sp)(hr:bP (k+1) X.A)(hg:Gl X x)(hm:X.mg x=some (.ref C))(hb:Binds X.K fd ps ds)(hd:Vals dvs ds)(hx:Passes CX X E)
  (hdb:(x ==("__debug__":Str))=false):PE X (.Call (.Name x p) [] [] pos) (yS C sp dvs E CK):=by
 intro Y s U H Q I h;refine bv (bI I hg hm ?_ hdb);exact W.callWith_K0 I.bV M.kp (n8 (us:=[]) M F hr hb hd hx (Nat.zero_le _) I .nil h.2)
def cL.cg {f:Value->Value->Sem Value}{r:R2}(h:cL X f r):cL X f (λx y H R=>∃ Q,r x y H Q/\∀ z H1,Q z H1->R z H1):=λY s U H x y v u R I rx ry ⟨Q,q,i⟩=>
 aA (h Y s U H x y v u Q I rx ry q) λ_ _ ⟨v,H',J,r,z⟩=>⟨v,H',J,r,i _ _ z⟩
section
open PyProof.Rows
def wj {tg:Expr}{H1:Hp}{v:Value}{xs:List V}(I1:Inv X Y U H1 s1)(r:RelV (.ref a) v)(hq:aS X.K H1 a xs)(q:R (Ij X.K a) H1):
  wpAny (model X.prog X.w) X.A (pyIter v) (K3 X Y U tg R) X.xe s1:=by
 cases r;obtain⟨its,rv,p,hz⟩:=I1.list hq;refine wpAny_pyIter_list p.isList ?_;refine⟨s1.heap.objs.size,[s1.heap.objs.size],_,_,H1,rfl,I1.kept (t':=s1.toks) λb o e=>ul _ e,xC a _,⟨_,v4 _ rfl,rfl,rfl⟩,λb hb=>?_,q⟩;have e:b=s1.heap.objs.size:=by simpa using hb
 subst e;exact I1.zY (re _) (I1.hok.fresh (re _))
def Bj {tg:Expr}{H1:Hp}{v:Value}{xs:List V}(I1:Inv X Y U H1 s1)(r:RelV (.ref a) v)(hq:a8 X.K H1 a xs)(q:R (Iu X.K a) H1):
  wpAny (model X.prog X.w) X.A (pyIter v) (K3 X Y U tg R) X.xe s1:=by
 cases r;obtain⟨its,rv,p,hz⟩:=I1.tuple hq;refine wpAny_pyIter_tuple (show s1.heap.IsTuple a its.toArray from p) ?_;refine⟨s1.heap.objs.size,[s1.heap.objs.size],_,_,H1,rfl,I1.kept (t':=s1.toks) λb o e=>ul _ e,tG a _,⟨_,v4 _ rfl,rfl,rfl⟩,λb hb=>?_,q⟩;have e:b=s1.heap.objs.size:=by simpa using hb
 subst e;exact I1.zY (re _) (I1.hok.fresh (re _))
end
def Ge {K:W.Frag}{x:V}{Q:Bool->Hp->Prop}(h:FX K x H Q):∃ k,CF K x H k/\Q k H:=by
 unfold FX at h
 split at h
 .exact⟨_,rfl,h⟩
 .exact h
abbrev KY:List Str->List V->List (V×V)
 |k::ks,x::xs=>(.str k,x)::KY ks xs
 |_,_=>[]
def A9:∀ {ks:List Str}{xs:List V},KY ks xs=(Ie ks xs).map (λkv=>(kV kv.1,kv.2))
 | [],_=>rfl
 |_::_,[]=>rfl
 |k::ks,x::xs=>by
  show(V.str k,x)::KY ks xs=(kV (.inr k),x)::(Ie ks xs).map _;rw[A9]
  rfl
def vy:∀ {ks:List Str}{xs:List V},(Ie ks xs).length<=ks.length
 | [],_=>re _
 |_::_,[]=>Nat.zero_le _
 |k::ks,x::xs=>Nat.succ_le_succ vy
def iK {k:Str}{ks:List Str}(h:pL (k::ks) keys=true):∃ j p r,keys=some (.Constant (.str k) j p)::r/\pL ks r=true:=by
 unfold pL at h
 split at h
 .rename_i e;cases e
 .rename_i k' ks' x j p r e
  injection e with e1 e2
  subst e1 e2;simp only[nl,decide_eq_true_eq]at h;obtain⟨rfl,h⟩:=h;exact⟨_,_,_,rfl,h⟩
 .cases h
def kG (h:pL [] keys=true):keys=[]:=by
 cases keys with
 |nil=>rfl
 |cons a r=>cases(show false=true from h)
def qG:∀ {ks:List Str}{keys:List (Option Expr)},pL ks keys=true->keys.length=ks.length
 | [],keys,h=>by rw[kG h];rfl
 |k::ks,keys,h=>by
  obtain⟨j,p,r,rfl,h2⟩:=iK h;rw[length_cons,length_cons,qG h2]
def qE:∀ {ks:List Str}{keys:List (Option Expr)},pL ks keys=true->keys.all (·.isSome)=true
 | [],keys,h=>by rw[kG h];rfl
 |k::ks,keys,h=>by
  obtain⟨j,p,r,rfl,h2⟩:=iK h;rw[all_cons,qE h2]
  rfl
def Ab {S:Sn}:∀ {x:f7}{e:List Expr},jn S x e=true->e.length=x.len
 | .nil,[],_=>rfl
 | .nil,_::_,h=>by cases(show false=true from h)
 | .cons x xs,[],h=>by cases(show false=true from h)
 | .cons x xs,e::es,h=>by
  have h:(mE S x e&&notStar e&&jn S xs es)=true:=h;simp only[nl]at h;exact congrArg Nat.succ (Ab h.2)
mutual
theorem sE:∀ (x:Ex){X:Cx}{S:Sn}{E:St->XK},Gd X G S k E->∀ {e:Expr},mE S x e=true->PE X e (λU H Q=>wE G x U H Q (E U))
 | .v i,X,S,E,g,e,h=>by
  sleep 1
  simp only[nl,decide_eq_true_eq]at h;obtain⟨h1,h2⟩:=h;obtain⟨v1,v2,v3⟩:=g.Gk h2;refine PE.imp (Fn (i:=i) (by rw[g.N];exact h1) v1 v2 v3) λU H Q q=>?_
  conv at q=>whnf
  split at q
  .rename_i e;exact⟨_,e,q⟩
  .exact q.elim
 | .int i,X,S,E,g,e,h=>by
  sleep 2
  simp only[decide_eq_true_eq]at h;subst h;exact HX
 | .bl i,X,S,E,g,e,h=>by
  sleep 2
  simp only[decide_eq_true_eq]at h;subst h;exact KA
 | .non,X,S,E,g,e,h=>by
  sleep 2
  exact Fg
 | .str i,X,S,E,g,e,h=>by
  sleep 2
  simp only[decide_eq_true_eq]at h;subst h;exact AS
 | .gl x,X,S,E,g,e,h=>by
  sleep 1
  simp only[nl,decide_eq_true_eq]at h;obtain⟨rfl,h2⟩:=h;obtain⟨hg,hd⟩:=g.glob h2;intro Y s U H Q I q
  conv at q=>whnf
  split at q
  .rename_i v e;obtain⟨u,hm,r⟩:=g.tab.gl _ v e;exact uW hg hm r hd Y s U H Q I q
  .exact q.elim
 | .bin op a b,X,S,E,g,e,h=>by
  sleep 1
  simp only[nl,decide_eq_true_eq]at h;obtain⟨⟨rfl,ha⟩,hb⟩:=h;exact JA (g.bin op) (sE a g ha) (sE b g hb)
 | .neg a,X,S,E,g,e,h=>by
  sleep 2
  exact Jh BK (sE a g h)
 | .not a,X,S,E,g,e,h=>by
  sleep 2
  refine PE.imp (Fy (PE.cg (sE a g h))) λU H Q q=>⟨_,q,λx H1 z=>?_⟩
  split at z
  .exact⟨_,rfl,z⟩
  .exact z.elim
 | .and a b,X,S,E,g,e,h=>by
  sleep 3
  simp only[nl]at h;refine PE.imp (Fe (PE.cg (sE a g h.1)) (AU (sE b g h.2))) λU H Q q=>⟨_,q,λx H1 z=>?_⟩
  split at z
  .rw[cH]at z;exact⟨_,rfl,z⟩
  .exact z.elim
 | .or a b,X,S,E,g,e,h=>by
  sleep 3
  simp only[nl]at h;refine PE.imp (JV (PE.cg (sE a g h.1)) (zM (sE b g h.2))) λU H Q q=>⟨_,q,λx H1 z=>?_⟩
  split at z
  .rw[cH]at z;exact⟨_,rfl,z⟩
  .exact z.elim
 | .cmp op a b,X,S,E,g,e,h=>by
  sleep 3
  simp only[nl,decide_eq_true_eq]at h;obtain⟨⟨⟨rfl,ha⟩,hb⟩,hn⟩:=h;exact Cd (g.cmp op) (sE a g ha) (sE b g hb) (cQ hn _)
 | .cmp2 o1 o2 a b c,X,S,E,g,e,h=>by
  sleep 3
  simp only[nl,decide_eq_true_eq]at h;obtain⟨⟨⟨⟨⟨rfl,rfl⟩,ha⟩,hb⟩,hc⟩,hn⟩:=h;refine PE.imp (Aa (cL.cg (g.cmp o1)) (g.cmp o2) (PE.cg (sE a g ha)) (PE.cg (sE b g hb)) (sE c g hc) (kW hn)) λU H Q q=>⟨_,q,λx H1 q1=>⟨_,q1,λy H2 q2=>⟨_,q2,λz H3 q3=>?_⟩⟩⟩
  split at q3
  .rw[cH]at q3;exact⟨_,rfl,q3⟩
  .exact q3.elim
 | .cmp3 o1 o2 o3 a b c d,X,S,E,g,e,h=>by
  sleep 3
  simp only[nl,decide_eq_true_eq]at h;obtain⟨⟨⟨⟨⟨⟨⟨rfl,rfl⟩,rfl⟩,ha⟩,hb⟩,hc⟩,hd⟩,hn⟩:=h;refine PE.imp (xk (cL.cg (g.cmp o1)) (cL.cg (g.cmp o2)) (g.cmp o3) (PE.cg (sE a g ha)) (PE.cg (sE b g hb)) (PE.cg (sE c g hc)) (sE d g hd) (uD hn)) λU H Q q=>⟨_,q,λx H1 q1=>⟨_,q1,λy H2 q2=>⟨_,q2,λz H3 q3=>?_⟩⟩⟩
  split at q3
  .refine⟨_,rfl,?_⟩;rw[cH]at q3
   split at q3
   .rename_i hk;rw[if_pos hk];refine⟨_,q3,λw H4 q4=>⟨_,q4,λz' H5 q5=>?_⟩⟩
    split at q5
    .rw[cH]at q5;exact⟨_,rfl,q5⟩
    .exact q5.elim
   .rename_i hk;rw[if_neg hk];exact q3
  .exact q3.elim
 | .ife c a b,X,S,E,g,e,h=>by
  sleep 1
  simp only[nl]at h;exact PE.imp (yo (PT.cg (sT c g h.1.1)) (sE a g h.1.2) (sE b g h.2)) λU H Q q=>⟨_,q,λk H1 z=>by rwa [cH]at z⟩
 | .tup es,X,S,E,g,e,h=>by
  sleep 1
  refine PE.imp (F3 (PA.cg (vi es g h))) λU H Q q=>⟨_,q,λx H1 z=>by unfold iO at z;exact⟨nv (by have:=z.1;omega),z.2⟩⟩
 | .lst es,X,S,E,g,e,h=>by
  sleep 1
  refine PE.imp (Gq (PA.cg (vi es g h))) λU H Q q=>⟨_,q,λx H1 z=>by unfold BO at z;exact⟨nv (by have:=z.1;omega),z.2⟩⟩
 | .ix a i,X,S,E,g,e,h=>by
  sleep 1
  simp only[nl]at h;have hr:JS X (sj G.R.K):=g.hK▸uF g.un;exact Kt hr (sE a g h.1.1) (sE i g h.1.2) (t5 h.2)
 | .sl a lo hi,X,S,E,g,e,h=>by
  sleep 3
  simp only[nl]at h;have hr:K6 X (E6 G.R.K):=g.hK▸HG;exact zS hr (sE a g h.1.1) (sO lo g h.1.2) (sO hi g h.2)
 | .fld a f,X,S,E,g,e,h=>by
  sleep 1
  simp only[nl,decide_eq_true_eq]at h;obtain⟨⟨ha,rfl⟩,hn⟩:=h;intro Y s U H Q I q;have q':wE G a U H (λx H1=>ux G f x H1 Q) (E U):=q;refine Dj (b6 hn _ _ _) (aA (sE a g ha Y s U H _ I q') λu s1 ⟨x,H1,I1,rx,qf⟩=>?_);unfold ux at qf;obtain⟨a,i,fs,v,ex,ea,hna,l,q⟩:=qf;subst ex;obtain rfl:u=Value.ref a:=rx;have n:=g.tab.na i f hna;rcases ea with⟨ho,dx,ea⟩|⟨ho,dx,fr,ea⟩
  .exact tQ I1 ea (g.tab.oc i ho).1 n l λu' s' J rv=>⟨v,H1,J,rv,q⟩
  .exact xy I1 ea (g.tab.xc i ho).1 n l λu' s' J rv=>⟨v,H1,J,rv,q⟩
 | .call f es,X,S,E,g,e,h=>by
  sleep 3
  rename_i es' pos _ xn p1 _;simp only[nl,decide_eq_true_eq]at h;obtain⟨⟨h1,h2⟩,h3⟩:=h;obtain⟨hg,hdb⟩:=g.glob h1;obtain⟨hm,hk,d,hd⟩:=g.tab.gfn _ _ (g.hT▸h2);obtain⟨fd,F,B⟩:=(g.fns f d hd).fact;obtain⟨ds,hb,hv⟩:∃ ds,Binds X.K fd d.ps ds/\Vals (dflt G f es.len) ds:=by
   unfold dflt;rw[hd];exact B _
  intro Y s U H Q I q;obtain⟨hc,q⟩:=(show G.cm=true/\wEs G es U H (λvs H1=>G.Ψ f (vs++dflt G f es.len) H1 Q (E U)) (E U) from q);have hr:bP k X.A:=(g.room hc).mono (Nat.le_succ _);cases es' with
  |nil=>
   cases es with
   |nil=>exact zG F hr hg hm hk hb hv g.pass hdb Y s U H Q I q
   |cons _ _=>cases(show false=true from h3)
  |cons e0 er=>
   have PAs:=vi es g h3;obtain⟨ns,x0,xr,rfl,h4⟩:=bG h3;exact BE F hr hg hm hk hb hv g.pass PAs hdb (ag ns) (aW h4 _ _) Y s U H Q I q
 | .meth a m es,X,S,E,g,e,h=>by
  sleep 3
  rename_i es' pos _ a' m' apos _;simp only[nl,decide_eq_true_eq]at h;obtain⟨⟨⟨⟨⟨ha,rfl⟩,h3⟩,h4⟩,h5⟩,h6⟩:=h;intro Y s U H Q I q;obtain⟨hc,q⟩:=(show G.cm=true/\_ from q);refine yd (n:=es.len+1) g hc (sE a g ha) (vi es g h3) (λz U H R hr=>?_) (λe r z=>?_) (λe r z=>?_) (nG h4 (vG h3 h6 _ _) h5) Y s U H Q I q
  .subst z;cases es with
   |nil=>exact hr
   |cons _ _=>cases(show false=true from h3)
  .subst z;exact ag (bG h3).1
  .subst z;have PAs:=vi es g h3;obtain⟨ns,x0,xr,rfl,h4⟩:=bG h3;exact aW h4 _ _
 | .lm m a es,X,S,E,g,e,h=>by
  sleep 3
  rename_i es' pos _ a' m' apos _;simp only[nl,decide_eq_true_eq]at h;obtain⟨⟨⟨⟨⟨ha,rfl⟩,h3⟩,h4⟩,h5⟩,h6⟩:=h;cases es' with
  |nil=>
   cases es with
   |nil=>exact PE.imp (Gw PySem.F.plainAttrs_list (vR m) (E8 m) (ES m) (PE.cg (sE a g ha)) (b6 h4 _ _ _) h5) λU H Q q=>⟨_,q,λx H1 z=>by
     obtain⟨p,xs0,ex,hp,q⟩:=z;subst ex;obtain⟨xs,h1,h2⟩:=q;exact⟨.inl ⟨rfl,xs0,aS.of hp⟩,p,xs,rfl,h1,h2⟩⟩
   |cons _ _=>cases(show false=true from h3)
  |cons e0 er=>
   have PAs:=vi es g h3;obtain⟨ns,x0,xr,rfl,h7⟩:=bG h3;exact PE.imp (JG PySem.F.plainAttrs_list (vR m) (E8 m) (ES m) (PE.cg (sE a g ha)) (PA.cg PAs) (b6 h4 _ _ _) (Gu h3 h6 _ _) h5 (ag ns) (aW h7 _ _)) λU H Q q=>⟨_,q,λx H1 z=>by
     obtain⟨p,xs0,ex,hp,q⟩:=z;subst ex;exact⟨.inl ⟨rfl,xs0,aS.of hp⟩,_,q,λvs H2 ⟨xs,h1,h2⟩=>⟨p,xs,rfl,h1,h2⟩⟩⟩
 | .dget a k d,X,S,E,g,e,h=>by cases(show false=true from h)
 | .lix a b,X,S,E,g,e,h=>by cases(show false=true from h)
 | .make c es,X,S,E,g,e,h=>by
  sleep 3
  rename_i es' pos _ xn p1 _;simp only[nl,decide_eq_true_eq]at h;obtain⟨⟨h1,h2⟩,h3⟩:=h;obtain⟨hg,hdb⟩:=g.glob h1;have hm:=g.tab.gcl _ _ (g.hT▸h2);intro Y s U H Q I q
  conv at q=>whnf
  obtain⟨hc,q⟩:=q
  split at q
  .obtain⟨h0,q⟩:=q;cases es' with
   |nil=>
    cases es with
    |nil=>exact absurd q.1 (by decide)
    |cons _ _=>cases(show false=true from h3)
   |cons e0 er=>
    have PAs:=vi es g h3;obtain⟨ns,x0,xr,rfl,h4⟩:=bG h3;exact AQ (g.tab.ini0 c h0) hg hm PAs hdb (ag ns) (aW h4 _ _) Y s U H Q I q
  .rename_i f hf;obtain⟨⟨d,hd⟩,hmk⟩:=g.tab.ini c f hf;obtain⟨fd,F,B⟩:=(g.fns f d hd).fact;obtain⟨ds,hb,hv⟩:∃ ds,Binds X.K fd d.ps ds/\Vals (dflt G f (es.len+1)) ds:=by
    unfold dflt;rw[hd];exact B _
   have hr:=g.room hc
   split at q
   .rename_i hx;rw[if_pos hx]at hmk;cases es' with
    |nil=>
     cases es with
     |nil=>exact xH hmk F hr hg hm hb hv g.pass hdb Y s U H Q I q
     |cons _ _=>cases(show false=true from h3)
    |cons e0 er=>
     have PAs:=vi es g h3;obtain⟨ns,x0,xr,rfl,h4⟩:=bG h3;exact yG hmk F hr hg hm hb hv g.pass PAs hdb (ag ns) (aW h4 _ _) Y s U H Q I q
   .rename_i hx;rw[if_neg hx]at hmk;cases es' with
    |nil=>
     cases es with
     |nil=>exact zL hmk F hr hg hm hb hv g.pass hdb Y s U H Q I q
     |cons _ _=>cases(show false=true from h3)
    |cons e0 er=>
     have PAs:=vi es g h3;obtain⟨ns,x0,xr,rfl,h4⟩:=bG h3;exact BI hmk F hr hg hm hb hv g.pass PAs hdb (ag ns) (aW h4 _ _) Y s U H Q I q
 | .bini es,X,S,E,g,e,h=>by
  sleep 4
  rename_i es' pos _ mm p2 _ xn p1 _;simp only[nl,decide_eq_true_eq]at h;obtain⟨⟨⟨⟨⟨h1,rfl⟩,h2⟩,h3⟩,h4⟩,h5⟩:=h;obtain⟨hg,hdb⟩:=g.glob h1;obtain⟨B,hm,hB⟩:=g.tab.gbi _ (g.hT▸h2);cases es' with
  |nil=>
   cases es with
   |nil=>cases h4
   |cons _ _=>cases(show false=true from h3)
  |cons e0 er=>
   have PAs:=vi es g h3;obtain⟨ns,x0,xr,rfl,h7⟩:=bG h3;refine PE.imp (HQ hB hg hm (PA.cg PAs) hdb (ag ns) (aW h7 _ _) (nG (o:=.Name _ _) rfl (vG h3 (by rw[h4];decide) _ _) h5)) λU H Q q=>⟨_,q,λvs H1 z=>?_⟩
   obtain⟨a,i,dx,fs,fr,v,ev,ea,hi,q⟩:=z;exact⟨a,_,dx,fs,fr,v,ev,ea,(g.tab.xc i hi).1,q⟩
 | .cini c es,X,S,E,g,e,h=>by cases(show false=true from h)
 | .bf b es,X,S,E,g,e,h=>by
  sleep 3
  rename_i es' pos _ xn p1 _;simp only[nl,decide_eq_true_eq]at h;obtain⟨⟨⟨⟨h1,rfl⟩,h2⟩,h3⟩,h4⟩:=h;obtain⟨hg,hdb⟩:=g.glob h1;obtain⟨hm,hn⟩:=g.tab.gbl _ (g.hT▸h2);cases es' with
  |nil=>
   cases es with
   |nil=>exact absurd h4 (by decide)
   |cons _ _=>cases(show false=true from h3)
  |cons e0 er=>
   have PAs:=vi es g h3;obtain⟨ns,x0,xr,rfl,h7⟩:=bG h3;have hb:=Ci b;have hk:=Kv g b;have key:∀ {v:Value},zK b=v->(∃ i,v=.builtin i)\/(∃ i,v=.type i):=by
    intro v hv;subst hv;cases b<;>first|exact .inl ⟨_,rfl⟩|exact .inr ⟨_,rfl⟩
   rcases key rfl with⟨i,hi⟩|⟨i,hi⟩
   .rw[hi]at hb hk;exact qM hk hg hm hb PAs hn hdb (ag ns) (aW h7 _ _)
   .rw[hi]at hb hk;exact xf hk hg hm hb PAs hn hdb (ag ns) (aW h7 _ _)
 | .isi a c,X,S,E,g,e,h=>by
  sleep 4
  rename_i pos _ xn p1 _ _ a' c';simp only[nl,decide_eq_true_eq]at h;obtain⟨⟨⟨⟨h1,rfl⟩,h2⟩,h3⟩,h4⟩:=h;obtain⟨hg,hdb⟩:=g.glob h1;obtain⟨hm,hn⟩:=g.tab.gbl _ (g.hT▸h2);have n1:notStar a'=true:=by
   cases a'<;>first|rfl|(cases a<;>cases(show false=true from h3))
  have n2:notStar c'=true:=by
   cases c'<;>first|rfl|(cases c<;>simp[Df]at h4)
  refine PE.imp (qM (Hg g c) hg hm Hi (pv (PE.cg (sE a g h3)) (pv (Iw g h4) iV n2) n1) hn hdb (ag n1) ?_) λU H Q q=>⟨_,q,λx H1 z=>⟨x,rfl,z⟩⟩
  rw[ag n2]
  rfl
 | .lc elt sel it,X,S,E,g,e,h=>by
  sleep 2
  split at h
  iterate 3 (split at h;rotate_left;cases h)
  simp only[nl]at h;obtain⟨⟨⟨h1,h2⟩,h3⟩,h4⟩:=h;intro Y s U H Q I q;obtain⟨hc,q⟩:=(show G.cm=true/\wI G it U H (λJ H1=>AY (λσ' H' Q'=>wE G elt σ' H' Q' (λ_ _=>False)) J (none::fw U sel) H1 Q) (E U) from q);rw[Bk]at q;obtain⟨cl,C⟩:=bM g I.ok h1;exact yR (g.cm hc) C (sI it g h2) (λs H fp=>sE elt (g.comp C s H fp) h3) (bw h4 _) Y s U H Q I q
 | .lci elt c sel it,X,S,E,g,e,h=>by
  sleep 2
  split at h
  iterate 3 (split at h;rotate_left;cases h)
  simp only[nl]at h;obtain⟨⟨⟨⟨h1,h2⟩,h3⟩,h5⟩,h4⟩:=h;intro Y s U H Q I q;obtain⟨hc,q⟩:=(show G.cm=true/\wI G it U H (λJ H1=>F4 (λσ' H' Q'=>wT G c σ' H' Q' (λ_ _=>False)) (λσ' H' Q'=>wE G elt σ' H' Q' (λ_ _=>False)) J (none::fw U sel) H1 Q) (E U) from q);rw[yN]at q;obtain⟨cl,C⟩:=bM g I.ok h1;exact iX (g.cm hc) C (sI it g h2) (λs H fp=>n9 C) (λs H fp=>vE (sT c (g.comp C s H fp) h5)) (λs H fp=>sE elt (g.comp C s H fp) h3) (bw h4 _) Y s U H Q I q
 | .lct elt n sel it,X,S,E,g,e,h=>by
  sleep 2
  split at h
  iterate 3 (split at h;rotate_left;cases h)
  simp only[nl,decide_eq_true_eq]at h;obtain⟨⟨⟨⟨⟨h1,h5⟩,h6⟩,h2⟩,h3⟩,h4⟩:=h;intro Y s U H Q I q;obtain⟨hc,q⟩:=(show G.cm=true/\wI G it U H (λJ H1=>LCt G.R.K n (λσ' H' Q'=>wE G elt σ' H' Q' (λ_ _=>False)) J (sK n none++fw U sel) H1 Q) (E U) from q);rw[zp,<-vF h6]at q;obtain⟨cl,C⟩:=bM g I.ok h1;exact iX (g.cm hc) C (sI it g h2) (λs H fp=>vD (g.comp C s H fp) hc h5) (λs H fp=>kh) (λs H fp=>sE elt (g.comp C s H fp) h3) (bw h4 _) Y s U H Q I q
 | .lcu elt c n sel it,X,S,E,g,e,h=>by cases(show false=true from h)
 | .dnew,X,S,E,g,e,h=>by cases(show false=true from h)
 | .up a,X,S,E,g,e,h=>by cases(show false=true from h)
 | .isiT a cs,X,S,E,g,e,h=>by cases(show false=true from h)
 | .vp c,X,S,E,g,e,h=>by
  sleep 4
  simp only[nl,decide_eq_true_eq]at h;obtain⟨⟨h1,h2⟩,h3⟩:=h;obtain⟨hg,hdb⟩:=g.glob h1;refine PE.imp (AM (g.tab.inip c (g.hT▸h3)) hg (g.tab.gcl _ _ (g.hT▸h2)) hdb) λU H Q q=>?_
  have q':AO (G.R.cad c) H Q:=q;unfold AO at q';exact q'
 | .vals tp a,X,S,E,g,e,h=>by
  sleep 8
  simp only[nl,decide_eq_true_eq]at h;obtain⟨⟨⟨⟨⟨⟨h1,rfl⟩,h2⟩,h3⟩,rfl⟩,h4⟩,h5⟩:=h;obtain⟨hg,hdb⟩:=g.glob h1;obtain⟨hm,hn⟩:=g.tab.gbl _ (g.hT▸h2);intro Y s U H Q I q;obtain⟨hc,q⟩:=(show G.cm=true/\wE G a U H (λx H1=>so tp x H1 Q) (E U) from q);refine DR tp (g.cm hc) hg hm (PE.cg (sE a g h3)) (b6 h4 _ _ _) h5 Y s U H Q I ⟨_,q,λx H1 z=>?_⟩;unfold so at z;exact z
 | .disp ks es,X,S,E,g,e,h=>by
  sleep 1
  simp only[nl,decide_eq_true_eq]at h;obtain⟨⟨⟨⟨h1,h2⟩,h3⟩,h4⟩,h5⟩:=h;intro Y s U H Q I q;have hk:=qG h1;have hv:=Ab h2;refine C3 (ME es g h1 h2 h3) (qE h1) nofun (λz=>by rw[z]at hk;simp at hk;omega) nofun Y s U H Q I λp hp=>?_
  refine⟨_,q p hp,λxs H2 hl z=>?_⟩;unfold vH at z;exact⟨z.1,Ie ks xs,A9,by have:=vy (ks:=ks) (xs:=xs);omega,z.2⟩
 | .dzip a b,X,S,E,g,e,h=>by
  sleep 8
  simp only[nl,decide_eq_true_eq]at h;obtain⟨⟨⟨⟨⟨⟨⟨⟨⟨h1,rfl⟩,h2⟩,h3⟩,rfl⟩,h4⟩,h5⟩,h6⟩,n1⟩,n2⟩:=h;obtain⟨hg,hdb⟩:=g.glob h1;obtain⟨hm,hn⟩:=g.tab.gbl _ (g.hT▸h2);obtain⟨hg',hdb'⟩:=g.glob h3;obtain⟨hm',hn'⟩:=g.tab.gbl _ (g.hT▸h4);intro Y s U H Q I q;obtain⟨hc,q⟩:=(show G.cm=true/\wE G a U H (λx H1=>wE G b U H1 (λy H2=>IQ G.R.K x y H2 Q) (E U)) (E U) from q);refine CP (g.cm hc) hg hm hg' hm' (pv (PE.cg (sE a g h5)) (pv (PE.cg (sE b g h6)) iV n2) n1) (ag n1) (by rw[ag n2];rfl) Y s U H Q I ⟨_,q,λx H1 z=>⟨_,z,λy H2 z=>?_⟩⟩;unfold IQ at z;exact⟨_,_,rfl,g.hK▸z⟩
termination_by structural x=>x
theorem sI:∀ (x:ER){X:Cx}{S:Sn}{E:St->XK},Gd X G S k E->∀ {t e:Expr},mI S x t e=true->PI X t e (λU H R=>wI G x U H R (E U))
 | .rng1 a,X,S,E,g,t,e,h=>by
  sleep 4
  simp only[nl,decide_eq_true_eq]at h;obtain⟨⟨⟨⟨h1,rfl⟩,h2⟩,h3⟩,n1⟩:=h;obtain⟨hg,hdb⟩:=g.glob h1;obtain⟨hm,hn⟩:=g.tab.gbl _ (g.hT▸h2);intro Y s U H R I q;refine wu hg hm (pv (PE.cg (sE a g h3)) iV n1) (ag n1) Y s U H R I ⟨_,q,λx H1 z=>?_⟩
  split at z
  .exact⟨_,rfl,z.1,z.2.1,z.2.2⟩
  .exact z.elim
 | .rng2 a b,X,S,E,g,t,e,h=>by cases(show false=true from h)
 | .rng3 a b c,X,S,E,g,t,e,h=>by cases(show false=true from h)
 | .enm a,X,S,E,g,t,e,h=>by
  sleep 4
  simp only[nl,decide_eq_true_eq]at h;obtain⟨⟨⟨⟨⟨h1,rfl⟩,h2⟩,h3⟩,n1⟩,h5⟩:=h;obtain⟨hg,hdb⟩:=g.glob h1;obtain⟨hm,hn⟩:=g.tab.gbl _ (g.hT▸h2)
  split at h5
  .intro Y s U H R I q;refine Ed hg hm (pv (PE.cg (sE a g h3)) iV n1) (ag n1) Y s U H R I ⟨_,q,λx H1 z=>?_⟩
   split at z
   .unfold DG at z;exact⟨_,rfl,z.1,z.2⟩
   .exact z.elim
  .cases h5
 | .enf a,X,S,E,g,t,e,h=>by cases(show false=true from h)
 | .seq a,X,S,E,g,t,e,h=>by
  conv at h=>lhs;whnf
  intro Y s U H R I q;have q':wE G a U H (λx H1=>match x with| .ref p=>uz G.R.K p H1 R|_=>False) (E U):=q;rw[g.hK]at q';refine aA (sE a g h Y s U H _ I q') λv s1 ⟨x,H1,I1,r1,z⟩=>?_
  dsimp only at z
  split at z
  .unfold uz at z;rcases z with⟨⟨xs,hx⟩,z⟩|⟨⟨xs,hx⟩,z⟩
   .exact wj I1 r1 hx z
   .exact Bj I1 r1 hx z
  .exact z.elim
 | .zip a b,X,S,E,g,t,e,h=>by
  sleep 4
  simp only[nl,decide_eq_true_eq]at h;obtain⟨⟨⟨⟨⟨⟨⟨h1,rfl⟩,h2⟩,h3⟩,h4⟩,n1⟩,n2⟩,h5⟩:=h;obtain⟨hg,hdb⟩:=g.glob h1;obtain⟨hm,hn⟩:=g.tab.gbl _ (g.hT▸h2)
  split at h5
  .intro Y s U H R I q;refine Hw hg hm (pv (PE.cg (sE a g h3)) (pv (PE.cg (sE b g h4)) iV n2) n1) (ag n1) (by rw[ag n2];rfl) Y s U H R I ⟨_,q,λx H1 z=>⟨_,z,λy H2 z=>?_⟩⟩;unfold CS at z;exact⟨_,_,rfl,g.hK▸z⟩
  .cases h5
 | .zip3 a b c,X,S,E,g,t,e,h=>by cases(show false=true from h)
termination_by structural x=>x
theorem sO:∀ (x:K8){X:Cx}{S:Sn}{E:St->XK},Gd X G S k E->∀ {e:Option Expr},mO S x e=true->PO X e (λU H Q=>wO G x U H Q (E U))
 | .no,X,S,E,g,none,h=>Di
 | .no,X,S,E,g,some _,h=>by cases(show false=true from h)
 | .yes x,X,S,E,g,none,h=>by cases(show false=true from h)
 | .yes x,X,S,E,g,some e,h=>by
  conv at h=>lhs;whnf
  intro Y s U H Q I q;refine BF (PE.cg (sE x g h)) Y s U H Q I ⟨_,q,λy H1 z=>?_⟩
  split at z
  .exact⟨_,rfl,z⟩
  .exact z.elim
termination_by structural x=>x
theorem sT:∀ (x:Tx){X:Cx}{S:Sn}{E:St->XK},Gd X G S k E->∀ {e:Expr},mT S x e=true->PT X e (λU H Q=>wT G x U H Q (E U))
 | .not a,X,S,E,g,e,h=>by
  sleep 2
  exact Fx (sT a g h)
 | .and a b,X,S,E,g,e,h=>by
  sleep 3
  simp only[nl]at h;exact PT.imp (Hs (PT.cg (sT a g h.1)) (zt (sT b g h.2))).pt λU H Q q=>⟨_,q,λk H1 z=>by rwa [cH]at z⟩
 | .or a b,X,S,E,g,e,h=>by
  sleep 3
  simp only[nl]at h;exact PT.imp (Jm (PT.cg (sT a g h.1)) (Aj (sT b g h.2))).pt λU H Q q=>⟨_,q,λk H1 z=>by rwa [cH]at z⟩
 | .cmp op a b,X,S,E,g,e,h=>by
  sleep 3
  simp only[nl,decide_eq_true_eq]at h;obtain⟨⟨⟨rfl,ha⟩,hb⟩,hn⟩:=h;refine PT.imp (Dm (cL.cg (g.cmp op)) (PE.cg (sE a g ha)) (PE.cg (sE b g hb)) (cQ hn _)) λU H Q q=>⟨_,q,λx H1 q1=>⟨_,q1,λy H2 q2=>⟨_,q2,λz H3 q3=>?_⟩⟩⟩
  split at q3
  .exact⟨_,rfl,q3⟩
  .exact q3.elim
 | .cmp2 o1 o2 a b c,X,S,E,g,e,h=>by
  sleep 3
  simp only[nl,decide_eq_true_eq]at h;obtain⟨⟨⟨⟨⟨rfl,rfl⟩,ha⟩,hb⟩,hc⟩,hn⟩:=h;refine PT.imp (AI (cL.cg (g.cmp o1)) (cL.cg (g.cmp o2)) (PE.cg (sE a g ha)) (PE.cg (sE b g hb)) (PE.cg (sE c g hc)) (kW hn)) λU H Q q=>⟨_,q,λx H1 q1=>⟨_,q1,λy H2 q2=>⟨_,q2,λz H3 q3=>?_⟩⟩⟩
  split at q3
  .refine⟨_,rfl,?_⟩;rw[cH]at q3
   split at q3
   .rename_i hk;rw[if_pos hk];refine⟨_,q3,λw H4 q4=>⟨_,q4,λz H5 q5=>?_⟩⟩
    split at q5
    .exact⟨_,rfl,q5⟩
    .exact q5.elim
   .rename_i hk;rw[if_neg hk];exact⟨_,rfl,q3⟩
  .exact q3.elim
 | .val x,X,S,E,g,e,h=>by
  have h:(mE S x e&&plainT e)=true:=h;simp only[nl]at h;refine PT.imp (yK (PE.cg (sE x g h.1)) (plainT_ok h.2 _)) λU H Q q=>⟨_,q,λy H1 z=>?_⟩
  exact g.hK▸Ge z
termination_by structural x=>x
theorem ME:∀ (x:f7){X:Cx}{S:Sn}{E:St->XK},Gd X G S k E->∀ {ks:List Str}{keys:List (Option Expr)}{e:List Expr}{pos:Pos},pL ks keys=true->jn S x e=true->x.len=ks.length->PQ X pos keys e (λU H R=>∃ Q,wEs G x U H Q (E U)/\∀ xs H1,xs.length=x.len->Q xs H1->R (KY ks xs) H1)
 | .nil,X,S,E,g,ks,keys,[],pos,h1,h,hl=>by
  obtain rfl:ks=[]:=List.eq_nil_of_length_eq_zero hl.symm;rw[kG h1];exact λY s U H R I ⟨Q,q,i⟩=>Fm Y s U H R I (i [] H rfl q)
 | .nil,X,S,E,g,_,_,_::_,pos,h1,h,hl=>by cases(show false=true from h)
 | .cons x xs,X,S,E,g,_,_,[],pos,h1,h,hl=>by cases(show false=true from h)
 | .cons x xs,X,S,E,g,[],keys,e::es,pos,h1,h,hl=>by cases hl
 | .cons x xs,X,S,E,g,c::ks,keys,e::es,pos,h1,h,hl=>by
  have h:(mE S x e&&notStar e&&jn S xs es)=true:=h;simp only[nl]at h;obtain⟨j,p,r,rfl,h2⟩:=iK h1;intro Y s U H R I ⟨Q,q,i⟩;refine Dx AS (PE.cg (sE x g h.1.1)) (ME xs g h2 h.2 (Nat.succ.inj hl)) Y s U H R I ?_;exact⟨_,q,λy H2 z=>⟨_,z,λys H3 hy w=>i (y::ys) H3 (congrArg Nat.succ hy) w⟩⟩
termination_by structural x=>x
theorem vi:∀ (x:f7){X:Cx}{S:Sn}{E:St->XK},Gd X G S k E->∀ {e:List Expr},jn S x e=true->PA X e (λU H Q=>wEs G x U H Q (E U))
 | .nil,X,S,E,g,[],h=>iV
 | .nil,X,S,E,g,_::_,h=>by cases(show false=true from h)
 | .cons x xs,X,S,E,g,[],h=>by cases(show false=true from h)
 | .cons x xs,X,S,E,g,e::es,h=>by
  have h:(mE S x e&&notStar e&&jn S xs es)=true:=h;simp only[nl]at h;exact pv (sE x g h.1.1) (vi xs g h.2) h.1.2
termination_by structural x=>x
end
end
end L3
namespace L2
open PySem PySem.Spec PyProof.Rows
variable {scope:Scope}{cl:List (Str×Addr)}{fr:List Str}{sel:List Nat}{s:Shared}
section
variable {X:Cx}
def gd {elt iter tgt:Expr}{ifs:List Expr}{xs:List Str}{y:Str}{py pos spos:Pos}{wi:TI}{tg:TG}{tc:TT}{te:TE}{ni:Nat}(hc:X.calm=true)(S:bA X scope cl xs fr sel)(hi:PI X tgt iter wi)
  (hg:∀ (s:Shared) (H:Hp) (fp:List Addr),PG (fQ X scope cl (xs++fr) s H fp) tgt tg) (ht:∀ (s:Shared) (H:Hp) (fp:List Addr),K5 (fQ X scope cl (xs++fr) s H fp) ifs tc)
  (he:∀ (s:Shared) (H:Hp) (fp:List Addr),PE (fQ X scope cl (xs++fr) s H fp) elt te) (hs:∀ x,foldedSetIterable iter X.env x=pure x) (hN:X.N.Nodup) (hni:X.N[ni]? =some y) (hy:X.env.scope.names.lookup y=some .local)
  (hsw:swapsWith (.ListComp elt [⟨tgt,iter,ifs,0⟩] scope pos) (some (.Name y py)) spos.line X.env=pure true):PS X (.Assign [.Name y py] (.ListComp elt [⟨tgt,iter,ifs,0⟩] scope pos) spos) (λD U H=>Jy wi tg tc te xs sel U H λv H1=>D.nx (U.set ni (some v)) H1):=by
 intro Y s U H DD I h;rw[exec_Assign_Name_used _ _ _ _ hsw];refine ad (wpAny_standAt (ad ?_));show wpAny _ _ (do let _ <-comprehension (.ListComp elt [⟨tgt,iter,ifs,0⟩] scope pos) scope X.env _ (newList []) false (eval iter X.env) (some (assign (.Name y py) X.env))) _ _ s;refine ad (wpAny_mono (wpAny_comprehension_free (use:=some (assign (.Name y py) X.env)) (Q:=λ_ s'=>SP X Y DD .next s') rfl hs S.clos S.kind S.names ?_) (λ_ s' hq=>am (am hq)) λ_ _ e=>e);refine aA (hi Y s U H _ I h) λv s1 h1=>aA h1 λitv s2 h2=>?_
 obtain⟨it,fp,tn,J,H2,e,I2,T,qm,f2,h2⟩:=h2;subst e;refine wpAny_newObj_type ?_;have hD:H2 s2.heap.objs.size=none:=I2.hok.fresh (re _);have I3:Inv X Y U (upd H2 s2.heap.objs.size (.lst [])) { s2 with heap:=s2.heap.push { cls:=.type "list",dict:=none,data:=.seq ([]:List Value).toArray } }:=
  I2.laid (t':=s2.toks) (λb u e=>ul _ e) (re _) ⟨Nat.zero_le _,[],0,.nil,v4 _ rfl⟩
 have fo2:∀ b ∈ fp,b<s2.heap.objs.size:=λb hb=>by
  obtain⟨o,ho,_⟩:=T.obj _ _ qm b hb;exact ut ho
 have f3:∀ b ∈ fp,iP X Y (upd H2 s2.heap.objs.size (.lst [])) b:=λb hb=>⟨by rw[ah (pi (fo2 b hb))];exact(f2 b hb).1,(f2 b hb).2⟩
 have st3:tn 0 (s2.heap.push { cls:=.type "list",dict:=none,data:=.seq ([]:List Value).toArray }):=T.keep _ _ _ qm λb hb o e=>ul _ e
 have fo3:∀ b ∈ fp,b<(s2.heap.push { cls:=.type "list",dict:=none,data:=.seq ([]:List Value).toArray }).objs.size:=λb hb=>by
  rw[Heap.size_push];exact Nat.lt_succ_of_lt (fo2 b hb)
 obtain⟨W,⟨m0,w0⟩,turn⟩:=h2 _ hD;generalize s2.heap.objs.size=D at*;generalize hs3:({ s2 with heap:=s2.heap.push { cls:=.type "list",dict:=none,data:=.seq ([]:List Value).toArray } }:Shared)=s3 at*;have st3':tn 0 s3.heap:=by rw[<-hs3];exact st3
 have fo3':∀ b ∈ fp,b<s3.heap.objs.size:=by rw[<-hs3];exact fo3
 refine wpAny_newFunctionEnv S.nocell (by intro y hy;simp at hy) (λh' hns hsb=>?_) S.kind;have keep:∀ b o,s3.heap.get? b=some o->h'.get? b=some o:=λb o e=>(hsb.2 b (pi (ut e))).trans (ul _ e)
 have I4:=qS (tk:=s3.toks+([]:List (Str×Value)).length) S I3 f3 fo3' hns keep;have st4:tn 0 h':=T.keep _ _ _ st3' λb hb o e=>keep b o e
 have stat:∀ {H':Hp},(∀ b ∈ fp,H' b=none)->∀ b ∈ fp,iP (fQ X scope cl (xs++fr) s3 (upd H2 D (.lst [])) fp) (X.pn++Y) H' b:=λ{H'} hn b hb=>
  ⟨hn b hb,pi (fo3' b hb),λz=>(nb.mp (I3.iZ b z)).elim (f3 b hb).2.1 (f3 b hb).2.2.1,.inl hb,λy c hy=>(f3 b hb).2.2.2.2.1 y c (S.sub y c hy),λp hp=>(f3 b hb).2.2.2.2.2 p (by simpa[fQ] using hp)⟩
 have loop:codeAny (model X.prog X.w) X.A (.compLoop (.ListComp elt [⟨tgt,iter,ifs,0⟩] scope pos) 0 (.ref it) (.ref D) (compEnvC scope cl s3.heap.objs.size X.env))
   (compPost (model X.prog X.w) X.A X.xe (some (assign (.Name y py) X.env)) (λ_ s'=>SP X Y DD .next s') (.ref D) s3.heap.objs.size) { s3 with heap:=h',toks:=s3.toks+([]:List (Str×Value)).length }:=by
  refine codeAny_loop rfl (λn s'=>∃ i σ' H',Inv (fQ X scope cl (xs++fr) s3 (upd H2 D (.lst [])) fp) (X.pn++Y) σ' H' s'/\tn i s'.heap/\(∀ b ∈ fp,H' b=none)/\W i n σ' H') (λn s5 hI=>?_) m0 ⟨0,_,_,I4,st4,λb hb=>(f3 b hb).1,w0⟩;show wpAny _ _ ((compTurn (.ListComp elt [⟨tgt,iter,ifs,0⟩] scope pos) 0 (.ref it) (.ref D) (compEnvC scope cl s3.heap.objs.size X.env)).onRaise (λx=>do noteFrame x (compEnvC scope cl s3.heap.objs.size X.env);theTreesLotGoes x)) _ _ s5;refine wpAny_noted ?_;refine vX (ht s3 (upd H2 D (.lst [])) fp).1 ?_;obtain⟨i,σ5,H5,I5,st5,fr5,w5⟩:=hI;rcases turn i n σ5 H5 w5 with⟨stop,q⟩|⟨go,Nn,hNn,step⟩
  .refine aA (T.done (fQ X scope cl (xs++fr) s3 (upd H2 D (.lst [])) fp) rfl rfl rfl hc i _ s5 σ5 H5 _ I5 (stat fr5) st5 stop) λr s6 ⟨hr,I6⟩=>?_
   subst hr;obtain⟨m,hn,_⟩:=I6.loc;have J:Inv X Y U H5 s6:=I3.yP (ch:=fp) I6.os I6.base I6.hok I6.bare λb hb=>⟨(f3 b hb).2.2.2.1,(f3 b hb).2.1,(f3 b hb).2.2.2.2.1,(f3 b hb).2.2.2.2.2⟩
   have fC:H5 s3.heap.objs.size=none:=I6.free;have nL:s3.heap.objs.size≠X.env.locals:=Ne.symm (pi I3.lt);have nC:∀ z c,X.env.cells.lookup z=some c->c≠s3.heap.objs.size:=λz c e=>by
    obtain⟨v,o,ho,_⟩:=I3.cell z c e;exact pi (ut ho)
   show wpAny _ _ (assign (.Name y py) X.env (.ref D)) _ _ s6;refine wpAny_assign_Name (ng J hN hni (.inl hy) (v:=.ref D) rfl (λs7 J7 hsb=>?_) (.inr hy));obtain⟨a,sb,ha⟩:=hsb;have hne:s3.heap.objs.size≠a:=by
    rcases ha with ha|ha
    .rw[ha];exact nL
    .exact Ne.symm (nC _ _ ha)
   refine⟨m,hn.sameBut sb hne,λh'' hs''=>⟨_,H5,?_,q⟩⟩;exact J7.turned (h':=h'') (t':=s7.toks) (it:=s3.heap.objs.size) (λb o hb e=>(hs''.2 b hb).trans e) fC nL (.inr I3.sz) nC λp hp=>pi (ut (I3.pin p hp).1)
  .have fin:∀ {σ8:St}{H10:Hp}{s10:Shared},Inv (fQ X scope cl (xs++fr) s3 (upd H2 D (.lst [])) fp) (X.pn++Y) σ8 H10 s10/\tn (i+1) s10.heap/\(∀ b ∈ fp,H10 b=none)->Nn σ8 H10->∃ m',m'<n/\∃ i σ' H',Inv (fQ X scope cl (xs++fr) s3 (upd H2 D (.lst [])) fp) (X.pn++Y) σ' H' s10/\tn i s10.heap/\(∀ b ∈ fp,H' b=none)/\W i m' σ' H':=λ⟨I,t,f⟩ nn=>by
    obtain⟨m',hm,w10⟩:=hNn _ _ nn;exact⟨m',hm,i+1,_,_,I,t,f,w10⟩
   refine aA (T.item (fQ X scope cl (xs++fr) s3 (upd H2 D (.lst [])) fp) rfl rfl rfl hc i _ s5 σ5 H5 _ I5 (stat fr5) st5 go) λr s6 ⟨u,hr,h6⟩=>?_
   subst hr;refine aA h6 λ_ s7 ⟨xv,H7,I7,r7,y7,st7,fr7⟩=>?_
   have I7':=I7.pinned (stat fr7) (T.obj _ _ st7);refine Ew (hg s3 _ fp _ s7 σ5 H7 xv u _ I7' r7 (step xv _ y7)) λ_ s8 ⟨σ8,H8,I8,q8⟩=>?_
   refine Ew ((ht s3 _ fp).2 _ s8 σ8 H8 _ I8 q8) λok s9 ⟨H9,I9,q9⟩=>?_
   have back:∀ {H10:Hp}{s10:Shared},Inv (fQ X scope cl (xs++fr) s3 (upd H2 D (.lst [])) fp) _ σ8 H10 s10->Inv (fQ X scope cl (xs++fr) s3 (upd H2 D (.lst [])) fp) (X.pn++Y) σ8 H10 s10/\tn (i+1) s10.heap/\(∀ b ∈ fp,H10 b=none):=λ{H10 s10} I10=>⟨I10.ff,T.keep _ _ _ st7 λb hb o e=>(I10.pin (b,o) (im _ (im _ (bO hb e)))).1,λb hb=>by
    obtain⟨o,e,d⟩:=T.obj _ _ st7 b hb;exact(I10.pin (b,o) (im _ (im _ (bO hb e)))).2.1⟩
   refine⟨λek=>?_,λek=>am ⟨rfl,fin (back I9) (q9.2 ek)⟩⟩;refine Ew (he s3 _ fp _ s9 _ _ _ I9 (q9.1 ek)) λuv s10 ⟨vv,H10,I10,r10,zs,hz,hzl,n10⟩=>?_
   refine Ew (iL (X:=fQ X scope cl (xs++fr) s3 (upd H2 D (.lst [])) fp) _ s10 _ H10 (.ref D) [vv] (.ref D) [uv] (λ_ H'=>H'=upd H10 D (.lst (zs++[vv]))) I10 rfl (.cons r10 .nil) ⟨D,zs,vv,rfl,rfl,hz,hzl,rfl⟩) λ_ s11 ⟨_,H11,I11,_,e11⟩=>?_
   subst e11;exact am ⟨rfl,fin (back I11) n10⟩
 exact codeAny_compStart_list loop (T.self _ 0 _ _ _ st4 loop)
def wg {elt iter:Expr}{x y:Str}{px py pos spos:Pos}{wi:TI}{te:TE}{ni:Nat}(hc:X.calm=true)(S:bA X scope cl [x] fr sel)(hi:PI X (.Name x px) iter wi)
  (he:∀ (s:Shared) (H:Hp) (fp:List Addr),PE (fQ X scope cl (x::fr) s H fp) elt te) (hs:∀ x,foldedSetIterable iter X.env x=pure x) (hN:X.N.Nodup) (hni:X.N[ni]? =some y) (hy:X.env.scope.names.lookup y=some .local)
  (hsw:swapsWith (.ListComp elt [⟨.Name x px,iter,[],0⟩] scope pos) (some (.Name y py)) spos.line X.env=pure true):PS X (.Assign [.Name y py] (.ListComp elt [⟨.Name x px,iter,[],0⟩] scope pos) spos) (λD U H=>MB wi te sel U H λv H1=>D.nx (U.set ni (some v)) H1):=λY s U H D I h=>
 gd hc S hi.up (λs H fp=>n9 S) (λ_ _ _=>kh) he hs hN hni hy hsw Y s U H D I ⟨_,h,λ_ _ q=>q.g⟩
section
variable {prog:Program}{w:World}{A:Around}{E:NH}
def nI {it t:Addr}{items:Array Value}(hne:t≠it):∀ (n i:Nat) (s:Shared) (Q:List Value->Shared->Prop),s.heap.IsListIter it t i->s.heap.IsList t items->i+n<=items.size->
  (∀ h',h'.IsListIter it t (i+n)->Heap.SameBut it s.heap h'->Q ((items.toList.drop i).take n) { s with heap:=h' })->wpAny (model prog w) A (draw (.ref it) n) Q E s
 |0,i,s,Q,hit,_,_,hQ=>by
  show wpAny _ _ (pure []) Q E s;exact am (by simpa using hQ s.heap hit (Heap.SameBut.refl ..))
 |n+1,i,s,Q,hit,ht,hle,hQ=>by
  have hlt:i<items.size:=by omega
  show wpAny _ _ (pyNext (.ref it) >>= _) Q E s;refine ad (wpAny_pyNext_list_item hit ht (x:=items[i]) (by simp[hlt]) λh₁ hit₁ hs₁=>?_);refine ad (bd (nI hne n (i+1) _ _ hit₁ (ht.extBut hs₁.extBut hne) nofun λh₂ hit₂ hs₂=>am ?_));have hd:items.toList.drop i=items[i]::items.toList.drop (i+1):=by simp[List.drop_eq_getElem_cons,hlt]
  have:=hQ h₂ (by rw[show i+(n+1)=i+1+n by omega];exact hit₂) (hs₁.trans hs₂);rw[hd,List.take_succ_cons]at this;exact this
def iI {t:Addr}{items:Array Value}{Q:List Value->Shared->Prop}(hh:A.handled=none)(ht:s.heap.IsList t items)(hty:s.TypeIs (.ref t) "list")
  (hQ:∀ h',Heap.ExtBut s.heap.objs.size s.heap h'->Q items.toList { s with heap:=h' }):wpAny (model prog w) A (unpackItems (.ref t) items.size none) Q E s:=by
 have hlt:t≠s.heap.objs.size:=by obtain⟨o,ho,_⟩:=id ht;exact pi (ut ho)
 unfold unpackItems;refine ad ?_
 .unfold notIterableAtAll;refine ad (wpAny_specialOf hty PySem.F.slot_list_iter.lookup ?_);refine am ?_;simp only[Bool.false_eq_true,if_false];refine ad (bd (wpAny_pyIter_list ht ?_));refine ad (bd (nI hlt items.size 0 _ _ ⟨_,v4 _ rfl,rfl,rfl⟩ (ht.push _) nofun λh₁ hit₁ hs₁=>?_));have hall:List.take items.size (List.drop 0 items.toList)=items.toList:=by
   rw[drop_zero];exact take_of_length_le (by simp)
  rw[hall];rw[if_neg (by simp)];have ht₁:h₁.IsList t items:=(ht.push _).extBut hs₁.extBut hlt;refine ad (bd (wpAny_pyNext_list_end hh hit₁ ht₁ (by simp) λh₂ he₂=>?_));simp only[Option.isSome_none,Bool.false_eq_true,if_false];refine am (hQ h₂ λb o hb e=>he₂ b o hb (hs₁.extBut b o hb (ul _ e)))
end
def FU {es:List Expr}{k:Nat}{pos:Pos}{t:D8}{n:Nat}(hc:X.calm=true)(h:FJ X es t)
  (hn:(assignEach es X.env).length=n) (hst:(assignEach es X.env).findIdx? (·.1)=none){Y:NI}{U:St}{H:Hp}{a:Addr}{u:Value}{xs:List V}{Q:St->Hp->Prop}(I:Inv X Y U H s) (r:RelV (.ref a) u)
  (hq:aS X.K H a xs) (hl:xs.length=n) (hw:t xs U H Q):wpAny (model X.prog X.w) X.A (assign (.Tuple es k pos) X.env u) (λ_ s'=>∃ σ' H',Inv X Y σ' H' s'/\Q σ' H') X.xe s:=by
 cases r;obtain⟨its,rv,p,hz⟩:=I.list hq;rw[assign_Tuple];refine ad (wpAny_standAt ?_);unfold unpack;have e1:(assignEach es X.env).length=its.toArray.size:=by
  rw[hn,<-hl];simp[rv.length]
 rw[e1,hst];refine ad (bd (iI (I.ok.hd hc) p.isList p.isList.typeIs λh' hx=>?_));have I1:Inv X Y U H { s with heap:=h' }:=I.kept (t':=s.toks) λb o e=>hx b o (pi (ut e)) e
 exact h Y _ U H xs _ Q I1 (by simpa using rv) hw
end
end L2
namespace L3
open PySem PySem.Spec L2
set_option maxHeartbeats 2000000
abbrev E0:Expr->Bool
 | .Tuple ..=>false
 |_=>true
abbrev ya (S:Sn):List Nat->List Expr->Bool
 | [],[]=>true
 |i::is,.Name x _::r=>S.loc i x&&ya S is r
 |_,_=>false
abbrev L8 (S:Sn):KZ->Expr->Bool
 | .nm i,e=>match e with| .Name x _=>S.loc i x|_=>false
 | .tp is,e=>match e with| .Tuple ts _ _=>ya S is ts|_=>false
 | .nt i is,e=>match e with| .Tuple y1 _ _=>(match y1 with| [y2,y3]=>(match y2 with| .Name x _=>(match y3 with| .Tuple ts _ _=>S.loc i x&&ya S is ts|_=>false)|_=>false)|_=>false)|_=>false
abbrev Sn.uC (S:Sn)(i:Nat)(x:Str):Bool:=decide (S.N[i]? =some x)&&decide (S.sc.names.lookup x=some .local)
abbrev Jx (S:Sn)(is:List Nat)(ts:List Expr):Bool:=match is with
 | [i,j]=>(match ts with| [a,b]=>(match a with| .Name x _=>(match b with| .Name y _=>S.uC i x&&(S.uC j y&&decide (i≠j))|_=>false)|_=>false)|_=>false)
 | [i,j,l]=>(match ts with| [a,b,c]=>(match a with| .Name x _=>(match b with| .Name y _=>(match c with| .Name z _=>S.uC i x&&(S.uC j y&&(S.uC l z&&(decide (i≠j)&&(decide (i≠l)&&decide (j≠l)))))|_=>false)|_=>false)|_=>false)|_=>false)
 |_=>false
mutual
noncomputable def mS (S:Sn):Sx->Stmt->Bool
 | .asg i e,s=>match s with| .Assign y1 e' _=>(match y1 with| [y2]=>(match y2 with| .Name x _=>S.loc i x&&mE S e e'|_=>false)|_=>false)|_=>false
 | .asgT is e,s=>match s with| .Assign y1 e' _=>(match y1 with| [y2]=>(match y2 with| .Tuple ts _ _=>ya S is ts&&mE S e e'&&E0 e'|_=>false)|_=>false)|_=>false
 | .par is es,s=>match s with| .Assign y1 y2 _=>(match y1 with| [y3]=>(match y3 with| .Tuple ts kt pt=>(match y2 with| .Tuple vs k2 p2=>Jx S is ts&&jn S es vs&&GZ S.sc (.Tuple ts kt pt) (.Tuple vs k2 p2) (is.filterMap λi=>S.N[i]?)|_=>false)|_=>false)|_=>false)|_=>false
 | .sub o i v,s=>match s with| .Assign y1 v' _=>(match y1 with| [y2]=>(match y2 with| .Subscript o' i' _=>mE S o o'&&mE S i i'&&mE S v v'&&ft i'|_=>false)|_=>false)|_=>false
 | .fld o f v,s=>match s with| .Assign y1 v' _=>(match y1 with| [y2]=>(match y2 with| .Attribute o' f' _=>mE S o o'&&decide (f=f')&&mE S v v'|_=>false)|_=>false)|_=>false
 | .aug i op e,s=>match s with| .AugAssign y1 op' e' _=>(match y1 with| .Name x _=>S.loc i x&&decide (op=op')&&mE S e e'|_=>false)|_=>false
 | .augS o i op e,s=>match s with| .AugAssign y1 op' e' _=>(match y1 with| .Subscript o' i' _=>mE S o o'&&mE S i i'&&decide (op=op')&&mE S e e'&&ft i'|_=>false)|_=>false
 | .ret e,s=>match s with| .Return y1 _=>(match y1 with|some e'=>mE S e e'|_=>false)|_=>false
 | .retN,_=>false
 | .pass,_=>false
 | .brk,_=>false
 | .cont,_=>false
 | .expr e,s=>match s with| .Expr e' _=>mE S e e'&&tU e'|_=>false
 | .ife c a b,s=>match s with| .If c' a' b' _=>mT S c c'&&mB S a a'&&mB S b b'|_=>false
 | .whl c b,s=>match s with| .While c' b' y1 _=>(match y1 with| []=>mT S c c'&&mB S b b'|_=>false)|_=>false
 | .for t it b,s=>match s with| .For t' it' b' y1 _=>(match y1 with| []=>L8 S t t'&&mI S it t' it'&&mB S b b'&&cj it'|_=>false)|_=>false
 | .rais e,s=>match s with| .Raise y1 y2 _=>(match y1 with|some e'=>(match y2 with|none=>mE S e e'|_=>false)|_=>false)|_=>false
 | .tryx b hs,s=>match s with| .Try b' y1 y2 y3 _=>(match y1 with|h0::hs'=>(match y2 with| []=>(match y3 with| []=>mB S b b'&&mH S hs (h0::hs')|_=>false)|_=>false)|_=>false)|_=>false
noncomputable def mB (S:Sn):pO->List Stmt->Bool
 | .nil,l=>l.isEmpty
 | .cons s r,l=>match l with|s'::r'=>mS S s s'&&mB S r r'| []=>false
noncomputable def mH (S:Sn):BA->List ExceptHandler->Bool
 | .nil,l=>l.isEmpty
 | .cons c i b hs,l=>match l with| .ExceptHandler (some (.Name x _)) (some n) (b0::bs) _::r=>S.qr x&&decide (S.T.gcl.lookup x=some c)&&decide (S.N[i]? =some n)&&decide (S.sc.names.lookup n=some .local)&&mB S b (b0::bs)&&mH S hs r|_=>false
end
structure Gs (X:Cx) (G:Gx) (S:Sn) (k:Nat) (E:St->XK):Prop extends Gd X G S k E where
 xok:G.cm=true->Ih X E
 own:PassesOwn (model X.prog X.w) X.A X.env X.xe
 stk:X.stack=X.env::X.outer
 fr:X.env.frame=some X.env.locals
 fn:∀ x,X.fn x=true
variable {e elt:Expr}{ts:List Expr}{p:Pos}{gs:List Comprehension}{scope:Scope}
section
variable {X:Cx}{G:Gx}{S:Sn}{k:Nat}{E:St->XK}
def Gs.gf (g:Gs X G S k E){Y:NI}{xe:NH}{E':St->XK}(hx:Ih (X.gf Y xe) E')(ho:PassesOwn (model X.prog X.w) X.A X.env xe):Gs (X.gf Y xe) G S k E' where
 hK:=g.hK
 hT:=g.hT
 sc:=g.sc
 N:=g.N
 nd:=g.nd
 pass:=nq hx
 cm:=g.cm
 room:=g.room
 un:=g.un
 tab:=g.tab
 fns:=g.fns
 xok:=λ_=>hx
 own:=ho
 stk:=g.stk
 fr:=g.fr
 fn:=g.fn
def Gs.bF (g:Gs X G S k E)(e:Value):Gs (X.bF e) { G with cm:=false } S k (λ_ _ _=>False) where
 hK:=g.hK
 hT:=g.hT
 sc:=g.sc
 N:=g.N
 nd:=g.nd
 pass:=λY U H s e s' I h=>by
  obtain⟨e,H',C,dx,fs,T,_,_,_,_,_,_,_,_,_,q⟩:=h;exact q.elim
 cm:=λz=>by cases z
 room:=λz=>by cases z
 un:=g.un
 tab:=g.tab
 fns:=g.fns
 xok:=λz=>by cases z
 own:=PassesOwn.never
 stk:=g.stk
 fr:=g.fr
 fn:=g.fn
def kO (env:Env):∀ {is:List Nat}{ts:List Expr},ya S is ts=true->(assignEach ts env).length=is.length/\(assignEach ts env).findIdx? (·.1)=none
 | [],[],_=>⟨rfl,rfl⟩
 | [],_::_,h=>by simp[ya]at h
 |_::_,[],h=>by simp[ya]at h
 |i::is,t::ts,h=>by
  cases t<;>simp[ya]at h
  rename_i x p;obtain⟨h1,h2⟩:=kO env h.2;have e:assignEach (.Name x p::ts) env=(false,assign (.Name x p) env)::assignEach ts env:=rfl;rw[e];refine⟨by simp[h1],?_⟩;rw[List.findIdx?_cons];simp[h2]
def pS (g:Gs X G S k E):∀ {is:List Nat}{ts:List Expr},ya S is ts=true->FJ X ts (gl is)
 | [],[],_=>λY s U H vs us Q I r h=>oZ Y s U H vs us Q I r ⟨length_eq_zero_iff.mp h.1,by
   have:=h.2;have e:vs=[]:=length_eq_zero_iff.mp h.1;subst e;exact this⟩
 | [],_::_,h=>by simp[ya]at h
 |_::_,[],h=>by simp[ya]at h
 |i::is,t::ts,h=>by
  cases t<;>simp[ya]at h
  rename_i x p;obtain⟨hi,hx⟩:=g.loc h.1;have h1:PG X (.Name x p) (gH i):=gP (by rw[g.N];exact g.nd) hi hx (.inl (g.fn x));have h2:=pS g h.2;intro Y s U H vs us Q I r q;refine g9 h1 h2 rfl Y s U H vs us Q I r ?_;obtain⟨hl,q⟩:=q;cases vs with
  |nil=>simp at hl
  |cons v vs=>exact⟨v,vs,rfl,by simpa using hl,q⟩
def EX (g:Gs X G S k E)(hc:G.cm=true){t:KZ}(h:L8 S t e=true):PG X e (λv U H Q=>wG U t G.R.K v H λσ1=>Q σ1 H):=by
 cases t with
 |nm i=>
  conv at h=>lhs;whnf
  split at h
  .obtain⟨hi,hx⟩:=g.loc h;exact gP (by rw[g.N];exact g.nd) hi hx (.inl (g.fn _))
  .cases h
 |tp is=>
  conv at h=>lhs;whnf
  split at h
  .intro Y s U H v u Q I r q;obtain⟨a,xs,rfl,hq,hl,q⟩:=q;obtain⟨e1,e2⟩:=kO X.env h;rw[g.hK]at hq;rcases hq with hq|hq
   .exact qk (g.cm hc) (pS g h) e1 e2 Y s U H _ u Q I r ⟨a,xs,rfl,hq,hl,hl,q⟩
   .exact FU (g.cm hc) (pS g h) e1 e2 I r hq hl ⟨hl,q⟩
  .cases h
 |nt i is=>
  conv at h=>lhs;whnf
  split at h
  .split at h
   .split at h
    .split at h
     .intro Y s U H v u Q I r q;simp only[nl]at h;obtain⟨a,y,b,ys,rfl,hq,hb,hl,q⟩:=q;obtain⟨e1,e2⟩:=kO X.env h.2;obtain⟨hi,hx⟩:=g.loc h.1;rw[g.hK]at hq hb;refine qk (n:=2) (g.cm hc) (g9 (gP (by rw[g.N];exact g.nd) hi hx (.inl (g.fn _))) (g9 (qk (g.cm hc) (pS g h.2) e1 e2) oZ rfl) rfl) rfl rfl Y s U H _ u Q I r ⟨a,_,rfl,hq,rfl,y,_,rfl,.ref b,_,rfl,b,ys,rfl,hb,hl,hl,rfl,q⟩
     .cases h
    .cases h
   .cases h
  .cases h
def eD {kk:Nat}(n:Nat)(env:Env):swapsWithSole [.Tuple ts kk p] e n env=pure false:=by
 cases e<;>rfl
def xg {o i:Expr}(n:Nat)(env:Env):swapsWithSole [.Subscript o i p] e n env=pure false:=by
 cases e<;>rfl
def xF {o:Expr}{f:Str}(n:Nat)(env:Env):swapsWith e (some (.Attribute o f p)) n env=pure false:=by
 cases e<;>rfl
def uE {kk:Nat}(env:Env)(h:E0 e=true):swappedStores [.Tuple ts kk p] e env=pure none:=by
 cases e<;>first|rfl|cases h
def tw {o i:Expr}(env:Env):swappedStores [.Subscript o i p] e env=pure none:=by
 cases e<;>rfl
def ur {o i:Expr}{pos:Pos}{env:Env}(h:ft i=true):∀ v,assign (.Subscript o i pos) env v=(do
   let ov <-holding [v] (eval o env)
   let iv <-holding [v,ov] (eval i env)
   standAt pos
   holding [v,ov,iv] (setItem ov iv v)
   release [v,ov,iv] []):=by
 intro v;cases i<;>first|rfl|cases h
def DJ {i:Expr}(h:ft i=true):∀ ov iv new,augStore i ov iv new=(do holding [new,ov,iv] (setItem ov iv new);release [new,ov,iv] [];pure .next):=by
 intro ov iv new;cases i<;>first|rfl|cases h
def EH (op:Operator):Jt X op (KS op):=by
 intro Y s U H x y v u Q I r1 r2 h;unfold KS at h
 split at h
 .exact Ia Y s U H _ _ v u Q I r1 r2 ⟨_,_,rfl,rfl,h⟩
 .exact G8 Y s U H _ _ v u Q I r1 r2 ⟨_,_,rfl,rfl,h⟩
 .exact h.elim
def Gh (g:Gd X G S k E):Fs X (Aq G.R.K):=by
 intro Y s U H x y v u Q I r1 r2 h;unfold Aq at h;rw[g.hK]at h
 split at h
 .obtain⟨xs,w,h1,h2,h3,q⟩:=h;exact zV Y s U H _ _ v u Q I r1 r2 ⟨_,xs,_,w,rfl,rfl,h1,h2,h3,q⟩
 .exact h.elim
def tR {py:Pos}{y:Str}{n:Nat}{env:Env}(hk:env.scope.kind=.function):∃ b,swapsWith (.ListComp elt gs scope p) (some (.Name y py)) n env=pure b/\(b=true->env.scope.names.lookup y=some .local):=by
 refine⟨_,rfl,λh=>?_⟩;simp only[nl]at h;have:=h.1.1.2;exact beq_iff_eq.mp this
end
set_option maxHeartbeats 2000000
variable {S:Sn}{α:Type}
section
variable {k:Nat}
def JI {x:Ex}(h:mE S x (.ListComp elt gs scope p)=true):(∃ e' sel it y py iter,x=.lc e' sel it/\gs=[⟨.Name y py,iter,[],0⟩]/\
  eK S scope [y] sel=true/\mI S it (.Name y py) iter=true/\mE { S with sc:=cU S.sc scope,N:=y::sel.filterMap λi=>S.N[i]? } e' elt=true/\cj iter=true)\/
  (∃ e' c sel it y py iter c',x=.lci e' c sel it/\gs=[⟨.Name y py,iter,[c'],0⟩]/\
  eK S scope [y] sel=true/\mI S it (.Name y py) iter=true/\mE { S with sc:=cU S.sc scope,N:=y::sel.filterMap λi=>S.N[i]? } e' elt=true/\mT { S with sc:=cU S.sc scope,N:=y::sel.filterMap λi=>S.N[i]? } c c'=true/\cj iter=true)\/
  ∃ e' n sel it ts kt pt iter,x=.lct e' n sel it/\gs=[⟨.Tuple ts kt pt,iter,[],0⟩]/\
  eK S scope (Du ts) sel=true/\x8 { S with sc:=cU S.sc scope,N:=Du ts++sel.filterMap λi=>S.N[i]? } (List.range n) ts=true/\(Du ts).length=n/\mI S it (.Tuple ts kt pt) iter=true/\mE { S with sc:=cU S.sc scope,N:=Du ts++sel.filterMap λi=>S.N[i]? } e' elt=true/\cj iter=true:=by
 cases x<;>(try (cases(show false=true from h);done))
 all_goals (conv at h=>lhs;whnf)
 all_goals (iterate 5 (split at h<;>first|(cases h;done)|skip))
 all_goals (simp only[nl,decide_eq_true_eq]at h)
 all_goals first
  |exact .inl ⟨_,_,_,_,_,_,rfl,rfl,h.1.1.1,h.1.1.2,h.1.2,h.2⟩
  |exact .inr (.inl ⟨_,_,_,_,_,_,_,_,rfl,rfl,h.1.1.1.1,h.1.1.1.2,h.1.1.2,h.1.2,h.2⟩)
  |exact .inr (.inr ⟨_,_,_,_,_,_,_,_,rfl,rfl,h.1.1.1.1.1,h.1.1.1.1.2,h.1.1.1.2,h.1.1.2,h.1.2,h.2⟩)
def t9 (e:Expr){x:Ex}(h:mE S x e=true):tU e=true\/∃ elt gs scope p,e=.ListComp elt gs scope p:=by
 cases e<;>first|exact .inl rfl|exact .inr ⟨_,_,_,_,rfl⟩|(cases x<;>cases(show false=true from h))
def J9 {G:Gx}{X:Cx}{E:St->XK}(g:Gs X G S k E){i:Nat}{x:Str}{e:Ex}{e':Expr}{px:Pos}(hx:S.loc i x=true)(h:mE S e e'=true):PS X (.Assign [.Name x px] e' p) (λD U H=>wS (.asg i e) G D E U H):=by
 obtain⟨hi,hl⟩:=g.loc hx;have hN:X.N.Nodup:=by rw[g.N];exact g.nd
 rcases t9 e' h with hn|⟨elt,gs,scope,pp,rfl⟩
 .exact AW hN hi hl (sE e g.toGd h) (iu hn _ _ _) (.inl (g.fn x))
 .intro Y s U H D I q;obtain⟨b,hb,hb2⟩:=tR (elt:=elt) (gs:=gs) (scope:=scope) (p:=pp) (py:=px) (y:=x) (n:=p.line) (env:=X.env) I.ok.kind;cases b with
  |false=>exact AW hN hi hl (sE e g.toGd h) hb (.inl (g.fn x)) Y s U H D I q
  |true=>
   rcases JI h with⟨e2,sel,it,y,py,iter,rfl,rfl,h1,h2,h3,h4⟩|⟨e2,c,sel,it,y,py,iter,c',rfl,rfl,h1,h2,h3,h5,h4⟩|⟨e2,n,sel,it,ts,kt,pt,iter,rfl,rfl,h1,h5,h6,h2,h3,h4⟩
   .obtain⟨hc,q⟩:=(show G.cm=true/\wI G it U H (λJ H1=>AY (λσ' H' Q'=>wE G e2 σ' H' Q' (λ_ _=>False)) J (none::fw U sel) H1 (λx H1=>D.nx (U.set i (some x)) H1)) (E U) from q);rw[Bk]at q;obtain⟨cl,C⟩:=bM g.toGd I.ok h1;exact wg (g.cm hc) C (sI it g.toGd h2) (λs H fp=>sE e2 (g.toGd.comp C s H fp) h3) (bw h4 _) hN hi (hb2 rfl) hb Y s U H D I q
   .obtain⟨hc,q⟩:=(show G.cm=true/\wI G it U H (λJ H1=>F4 (λσ' H' Q'=>wT G c σ' H' Q' (λ_ _=>False)) (λσ' H' Q'=>wE G e2 σ' H' Q' (λ_ _=>False)) J (none::fw U sel) H1 (λx H1=>D.nx (U.set i (some x)) H1)) (E U) from q);rw[yN]at q;obtain⟨cl,C⟩:=bM g.toGd I.ok h1;exact gd (g.cm hc) C (sI it g.toGd h2) (λs H fp=>n9 C) (λs H fp=>vE (sT c (g.toGd.comp C s H fp) h5)) (λs H fp=>sE e2 (g.toGd.comp C s H fp) h3) (bw h4 _) hN hi (hb2 rfl) hb Y s U H D I q
   .obtain⟨hc,q⟩:=(show G.cm=true/\wI G it U H (λJ H1=>LCt G.R.K n (λσ' H' Q'=>wE G e2 σ' H' Q' (λ_ _=>False)) J (sK n none++fw U sel) H1 (λx H1=>D.nx (U.set i (some x)) H1)) (E U) from q);rw[zp,<-vF h6]at q;obtain⟨cl,C⟩:=bM g.toGd I.ok h1;exact gd (g.cm hc) C (sI it g.toGd h2) (λs H fp=>vD (g.toGd.comp C s H fp) hc h5) (λs H fp=>kh) (λs H fp=>sE e2 (g.toGd.comp C s H fp) h3) (bw h4 _) hN hi (hb2 rfl) hb Y s U H D I q
def BZ {xs:List α}{i j:Nat}(h:xs.length=[i,j].length):∃ a b,xs=[a,b]:=by
 match xs,h with
 | [a,b],_=>exact⟨a,b,rfl⟩
def xR {xs:List α}{i j l:Nat}(h:xs.length=[i,j,l].length):∃ a b c,xs=[a,b,c]:=by
 match xs,h with
 | [a,b,c],_=>exact⟨a,b,c,rfl⟩
mutual
theorem sS:∀ (x:Sx){G:Gx}{X:Cx}{S:Sn}{E:St->XK},Gs X G S k E->∀ {st:Stmt},mS S x st=true->PS X st (λD U H=>wS x G D E U H)
 | .asg i e,G,X,S,E,g,st,h=>by
  sleep 3
  simp only[nl]at h;exact J9 g h.1 h.2
 | .asgT is e,G,X,S,E,g,st,h=>by
  sleep 3
  simp only[nl]at h;obtain⟨⟨h1,h2⟩,h3⟩:=h;intro Y s U H D I q;obtain⟨hc,q⟩:=(show G.cm=true/\wE G e U H (λx H1=>wG U (.tp is) G.R.K x H1 λσ1=>D.nx σ1 H1) (E U) from q);exact Ai (sE e g.toGd h2) (EX g hc (t:=.tp is) (by simp only[L8];exact h1)) (eD _ _) (uE _ h3) rfl Y s U H D I q
 | .par is es,G,X,S,E,g,st,h=>by
  sleep 4
  rename_i pos _ _ ts kt pt _ vs k2 p2;simp only[nl]at h;obtain⟨⟨h1,h2⟩,h3⟩:=h;intro Y s U H D I q;obtain⟨hc,q⟩:=(show G.cm=true/\wEs G es U H (λxs H1=>xs.length=is.length/\D.nx (x6 U is xs) H1) (E U) from q);have hN:X.N.Nodup:=by rw[g.N];exact g.nd
  rw[<-g.sc]at h3;unfold Jx at h1
  split at h1
  .iterate 3 (split at h1;rotate_left;cases h1)
   rename_i i j _ _ x px _ y py;simp only[Sn.uC,nl,decide_eq_true_eq]at h1;obtain⟨⟨a1,a2⟩,⟨b1,b2⟩,c1⟩:=h1;rw[filterMap_cons,a1,filterMap_cons,b1,List.filterMap_nil]at h3;obtain⟨v1,v2,rfl⟩:=Cc h3;rw[<-g.N]at a1 b1;rw[<-g.sc]at a2 b2;exact DS (g.cm hc) hN a1 b1 c1 a2 b2 (PA.cg (vi es g.toGd h2)) (Au h3) (eD _ _) Y s U H D I ⟨_,q,λxs H1 z=>by
    obtain⟨z1,z2⟩:=z;obtain⟨u1,u2,rfl⟩:=BZ z1;exact⟨u1,u2,rfl,z2⟩⟩
  .iterate 4 (split at h1;rotate_left;cases h1)
   rename_i i j l _ _ x px _ y py _ z pz;simp only[Sn.uC,nl,decide_eq_true_eq]at h1;obtain⟨⟨a1,a2⟩,⟨b1,b2⟩,⟨d1,d2⟩,c1,c2,c3⟩:=h1;rw[filterMap_cons,a1,filterMap_cons,b1,filterMap_cons,d1,List.filterMap_nil]at h3;obtain⟨v1,v2,v3,rfl⟩:=xP h3;rw[<-g.N]at a1 b1 d1;rw[<-g.sc]at a2 b2 d2;exact CC (g.cm hc) hN a1 b1 d1 c1 c2 c3 a2 b2 d2 (PA.cg (vi es g.toGd h2)) (Au h3) (eD _ _) Y s U H D I ⟨_,q,λxs H1 z=>by
    obtain⟨z1,z2⟩:=z;obtain⟨u1,u2,u3,rfl⟩:=xR z1;exact⟨u1,u2,u3,rfl,z2⟩⟩
  .cases h1
 | .sub o i v,G,X,S,E,g,st,h=>by
  sleep 3
  simp only[nl]at h;obtain⟨⟨⟨h1,h2⟩,h3⟩,h4⟩:=h;exact Ai (sE v g.toGd h3) (Fh (sE o g.toGd h1) (sE i g.toGd h2) (uU g.un) (ur h4)) (xg _ _) (tw _) rfl
 | .fld o f v,G,X,S,E,g,st,h=>by
  sleep 3
  simp only[nl,decide_eq_true_eq]at h;obtain⟨⟨h1,rfl⟩,h3⟩:=h;intro Y s U H D I q;have q':wE G v U H (λy H1=>wE G o U H1 (λx H2=>C7 G f x y H2 (λH3=>D.nx U H3)) (E U)) (E U):=q;refine plainObj_wpAny_Assign_Attribute (aA (sE v g.toGd h3 Y s U H _ I q') λu s1 ⟨y,H1,I1,ry,q⟩=>aA (sE o g.toGd h1 Y s1 U H1 _ I1 q) λov s2 ⟨x,H2,I2,rx,q2⟩=>?_) (xF _ _);unfold C7 at q2;obtain⟨a,i,rfl,hna,q2⟩:=q2;obtain rfl:ov=Value.ref a:=rx;have n:=g.tab.na i f hna;rcases q2 with⟨dx,fs,ho,ea,l,q2⟩|⟨d,fs,fr,ho,ea,l,q2⟩|⟨fr,ho,ea,q2⟩
  .exact sX I2 ea (g.tab.oc i ho).1 n l ry λs3 I3=>⟨U,_,I3,q2⟩
  .exact tT I2 ea (g.tab.xc i ho).1 n l ry λs3 I3=>⟨U,_,I3,q2⟩
  .exact tD I2 ea (g.tab.xc i ho).1 n ry λd s3 hd I3=>⟨U,_,I3,q2 d hd⟩
 | .aug i op e,G,X,S,E,g,st,h=>by
  sleep 2
  simp only[nl,decide_eq_true_eq]at h;obtain⟨⟨h1,rfl⟩,h3⟩:=h;obtain⟨hi,hl⟩:=g.loc h1;refine PS.imp (F5 (by rw[g.N];exact g.nd) hi hl (sE e g.toGd h3) (EH op) (.inl (g.fn _))) λD U H q=>?_
  conv at q=>whnf
  split at q
  .rename_i e;exact⟨_,e,q⟩
  .exact q.elim
 | .augS o i op e,G,X,S,E,g,st,h=>by
  sleep 2
  simp only[nl,decide_eq_true_eq]at h;obtain⟨⟨⟨⟨h1,h2⟩,rfl⟩,h3⟩,h4⟩:=h;exact D5 (sE o g.toGd h1) (sE i g.toGd h2) (Gh g.toGd) (sE e g.toGd h3) (EH op) (uU g.un) (DJ h4)
 | .ret e,G,X,S,E,g,st,h=>by
  sleep 2
  exact FH (sE e g.toGd h)
 | .retN,G,X,S,E,g,st,h=>by cases(show false=true from h)
 | .pass,G,X,S,E,g,st,h=>by cases(show false=true from h)
 | .brk,G,X,S,E,g,st,h=>by cases(show false=true from h)
 | .cont,G,X,S,E,g,st,h=>by cases(show false=true from h)
 | .expr e,G,X,S,E,g,st,h=>by
  sleep 1
  simp only[nl]at h;exact Ck (sE e g.toGd h.1) (iu h.2 _ _ _)
 | .ife c a b,G,X,S,E,g,st,h=>by
  sleep 1
  simp only[nl]at h;exact PS.imp (Jp (PT.cg (sT c g.toGd h.1.1)) (sB a g h.1.2) (sB b g h.2)) λD U H q=>⟨_,q,λk H1 z=>by rwa [cH]at z⟩
 | .whl c b,G,X,S,E,g,st,h=>by
  sleep 2
  simp only[nl]at h;refine PS.imp (yh g.own (PT.cg (sT c g.toGd h.1)) (sB b g h.2)) λD U H q=>?_
  obtain⟨W,w0,w1⟩:=q;exact⟨W,w0,λm U H w=>⟨_,w1 m U H w,λk H1 z=>by rwa [cH]at z⟩⟩
 | .for t it b,G,X,S,E,g,st,h=>by
  sleep 2
  simp only[nl]at h;obtain⟨⟨⟨h1,h2⟩,h3⟩,h4⟩:=h;intro Y s U H D I q
  conv at q=>whnf
  obtain⟨hc,q⟩:=q;unfold mN at q;exact FP g.own (g.cm hc) (sI it g.toGd h2) (EX g hc h1) (sB b g h3) (bw h4 _) Y s U H D I q
 | .rais e,G,X,S,E,g,st,h=>by
  sleep 3
  intro Y s U H D I q
  conv at q=>whnf
  obtain⟨hc,q⟩:=q;refine Bd (g.xok hc) (g.cm hc) (PE.cg (sE e g.toGd h)) Y s U H D I ⟨_,q,λv H1 z=>?_⟩;obtain⟨a,i,dx,fs,ev,ea,hi,q⟩:=z;exact⟨a,_,dx,fs,ev,ea,(g.tab.xc i hi).1,q⟩
 | .tryx b hs,G,X,S,E,g,st,h=>by
  sleep 4
  simp only[nl]at h;intro Y s U H D I q;obtain⟨hc,q⟩:=(show G.cm=true/\wB b G D (λσ' e H'=>wH hs G D σ' e H') U H from q);refine FA (E':=λσ' e H'=>wH hs G D σ' e H') I g.stk g.fr (λxe hx ho=>?_) λσ' H' s' e C dx fs T J he hT hH hp st q'=>?_
  .exact sB b (g.gf hx ho) h.1 [] s U H D (I.gf xe) q
  .exact sH hs g h.2 J he hT hH hp st q'
theorem sB:∀ (x:pO){G:Gx}{X:Cx}{S:Sn}{E:St->XK},Gs X G S k E->∀ {st:List Stmt},mB S x st=true->Cq X st (λD U H=>wB x G D E U H)
 | .nil,G,X,S,E,g,[],h=>Cs
 | .nil,G,X,S,E,g,_::_,h=>by cases(show false=true from h)
 | .cons x xs,G,X,S,E,g,[],h=>by cases(show false=true from h)
 | .cons x xs,G,X,S,E,g,st::sts,h=>by
  have h:(mS S x st&&mB S xs sts)=true:=h;simp only[nl]at h;exact AH (sS x g h.1) (sB xs g h.2)
theorem sH:∀ (x:BA){G:Gx}{X:Cx}{S:Sn}{E:St->XK},Gs X G S k E->∀ {hs:List ExceptHandler},mH S x hs=true->∀ {Y:NI}{U:St}{H:Hp}{s:Shared}{e C:Addr}{dx:Option Addr}{fs:List (Str×V)}{T:Addr}{D:Ends},
  L2.Inv X Y U H s->H e=some (.exc C dx fs false)->X.s₀.heap.objs.size<=T->H T=none->(∀ p ∈ X.pn++Y,p.1≠T)->BB s.heap e T .none->wH x G D U e H->wpAny (model X.prog X.w) X.A (handleBy (.ref e) X.env hs) (SP X Y D) X.xe s
 | .nil,G,X,S,E,g,hs,h,Y,U,H,s,e,C,dx,fs,T,D,I,he,hT,hH,hp,st,q=>by
  simp only[wH]at q
 | .cons c i b hs,G,X,S,E,g,l,h,Y,U,H,s,e,C,dx,fs,T,D,I,he,hT,hH,hp,st,q=>by
  conv at h=>lhs;whnf
  split at h
  .simp only[nl,decide_eq_true_eq]at h;obtain⟨⟨⟨⟨⟨h1,h2⟩,h3⟩,h4⟩,h5⟩,h6⟩:=h;obtain⟨hg,hdb⟩:=g.glob h1;have hm:=g.tab.gcl _ _ (g.hT▸h2);obtain⟨j,dx',fs',kk,he',hxc,hsub,q⟩:=(show ∃ j dx fs k,H e=some (.exc (G.R.cad j) dx fs false)/\G.T.xc.contains j=true/\G.T.sub.lookup (j,c)=some k/\_ from q);have ee:=he.symm.trans he'
   injection ee with ee
   injection ee with e1 e2 e3 e4
   subst e1;obtain⟨_,hs2⟩:=g.tab.sub j c kk hsub;obtain⟨hs3,hs4⟩:=hs2 hxc;refine rj (i:=i) I he hT hH hp st (g.tab.xc j hxc).1 hs4 hs3 hg hm (by rw[g.N];exact g.nd) (by rw[g.N];exact h3) (by rw[g.sc];exact h4) hdb (λhk s2 J=>?_) λhk=>?_
   .rw[hk]at q;unfold iG at q;exact sB b (g.bF (.ref e)) h5 Y s2 _ H _ J q
   .rw[hk]at q;unfold iG at q;exact sH hs g h6 I he hT hH hp st q
  .cases h
end
end
abbrev cY (T:Tab)(R:Rt):Nat->Nat->Sp
 |0,_=>λ_ _ _ _=>False
 |k+1,f=>λvs H Q E=>match T.fns[f]? with
  |some d=>vs.length=d.ps.length/\wB d.body ⟨T,R,cY T R k,true⟩ { nx:=λ_ H'=>Q .non H',rt:=Q } (λ_=>E) (start d.N vs) H
  |none=>False
structure xV (K:W.Frag) (T:Tab) (f:Addr) (d:ao):Prop where
 ex:∃ (name qual:Str) (params:Arguments) (body:List Stmt) (scope:Scope) (dV kV doc pm cdv ct oc:Value) (od an:Option Addr) (osl:Array (Option Value)),
  K.lookup f=some ⟨oc,od,.func (W.fnOf name qual params body scope dV kV doc pm an cdv ct),osl⟩/\W.codeIn K cdv qual=true/\kq d.N d.ps scope/\mB ⟨T,scope,d.N⟩ d.body body=true/\
  ∀ j,∃ ds,Binds K (W.fnOf name qual params body scope dV kV doc pm an cdv ct) d.ps ds/\Vals (d.dfl.drop j) ds
def zU {P:Program}{w:World}{K:W.Frag}{mg:NJ}{base:Heap}{T:Tab}{R:Rt}(tab:BL K mg T R)(hK:R.K=K)(fs:∀ f d,T.fns[f]? =some d->xV K T (R.fad f) d):
  ∀ (k f:Nat) (d:ao),T.fns[f]? =some d->yc P w K mg base (2*k) (R.fad f) d (cY T R k f)
 |0,f,d,hd=>by
  obtain⟨name,qual,params,body,scope,dV,kV,doc,pm,cdv,ct,oc,od,an,osl,lk,hcd,S,hm,hb⟩:=(fs f d hd).ex;exact⟨⟨_,⟨λ_ _ _ _ h=>h.elim,λ_ _ _ _ _ _ _ _ _ _ _ _ _ h=>h.elim⟩,hb⟩,λ_ _ _ _ _=>⟨λ_ _ _ _ h=>h.elim,λ_ _ _ _ _ _ _ _ _ _ _ _ _ h=>h.elim⟩⟩
 |k+1,f,d,hd=>by
  obtain⟨name,qual,params,body,scope,dV,kV,doc,pm,cdv,ct,oc,od,an,osl,lk,hcd,S,hm,hb⟩:=(fs f d hd).ex;have F:=IT (P:=P) (w:=w) (mg:=mg) (base:=base) (CX:=Bq P w) (k:=2*k+1) (sp:=cY T R (k+1) f) lk hcd S (λvs H Q E h=>?_) (λA outer s H vs Q E hr h=>?_)
  .refine⟨⟨_,F,hb⟩,λfd oc' od' osl' lk'=>?_⟩;have e:=lk.symm.trans lk'
   injection e with e
   injection e with e1 e2 e3 e4
   injection e3 with e3
   subst e3;exact F
  .simp only[cY,hd]at h;exact h.1
  .simp only[cY,hd]at h;refine⟨λD U H=>wB d.body ⟨T,R,cY T R k,true⟩ D (λ_=>E) U H,?_,h.2⟩;have hx:=w9 (P:=P) (w:=w) (K:=K) (mg:=mg) (base:=base) (N:=d.N) (qual:=qual) (scope:=scope) (f:=R.fad f) (cd:=cdv) (A:=A) (outer:=outer) (E:=E) (s:=s) (H:=H);refine sB (k:=2*k) d.body (G:=⟨T,R,cY T R k,true⟩) (S:=⟨T,scope,d.N⟩) { hK:=hK,hT:=rfl,sc:=rfl,N:=rfl,nd:=S.nd,pass:=nq hx,cm:=λ_=>rfl,room:=λ_=>hr,un:= ?_,tab:=tab,fns:=λf' d' hd'=>zU tab hK fs k f' d' hd',xok:=λ_=>hx,own:=PassesOwn.leaving,stk:=rfl,fr:=rfl,fn:=λ_=>rfl } hm;have:=hr.un;show(A.deeper _).units+200<cLine
   omega
abbrev ji (K:W.Frag)(n:Nat):Sp:=λvs H Q _=>∃ (a:Addr) (ns:List Int),vs=[.ref a]/\aS K H a (ns.map V.int)/\ns.length<=n/\∀ H',Q (.bl true) H'
variable {P:Program}
def Ax {w:World}{H:Hp}{s:Shared}{e:Value}{s':Shared}(h:Bq P w [] H s (λ_ _=>False) e s'):False:=by
 obtain⟨e,H',C,dx,fs,T,_,_,_,_,_,_,_,_,_,q⟩:=h;exact q
variable {fd:FuncData}{ps:List Str}
def Hq {K:W.Frag}(h:Binds K fd ps []):∀ j:Nat,∃ ds,Binds K fd ps ds/\Vals (([]:List V).drop j) ds:=λj=>⟨[],h,by simp;exact .nil⟩
def Ce {K:W.Frag}{ds:List Value}{T:Addr}{o:Obj}{items:Array Value}{c n:Nat}(hd:fd.defaults=.ref T)(ho:K.lookup T=some o)(hs:o.data=.seq items c)(hn:n+ds.length=ps.length)
  (h:∀ us:List Value,us.length=n->∃ k:Option (Array Value)->Sem (List (Str×Value)),bindArgs fd ⟨us,[]⟩=seqItems? fd.defaults >>= k/\k (some items)=pure (ps.zip (us++ds))):Binds K fd ps ds:=λs us X hl=>by
 obtain⟨k,h1,h2⟩:=h us (by rw[ci]at hl;omega);exact W.binds_K X hd ho hs h1 h2
def nA:∀ {vs:List V}{us:List Value}(j:Nat),Vals vs us->Vals (vs.drop j) (us.drop j)
 |_,_,0,h=>h
 |_,_,j+1,.nil=>by simp;exact .nil
 |_::_,_::_,j+1,.cons _ h=>by simpa using nA j h
def tJ {α β:Type} [BEq α] [LawfulBEq α] {x:α}{y:β}:∀ {l:List (α×β)},l.lookup x=some y->(x,y) ∈ l
 | [],h=>by simp at h
 |(a,b)::l,h=>by
  rw[lookup_cons]at h;cases e:x ==a with
  |true=>
   rw[e]at h;have:=beq_iff_eq.mp e;subst this
   injection h with h
   subst h;exact mo
  |false=>
   rw[e]at h;exact dL _ (tJ h)
def kR {β:Type} [BEq α] [LawfulBEq α] {P:α->β->Prop}{l:List (α×β)}(h:∀ p ∈ l,P p.1 p.2):∀ x y,l.lookup x=some y->P x y:=λx y e=>h (x,y) (tJ e)
def gz {β γ:Type} [BEq α] [LawfulBEq α] [BEq β] [LawfulBEq β] {P:α->β->γ->Prop}{l:List ((α×β)×γ)}(h:∀ p ∈ l,P p.1.1 p.1.2 p.2):∀ x y z,l.lookup (x,y)=some z->P x y z:=λx y z e=>h ((x,y),z) (tJ e)
def iJ  [BEq α] [LawfulBEq α] {P:α->Prop}{l:List α}(h:∀ p ∈ l,P p):∀ x,l.contains x=true->P x:=λx e=>h x (by simpa using e)
def BQ {β:Type} [BEq α] [LawfulBEq α] [BEq β] [LawfulBEq β] {P:α->β->Prop}{l:List (α×β)}(h:∀ p ∈ l,P p.1 p.2):∀ x y,l.contains (x,y)=true->P x y:=λx y e=>h (x,y) (by simpa using e)
abbrev uQ (P:Nat->ao->Prop):Nat->List ao->Prop
 |_,[]=>True
 |n,d::r=>P n d/\uQ P (n+1) r
def E9 {P:Nat->ao->Prop}:∀ {l:List ao}{n:Nat},uQ P n l->∀ f d,l[f]? =some d->P (n+f) d
 | [],_,_,f,d,e=>by simp at e
 |a::l,n,h,0,d,e=>by
  have:a=d:=by simpa using e
  subst this;exact h.1
 |a::l,n,h,f+1,d,e=>by
  have:=E9 h.2 f d (by simpa using e)
  rwa [Nat.add_assoc,Nat.add_comm 1 f]at this
def uF {P:Nat->ao->Prop}{l:List ao}(h:uQ P 0 l):∀ f d,l[f]? =some d->P f d:=λf d e=>by
 have:=E9 h f d e
 rwa [Nat.zero_add]at this
def Gf {w:World}{K:W.Frag}{mg:NJ}{base:Heap}{T:Tab}{R:Rt}(tab:BL K mg T R)(hK:R.K=K)(fs:∀ f d,T.fns[f]? =some d->xV K T (R.fad f) d) (k fl:Nat) (d:ao) (hd:T.fns[fl]? =some d)
  {oc:Value}{od:Option Addr}{osl:Array (Option Value)}(lk:K.lookup (R.fad fl)=some ⟨oc,od,.func fd,osl⟩) (h:∀ vs H Q E,ji K 63 vs H Q E->cY T R k fl vs H Q E):cZ P w K mg base (Bq P w) (2*k) (R.fad fl) fd d.ps (ji K 63):=
 ((zU tab hK fs k fl d hd).own _ _ _ _ lk).imp h
end L3
namespace L3
open PySem L2
abbrev mX:HO->HO
 | .lst _=>.lst []
 | .dK _=>.dK []
 | .dT _=>.dT []
 | .ins C dx _=>.ins C dx []
 | .exc C _ _ _=>.exc C none [] false
 |o=>o
abbrev kd:HO->Option String
 | .lst _=>some "list"
 | .tup _=>some "tuple"
 | .dK _=>some "dict"
 |_=>none
def vz (o:HO):kd (mX o)=kd o:=by cases o<;>rfl
abbrev j3 (H H':Hp):Prop:=∀ a o,H a=some o->∃ o',H' a=some o'/\mX o'=mX o
def j3.tup {H H':Hp}(g:j3 H H'){t:Addr}{xs:List V}(h:H t=some (.tup xs)):H' t=some (.tup xs):=by
 obtain⟨o',h1,h2⟩:=g t _ h;have key:∀ u:HO,mX u=.tup xs->u=.tup xs:=λu=>by cases u<;>intro e<;>first|exact e|cases e
 rw[key o' h2]at h1;exact h1
variable {H:Hp}{t:String}
def j3.ty {H':Hp}(g:j3 H H'){v:V}(h:tyName v H=some t):tyName v H'=some t:=by
 cases v<;>try exact h
 rename_i a;have h':(match H a with|some (.lst _)=>some "list"|some (.tup _)=>some "tuple"|some (.dK _)=>some "dict"|_=>none)=some t:=h;show(match H' a with|some (.lst _)=>some "list"|some (.tup _)=>some "tuple"|some (.dK _)=>some "dict"|_=>none)=some t;cases e:H a with
 |none=>rw[e]at h';cases h'
 |some o=>
  rw[e]at h';obtain⟨o',h1,h2⟩:=g a _ e;rw[h1];have key:kd o'=kd o:=by rw[<-vz o',<-vz o,h2]
  have k1:∀ u:HO,(match some u with|some (HO.lst _)=>some "list"|some (.tup _)=>some "tuple"|some (.dK _)=>some "dict"|_=>none)=kd u:=λu=>by cases u<;>rfl
  rw[k1]at h'⊢;rw[key];exact h'
variable {a:Addr}{xs:List V}
def yf (e:H a=some (.lst xs)):tyName (.ref a) H=some "list":=by
 show(match H a with|some (.lst _)=>some "list"|some (.tup _)=>some "tuple"|some (.dK _)=>some "dict"|_=>none)=_;rw[e]
def Ku (e:H a=some (.tup xs)):tyName (.ref a) H=some "tuple":=by
 show(match H a with|some (.lst _)=>some "list"|some (.tup _)=>some "tuple"|some (.dK _)=>some "dict"|_=>none)=_;rw[e]
def j3.upd {o o':HO}(h:H a=some o)(e:mX o'=mX o):j3 H (L2.upd H a o'):=λb u hb=>by
 by_cases z:b=a
 .subst z;rw[h]at hb;cases hb;exact⟨o',az,e⟩
 .exact⟨u,(ah z).trans hb,rfl⟩
def j3.new {o':HO}(h:H a=none):j3 H (L2.upd H a o'):=λb u hb=>⟨u,(ah λz=>by rw[z,h]at hb;cases hb).trans hb,rfl⟩
structure av where
 p:Hp->(Addr->Prop)->Prop
 st:∀ H H' D,p H D->(∀ a,D a->H' a=H a)->j3 H H'->p H' D
 up:∀ H D D',p H D->(∀ a,D a->D' a)->p H D'
abbrev pt (a:Addr)(o:HO):av:=⟨λH D=>D a/\H a=some o,λH H' D h k _=>⟨h.1,(k a h.1).trans h.2⟩,λH D D' h k=>⟨k a h.1,h.2⟩⟩
abbrev tu (t:Addr)(xs:List V):av:=⟨λH _=>H t=some (.tup xs),λH H' D h _ k=>k.tup h,λH D D' h _=>h⟩
abbrev tys (xs:List V):av:=⟨λH _=>∀ x ∈ xs,∃ t,tyName x H=some t,λH H' D h _ k x hx=>let⟨t,e⟩:=h x hx;⟨t,k.ty e⟩,λH D D' h _=>h⟩
abbrev pu (φ:Prop):av:=⟨λ_ _=>φ,λ_ _ _ h _ _=>h,λ_ _ _ h _=>h⟩
abbrev ex {α:Type}(f:α->av):av:=⟨λH D=>∃ x,(f x).p H D,λH H' D ⟨x,h⟩ k t=>⟨x,(f x).st H H' D h k t⟩,λH D D' ⟨x,h⟩ k=>⟨x,(f x).up H D D' h k⟩⟩
abbrev qm (A B:av):av:=⟨λH D=>∃ D1 D2:Addr->Prop,(∀ a,D1 a->D a)/\(∀ a,D2 a->D a)/\(∀ a,D1 a->D2 a->False)/\A.p H D1/\B.p H D2,
 λH H' D ⟨D1,D2,s1,s2,dj,h1,h2⟩ k t=>⟨D1,D2,s1,s2,dj,A.st H H' D1 h1 (λa z=>k a (s1 a z)) t,B.st H H' D2 h2 (λa z=>k a (s2 a z)) t⟩,
 λH D D' ⟨D1,D2,s1,s2,dj,h1,h2⟩ k=>⟨D1,D2,λa z=>k a (s1 a z),λa z=>k a (s2 a z),dj,h1,h2⟩⟩
abbrev bt:List av->Hp->(Addr->Prop)->Prop
 | [],_,_=>True
 |A::O,H,D=>∃ D1 D2:Addr->Prop,(∀ a,D1 a->D a)/\(∀ a,D2 a->D a)/\(∀ a,D1 a->D2 a->False)/\A.p H D1/\bt O H D2
abbrev Sep (O:List av)(H:Hp):Prop:=∃ D:Addr->Prop,(∀ a,D a->H a≠none)/\bt O H D
inductive ae (A:av):List av->List av->Prop where
 |e {O:List av}:ae A (A::O) O
 |t {B:av}{O Γ':List av}(h:ae A O Γ'):ae A (B::O) (B::Γ')
variable {g:List av}
section
variable {A B:av}{O Γ':List av}{H H':Hp}{a b p t:Addr}{o o':HO}{xs:List V}{φ:Prop}
def bt.st:∀ {O:List av}{H H':Hp}{D:Addr->Prop},bt O H D->(∀ a,D a->H' a=H a)->j3 H H'->bt O H' D
 | [],_,_,_,_,_,_=>True.intro
 |A::O,H,H',D,⟨D1,D2,s1,s2,dj,h1,h2⟩,k,t=>⟨D1,D2,s1,s2,dj,A.st H H' D1 h1 (λa z=>k a (s1 a z)) t,bt.st h2 (λa z=>k a (s2 a z)) t⟩
def bt.up:∀ {O:List av}{H:Hp}{D D':Addr->Prop},bt O H D->(∀ a,D a->D' a)->bt O H D'
 | [],_,_,_,_,_=>True.intro
 |A::O,H,D,D',⟨D1,D2,s1,s2,dj,h1,h2⟩,k=>⟨D1,D2,λa z=>k a (s1 a z),λa z=>k a (s2 a z),dj,h1,h2⟩
def Sep.nil:Sep [] H:=⟨λ_=>False,λ_ z=>z.elim,True.intro⟩
def bt.pull:∀ {O Γ':List av}{D:Addr->Prop},ae A O Γ'->bt O H D->bt (A::Γ') H D:=by
 intro O Γ' D h
 induction h generalizing D with
 |e=>exact λz=>z
 |t h ih=>
  rintro⟨D1,D2,s1,s2,dj,h1,h2⟩;obtain⟨E1,E2,t1,t2,ej,k1,k2⟩:=ih h2;refine⟨E1,λa=>D1 a\/E2 a,λa z=>s2 a (t1 a z),λa z=>z.elim (s1 a) λz=>s2 a (t2 a z),λa z1 z2=>?_,k1,D1,E2,λa z=>.inl z,λa z=>.inr z,λa z1 z2=>dj a z1 (t2 a z2),h1,k2⟩;rcases z2 with z2|z2
  .exact dj a z2 (t1 a z1)
  .exact ej a z1 z2
def Sep.pull (h:ae A O Γ')(s:Sep O H):Sep (A::Γ') H:=let⟨D,k,z⟩:=s;⟨D,k,bt.pull h z⟩
def bt.push:∀ {O Γ':List av}{D:Addr->Prop},ae A O Γ'->bt (A::Γ') H D->bt O H D:=by
 intro O Γ' D h
 induction h generalizing D with
 |e=>exact λz=>z
 |t h ih=>
  rintro⟨D1,D2,s1,s2,dj,h1,E1,E2,t1,t2,ej,k1,k2⟩;refine⟨E1,λa=>D1 a\/E2 a,λa z=>s2 a (t1 a z),λa z=>z.elim (s1 a) λz=>s2 a (t2 a z),λa z1 z2=>?_,k1,ih ⟨D1,E2,λa z=>.inl z,λa z=>.inr z,λa z1 z2=>dj a z1 (t2 a z2),h1,k2⟩⟩;rcases z2 with z2|z2
  .exact dj a z2 (t1 a z1)
  .exact ej a z1 z2
def Sep.push (h:ae A O Γ')(s:Sep (A::Γ') H):Sep O H:=let⟨D,k,z⟩:=s;⟨D,k,bt.push h z⟩
def Sep.drop (s:Sep (A::O) H):Sep O H:=let⟨D,k,D1,D2,s1,s2,dj,h1,h2⟩:=s;⟨D2,λa z=>k a (s2 a z),h2⟩
def Sep.at (s:Sep (pt a o::O) H):H a=some o:=let⟨D,k,D1,D2,s1,s2,dj,h1,h2⟩:=s;h1.2
def Sep.atT (s:Sep (tu t xs::O) H):H t=some (.tup xs):=let⟨D,k,D1,D2,s1,s2,dj,h1,h2⟩:=s;h1
def Sep.pure (s:Sep (pu φ::O) H):φ:=let⟨D,k,D1,D2,s1,s2,dj,h1,h2⟩:=s;h1
def Sep.uH (h:φ)(s:Sep O H):Sep (pu φ::O) H:=let⟨D,k,h2⟩:=s;⟨D,k,λ_=>False,D,λ_ z=>z.elim,λ_ z=>z,λ_ z _=>z,h,h2⟩
def Sep.Ja (h:H t=some (.tup xs))(s:Sep O H):Sep (tu t xs::O) H:=let⟨D,k,h2⟩:=s;⟨D,k,λ_=>False,D,λ_ z=>z.elim,λ_ z=>z,λ_ z _=>z,h,h2⟩
def Sep.ne (s:Sep (pt a o::pt b o'::O) H):a≠b:=by
 obtain⟨D,k,D1,D2,s1,s2,dj,h1,E1,E2,t1,t2,ej,k1,k2⟩:=s;rintro rfl;exact dj a h1.1 (t1 a k1.1)
def Sep.set (s:Sep (pt a o::O) H)(n:mX o'=mX o):Sep (pt a o'::O) (upd H a o'):=by
 obtain⟨D,k,D1,D2,s1,s2,dj,h1,h2⟩:=s;refine⟨D,λb z=>?_,D1,D2,s1,s2,dj,⟨h1.1,az⟩,bt.st h2 (λb z=>ah λe=>dj a h1.1 (e▸z)) (j3.upd h1.2 n)⟩
 by_cases e:b=a
 .rw[e,az];exact λz=>by cases z
 .rw[ah e];exact k b z
def Sep.new (s:Sep O H)(h:H p=none):Sep (pt p o::O) (upd H p o):=by
 obtain⟨D,k,z⟩:=s;have ne:∀ b,D b->b≠p:=λb hb e=>k b hb (e▸h)
 refine⟨λb=>b=p\/D b,λb hb=>?_,λb=>b=p,D,λb e=>.inl e,λb e=>.inr e,λb e z=>ne b z e,⟨rfl,az⟩,bt.st z (λb hb=>ah (ne b hb)) (j3.new h)⟩;rcases hb with rfl|hb
 .rw[az];exact λz=>by cases z
 .rw[ah (ne b hb)];exact k b hb
def Sep.iO (s:Sep O H)(h:H p=none):Sep (tu p xs::O) (upd H p (.tup xs)):=Sep.Ja az (Sep.drop (s.new (o:=.tup xs) h))
def Sep.toT (s:Sep (pt t (.tup xs)::O) H):Sep (tu t xs::O) H:=Sep.Ja s.at s.drop
def Sep.star:Sep (qm A B::O) H ↔ Sep (A::B::O) H:=by
 constructor
 .rintro⟨D,k,D1,D2,s1,s2,dj,⟨E1,E2,t1,t2,ej,k1,k2⟩,h2⟩;refine⟨D,k,E1,λa=>E2 a\/D2 a,λa z=>s1 a (t1 a z),λa z=>z.elim (λz=>s1 a (t2 a z)) (s2 a),λa z1 z2=>?_,k1,E2,D2,λa z=>.inl z,λa z=>.inr z,λa z1 z2=>dj a (t2 a z1) z2,k2,h2⟩;rcases z2 with z2|z2
  .exact ej a z1 z2
  .exact dj a (t1 a z1) z2
 .rintro⟨D,k,D1,D2,s1,s2,dj,h1,E1,E2,t1,t2,ej,k1,k2⟩;refine⟨D,k,λa=>D1 a\/E1 a,E2,λa z=>z.elim (s1 a) λz=>s2 a (t1 a z),λa z=>s2 a (t2 a z),λa z1 z2=>?_,⟨D1,E1,λa z=>.inl z,λa z=>.inr z,λa z1 z2=>dj a z1 (t1 a z2),h1,k1⟩,k2⟩;rcases z1 with z1|z1
  .exact dj a z1 (t2 a z2)
  .exact ej a z1 z2
def Sep.Ib {α:Type}{f:α->av}:Sep (ex f::O) H ↔ ∃ x,Sep (f x::O) H:=by
 constructor
 .rintro⟨D,k,D1,D2,s1,s2,dj,⟨x,h1⟩,h2⟩;exact⟨x,D,k,D1,D2,s1,s2,dj,h1,h2⟩
 .rintro⟨x,D,k,D1,D2,s1,s2,dj,h1,h2⟩;exact⟨D,k,D1,D2,s1,s2,dj,⟨x,h1⟩,h2⟩
def Sep.Kb (s:Sep (tys xs::O) H):∀ x ∈ xs,∃ t,tyName x H=some t:=let⟨D,k,D1,D2,s1,s2,dj,h1,h2⟩:=s;h1
def Sep.free (h:∀ D,A.p H D) (s:Sep O H):Sep (A::O) H:=let⟨D,k,h2⟩:=s;⟨D,k,λ_=>False,D,λ_ z=>z.elim,λ_ z=>z,λ_ z _=>z,h _,h2⟩
def Sep.IA (h:∀ x ∈ xs,∃ t,tyName x H=some t) (s:Sep O H):Sep (tys xs::O) H:=s.free λ_=>h
def Sep.get (s:Sep O H)(h:ae (pt a o) O Γ'):H a=some o:=(s.pull h).at
def Sep.fY (s:Sep O H)(h:ae (tu t xs) O Γ'):H t=some (.tup xs):=(s.pull h).atT
inductive aO (A B:av):List av->List av->Prop where
 |e {O:List av}:aO A B (A::O) (B::O)
 |t {C:av}{O Γ':List av}(h:aO A B O Γ'):aO A B (C::O) (C::Γ')
def ae.k1 {b:av}:ae A (b::A::g) (b::g):=.t .e
def ae.k2 {b c:av}:ae A (b::c::A::g) (b::c::g):=.t .k1
def ae.k3 {b c d:av}:ae A (b::c::d::A::g) (b::c::d::g):=.t .k2
def ae.j2 {b c:av}{f:List av}(h:ae A g f):ae A (b::c::g) (b::c::f):=.t (.t h)
def aO.k1 {b:av}:aO A B (b::A::g) (b::B::g):=.t .e
def aO.k2 {b c:av}:aO A B (b::c::A::g) (b::c::B::g):=.t .k1
def aO.k3 {b c d:av}:aO A B (b::c::d::A::g) (b::c::d::B::g):=.t .k2
def aO.bL (h:aO A B O Γ'):∃ Δ,ae A O Δ/\ae B Γ' Δ:=by
 induction h with
 |e=>exact⟨_,.e,.e⟩
 |t h ih=>
  obtain⟨Δ,h1,h2⟩:=ih;exact⟨_,.t h1,.t h2⟩
def Sep.put (s:Sep O H)(h:aO (pt a o) (pt a o') O Γ')(n:mX o'=mX o):Sep Γ' (upd H a o'):=by
 obtain⟨Δ,h1,h2⟩:=h.bL;exact((s.pull h1).set n).push h2
inductive Sub:List av->List av->Prop where
 |refl {O:List av}:Sub O O
 |nil {O:List av}:Sub [] O
 |cons {A:av}{O Γ' Δ:List av}(h:ae A O Δ) (r:Sub Γ' Δ):Sub (A::Γ') O
 |drop {A:av}{O Γ':List av}(r:Sub Γ' O):Sub Γ' (A::O)
def bt.sub:∀ {O Γ':List av}{D:Addr->Prop},Sub Γ' O->bt O H D->bt Γ' H D:=by
 intro O Γ' D h
 induction h generalizing D with
 |refl=>exact λz=>z
 |nil=>exact λ_=>True.intro
 |cons h r ih=>
  intro z;obtain⟨D1,D2,s1,s2,dj,h1,h2⟩:=bt.pull h z;exact⟨D1,D2,s1,s2,dj,h1,ih h2⟩
 |drop r ih=>
  rintro⟨D1,D2,s1,s2,dj,h1,h2⟩;exact(ih h2).up s2
def Sep.sub (h:Sub Γ' O)(s:Sep O H):Sep Γ' H:=let⟨D,k,z⟩:=s;⟨D,k,bt.sub h z⟩
end
@[irreducible] noncomputable def aa (T:Tab) (R:Rt) (k f:Nat):Sp:=cY T R k f
def rR:aa=cY:=by
 funext T R k f
 unfold aa
 rfl
variable {Q:VK}
def wc {T:Tab}{R:Rt}{k f:Nat}{d:ao}{vs:List V}{E:XK}(hk:0<k)(hd:T.fns[f]? =some d)(hl:vs.length=d.ps.length)
  (h:wB d.body ⟨T,R,aa T R (k-1),true⟩ { nx:=λ_ H'=>Q .non H',rt:=Q } (λ_=>E) (start d.N vs) H):aa T R k f vs H Q E:=by
 rw[rR]at h⊢;cases k with
 |zero=>exact absurd hk (by decide)
 |succ k=>
  show(match T.fns[f]? with|some d=>_|none=>False);rw[hd];exact⟨hl,h⟩
variable {c:Bool}
def cG {A B:Prop}(h1:c=true->A)(h2:c=false->B):iG c A B:=by
 unfold iG;cases c
 .exact h2 rfl
 .exact h1 rfl
def aL {A B:Prop}(h:c=true)(h1:A):iG c A B:=by subst h;unfold iG;exact h1
def ar {A B:Prop}(h:c=false)(h1:B):iG c A B:=by subst h;unfold iG;exact h1
def Fd {A B:Prop}(h:iG c B A):iG (!c) A B:=by
 unfold iG at h⊢;cases c
 .exact h
 .exact h
def ay {p:Prop} [Decidable p] {A B:Prop}(h1:p->A)(h2:¬ p->B):iG (decide p) A B:=cG (λh=>h1 (of_decide_eq_true h)) λh=>h2 (of_decide_eq_false h)
def aI {i j:Int}{A B:Prop}(h1:i=j->A)(h2:i≠j->B):iG (cV (.int i) (.int j)) A B:=by
 show iG (i ==j) A B;exact cG (λh=>h1 (by simpa using h)) λh=>h2 (by simpa using h)
variable {dx:Addr}{n:Nat}{fs:List (Str×V)}{es:List V}{R:Hp->Prop}{fr:Bool}
section
variable {K:W.Frag}{G:Gx}{O Γ':List av}{H:Hp}{Q:VK}{a p:Addr}{o:HO}{xs ys:List V}{v w:V}{i:Int}{f:Str}
def al (s:Sep O H)(h:∀ p H',Sep (pt p o::O) H'->Q (.ref p) H'):∀ p,H p=none->Q (.ref p) (upd H p o):=λp hp=>h p _ (s.new hp)
def iw {C x:Addr}(s:Sep O H)(h1:H x=none)(h2:H dx=none)(h3:dx≠x):Sep (pt x (.ins C dx [])::pt dx (.own x)::O) (upd (upd H dx (.own x)) x (.ins C dx [])):=(s.new h2).new (by rw[ah h3.symm];exact h1)
def fV {dx:Option Addr}{E:XK}(s:Sep O H)(r:aO (pt a (.exc (G.R.cad n) dx fs true)) (pt a (.exc (G.R.cad n) dx fs false)) O Γ')(ho:G.T.xc.contains n=true)(h:∀ H',Sep Γ' H'->E a H'):
  ∃ b i dx fs,V.ref a=.ref b/\H b=some (.exc (G.R.cad i) dx fs true)/\G.T.xc.contains i=true/\E b (upd H b (.exc (G.R.cad i) dx fs false)):=by
 obtain⟨Δ,h1,h2⟩:=r.bL;exact⟨a,n,dx,fs,rfl,s.get h1,ho,h _ (s.put r rfl)⟩
def M8 (s:Sep O H)(h:∀ p H',Sep (tu p xs::O) H'->Q (.ref p) H'):∀ p,H p=none->Q (.ref p) (upd H p (.tup xs)):=λp hp=>h p _ (s.iO hp)
def GL (s:Sep O H)(hl:es.length<=10000)(h:∀ p H',Sep (pt p (.lst es)::O) H'->Q (.ref p) H'):BO es H Q:=by unfold BO;exact⟨hl,al s h⟩
def Hf (s:Sep O H)(hl:es.length<=10000)(h:∀ p H',Sep (pt p (.tup es)::O) H'->Q (.ref p) H'):iO es H Q:=by unfold iO;exact⟨hl,al s h⟩
def aM (e:H a=some (.lst xs))(hv:lH xs i=some v)(q:Q v H):sj K (.ref a) (.int i) H Q:=by unfold sj;exact .inl ⟨xs,i,v,rfl,.inl (aS.of e),hv,q⟩
def dz (e:H a=some (.tup xs))(hv:lH xs i=some v)(q:Q v H):sj K (.ref a) (.int i) H Q:=by unfold sj;exact .inl ⟨xs,i,v,rfl,.inr (a8.of e),hv,q⟩
def fO {j:Nat}(s:Sep O H)(r:aO (pt a (.lst xs)) (pt a (.lst ys)) O Γ')(hj:yB xs.length i=some j)(hx:xs.set j v=ys)(h:∀ H',Sep Γ' H'->R H'):hX (.ref a) (.int i) v H R:=by
 obtain⟨Δ,h1,h2⟩:=r.bL;subst hx;unfold hX;exact .inl ⟨xs,i,j,rfl,s.get h1,hj,h _ (s.put r rfl)⟩
def Ji (e:H a=some (.lst xs))(h0:0<=i)(hv:xs[i.toNat]? =some v)(q:Q v H):Aq K (.ref a) (.int i) H Q:=by unfold Aq;exact⟨xs,v,aS.of e,h0,hv,q⟩
def cK (e:H a=some (.ins (G.R.cad n) dx fs))(ho:G.T.oc.contains n=true)(hn:G.T.na.contains (n,f)=true)(hl:fs.lookup f=some v)(q:Q v H):ux G f (.ref a) H Q:=by unfold ux;exact⟨a,n,fs,v,rfl,.inl ⟨ho,dx,e⟩,hn,hl,q⟩
def JH (e:H a=some (.exc (G.R.cad n) (some dx) fs fr))(ho:G.T.xc.contains n=true)(hn:G.T.na.contains (n,f)=true)(hl:fs.lookup f=some v)(q:Q v H):ux G f (.ref a) H Q:=by unfold ux;exact⟨a,n,fs,v,rfl,.inr ⟨ho,dx,fr,e⟩,hn,hl,q⟩
def LS {fs':List (Str×V)}(s:Sep O H)(r:aO (pt a (.ins (G.R.cad n) dx fs)) (pt a (.ins (G.R.cad n) dx fs')) O Γ')(ho:G.T.oc.contains n=true)(hn:G.T.na.contains (n,f)=true)(hl:fs.length<1000)(hf:cN f v fs=fs')(h:∀ H',Sep Γ' H'->R H'):C7 G f (.ref a) v H R:=by
 obtain⟨Δ,h1,h2⟩:=r.bL;subst hf;unfold C7;exact⟨a,n,rfl,hn,.inl ⟨dx,fs,ho,s.get h1,hl,h _ (s.put r rfl)⟩⟩
def Je {d:Addr}{fs':List (Str×V)}(s:Sep O H)(r:aO (pt a (.exc (G.R.cad n) (some d) fs fr)) (pt a (.exc (G.R.cad n) (some d) fs' fr)) O Γ')(ho:G.T.xc.contains n=true)(hn:G.T.na.contains (n,f)=true)(hl:fs.length<1000)(hf:cN f v fs=fs')(h:∀ H',Sep Γ' H'->R H'):C7 G f (.ref a) v H R:=by
 obtain⟨Δ,h1,h2⟩:=r.bL;subst hf;unfold C7;exact⟨a,n,rfl,hn,.inr (.inl ⟨d,fs,fr,ho,s.get h1,hl,h _ (s.put r rfl)⟩)⟩
def AG (s:Sep (pt a (.exc (G.R.cad n) none [] fr)::O) H)(ho:G.T.xc.contains n=true)(hn:G.T.na.contains (n,f)=true)(h:∀ d H',Sep (pt a (.exc (G.R.cad n) (some d) [(f,v)] fr)::pt d (.own a)::O) H'->R H'):C7 G f (.ref a) v H R:=by
 unfold C7;refine⟨a,n,rfl,hn,.inr (.inr ⟨fr,ho,s.at,λd hd=>h d _ ?_⟩)⟩;exact((s.new (o:=.own a) hd).pull (.t .e)).set rfl
def cS {n:String}{b:Bool}(ht:tyName v H=some t)(hb:G.T.subB.lookup (t,n)=some b)(q:Q (.bl b) H):mK G (.ty n) v H Q:=by unfold mK;exact .inl ⟨t,b,ht,hb,q⟩
def Jc {j:Nat}{b:Bool}(e:H a=some (.ins (G.R.cad j) dx fs))(ho:G.T.oc.contains j=true)(hb:G.T.sub.lookup (j,n)=some b)(q:Q (.bl b) H):mK G (.own n) (.ref a) H Q:=by unfold mK;exact .inr ⟨a,j,b,rfl,.inl ⟨ho,dx,fs,e⟩,hb,q⟩
def iD (e:H a=some (.lst xs))(q:Q (.int xs.length) H):mh G .len [.ref a] H Q:=by unfold mh;exact⟨_,xs.length,rfl,.inl ⟨xs,aS.of e,rfl⟩,q⟩
def uN (e:H a=some (.tup xs))(q:Q (.int xs.length) H):mh G .len [.ref a] H Q:=by unfold mh;exact⟨_,xs.length,rfl,.inr ⟨xs,a8.of e,rfl⟩,q⟩
def Fj {j:Int}(hc:G.cm=true)(q:Q (.int (min i j)) H):mh G .min [.int i,.int j] H Q:=by
 unfold mh;refine⟨hc,.inl ⟨i,j,rfl,?_⟩⟩;have e:(if j<i then j else i)=min i j:=by split<;>omega
 rw[e];exact q
def Hv {j:Int}(hc:G.cm=true)(q:Q (.int (max i j)) H):mh G .max [.int i,.int j] H Q:=by
 unfold mh;refine⟨hc,.inl ⟨i,j,rfl,?_⟩⟩;have e:(if j>i then j else i)=max i j:=by split<;>omega
 rw[e];exact q
def dq (h0:0<=i)(h1:i<n):yB n i=some i.toNat:=by
 unfold yB;rw[if_pos h0,if_pos h1]
def uV (s:Sep O H)(e:H a=some (.lst xs))(h:∀ p H',Sep (pt p (.lst xs)::O) H'->Q (.ref p) H'):mh G .list [.ref a] H Q:=by unfold mh;exact⟨_,xs,rfl,.inl (aS.of e),al s h⟩
def Fq (s:Sep O H)(e:H a=some (.lst xs))(h:∀ p H',Sep (tu p xs::O) H'->Q (.ref p) H'):mh G .tuple [.ref a] H Q:=by unfold mh;exact⟨_,xs,rfl,.inl ⟨aS.of e,M8 s h⟩⟩
def rm (s:Sep O H){b:Addr}(e1:H a=some (.lst xs))(e2:H b=some (.lst ys))(hl:xs.length+ys.length<=100000)(h:∀ p H',Sep (pt p (.lst (xs++ys))::O) H'->Q (.ref p) H'):Ct K a b H Q:=by unfold Ct;exact .inl ⟨xs,ys,e1,e2,hl,al s h⟩
def Kn (s:Sep O H)(e:H a=some (.lst xs))(h1: -1000<=i)(h2:i<=1000)(h3:xs.length<=1000)(h:∀ p H',Sep (pt p (.lst (sK i.toNat xs).flatten)::O) H'->Q (.ref p) H'):DP K a i H Q:=by unfold DP;exact .inl ⟨xs,e,h1,h2,h3,al s h⟩
def qP {y:V}(s:Sep O H)(r:aO (pt a (.lst xs)) (pt a (.lst (xs++[y]))) O Γ')(hl:xs.length<=10000)(h:∀ H',Sep Γ' H'->Q .non H'):AD .append a xs [y] H Q:=by unfold AD;exact⟨_,rfl,hl,h _ (s.put r rfl)⟩
def LG {lo hi:Option Int}(s:Sep O H)(e:aS K H a xs)(h:∀ p H',Sep (pt p (.lst (dQ xs lo hi))::O) H'->Q (.ref p) H'):E6 K (.ref a) lo hi H Q:=by unfold E6;exact .inl ⟨xs,e,al s h⟩
def Ju {R:It->Hp->Prop}(e:H a=some (.lst xs))(h:R (Ij K a) H):uz K a H R:=by unfold uz;exact .inl ⟨⟨xs,aS.of e⟩,h⟩
def CL {R:It->Hp->Prop}(e:H a=some (.lst xs))(h:R (IH a) H):DG a H R:=by unfold DG;exact⟨⟨xs,e⟩,h⟩
def HB {lo hi:Option Int}(s:Sep O H)(e:H a=some (.lst xs))(h:∀ p H',Sep (pt p (.lst (dQ xs lo hi))::O) H'->Q (.ref p) H'):E6 K (.ref a) lo hi H Q:=by unfold E6;exact .inl ⟨xs,aS.of e,al s h⟩
end
variable {x:V}
section
variable {K:W.Frag}{H:Hp}{Q:VK}
def yI (f:aJ x=true):cV x x=true:=by
 cases x<;>simp[aJ]at f<;>simp[cV]
def Cp {y:V}(fx:aJ x=true)(fy:aJ y=true)(q:Q (.bl (cV x y)) H):gq K false x y H Q:=by unfold gq;exact⟨0,_,.flat fx fy,by decide,.inl fx,q⟩
def BU {y:V}(fx:aJ x=true)(fy:aJ y=true)(q:Q (.bl (!cV x y)) H):gq K true x y H Q:=by unfold gq;exact⟨0,_,.flat fx fy,by decide,.inl fx,q⟩
def sZ {b:Addr}(h:gm K H n (.ref a) (.ref b) c)(hn:n<=100)(ne:a≠b)(q:Q (.bl c) H):gq K false (.ref a) (.ref b) H Q:=by unfold gq;exact⟨n,c,h,hn,.inr (.inl λz=>ne (V.ref.inj z)),q⟩
def ue {b:Addr}(h:gm K H n (.ref a) (.ref b) c)(hn:n<=100)(ne:a≠b)(q:Q (.bl (!c)) H):gq K true (.ref a) (.ref b) H Q:=by unfold gq;exact⟨n,c,h,hn,.inr (.inl λz=>ne (V.ref.inj z)),q⟩
def kH (h:tyName x H=some t):gm K H (n+1) x x true:=by
 have key:aJ x=true->gm K H (n+1) x x true:=λf=>by
  have:=gm.flat (K:=K) (H:=H) (n:=n+1) f f
  rwa [yI f]at this
 cases x<;>first|exact key rfl|exact .same _|(cases h)
def all_true (n:Nat):(List.range n).all (λ_=>true)=true:=by simp
def rf {b:Addr}(h1:H a=some (.lst xs))(h2:H b=some (.lst xs))(h:∀ x ∈ xs,∃ t,tyName x H=some t):gm K H (n+2) (.ref a) (.ref b) true:=by
 have:=gm.ll (K:=K) (n:=n) (e:=λ_=>true) (aS.of h1) (aS.of h2) rfl λj x y e1 e2=>by
  rw[e1]at e2;cases e2;obtain⟨t,ht⟩:=h x (cr e1);exact kH ht
 rwa [all_true]at this
def zH {b:Addr}{ys:List V}(h1:H a=some (.tup xs))(h2:H b=some (.tup ys))(hl:xs.length=ys.length)(h:∀ (j:Nat) x y,xs[j]? =some x->ys[j]? =some y->gm K H (n+1) x y true):gm K H (n+2) (.ref a) (.ref b) true:=by
 have:=gm.tt (K:=K) (n:=n) (e:=λ_=>true) (a8.of h1) (a8.of h2) h;rw[all_true,hl]at this;simpa using this
end
variable {rest:St}{te:TE}
section
variable {D:Ends}{F:(St->Hp->Prop)->V->St->Hp->Prop}{U:St}{H:Hp}
def kj {lo:Int}(I:Nat->St->Hp->Prop)(h0:I 0 U H)(hs:∀ j U H,j<n->I j U H->F (I (j+1)) (.int (lo+j)) U H) (hd:∀ U H,I n U H->D.nx U H):mN (G0 lo n) D F U H:=by
 unfold mN;refine⟨λi m U H=>m=n-i/\i<=n/\I i U H,⟨n,by simp,Nat.zero_le _,h0⟩,λi m U H ⟨e,hi,h⟩=>?_⟩
 by_cases hlt:i<n
 .refine .inr ⟨hlt,I (i+1),λσ' H' h'=>⟨n-(i+1),by omega,rfl,hlt,h'⟩,λx H' y=>?_⟩;obtain⟨rfl,rfl⟩:=y;exact hs i U H' hlt h
 .have:i=n:=by omega
  subst this;exact .inl ⟨re _,hd U H h⟩
def bT {K:W.Frag}(I:Nat->St->Hp->Prop)(h0:I 0 U H)(hl:∀ j U H,I j U H->aS K H a xs)
  (hs:∀ j x U H,xs[j]? =some x->I j U H->F (I (j+1)) x U H) (hd:∀ U H,I xs.length U H->D.nx U H):mN (Ij K a) D F U H:=by
 unfold mN;refine⟨λi m U H=>m=xs.length-i/\i<=xs.length/\I i U H,⟨xs.length,by simp,Nat.zero_le _,h0⟩,λi m U H ⟨e,hi',h⟩=>?_⟩
 by_cases hlt:i<xs.length
 .refine .inr ⟨⟨xs,xs[i],hl i U H h,li hlt⟩,I (i+1),λσ' H' h'=>⟨xs.length-(i+1),by omega,rfl,hlt,h'⟩,λx H' y=>?_⟩;obtain⟨rfl,hy⟩:=y;exact hs i x U H' (hy xs (hl i U H' h)) h
 .have:i=xs.length:=by omega
  subst this;exact .inl ⟨⟨xs,hl _ U H h,re _⟩,hd U H h⟩
def kc (I:Nat->St->Hp->Prop)(h0:I 0 U H)(hl:∀ j U H,I j U H->H a=some (.lst xs)) (hs:∀ j x T U H,xs[j]? =some x->I j U H->H T=none->F (I (j+1)) (.ref T) U (upd H T (.tup [.int j,x])))
  (hd:∀ U H,I xs.length U H->D.nx U H):mN (IH a) D F U H:=by
 unfold mN;refine⟨λi m U H=>m=xs.length-i/\i<=xs.length/\I i U H,⟨xs.length,by simp,Nat.zero_le _,h0⟩,λi m U H ⟨e,hi',h⟩=>?_⟩
 by_cases hlt:i<xs.length
 .refine .inr ⟨⟨xs,xs[i],hl i U H h,li hlt⟩,I (i+1),λσ' H' h'=>⟨xs.length-(i+1),by omega,rfl,hlt,h'⟩,λx H' y=>?_⟩;obtain⟨T,z,hT,rfl,rfl,hy⟩:=y;exact hs i z T U H (hy xs (hl i U H h)) h hT
 .have:i=xs.length:=by omega
  subst this;exact .inl ⟨⟨xs,hl _ U H h,re _⟩,hd U H h⟩
@[irreducible] noncomputable def pJ (I:Addr->List V->Hp->Prop) (D:Addr) (ys:List V) (rest:St) (x:Option V):VK:=λv H3=>∃ zs,H3 D=some (.lst zs)/\zs.length<bn/\∃ ys2 x2,x::rest=x2::rest/\ys2.length=ys.length+1/\I D ys2 (upd H3 D (.lst (zs++[v])))
def pJ.mk {I:Addr->List V->Hp->Prop}{D:Addr}{ys:List V}{x:Option V}{v:V}{H3:Hp}(h1:H3 D=some (.lst ys))(hl:ys.length<=999)(h2:I D (ys++[v]) (upd H3 D (.lst (ys++[v])))):pJ I D ys rest x v H3:=
 by unfold pJ;exact⟨ys,h1,cx nofun,ys++[v],x,rfl,by simp,h2⟩
def pW (hn:n<=1000)(I:Addr->List V->Hp->Prop)(h0:∀ D,H D=none->I D [] (upd H D (.lst [])))
  (hs:∀ D ys H',ys.length<n->I D ys H'->te (some (.int (0+(ys.length:Nat)))::rest) H' (pJ I D ys rest (some (.int (0+(ys.length:Nat))))))
  (hd:∀ D ys H',ys.length=n->I D ys H'->Q (.ref D) H'):AY te (G0 0 n) (none::rest) H Q:=by
 unfold AY;intro D hD;refine⟨λi m σ' H'=>m=n-i/\i<=n/\∃ ys x0,σ'=x0::rest/\ys.length=i/\I D ys H',⟨n,by simp,Nat.zero_le _,[],none,rfl,rfl,h0 D hD⟩,λi m σ' H' ⟨e,hi,ys,x0,e1,e2,h⟩=>?_⟩;subst e1 e2
 by_cases hlt:ys.length<n
 .refine .inr ⟨hlt,λσ2 H2=>∃ ys2 x2,σ2=x2::rest/\ys2.length=ys.length+1/\I D ys2 H2,λσ2 H2 ⟨ys2,x2,f1,f2,f3⟩=>⟨n-(ys.length+1),by omega,rfl,hlt,ys2,x2,f1,f2,f3⟩,λx H'' y=>?_⟩;obtain⟨e1,e2⟩:=y;subst e1 e2;have z:=hs D ys H'' hlt h;unfold pJ at z;exact z
 .have:ys.length=n:=by omega
  exact .inl ⟨Nat.le_of_eq this.symm,hd D ys H' this h⟩
def lr {K:W.Frag}(hn:xs.length<=1000)(I:Addr->List V->Hp->Prop)(hl:∀ D ys H,I D ys H->aS K H a xs) (h0:∀ D,H D=none->I D [] (upd H D (.lst [])))
  (hs:∀ D ys x H',xs[ys.length]? =some x->I D ys H'->te (some x::rest) H' (pJ I D ys rest (some x)))
  (hd:∀ D ys H',ys.length=xs.length->I D ys H'->Q (.ref D) H'):AY te (Ij K a) (none::rest) H Q:=by
 unfold AY;intro D hD;refine⟨λi m σ' H'=>m=xs.length-i/\i<=xs.length/\∃ ys x0,σ'=x0::rest/\ys.length=i/\I D ys H',⟨xs.length,by simp,Nat.zero_le _,[],none,rfl,rfl,h0 D hD⟩,λi m σ' H' ⟨e,hi,ys,x0,e1,e2,h⟩=>?_⟩;subst e1 e2
 by_cases hlt:ys.length<xs.length
 .refine .inr ⟨⟨xs,xs[ys.length],hl D ys H' h,li hlt⟩,λσ2 H2=>∃ ys2 x2,σ2=x2::rest/\ys2.length=ys.length+1/\I D ys2 H2,λσ2 H2 ⟨ys2,x2,f1,f2,f3⟩=>⟨xs.length-(ys.length+1),by omega,rfl,hlt,ys2,x2,f1,f2,f3⟩,λx H'' y=>?_⟩;obtain⟨e1,hy⟩:=y;subst e1;have z:=hs D ys x H'' (hy xs (hl D ys H'' h)) h;unfold pJ at z;exact z
 .have:ys.length=xs.length:=by omega
  exact .inl ⟨⟨xs,hl D ys H' h,Nat.le_of_eq this.symm⟩,hd D ys H' this h⟩
def zl {K:W.Frag}{G:Gx}{bs:List Bool}(hc:G.cm=true)(e:H a=some (.lst (bs.map V.bl)))(q:Q (.bl (bs.all id)) H):mh G .all [.ref a] H Q:=by unfold mh;exact⟨hc,_,bs,rfl,aS.of e,q⟩
def iN (q:Q (.bl (decide (x=.non))) H):By false x .non H Q:=by unfold By;exact q
def bq (q:Q (.bl (!decide (x=.non))) H):By true x .non H Q:=by unfold By;exact q
def fT {K:W.Frag}(e:a8 K H a xs)(fx:aJ x=true)(fs:xs.all aJ=true)(q:Q (.bl (Ip x xs)) H):Kz K false x (.ref a) H Q:=by unfold Kz;exact .inl ⟨xs,.inr e,fx,fs,q⟩
end
variable {kvs:List (Key×V)}
section
variable {K:W.Frag}{G:Gx}{O Γ':List av}{H:Hp}{Q:VK}{a b:Addr}{xs ys:List V}{v:V}
def Hx {tp1 tp2:Bool}{R:It->Hp->Prop}(h1:Sq K tp1 H a xs)(h2:Sq K tp2 H b ys)(h:R (Ik K tp1 a tp2 b) H):CS K (.ref a) (.ref b) H R:=by unfold CS;exact⟨tp1,a,tp2,b,rfl,rfl,⟨xs,h1⟩,⟨ys,h2⟩,h⟩
def uT {D:Ends}{F:(St->Hp->Prop)->V->St->Hp->Prop}{U:St}{tp1 tp2:Bool}(I:Nat->St->Hp->Prop)(hn:xs.length=ys.length)(h0:I 0 U H)(hl:∀ j U H,I j U H->Sq K tp1 H a xs/\Sq K tp2 H b ys)
  (hs:∀ j x y T U H,xs[j]? =some x->ys[j]? =some y->I j U H->H T=none->F (I (j+1)) (.ref T) U (upd H T (.tup [x,y]))) (hd:∀ U H,I xs.length U H->D.nx U H):mN (Ik K tp1 a tp2 b) D F U H:=by
 unfold mN;refine⟨λi m U H=>m=xs.length-i/\i<=xs.length/\I i U H,⟨xs.length,by simp,Nat.zero_le _,h0⟩,λi m U H ⟨e,hi',h⟩=>?_⟩
 by_cases hlt:i<xs.length
 .obtain⟨g1,g2⟩:=hl i U H h;refine .inr ⟨⟨xs,ys,xs[i],ys[i]'(hn▸hlt),g1,g2,li hlt,li (hn▸hlt)⟩,I (i+1),λσ' H' h'=>⟨xs.length-(i+1),by omega,rfl,hlt,h'⟩,λx H' y=>?_⟩;obtain⟨T,z,z',hT,rfl,rfl,hy,hy'⟩:=y;exact hs i z z' T U H (hy xs g1) (hy' ys g2) h hT
 .have:i=xs.length:=by omega
  subst this;obtain⟨g1,g2⟩:=hl _ U H h;exact .inl ⟨⟨xs,ys,g1,g2,.inl (re _)⟩,hd U H h⟩
def Jf {tp1 tp2:Bool}{ks:List Key}(s:Sep O H)(h1:Sq K tp1 H a (ks.map kV))(h2:Sq K tp2 H b ys)(hn:ks.Nodup)(hl:ks.length=ys.length)(hz:ks.length<=1000)(h:∀ p H',Sep (pt p (.dK (ks.zip ys))::O) H'->Q (.ref p) H'):IQ K (.ref a) (.ref b) H Q:=by unfold IQ;exact⟨tp1,a,tp2,b,ks,ys,rfl,rfl,h1,h2,hn,hl,hz,al s h⟩
def pH {k:Key}(e:H a=some (.dK kvs))(hv:kb kvs k=some v)(q:Q v H):sj K (.ref a) (kV k) H Q:=by unfold sj;exact .inr ⟨v,.inl ⟨kvs,k,.inl e,rfl,hv.symm⟩,q⟩
def vg {kvs':List (Key×V)}{k:Key}(s:Sep O H)(r:aO (pt a (.dK kvs)) (pt a (.dK kvs')) O Γ')(hl:kvs.length<=10000)(hx:putK kvs k v=kvs')(h:∀ H',Sep Γ' H'->R H'):hX (.ref a) (kV k) v H R:=by
 obtain⟨Δ,h1,h2⟩:=r.bL;subst hx;unfold hX;exact .inr ⟨_,.inl ⟨kvs,k,s.get h1,rfl,Nat.lt_of_le_of_lt hl (by decide),rfl⟩,h _ (s.put r rfl)⟩
def vm (s:Sep O H)(e:H a=some (.dK kvs))(h:∀ p H',Sep (pt p (.dK kvs)::O) H'->Q (.ref p) H'):mh G .dict [.ref a] H Q:=by unfold mh;exact⟨_,kvs,rfl,e,al s h⟩
def F0 (hn:xs.length<=1000)(I:Addr->List V->Hp->Prop)(hl:∀ D ys H,I D ys H->a8 K H a xs) (h0:∀ D,H D=none->I D [] (upd H D (.lst [])))
  (hs:∀ D ys x H',xs[ys.length]? =some x->I D ys H'->te (some x::rest) H' (pJ I D ys rest (some x)))
  (hd:∀ D ys H',ys.length=xs.length->I D ys H'->Q (.ref D) H'):AY te (Iu K a) (none::rest) H Q:=by
 unfold AY;intro D hD;refine⟨λi m σ' H'=>m=xs.length-i/\i<=xs.length/\∃ ys x0,σ'=x0::rest/\ys.length=i/\I D ys H',⟨xs.length,by simp,Nat.zero_le _,[],none,rfl,rfl,h0 D hD⟩,λi m σ' H' ⟨e,hi,ys,x0,e1,e2,h⟩=>?_⟩;subst e1 e2
 by_cases hlt:ys.length<xs.length
 .refine .inr ⟨⟨xs,xs[ys.length],hl D ys H' h,li hlt⟩,λσ2 H2=>∃ ys2 x2,σ2=x2::rest/\ys2.length=ys.length+1/\I D ys2 H2,λσ2 H2 ⟨ys2,x2,f1,f2,f3⟩=>⟨xs.length-(ys.length+1),by omega,rfl,hlt,ys2,x2,f1,f2,f3⟩,λx H'' y=>?_⟩;obtain⟨e1,hy⟩:=y;subst e1;have z:=hs D ys x H'' (hy xs (hl D ys H'' h)) h;unfold pJ at z;exact z
 .have:ys.length=xs.length:=by omega
  exact .inl ⟨⟨xs,hl D ys H' h,Nat.le_of_eq this.symm⟩,hd D ys H' this h⟩
def Ki {R:It->Hp->Prop}(e:a8 K H a xs)(h:R (Iu K a) H):uz K a H R:=by unfold uz;exact .inr ⟨⟨xs,e⟩,h⟩
def Lf {C:Addr}(s:Sep O H)(h:∀ x dx H',Sep (pt x (.ins C dx [])::pt dx (.own x)::O) H'->Q (.ref x) H'):AO C H Q:=by unfold AO;exact λx dx h1 h2 h3=>h x dx _ (iw s h1 h2 h3)
end
end L3
namespace L3
open PySem PySem.Spec PySem.W L2
variable {ps:List Str}
def Ao:∀ {us:List Value}{n:Str},us.length=ps.length->n ∈ ps->((ps.zip us).lookup n).isNone=false:=by
 induction ps with
 |nil=>intro us n _ h;cases h
 |cons p ps ih=>
  intro us n hl h;cases us with
  |nil=>cases hl
  |cons u us=>
   rw[zip_cons_cons,lookup_cons];cases e:n ==p with
   |true=>rfl
   |false=>
    rcases nb.mp h with rfl|h
    .rw[beq_self_eq_true]at e;cases e
    .exact ih (Nat.succ.inj hl) h
def tV:∀ {ps:List Str}{us:List Value},ps.Nodup->us.length=ps.length->∀ {L:List (Str×Value)},(∀ n ∈ ps,L.lookup n=(ps.zip us).lookup n)->ps.filterMap (λn=>(L.lookup n).map (n,·))=ps.zip us
 | [],us,_,_,L,_=>rfl
 |p::ps,[],_,hl,L,_=>by cases hl
 |p::ps,u::us,nd,hl,L,hL=>by
  have h0:L.lookup p=some u:=by rw[hL p mo,zip_cons_cons,lookup_cons,beq_self_eq_true]
  rw[filterMap_cons,h0,zip_cons_cons];show(p,u)::_=_;rw[tV (nodup_cons.mp nd).2 (Nat.succ.inj hl) (L:=L)];intro n hn;rw[hL n (dL _ hn),zip_cons_cons,lookup_cons];have:(n ==p)=false:=by
   cases e:n ==p with
   |false=>rfl
   |true=>
    have:=beq_iff_eq.mp e;subst this;exact absurd hn (nodup_cons.mp nd).1
  rw[this]
variable {fd:FuncData}
def qJ (nd:ps.Nodup)(h1:fd.params.posonlyargs=[])(h2:fd.params.args.map (·.arg)=ps)(h3:fd.params.kwonlyargs=[])(h4:fd.params.vararg=none)(h5:fd.params.kwarg=none)(h6:fd.defaults=.none)(us:List Value)(hl:us.length=ps.length):
  bindArgs fd ⟨us,[]⟩=pure (ps.zip us):=by
 obtain⟨name,qual,⟨po,as,va,ko,kd,ka,df⟩,body,scope,glo,cg,dV,kV,doc,pm,an,cdv,ct,bu⟩:=fd;dsimp only at h1 h2 h3 h4 h5 h6;subst h1 h2 h3 h4 h5 h6;generalize hps:as.map (·.arg)=ps at nd hl⊢;have e1:seqItems? (Value.none)=(pure none:Sem (Option (Array Value))):=rfl;have e2:∀ f:Str->Bool,(∀ n ∈ ps,f n=false)->ps.filter f=[]:=λf h=>List.filter_eq_nil_iff.mpr λa ha=>by rw[h a ha];decide
 have e3:¬ (us.length>ps.length):=by omega
 have e4:=e2 (λn=>((ps.zip us).lookup n).isNone) λn hn=>Ao hl hn
 have e5:=tV nd hl (L:=ps.zip us) λ_ _=>rfl
 unfold bindArgs;dsimp only[List.map_nil,nil_append,append_nil];rw[hps];simp[e1,e3,e4,e5]
abbrev gD (S:List (Str×Value))(x:Str×Value):List (Str×Value):=if(S.lookup x.1).isNone=true then S++[x] else S
def EV:∀ {L:List (Str×Value)}{S:List (Str×Value)},(∀ x ∈ L,(S.lookup x.1).isNone=false)->L.foldl gD S=S
 | [],_,_=>rfl
 |x::L,S,h=>by
  have h0:gD S x=S:=by
   unfold gD;rw[if_neg (by rw[h x mo];decide)]
  rw[foldl_cons,h0];exact EV λy hy=>h y (dL _ hy)
def Ei:∀ {L:List (Str×Value)}{S:List (Str×Value)},(L.map (·.1)).Nodup->(∀ x ∈ L,S.lookup x.1=none)->L.foldl gD S=S++L
 | [],S,_,_=>by rw[append_nil];rfl
 |x::L,S,nd,h=>by
  have h0:gD S x=S++[x]:=by
   unfold gD;rw[if_pos (by rw[h x mo];rfl)]
  rw[map_cons]at nd;rw[foldl_cons,h0,Ei (nodup_cons.mp nd).2]
  .rw[le];rfl
  .intro y hy;have hne:(y.1 ==x.1)=false:=by
    cases e:y.1 ==x.1 with
    |false=>rfl
    |true=>
     have e:=beq_iff_eq.mp e;exact absurd (List.mem_map_of_mem (f:=(·.1)) hy) (e▸(nodup_cons.mp nd).1)
   obtain⟨a,b⟩:=x;rw[List.lookup_append,h y (dL _ hy),lookup_cons,hne]
   rfl
def E5 {n:Str}:∀ {L:List (Str×Value)},(∀ x ∈ L,x.1≠n)->L.lookup n=none
 | [],_=>rfl
 |(a,b)::L,h=>by
  have:(n ==a)=false:=by
   cases e:n ==a with
   |false=>rfl
   |true=>exact absurd (beq_iff_eq.mp e).symm (h (a,b) mo)
  rw[lookup_cons,this];exact E5 λx hx=>h x (dL _ hx)
variable {A:List Str}{B:List Value}
def pN {x:Str×Value}(h:x ∈ A.zip B):x.1 ∈ A:=by
 obtain⟨a,b⟩:=x;exact(of_mem_zip h).1
def zip_map (h:A.length<=B.length):(A.zip B).map (·.1)=A:=List.map_fst_zip h
def oB {B:List Str}{us:List Value}(h:A.length=us.length):(A++B).zip us=A.zip us:=by
 have:=zip_append (l₁:=A) (l₂:=us) (r₁:=B) (r₂:=[]) h;rw[append_nil,List.zip_nil_right,append_nil]at this;exact this
def B4 {B:List Str}{us D1 D2:List Value}(nd:(A++B).Nodup)(h1:A.length=us.length)(h2:B.length=D2.length)(h3:D1.length<=A.length):
  (((A++B).drop (A.length-D1.length)).zip (D1++D2)).foldl gD ((A++B).zip us)=(A++B).zip (us++D2):=by
 have a:=EV (L:=(A.drop (A.length-D1.length)).zip D1) (S:=(A++B).zip us) λx hx=>by
  rw[oB h1];exact Ao h1.symm (mem_of_mem_drop (pN hx))
 have b:=Ei (L:=B.zip D2) (S:=(A++B).zip us) (by rw[zip_map nofun];exact(List.nodup_append.mp nd).2.1) λx hx=>by
  refine E5 λy hy e=>?_
  rw[oB h1]at hy;exact(List.nodup_append.mp nd).2.2 y.1 (pN hy) x.1 (pN hx) e
 rw[List.drop_append_of_le_length nofun,zip_append (by rw[jp];omega),List.foldl_append,a,b,oB h1,zip_append h1]
def zq {us ds:List Value}(nd:ps.Nodup)(h1:us.length<=ps.length)(h2:ds.length<=ps.length)(h3:ps.length<=us.length+ds.length):
  ((ps.drop (ps.length-ds.length)).zip ds).foldl gD (ps.zip us)=ps.zip (us++ds.drop (us.length+ds.length-ps.length)):=by
 have nd2:(ps.take us.length++ps.drop us.length).Nodup:=by rw[take_append_drop];exact nd
 have:=B4 (A:=ps.take us.length) (B:=ps.drop us.length) (us:=us) (D1:=ds.take (us.length+ds.length-ps.length)) (D2:=ds.drop (us.length+ds.length-ps.length)) nd2 (by rw[db];omega) (by rw[jp,jp];omega) (by rw[db,db];omega);rw[take_append_drop,take_append_drop,db,db]at this;rw[show min us.length ps.length-min (us.length+ds.length-ps.length) ds.length=ps.length-ds.length by omega]at this;exact this
def rh:∀ {L:List (Str×Value)}{S:List (Str×Value)},(forIn L S λx r=>(match x with|(name,d)=>if(r.lookup name).isNone=true then pure (ForInStep.yield (r++[(name,d)])) else pure (ForInStep.yield r):Sem (ForInStep (List (Str×Value)))))=pure (L.foldl gD S)
 | [],S=>by simp
 |(a,b)::L,S=>by
  rw[forIn_cons,foldl_cons,<-rh];unfold gD
  by_cases e:(S.lookup a).isNone=true
  .simp only[e,if_true,pure_bind]
  .simp only[e,if_false,pure_bind,Bool.false_eq_true]
def zE {T:Addr}{items:Array Value}(nd:ps.Nodup)(h1:fd.params.posonlyargs=[])(h2:fd.params.args.map (·.arg)=ps)(h3:fd.params.kwonlyargs=[])(h4:fd.params.vararg=none)(h5:fd.params.kwarg=none)(h6:fd.defaults=.ref T)(us:List Value)(l1:us.length<=ps.length)(l2:items.toList.length<=ps.length)(l3:ps.length<=us.length+items.toList.length):
  ∃ k:Option (Array Value)->Sem (List (Str×Value)),bindArgs fd ⟨us,[]⟩=seqItems? fd.defaults >>= k/\k (some items)=pure (ps.zip (us++items.toList.drop (us.length+items.toList.length-ps.length))):=by
 obtain⟨name,qual,⟨po,as,va,ko,kd,ka,df⟩,body,scope,glo,cg,dV,kV,doc,pm,an,cdv,ct,bu⟩:=fd;dsimp only at h1 h2 h3 h4 h5 h6;subst h1 h2 h3 h4 h5 h6;generalize hps:as.map (·.arg)=ps at nd l1 l2 l3⊢;have e2:∀ f:Str->Bool,(∀ n ∈ ps.take (ps.length-items.toList.length),f n=false)->(ps.take (ps.length-items.toList.length)).filter f=[]:=λf h=>List.filter_eq_nil_iff.mpr λa ha=>by rw[h a ha];decide
 have e3:¬ (us.length>ps.length):=by omega
 have ez:ps.zip us=(ps.take us.length).zip us:=by
  have:=oB (A:=ps.take us.length) (B:=ps.drop us.length) (us:=us) (by rw[db];omega);rw[take_append_drop]at this;exact this
 have e4:=e2 (λn=>((ps.zip us).lookup n).isNone) λn hn=>by
  rw[ez];refine Ao (by rw[db];omega) ?_;have:ps.take (ps.length-items.toList.length)=(ps.take us.length).take (ps.length-items.toList.length):=by rw[List.take_take,Nat.min_eq_left nofun]
  rw[this]at hn;exact mem_of_mem_take hn
 have e6:=zq (us:=us) (ds:=items.toList) nd l1 l2 l3;have e5:=tV (us:=us++items.toList.drop (us.length+items.toList.length-ps.length)) nd (by rw[ci,jp];omega) λ_ _=>rfl
 have e7:items.toList.length-ps.length=0:=by omega
 unfold bindArgs;dsimp only[List.map_nil,nil_append,append_nil];rw[hps];refine⟨_,rfl,?_⟩;simp only[Option.getD_some,List.map_nil,nil_append,e7,drop_zero,e4,e3,List.isEmpty_nil,Bool.not_true,decide_false,Bool.false_and,Bool.false_eq_true,if_false,forIn_nil,append_nil];rw[rh,e6,pure_bind,pure_bind];simp only[e5,List.isEmpty_nil,Bool.not_true,Bool.false_eq_true,if_false]
abbrev EY (x:Option (Option Value))(a:Addr):Bool:=match x with
 |some (some (.ref b))=>b ==a
 |_=>false
variable {x:Option (Option Value)}
def fW {a:Addr}(h:EY x a=true):x=some (some (.ref a)):=by
 unfold EY at h
 split at h
 .rw[beq_iff_eq.mp h]
 .cases h
abbrev sV (x:Option (Option Value))(a:String):Bool:=match x with
 |some (some (.builtin b))=>b ==a
 |_=>false
variable {a:String}
def cz (h:sV x a=true):x=some (some (.builtin a)):=by
 unfold sV at h
 split at h
 .rw[beq_iff_eq.mp h]
 .cases h
abbrev LN (x:Option Value)(a:String):Bool:=match x with
 |some (.type b)=>b ==a
 |_=>false
def FV {x:Option Value}(h:LN x a=true):x=some (.type a):=by
 unfold LN at h
 split at h
 .rw[beq_iff_eq.mp h]
 .cases h
abbrev yD (x:Option (Option Value)):Bool:=match x with
 |some none=>true
 |_=>false
def qc (h:yD x=true):x=some none:=by
 unfold yD at h
 split at h
 .rfl
 .cases h
abbrev BH (x:Option Bool)(b:Bool):Bool:=match x with
 |some c=>c ==b
 |none=>false
def e9 {x:Option Bool}{b:Bool}(h:BH x b=true):x=some b:=by
 unfold BH at h
 split at h
 .rw[beq_iff_eq.mp h]
 .cases h
abbrev L7 (v:V)(x:Option (Option Value)):Bool:=match v,x with
 | .int i,some (some (.int j _))=>i ==j
 | .str s,some (some (.str s' _))=>s ==s'
 | .ref a,y=>EY y a
 |_,_=>false
def GK {v:V}(h:L7 v x=true):∃ u,x=some (some u)/\RelV v u:=by
 unfold L7 at h
 split at h
 .rw[<-beq_iff_eq.mp h];exact⟨_,rfl,_,rfl⟩
 .rw[<-beq_iff_eq.mp h];exact⟨_,rfl,_,rfl⟩
 .rw[fW h];exact⟨_,rfl,rfl⟩
 .cases h
section
variable (K:Frag) (C:Addr)
abbrev C4:Bool:=plainGet K C Str.empty&&(hasDictIn K C&&(plainOver K C&&sV (findIn K (.ref C) "__setattr__") "object.__setattr__"))
def uZ {K:Frag}{C:Addr}(h:C4 K C=true):BV K C:=by
 unfold C4 at h;simp only[nl]at h;exact⟨h.1,h.2.1,h.2.2.1,cz h.2.2.2⟩
abbrev De:Bool:=sV (findIn K (.ref C) "__class__") "object.__class__"&&(sV (specialIn K (.builtin "object.__class__") "__get__") "getset_descriptor.__get__"&&BH (takesIn K (.builtin "object.__class__")) true)
abbrev qR:Bool:=LN (typeIn K (.ref C)) "type"&&((clsIn K C).any (λcd=>dv cd.mro)&&(hasDictIn K C&&(sV (findIn K (.ref C) "__getattribute__") "BaseException.__getattribute__"&&(yD (findIn K (.ref C) "__getattr__")&&sV (findIn K (.ref C) "__setattr__") "object.__setattr__"))))
def lP {K:Frag}{C:Addr}(h:qR K C=true):cM K C:=by
 unfold qR at h;simp only[nl]at h;exact⟨FV h.1,h.2.1,h.2.2.1,cz h.2.2.2.1,qc h.2.2.2.2.1,cz h.2.2.2.2.2⟩
end
abbrev all2 {α:Type}(l:List α)(p:α->Bool):Bool:=match l with
 | []=>true
 |a::r=>p a&&all2 r p
def aB {α:Type}{p:α->Bool}:∀ {l:List α},all2 l p=true->∀ a ∈ l,p a=true
 | [],_,_,h=>by cases h
 |a::r,h,b,hb=>by
  unfold all2 at h;rw[nl]at h;rcases nb.mp hb with rfl|hb
  .exact h.1
  .exact aB h.2 b hb
abbrev GJ (K:Frag)(fs cs:List Addr)(gs:List (Str×V)):Rt:=⟨K,λi=>fs.getD i 0,λi=>cs.getD i 0,λx=>gs.lookup x⟩
section
variable (K:Frag) (T:Tab) (fs cs:List Addr) (gs:List (Str×V))
abbrev CD:Bool:=
 (all2 T.gfn (λp=>EY (nsIn K mainGlobals p.1) (fs.getD p.2 0)&&(keepIn K (.ref (fs.getD p.2 0))&&(T.fns[p.2]?).isSome))&&
 (all2 T.gcl (λp=>EY (nsIn K mainGlobals p.1) (cs.getD p.2 0))&&
 (all2 T.gbl (λx=>yD (nsIn K mainGlobals x)&& !(x ==("__name__":Str)))&&
 (all2 T.gbi (λx=>match nsIn K mainGlobals x with
  |some (some (.ref B))=>sV (specialIn K (.ref B) "__getattribute__") "type.__getattribute__"&&(readsIn K B (.type "type")&&(match findCls K (.ref B) (.type "type") "__init__" with|some (.val (.builtin n))=>n =="ValueError.__init__"|_=>false))
  |_=>false)&&
 (all2 gs (λp=>L7 p.2 (nsIn K mainGlobals p.1))&&
 (all2 T.na (λp=>yD (findIn K (.ref (cs.getD p.1 0)) p.2))&&
 (all2 T.me (λp=>C4 K (cs.getD p.1.1 0)&&(EY (findIn K (.ref (cs.getD p.1.1 0)) p.1.2) (fs.getD p.2 0)&&(isFn K (.ref (fs.getD p.2 0))&&(keepIn K (.ref (fs.getD p.2 0))&&(T.fns[p.2]?).isSome)))))))))))&&
 (all2 T.ini0 (λc=>bX K (cs.getD c 0)&&(sV (findIn K (.ref (cs.getD c 0)) "__init__") "ValueError.__init__"&&(keepIn K (.ref (cs.getD c 0))&&qR K (cs.getD c 0))))&&
 (all2 T.inip (λc=>makesIn K (cs.getD c 0)&&(sV (findIn K (.ref (cs.getD c 0)) "__init__") "object.__init__"&&keepIn K (.ref (cs.getD c 0))))&&
 (all2 T.ini (λp=>(T.fns[p.2]?).isSome&&((if T.xc.contains p.1=true then bX K (cs.getD p.1 0) else makesIn K (cs.getD p.1 0))&&(EY (findIn K (.ref (cs.getD p.1 0)) "__init__") (fs.getD p.2 0)&&(isFn K (.ref (fs.getD p.2 0))&&keepIn K (.ref (cs.getD p.1 0))))))&&
 (all2 T.oc (λc=>C4 K (cs.getD c 0)&&(De K (cs.getD c 0)&&BH (mroIn K (cs.getD c 0) (.type "object")) true))&&
 (all2 T.xc (λc=>qR K (cs.getD c 0)&&De K (cs.getD c 0))&&
 (all2 T.sub (λp=>BH (kitOne K (.ref (cs.getD p.1.1 0)) (.ref (cs.getD p.1.2 0))) p.2&&(!T.xc.contains p.1.1||(BH (mroIn K (cs.getD p.1.1 0) (.ref (cs.getD p.1.2 0))) p.2&&qR K (cs.getD p.1.2 0))))&&
 (all2 T.subT (λp=>BH (kitOne K (.ref (cs.getD p.1.1 0)) (.type p.1.2)) p.2)&&
 (all2 T.subB (λp=>BH (kitOne K (.type p.1.1) (.type p.1.2)) p.2)&&
 (all2 T.subO (λp=>BH (kitOne K (.type p.1.1) (.ref (cs.getD p.1.2 0))) p.2)&&
  all2 T.cin (λp=>sV (specialIn K (.ref (cs.getD p.1 0)) "__getattribute__") "type.__getattribute__"&&(readsIn K (cs.getD p.1 0) (.type "type")&&((match findCls K (.ref (cs.getD p.1 0)) (.type "type") "__init__" with|some (.val (.ref f))=>f ==fs.getD p.2 0|_=>false)&&(keepIn K (.ref (fs.getD p.2 0))&&(T.fns[p.2]?).isSome)))))))))))))
end
def kg {α:Type}{x:Option α}(h:x.isSome=true):∃ d,x=some d:=Option.isSome_iff_exists.mp h
variable {K:Frag}{T:Tab}{fs:List Addr}{gs:List (Str×V)}{mg:NJ}
def C8 {cs:List Addr}{h:Heap}(X:K.In h)(G:h.Ns mainGlobals mg)(z:CD K T fs cs gs=true):BL K mg T (GJ K fs cs gs):=by
 unfold CD at z;simp only[nl]at z;obtain⟨⟨z1,z2,z3,z4,z5,z6,z7⟩,z8,z9,z10,z11,z12,z13,z14,z15,z16,z17⟩:=z;exact {
  gfn:=kR λp hp=>by
   have:=aB z1 p hp;simp only[nl]at this;exact⟨mg_of X G (fW this.1),this.2.1,kg this.2.2⟩
  gcl:=kR λp hp=>mg_of X G (fW (aB z2 p hp))
  gbl:=iJ λx hx=>by
   have:=aB z3 x hx;simp only[nl]at this;exact⟨mg_none_of X G (qc this.1),by simpa using this.2⟩
  gbi:=iJ λx hx=>by
   have:=aB z4 x hx
   split at this
   .rename_i B e;simp only[nl]at this;refine⟨B,mg_of X G e,cz this.1,this.2.1,?_⟩;have t:=this.2.2
    split at t
    .rename_i n e2;rw[e2,beq_iff_eq.mp t]
    .cases t
   .cases this
  gl:=kR λp hp=>by
   obtain⟨u,e,r⟩:=GK (aB z5 p hp);exact⟨u,mg_of X G e,r⟩
  na:=BQ λp hp=>qc (aB z6 p hp)
  me:=gz λp hp=>by
   have:=aB z7 p hp;simp only[nl]at this;exact⟨uZ this.1,⟨fW this.2.1,this.2.2.1,this.2.2.2.1⟩,kg this.2.2.2.2⟩
  ini0:=iJ λc hc=>by
   have:=aB z8 c hc;simp only[nl]at this;exact⟨this.1,cz this.2.1,this.2.2.1,lP this.2.2.2⟩
  inip:=iJ λc hc=>by
   have:=aB z9 c hc;simp only[nl]at this;exact⟨this.1,cz this.2.1,this.2.2⟩
  ini:=kR λp hp=>by
   have:=aB z10 p hp;simp only[nl]at this;refine⟨kg this.1,?_⟩;have t:=this.2
   by_cases e:T.xc.contains p.1=true
   .rw[if_pos e]at t⊢;exact⟨t.1,fW t.2.1,t.2.2.1,t.2.2.2⟩
   .rw[if_neg e]at t⊢;exact⟨t.1,fW t.2.1,t.2.2.1,t.2.2.2⟩
  oc:=iJ λc hc=>by
   have:=aB z11 c hc;simp only[De,nl]at this;exact⟨uZ this.1,cz this.2.1.1,cz this.2.1.2.1,e9 this.2.1.2.2,e9 this.2.2⟩
  xc:=iJ λc hc=>by
   have:=aB z12 c hc;simp only[De,nl]at this;exact⟨lP this.1,cz this.2.1,cz this.2.2.1,e9 this.2.2.2⟩
  sub:=gz λp hp=>by
   have:=aB z13 p hp;simp only[nl]at this;refine⟨e9 this.1,λe=>?_⟩;have t:=this.2;rw[e,Bool.not_true,Bool.false_or,nl]at t;exact⟨e9 t.1,lP t.2⟩
  subT:=gz λp hp=>e9 (aB z14 p hp)
  subB:=gz λp hp=>e9 (aB z15 p hp)
  subO:=gz λp hp=>e9 (aB z16 p hp)
  cin:=kR λp hp=>by
   have:=aB z17 p hp;simp only[nl]at this;refine⟨⟨cz this.1,this.2.1,?_,this.2.2.2.1⟩,kg this.2.2.2.2⟩;have t:=this.2.2.1
   split at t
   .rename_i f e2;rw[beq_iff_eq.mp t]at e2;exact e2
   .cases t }
abbrev KU:List Str->Bool
 | []=>true
 |a::r=>!r.contains a&&KU r
def zJ:∀ {l:List Str},KU l=true->l.Nodup
 | [],_=>List.nodup_nil
 |a::r,h=>by
  unfold KU at h;rw[nl]at h;exact nodup_cons.mpr ⟨by simpa using h.1,zJ h.2⟩
abbrev Mw (N P:List Str)(sc:Scope):Bool:=decide (sc.kind=.function)&&(!sc.isCoroutine&&(!sc.isGenerator&&(KU N&&(N.take P.length ==P&&(all2 P (λx=>match sc.names.lookup x with|some .local=>true|some .cell=>true|_=>false)&&all2 sc.names (λy=>match y.2 with| .free=>false|_=>true))))))
def uy {N P:List Str}{sc:Scope}(h:Mw N P sc=true):kq N P sc:=by
 unfold Mw at h;simp only[nl,decide_eq_true_eq]at h;refine⟨h.1,by simpa using h.2.1,by simpa using h.2.2.1,zJ h.2.2.2.1,beq_iff_eq.mp h.2.2.2.2.1,λx hx=>?_,λy hy e=>?_⟩
 .have:=aB h.2.2.2.2.2.1 x hx
  split at this
  .rename_i e;exact .inl e
  .rename_i e;exact .inr e
  .cases this
 .have:=aB h.2.2.2.2.2.2 y hy;rw[e]at this;cases this
abbrev LQ:V->Value->Bool
 | .non,.none=>true
 | .bl b,.bool c=>b ==c
 | .int i,.int j _=>i ==j
 | .str s,.str s' _=>s ==s'
 |_,_=>false
def G7 {v:V}{u:Value}(h:LQ v u=true):RelV v u:=by
 unfold LQ at h
 split at h
 .rfl
 .rw[beq_iff_eq.mp h];rfl
 .rw[beq_iff_eq.mp h];exact⟨_,rfl⟩
 .rw[beq_iff_eq.mp h];exact⟨_,rfl⟩
 .cases h
abbrev yq:List V->List Value->Bool
 | [],[]=>true
 |v::vs,u::us=>LQ v u&&yq vs us
 |_,_=>false
def pQ:∀ {vs:List V}{us:List Value},yq vs us=true->Vals vs us
 | [],[],_=>.nil
 |v::vs,u::us,h=>by
  unfold yq at h;rw[nl]at h;exact .cons (G7 h.1) (pQ h.2)
 | [],_::_,h=>by cases h
 |_::_,[],h=>by cases h
abbrev LK (K:Frag)(fd:FuncData)(d:ao):Bool:=match fd.defaults with
 | .none=>d.dfl.isEmpty
 | .ref T=>!d.dfl.isEmpty&&(match K.lookup T with
  |some o=>(match o.data with| .seq items _=>yq d.dfl items.toList&&decide (items.toList.length<=d.ps.length)|_=>false)
  |none=>false)
 |_=>false
abbrev EW (K:Frag)(T:Tab)(f:Addr)(d:ao):Bool:=match K.lookup f with
 |some ⟨_,_,.func fd,_⟩=>(match fd.body with
  | .stmts body=>decide (fd.globals=mainGlobals)&&(fd.closure.isEmpty&&(decide (fd.builtins=builtinsNs)&&(codeIn K fd.code fd.qualname&&(Mw d.N d.ps fd.scope&&(mB ⟨T,fd.scope,d.N⟩ d.body body&&
   (fd.params.posonlyargs.isEmpty&&(fd.params.args.map (·.arg) ==d.ps&&(fd.params.kwonlyargs.isEmpty&&(fd.params.vararg.isNone&&(fd.params.kwarg.isNone&&LK K fd d))))))))))
  |_=>false)
 |_=>false
variable {d:ao}
def Gm {f:Addr}(h:EW K T f d=true):xV K T f d:=by
 unfold EW at h
 split at h
 .rename_i oc od fd sl e;obtain⟨name,qual,params,body,scope,glo,cg,dV,kV,doc,pm,an,cdv,ct,bu⟩:=fd;dsimp only at h
  split at h
  .rename_i body;simp only[nl,decide_eq_true_eq,isEmpty_iff,Option.isNone_iff_eq_none]at h;obtain⟨h1,h2,h3,h4,h5,h6,h7,h8,h9,h10,h11,h12⟩:=h;subst h1 h2 h3;have S:=uy h5;have nd:d.ps.Nodup:=by
    rw[<-S.pre];exact S.nd.sublist (take_sublist _ _)
   refine⟨⟨name,qual,params,body,scope,dV,kV,doc,pm,cdv,ct,oc,od,an,sl,e,h4,S,h6,?_⟩⟩;unfold LK at h12;dsimp only at h12
   split at h12
   .rw[isEmpty_iff.mp h12];exact Hq (.all λus hl=>qJ nd h7 (beq_iff_eq.mp h8) h9 h10 h11 rfl us hl)
   .rename_i T0;rw[nl]at h12;have h12:=h12.2
    split at h12
    .rename_i o ho
     split at h12
     .rename_i items c hs;rw[nl,decide_eq_true_eq]at h12;intro j;refine⟨items.toList.drop j,?_,nA j (pQ h12.1)⟩;refine Ce (n:=d.ps.length-(items.toList.drop j).length) rfl ho hs (by rw[jp];omega) λus hl=>?_
      rw[jp]at hl;obtain⟨k,k1,k2⟩:=zE (fd:=fnOf name qual params body scope (.ref T0) kV doc pm an cdv ct) (items:=items) nd h7 (beq_iff_eq.mp h8) h9 h10 h11 rfl us nofun h12.2 nofun;refine⟨k,k1,?_⟩;rw[k2]
      by_cases e:j<=items.toList.length
      .rw[show us.length+items.toList.length-d.ps.length=j by omega]
      .rw[show us.length+items.toList.length-d.ps.length=items.toList.length by omega,List.drop_length,List.drop_eq_nil_of_le (by omega:items.toList.length<=j)]
     .cases h12
    .cases h12
   .cases h12
  .cases h
 .cases h
abbrev mP (K:Frag)(T:Tab)(fs:List Addr):Nat->List ao->Bool
 |_,[]=>true
 |n,d::r=>EW K T (fs.getD n 0) d&&mP K T fs (n+1) r
def v9 {K:Frag}{T:Tab}{fs:List Addr}:∀ {l:List ao}{n:Nat},mP K T fs n l=true->uQ (λf d=>xV K T (fs.getD f 0) d) n l
 | [],_,_=>True.intro
 |d::r,n,h=>by
  unfold mP at h;rw[nl]at h;exact⟨Gm h.1,v9 h.2⟩
def CM (h:mP K T fs 0 T.fns=true):∀ f d,T.fns[f]? =some d->xV K T (fs.getD f 0) d:=uF (P:=λf d=>xV K T (fs.getD f 0) d) (v9 h)
def vI {K:Frag}{T:Tab}{fs:List Addr}:∀ {l:List ao}{n f:Nat}{d:ao},mP K T fs n l=true->l[f]? =some d->EW K T (fs.getD (n+f) 0) d=true
 | [],_,_,_,_,e=>by simp at e
 |a::r,n,0,d,h,e=>by
  unfold mP at h;rw[nl]at h;have:a=d:=by simpa using e
  subst this;exact h.1
 |a::r,n,f+1,d,h,e=>by
  unfold mP at h;rw[nl]at h;have:=vI h.2 (f:=f) (d:=d) (by simpa using e)
  rwa [Nat.add_assoc,Nat.add_comm 1 f]at this
def CQ {fl:Nat}(z:mP K T fs 0 T.fns=true)(hd:T.fns[fl]? =some d)(hp:d.ps=[("_law_script":Str)]) (hf:d.dfl=[]):
  ∃ oc od fd sl,K.lookup (fs.getD fl 0)=some ⟨oc,od,.func fd,sl⟩/\∀ (s:Shared) (v:Value),BindsTo s fd ⟨[v],[]⟩ [("_law_script",v)]:=by
 have h:=vI z hd;rw[Nat.zero_add]at h;unfold EW at h
 split at h
 .rename_i oc od fd sl e;refine⟨oc,od,fd,sl,e,λs v=>?_⟩
  split at h
  .rename_i body hb;simp only[nl,decide_eq_true_eq,isEmpty_iff,Option.isNone_iff_eq_none]at h;obtain⟨h1,h2,h3,h4,h5,h6,h7,h8,h9,h10,h11,h12⟩:=h;have nd:d.ps.Nodup:=by
    rw[<-(uy h5).pre];exact(uy h5).nd.sublist (take_sublist _ _)
   unfold LK at h12;rw[hf]at h12;have e6:fd.defaults=.none:=by
    split at h12
    .rename_i e;exact e
    .rw[nl]at h12;cases h12.1
    .cases h12
   have:=qJ nd h7 (beq_iff_eq.mp h8) h9 h10 h11 e6 [v] (by rw[hp];rfl);rw[hp]at this;exact .of_eq this
  .cases h
 .cases h
def B9 {P:Program}{w:World}{h:Heap}{fa:Addr}{cs:List Addr}{fl k:Nat}(X:K.In h)(G:h.Ns mainGlobals mg)(hfa:mg "law"=some (.ref fa))
  (z1:CD K T fs cs gs=true) (z2:mP K T fs 0 T.fns=true) (z3:EY (nsIn K mainGlobals "law") (fs.getD fl 0)=true) (hd:T.fns[fl]? =some d) (hp:d.ps=[("_law_script":Str)]) (hf:d.dfl=[])
  (ht:∀ vs H Q E,ji K 63 vs H Q E->aa T (GJ K fs cs gs) k fl vs H Q E):
  ∃ fd:FuncData,(∀ (s:Shared) (v:Value),BindsTo s fd ⟨[v],[]⟩ [("_law_script",v)])/\∀ base:Heap,K.In base->base.Ns mainGlobals mg->cZ P w K mg base (Bq P w) (2*k) fa fd ["_law_script"] (ji K 63):=by
 have e0:fs.getD fl 0=fa:=by
  have e:=hfa.symm.trans (mg_of X G (fW z3))
  injection e with e
  injection e with e
  exact e.symm
 have fn:=CM z2;have tk:=C8 X G z1;have N:=fn fl d hd;have hN:=CQ z2 hd;obtain⟨oc,od,fd,sl,e,hb⟩:=hN hp hf;refine⟨fd,hb,λbase hb hg=>?_⟩;have F:=Gf (P:=P) (w:=w) (base:=base) (R:=GJ K fs cs gs) tk rfl fn k fl d hd (fd:=fd) (lk:=e) (rR▸ht);rw[hp]at F;rw[<-e0];exact F
abbrev MO (K:Frag)(a:Addr)(vs:List V):Bool:=match K.lookup a with
 |some ⟨.type t,_,.seq items _,_⟩=>t =="tuple"&&(decide (items.size<=1000)&&yq vs items.toList)
 |_=>false
def GI {a:Addr}{vs:List V}(h:MO K a vs=true)(H:Hp):a8 K H a vs:=by
 unfold MO at h
 split at h
 .rename_i t od items n sl e;simp only[nl,decide_eq_true_eq]at h;refine .inr ⟨_,items,n,e,?_,rfl,?_,pQ h.2.2⟩
  .show Value.type t=_;rw[beq_iff_eq.mp h.1]
  .exact Nat.le_of_lt (cx h.2.1)
 .cases h
end L3
namespace L3
open PySem L2
noncomputable abbrev f7.c (e:Ex)(r:f7):f7:=.cons e r
noncomputable abbrev f7.n:f7:=.nil
noncomputable abbrev pO.c (e:Sx)(r:pO):pO:=.cons e r
noncomputable abbrev pO.n:pO:=.nil
noncomputable abbrev BA.c (a b:Nat)(e:pO)(r:BA):BA:=.cons a b e r
noncomputable abbrev BA.n:BA:=.nil
noncomputable abbrev Ex.i (x:Int):Ex:=.int x
noncomputable abbrev Ex.s (x:Str):Ex:=.str x
noncomputable abbrev Ex.k (x:Nat)(e:f7):Ex:=.call x e
noncomputable abbrev Ex.m (a:Ex)(x:Str)(e:f7):Ex:=.meth a x e
noncomputable abbrev Ex.f (c:Tx)(a b:Ex):Ex:=.ife c a b
noncomputable abbrev Ex.q (o:CmpOp)(a b:Ex):Ex:=.cmp o a b
noncomputable abbrev Tx.q (o:CmpOp)(a b:Ex):Tx:=.cmp o a b
noncomputable abbrev Sx.a (x:Nat)(e:Ex):Sx:=.asg x e
noncomputable abbrev Sx.r (e:Ex):Sx:=.ret e
noncomputable abbrev Sx.f (c:Tx)(a b:pO):Sx:=.ife c a b
noncomputable abbrev Sx.e (e:Ex):Sx:=.expr e
end L3
set_option Elab.async false
set_option maxHeartbeats 8000000
open PySem PySem.Spec L2 L3
namespace My
open PySem L2 L3
set_option hygiene false
local macro_rules|`(#[])=>`(.n)|`(#[$x:term])=>`(.c $x .n)|`(#[$x:term,$xs:term,*])=>`(.c $x #[$xs,*])
set_option hygiene true
abbrev cB:ao:=⟨["self","at"],["self","at"],[],#[.e (.bini #[.v 0,.s "no list of 1 to 60 contents"]),.fld (.v 0) "at" (.v 1)]⟩
abbrev dO:ao:=⟨["self","deed","cell"],["self","deed","cell"],[],#[.e (.bini #[.v 0,.s "a cell that is not there, or may not be looked at or put"]),.fld (.v 0) "deed" (.v 1),.fld (.v 0) "cell" (.v 2)]⟩
abbrev c5:ao:=⟨["self","box","number"],["self","box","number"],[],#[.e (.bini #[.v 0,.s "a box can't hold this"]),.fld (.v 0) "box" (.v 1),.fld (.v 0) "number" (.v 2)]⟩
abbrev iY:ao:=⟨["self","box"],["self","box"],[],#[.e (.bini #[.v 0,.s "no box of that name"]),.fld (.v 0) "box" (.v 1)]⟩
abbrev gU:ao:=⟨["self","word"],["self","word"],[],#[.e (.bini #[.v 0,.s "a deed can't be made of this"]),.fld (.v 0) "word" (.v 1)]⟩
abbrev gO:ao:=⟨["self","at"],["self","at"],[],#[.e (.bini #[.v 0,.s "no list of 1 to 24 deeds"]),.fld (.v 0) "at" (.v 1)]⟩
abbrev fX:ao:=⟨["self","at"],["self","at"],[],#[.e (.bini #[.v 0,.s "no place to stand at"]),.fld (.v 0) "at" (.v 1)]⟩
abbrev ir:ao:=⟨["self","at"],["self","at"],[],#[.e (.bini #[.v 0,.s "no part of the floor for this member"]),.fld (.v 0) "at" (.v 1)]⟩
abbrev fv:ao:=⟨["self","k"],["self","k"],[],#[.e (.bini #[.v 0,.s "no member of that number"]),.fld (.v 0) "k" (.v 1)]⟩
abbrev kN:ao:=⟨["thing"],["thing"],[],#[.r (.and (.isi (.v 0) (.ty "int")) (.not (.isi (.v 0) (.ty "bool"))))]⟩
abbrev ip:ao:=⟨["thing"],["thing"],[],#[.r (.and (.k 9 #[.v 0]) (.cmp2 .LtE .LtE (.i 0) (.v 0) (.gl "BOUND")))]⟩
abbrev lN:ao:=⟨["thing"],["thing"],[],#[.r (.and (.isi (.v 0) (.ty "str")) (.q .In (.v 0) (.gl "NAMES")))]⟩
abbrev jm:ao:=⟨["thing"],["thing"],[],#[.r (.and (.k 9 #[.v 0]) (.cmp2 .LtE .LtE (.neg (.gl "BOUND")) (.v 0) (.gl "BOUND")))]⟩
abbrev yp:ao:=⟨["box","thing"],["box","thing"],[],#[.f (.or (.q .Eq (.v 0) (.s "here")) (.q .Eq (.v 0) (.s "there"))) #[.r (.k 12 #[.v 1])] .n,.f (.q .Eq (.v 0) (.s "way")) #[.r (.and (.k 9 #[.v 1]) (.or (.q .Eq (.v 1) (.i 1)) (.q .Eq (.v 1) (.neg (.i 1)))))] .n,.f (.q .Eq (.v 0) (.s "met")) #[.r (.and (.k 9 #[.v 1]) (.or (.q .Eq (.v 1) (.i 0)) (.q .Eq (.v 1) (.i 1))))] .n,.r (.k 10 #[.v 1])]⟩
abbrev c7:ao:=⟨["self","here","there","left","way","sign","met"],["self","here","there","left","way","sign","met","handed","box","number"],[.int 0,.int 0,.int 0,.int 1,.int 0,.int 0],#[.a 7 (.tup #[.v 1,.v 2,.v 3,.v 4,.v 5,.v 6]),.for (.tp [8,9]) (.zip (.gl "NAMES") (.v 7)) #[.f (.not (.val (.k 13 #[.v 8,.v 9]))) #[.rais (.make 3 #[.v 8,.v 9])] .n],.fld (.v 0) "numbers" (.dzip (.gl "NAMES") (.v 7))]⟩
abbrev fN:ao:=⟨["self","box"],["self","box"],[],#[.f (.not (.val (.k 11 #[.v 1]))) #[.rais (.make 4 #[.v 1])] .n,.r (.ix (.fld (.v 0) "numbers") (.v 1))]⟩
abbrev dm:ao:=⟨["self","box","number"],["self","box","number"],[],#[.f (.not (.val (.k 11 #[.v 1]))) #[.rais (.make 4 #[.v 1])] .n,.f (.not (.val (.k 13 #[.v 1,.v 2]))) #[.rais (.make 3 #[.v 1,.v 2])] .n,.sub (.fld (.v 0) "numbers") (.v 1) (.v 2)]⟩
abbrev gW:ao:=⟨["self"],["self"],[],#[.r (.bf .tuple #[.lc (.ix (.fld (.v 1) "numbers") (.v 0)) [0] (.seq (.gl "NAMES"))])]⟩
abbrev d9:ao:=⟨["self"],["self","other"],[],#[.a 1 (.make 10 .n),.fld (.v 1) "numbers" (.bf .dict #[.fld (.v 0) "numbers"]),.r (.v 1)]⟩
abbrev jK:ao:=⟨["word","box"],["word","box"],[],#[.f (.not (.val (.k 11 #[.v 1]))) #[.rais (.make 5 #[.v 0])] .n]⟩
abbrev eZ:ao:=⟨["word","number"],["word","number"],[],#[.f (.not (.val (.k 12 #[.v 1]))) #[.rais (.make 5 #[.v 0])] .n]⟩
abbrev eU:ao:=⟨["self","box","number"],["self","box","number"],[],#[.e (.k 19 #[.s "set",.v 1]),.e (.k 20 #[.s "set",.v 2]),.fld (.v 0) "box" (.v 1),.fld (.v 0) "number" (.v 2)]⟩
abbrev kJ:ao:=⟨["self","boxes","store"],["self","boxes","store"],[],#[.e (.m (.v 1) "give" #[.fld (.v 0) "box",.fld (.v 0) "number"]),.r (.i 1)]⟩
abbrev rO:ao:=⟨["self"],["self"],[],#[.r (.lst #[.s "set",.fld (.v 0) "box",.bf .str #[.fld (.v 0) "number"]])]⟩
abbrev eO:ao:=⟨["self","box","number"],["self","box","number"],[],#[.e (.k 19 #[.s "add",.v 1]),.e (.k 20 #[.s "add",.v 2]),.fld (.v 0) "box" (.v 1),.fld (.v 0) "number" (.v 2)]⟩
abbrev kS:ao:=⟨["self","boxes","store"],["self","boxes","store"],[],#[.e (.m (.v 1) "give" #[.fld (.v 0) "box",.bin .Add (.m (.v 1) "holds" #[.fld (.v 0) "box"]) (.fld (.v 0) "number")]),.r (.i 1)]⟩
abbrev rH:ao:=⟨["self"],["self"],[],#[.r (.lst #[.s "add",.fld (.v 0) "box",.bf .str #[.fld (.v 0) "number"]])]⟩
abbrev dJ:ao:=⟨["self","box","other"],["self","box","other"],[],#[.e (.k 19 #[.s "take",.v 1]),.e (.k 19 #[.s "take",.v 2]),.fld (.v 0) "box" (.v 1),.fld (.v 0) "other" (.v 2)]⟩
abbrev jx:ao:=⟨["self","boxes","store"],["self","boxes","store"],[],#[.e (.m (.v 1) "give" #[.fld (.v 0) "box",.m (.v 1) "holds" #[.fld (.v 0) "other"]]),.r (.i 1)]⟩
abbrev oA:ao:=⟨["self"],["self"],[],#[.r (.lst #[.s "take",.fld (.v 0) "box",.fld (.v 0) "other"])]⟩
abbrev dN:ao:=⟨["self","box"],["self","box"],[],#[.e (.k 19 #[.s "read",.v 1]),.fld (.v 0) "box" (.v 1)]⟩
abbrev jR:ao:=⟨["self","boxes","store"],["self","boxes","store"],[],#[.e (.m (.v 1) "give" #[.fld (.v 0) "box",.m (.v 2) "look" #[.m (.v 1) "holds" #[.s "here"]]]),.r (.i 1)]⟩
abbrev ou:ao:=⟨["self"],["self"],[],#[.r (.lst #[.s "read",.fld (.v 0) "box"])]⟩
abbrev c4:ao:=⟨["self","box"],["self","box"],[],#[.e (.k 19 #[.s "write",.v 1]),.fld (.v 0) "box" (.v 1)]⟩
abbrev gw:ao:=⟨["self","boxes","store"],["self","boxes","store","number"],[],#[.a 3 (.m (.v 1) "holds" #[.fld (.v 0) "box"]),.f (.not (.val (.k 10 #[.v 3]))) #[.rais (.make 3 #[.fld (.v 0) "box",.v 3])] .n,.e (.m (.v 2) "put" #[.m (.v 1) "holds" #[.s "there"],.v 3]),.r (.i 1)]⟩
abbrev mx:ao:=⟨["self"],["self"],[],#[.r (.lst #[.s "write",.fld (.v 0) "box"])]⟩
abbrev gG:ao:=⟨["rows"],["rows","at","thing"],[],#[.f (.or (.not (.val (.isi (.v 0) (.ty "list")))) (.not (.cmp2 .LtE .LtE (.i 1) (.bf .len #[.v 0]) (.gl "MOST_ROWS")))) #[.rais (.make 6 #[.neg (.i 1)])] .n,.for (.tp [1,2]) (.enm (.v 0)) #[.f (.not (.val (.isi (.v 2) (.own 11)))) #[.rais (.make 6 #[.v 1])] .n]]⟩
abbrev fR:ao:=⟨["at","many"],["at","many"],[],#[.f (.or (.not (.val (.k 9 #[.v 0]))) (.not (.cmp2 .LtE .LtE (.i 0) (.v 0) (.v 1)))) #[.rais (.make 7 #[.v 0])] .n]⟩
abbrev vK:ao:=⟨["deed","boxes","store"],["deed","boxes","store","stop","refusal"],[],#[.tryx #[.r (.tup #[.m (.v 0) "step" #[.v 1,.v 2],.non])] (.c 2 3 #[.r (.tup #[.non,.tup #[.fld (.v 3) "deed",.fld (.v 3) "cell"]])] (.c 3 4 #[.r (.tup #[.non,.tup #[.s "fit",.fld (.v 4) "box"]])] .n))]⟩
abbrev cI:ao:=⟨["self","rows","store","boxes","at"],["self","rows","store","boxes","at"],[.int 0],#[.e (.k 36 #[.v 1]),.e (.k 37 #[.v 4,.bf .len #[.v 1]]),.fld (.v 0) "deeds" (.bf .list #[.v 1]),.fld (.v 0) "store" (.m (.v 2) "copied" .n),.fld (.v 0) "boxes" (.m (.v 3) "copied" .n),.fld (.v 0) "at" (.v 4)]⟩
abbrev dP:ao:=⟨["self"],["self"],[],#[.r (.q .Eq (.fld (.v 0) "at") (.bf .len #[.fld (.v 0) "deeds"]))]⟩
abbrev cP:ao:=⟨["self","store"],["self","store","by"],[],#[.f (.val (.m (.v 0) "ended" .n)) #[.r (.s "end")] .n,.a 2 (.ix (.k 38 #[.ix (.fld (.v 0) "deeds") (.fld (.v 0) "at"),.fld (.v 0) "boxes",.v 1]) (.i 0)),.f (.q .Is (.v 2) .non) #[.r (.s "stop")] .n,.fld (.v 0) "at" (.bf .min #[.bin .Add (.fld (.v 0) "at") (.v 2),.bf .len #[.fld (.v 0) "deeds"]]),.r (.s "on")]⟩
abbrev d8:ao:=⟨["self"],["self"],[],#[.r (.m (.v 0) "step_on" #[.fld (.v 0) "store"])]⟩
abbrev cX:ao:=⟨["self","most"],["self","most","steps"],[],#[.a 2 (.i 0),.whl (.and (.q .Lt (.v 2) (.v 1)) (.q .Eq (.m (.v 0) "step" .n) (.s "on"))) #[.aug 2 .Add (.i 1)],.f (.val (.m (.v 0) "ended" .n)) #[.r (.tup #[.s "end",.v 2])] .n,.f (.q .GtE (.v 2) (.v 1)) #[.r (.tup #[.s "bell",.v 2])] .n,.r (.tup #[.s "stop",.v 2])]⟩
abbrev dF:ao:=⟨["self"],["self"],[],#[.r (.tup #[.fld (.v 0) "at",.m (.fld (.v 0) "boxes") "told" .n,.m (.fld (.v 0) "store") "told" .n])]⟩
abbrev kI:ao:=⟨["self"],["self"],[],#[.r (.lc (.m (.v 0) "words" .n) [] (.seq (.fld (.v 0) "deeds")))]⟩
abbrev iQ:ao:=⟨["self"],["self"],[],#[.r (.make 17 #[.fld (.v 0) "deeds",.fld (.v 0) "store",.fld (.v 0) "boxes",.fld (.v 0) "at"])]⟩
abbrev fD:ao:=⟨["cells"],["cells","at","thing"],[],#[.f (.or (.not (.val (.isi (.v 0) (.ty "list")))) (.not (.cmp2 .LtE .LtE (.i 1) (.bf .len #[.v 0]) (.gl "MOST_CELLS")))) #[.rais (.make 1 #[.neg (.i 1)])] .n,.for (.tp [1,2]) (.enm (.v 0)) #[.f (.not (.val (.k 10 #[.v 2]))) #[.rais (.make 1 #[.v 1])] .n]]⟩
abbrev ju:ao:=⟨["low","behind","size"],["low","behind","size"],[],#[.r (.and (.k 9 #[.v 0]) (.and (.k 9 #[.v 1]) (.cmp3 .LtE .LtE .LtE (.i 0) (.v 0) (.v 1) (.v 2))))]⟩
abbrev c9:ao:=⟨["self","cells"],["self","cells"],[],#[.e (.k 47 #[.v 1]),.fld (.v 0) "contents" (.bf .list #[.v 1]),.fld (.v 0) "permits" (.bin .Mult (.lst #[.s "open"]) (.bf .len #[.v 1]))]⟩
abbrev gy:ao:=⟨["self"],["self"],[],#[.r (.bf .len #[.fld (.v 0) "contents"])]⟩
abbrev iy:ao:=⟨["self"],["self"],[],#[.r (.bf .list #[.fld (.v 0) "contents"])]⟩
abbrev jB:ao:=⟨["self","deed","cell"],["self","deed","cell"],[],#[.f (.not (.cmp2 .LtE .Lt (.i 0) (.v 2) (.m (.v 0) "size" .n))) #[.r (.bl false)] .n,.f (.q .Eq (.ix (.fld (.v 0) "permits") (.v 2)) (.s "look")) #[.r (.q .Eq (.v 1) (.s "look"))] .n,.r (.q .Eq (.ix (.fld (.v 0) "permits") (.v 2)) (.s "open"))]⟩
abbrev gC:ao:=⟨["self","cell"],["self","cell"],[],#[.f (.not (.val (.m (.v 0) "may" #[.s "look",.v 1]))) #[.rais (.make 2 #[.s "look",.v 1])] .n,.r (.ix (.fld (.v 0) "contents") (.v 1))]⟩
abbrev jF:ao:=⟨["self","cell","content"],["self","cell","content"],[],#[.f (.not (.val (.m (.v 0) "may" #[.s "put",.v 1]))) #[.rais (.make 2 #[.s "put",.v 1])] .n,.sub (.fld (.v 0) "contents") (.v 1) (.v 2)]⟩
abbrev eJ:ao:=⟨["self"],["self","other"],[],#[.a 1 (.make 18 #[.lst #[.i 0]]),.fld (.v 1) "contents" (.bf .list #[.fld (.v 0) "contents"]),.fld (.v 1) "permits" (.bf .list #[.fld (.v 0) "permits"]),.r (.v 1)]⟩
abbrev rS:ao:=⟨["one","other"],["one","other","low","behind"],[],#[.a 2 (.bf .max #[.ix (.v 0) (.i 0),.ix (.v 1) (.i 0)]),.a 3 (.bf .min #[.ix (.v 0) (.i 1),.ix (.v 1) (.i 1)]),.f (.q .Lt (.v 2) (.v 3)) #[.r (.tup #[.v 2,.v 3])] .n,.r .non]⟩
abbrev uP:ao:=⟨["stretches"],["stretches","place","stretch","earlier"],[],#[.for (.tp [1,2]) (.enm (.v 0)) #[.for (.nm 3) (.seq (.sl (.v 0) .no (.yes (.v 1)))) #[.f (.q .IsNot (.k 56 #[.v 3,.v 2]) .non) #[.r (.bl false)] .n]],.r (.bl true)]⟩
abbrev jq:ao:=⟨["thing"],["thing"],[],#[.r (.and (.isi (.v 0) (.ty "tuple")) (.q .Eq (.bf .len #[.v 0]) (.gl "THINGS_OF_A_MEMBER")))]⟩
abbrev fB:ao:=⟨["thing"],["thing"],[],#[.f (.or (.not (.val (.isi (.v 0) (.ty "list")))) (.not (.cmp2 .LtE .LtE (.i 1) (.bf .len #[.v 0]) (.gl "MOST_MEMBERS")))) #[.r (.bl false)] .n,.r (.bf .all #[.lc (.k 58 #[.v 0]) [] (.seq (.v 0))])]⟩
abbrev nO:ao:=⟨["part","size"],["part","size"],[],#[.r (.and (.k 48 #[.ix (.v 0) (.i 0),.ix (.v 0) (.i 1),.v 1]) (.q .Lt (.ix (.v 0) (.i 0)) (.ix (.v 0) (.i 1))))]⟩
abbrev k6:ao:=⟨["members","size"],["members","size","parts","at","member","part"],[],#[.f (.not (.val (.k 59 #[.v 0]))) #[.rais (.make 8 #[.neg (.i 1)])] .n,.a 2 (.lst .n),.for (.tp [3,4]) (.enm (.v 0)) #[.a 5 (.tup #[.ix (.v 4) (.i 0),.ix (.v 4) (.i 1)]),.f (.or (.not (.val (.k 60 #[.v 5,.v 1]))) (.not (.val (.k 57 #[.bin .Add (.v 2) (.lst #[.v 5])])))) #[.rais (.make 8 #[.v 3])] .n,.e (.lm .append (.v 2) #[.v 5])],.r (.v 2)]⟩
abbrev ig:ao:=⟨["cells","part","member"],["cells","part","member"],[],#[.r (.make 17 #[.ix (.v 2) (.i 2),.make 18 #[.sl (.v 0) (.yes (.ix (.v 1) (.i 0))) (.yes (.ix (.v 1) (.i 1)))],.ix (.v 2) (.i 3)])]⟩
abbrev dH:ao:=⟨["self","cells","members"],["self","cells","members"],[],#[.fld (.v 0) "ground" (.make 18 #[.v 1]),.fld (.v 0) "parts" (.k 61 #[.v 2,.m (.fld (.v 0) "ground") "size" .n]),.fld (.v 0) "machines" (.lct (.k 62 #[.v 2,.v 0,.v 1]) 2 [1] (.zip (.fld (.v 0) "parts") (.v 2)))]⟩
abbrev ck:ao:=⟨["self","k"],["self","k"],[],#[.f (.or (.not (.val (.k 9 #[.v 1]))) (.not (.cmp2 .LtE .Lt (.i 0) (.v 1) (.bf .len #[.fld (.v 0) "machines"])))) #[.rais (.make 9 #[.v 1])] .n]⟩
abbrev cR:ao:=⟨["self","k"],["self","k"],[],#[.e (.m (.v 0) "check_member" #[.v 1]),.r (.ix (.fld (.v 0) "machines") (.v 1))]⟩
abbrev jh:ao:=⟨["self","k"],["self","k"],[],#[.r (.m (.m (.v 0) "machine_of" #[.v 1]) "step" .n)]⟩
abbrev ma:ao:=⟨["self","k","most"],["self","k","most"],[],#[.r (.m (.m (.v 0) "machine_of" #[.v 1]) "run" #[.v 2])]⟩
abbrev gI:ao:=⟨["self","k"],["self","k"],[],#[.r (.m (.m (.v 0) "machine_of" #[.v 1]) "state" .n)]⟩
abbrev nY:ao:=⟨["self","order"],["self","order","k"],[],#[.for (.nm 2) (.seq (.v 1)) #[.e (.m (.v 0) "check_member" #[.v 2])],.r (.lc (.m (.v 1) "step" #[.v 0]) [0] (.seq (.v 1)))]⟩
abbrev ik:ao:=⟨["self"],["self","cells","part","machine"],[],#[.a 1 (.m (.fld (.v 0) "ground") "told" .n),.for (.tp [2,3]) (.zip (.fld (.v 0) "parts") (.fld (.v 0) "machines")) #[.a 1 (.bin .Add (.bin .Add (.sl (.v 1) .no (.yes (.ix (.v 2) (.i 0)))) (.ix (.m (.v 3) "state" .n) (.i 2))) (.sl (.v 1) (.yes (.ix (.v 2) (.i 1))) .no))],.r (.v 1)]⟩
abbrev nR:ao:=⟨["thing"],["thing"],[],#[.r (.and (.k 9 #[.v 0]) (.cmp2 .LtE .LtE (.i 0) (.v 0) (.gl "MOST_HOPPED")))]⟩
abbrev vc:ao:=⟨["thing"],["thing"],[],#[.r (.or (.q .Is (.v 0) .non) (.and (.k 9 #[.v 0]) (.or (.q .Eq (.v 0) (.i 0)) (.q .Eq (.v 0) (.i 1)))))]⟩
abbrev eG:ao:=⟨["self","many","on"],["self","many","on"],[.non],#[.f (.or (.not (.val (.k 71 #[.v 1]))) (.not (.val (.k 72 #[.v 2])))) #[.rais (.make 5 #[.s "hop"])] .n,.fld (.v 0) "many" (.v 1),.fld (.v 0) "on" (.v 2)]⟩
abbrev lL:ao:=⟨["self","boxes","store"],["self","boxes","store"],[],#[.f (.or (.q .Is (.fld (.v 0) "on") .non) (.q .Eq (.fld (.v 0) "on") (.m (.v 1) "holds" #[.s "met"]))) #[.r (.bin .Add (.i 1) (.fld (.v 0) "many"))] .n,.r (.i 1)]⟩
abbrev rg:ao:=⟨["self"],["self","told"],[],#[.a 1 (.lst #[.s "hop",.bf .str #[.fld (.v 0) "many"]]),.f (.q .IsNot (.fld (.v 0) "on") .non) #[.e (.lm .extend (.v 1) #[.lst #[.s "if",.bf .str #[.fld (.v 0) "on"]]])] .n,.r (.v 1)]⟩
abbrev oE:ao:=⟨["boxes","box","by"],["boxes","box","by"],[],#[.e (.m (.v 0) "give" #[.v 1,.bin .Add (.m (.v 0) "holds" #[.v 1]) (.v 2)])]⟩
abbrev eE:ao:=⟨["boxes","box"],["boxes","box"],[],#[.e (.k 76 #[.v 0,.v 1,.m (.v 0) "holds" #[.s "way"]])]⟩
abbrev jL:ao:=⟨["boxes","by"],["boxes","by"],[],#[.e (.k 76 #[.v 0,.s "left",.neg (.v 1)]),.r (.f (.q .Eq (.m (.v 0) "holds" #[.s "left"]) (.i 0)) (.i 1) (.i 0))]⟩
abbrev nE:ao:=⟨["store","cell"],["store","cell"],[],#[.f (.not (.val (.m (.v 0) "may" #[.s "put",.v 1]))) #[.rais (.make 2 #[.s "put",.v 1])] .n]⟩
abbrev yY:ao:=⟨["store","source","target"],["store","source","target","content"],[],#[.a 3 (.m (.v 0) "look" #[.v 1]),.e (.m (.v 0) "put" #[.v 2,.v 3])]⟩
abbrev lJ:ao:=⟨["store","one","other"],["store","one","other","first","second"],[],#[.a 3 (.m (.v 0) "look" #[.v 1]),.a 4 (.m (.v 0) "look" #[.v 2]),.e (.k 79 #[.v 0,.v 1]),.e (.k 79 #[.v 0,.v 2]),.e (.m (.v 0) "put" #[.v 1,.v 4]),.e (.m (.v 0) "put" #[.v 2,.v 3])]⟩
abbrev jS:ao:=⟨["self","boxes","store"],["self","boxes","store"],[],#[.f (.q .Eq (.m (.v 1) "holds" #[.s "left"]) (.i 0)) #[.r (.i 1)] .n,.e (.k 80 #[.v 2,.m (.v 1) "holds" #[.s "here"],.m (.v 1) "holds" #[.s "there"]]),.e (.k 77 #[.v 1,.s "here"]),.e (.k 77 #[.v 1,.s "there"]),.r (.k 78 #[.v 1,.i 1])]⟩
abbrev pI:ao:=⟨["self"],["self"],[],#[.r (.lst #[.s "copy"])]⟩
abbrev jl:ao:=⟨["self","boxes","store"],["self","boxes","store"],[],#[.f (.q .Eq (.m (.v 1) "holds" #[.s "left"]) (.i 0)) #[.r (.i 1)] .n,.e (.m (.v 2) "put" #[.m (.v 1) "holds" #[.s "there"],.m (.v 1) "holds" #[.s "sign"]]),.e (.k 77 #[.v 1,.s "there"]),.r (.k 78 #[.v 1,.i 1])]⟩
abbrev oz:ao:=⟨["self"],["self"],[],#[.r (.lst #[.s "fill"])]⟩
abbrev jz:ao:=⟨["self","boxes","store"],["self","boxes","store"],[],#[.f (.q .Eq (.m (.v 1) "holds" #[.s "left"]) (.i 0)) #[.e (.m (.v 1) "give" #[.s "met",.i 0]),.r (.i 1)] .n,.f (.q .Eq (.m (.v 2) "look" #[.m (.v 1) "holds" #[.s "here"]]) (.m (.v 1) "holds" #[.s "sign"])) #[.e (.m (.v 1) "give" #[.s "met",.i 1]),.r (.i 1)] .n,.e (.m (.v 1) "give" #[.s "met",.i 0]),.e (.k 77 #[.v 1,.s "here"]),.r (.k 78 #[.v 1,.i 1])]⟩
abbrev om:ao:=⟨["self"],["self"],[],#[.r (.lst #[.s "seek"])]⟩
abbrev gJ:ao:=⟨["self","boxes","store"],["self","boxes","store","content"],[],#[.f (.q .Eq (.m (.v 1) "holds" #[.s "left"]) (.i 0)) #[.e (.m (.v 1) "give" #[.s "met",.i 1]),.r (.i 1)] .n,.a 3 (.m (.v 2) "look" #[.m (.v 1) "holds" #[.s "here"]]),.f (.q .NotEq (.v 3) (.m (.v 2) "look" #[.m (.v 1) "holds" #[.s "there"]])) #[.e (.m (.v 1) "give" #[.s "met",.i 0]),.r (.i 1)] .n,.e (.m (.v 1) "give" #[.s "met",.i 1]),.e (.k 77 #[.v 1,.s "here"]),.e (.k 77 #[.v 1,.s "there"]),.r (.k 78 #[.v 1,.i 1])]⟩
abbrev mJ:ao:=⟨["self"],["self"],[],#[.r (.lst #[.s "match"])]⟩
abbrev hW:ao:=⟨["self","boxes","store"],["self","boxes","store","left","here","there"],[],#[.a 3 (.m (.v 1) "holds" #[.s "left"]),.f (.q .Eq (.v 3) (.i 0)) #[.r (.i 1)] .n,.a 4 (.m (.v 1) "holds" #[.s "here"]),.a 5 (.m (.v 1) "holds" #[.s "there"]),.f (.q .LtE (.v 5) (.v 4)) #[.e (.k 80 #[.v 2,.v 4,.v 5]),.e (.k 76 #[.v 1,.s "here",.i 1]),.e (.k 76 #[.v 1,.s "there",.i 1])] #[.e (.k 80 #[.v 2,.bin .Sub (.bin .Add (.v 4) (.v 3)) (.i 1),.bin .Sub (.bin .Add (.v 5) (.v 3)) (.i 1)])],.r (.k 78 #[.v 1,.i 1])]⟩
abbrev mw:ao:=⟨["self"],["self"],[],#[.r (.lst #[.s "shift"])]⟩
abbrev jf:ao:=⟨["self","boxes","store"],["self","boxes","store","left","here"],[],#[.a 3 (.m (.v 1) "holds" #[.s "left"]),.f (.q .Eq (.v 3) (.i 0)) #[.r (.i 1)] .n,.f (.q .Eq (.v 3) (.i 1)) #[.r (.k 78 #[.v 1,.i 1])] .n,.a 4 (.m (.v 1) "holds" #[.s "here"]),.e (.k 81 #[.v 2,.v 4,.bin .Sub (.bin .Add (.v 4) (.v 3)) (.i 1)]),.e (.k 76 #[.v 1,.s "here",.i 1]),.r (.k 78 #[.v 1,.i 2])]⟩
abbrev oq:ao:=⟨["self"],["self"],[],#[.r (.lst #[.s "turn"])]⟩
abbrev jo:ao:=⟨["_law_script"],["_law_script","_law_cells","_law_fold","_law_cell"],[],#[.a 1 (.bf .list #[.sl (.v 0) .no (.yes (.i 63))]),.a 2 (.bf .len #[.v 1]),.for (.nm 3) (.seq (.v 1)) #[.a 2 (.bin .Mod (.bin .Add (.bin .Add (.bin .Mult (.v 2) (.i 48271)) (.bin .Mod (.v 3) (.i 2147483647))) (.i 1)) (.i 2147483629))],.r (.lst #[.v 1,.v 2,.i 0,.i 0,.i 0])]⟩
abbrev jI:ao:=⟨["_law_hand_here","_law_many"],["_law_hand_here","_law_many","_law_rest","_law_cell","_law_one","_law_two"],[],#[.augS (.v 0) (.i 4) .Add (.i 1),.a 2 (.ix (.v 0) (.i 3)),.a 3 (.ix (.v 0) (.i 1)),.f (.q .Gt (.v 2) (.i 0)) #[.sub (.v 0) (.i 3) (.bin .FloorDiv (.v 2) (.v 1)),.r (.bin .Mod (.v 2) (.v 1))] .n,.f (.q .Lt (.ix (.v 0) (.i 2)) (.bf .len #[.ix (.v 0) (.i 0)])) #[.a 3 (.ix (.ix (.v 0) (.i 0)) (.ix (.v 0) (.i 2))),.augS (.v 0) (.i 2) .Add (.i 1),.f (.q .GtE (.v 3) (.bin .Pow (.i 10) (.i 18))) #[.sub (.v 0) (.i 3) (.bin .FloorDiv (.v 3) (.v 1)),.r (.bin .Mod (.v 3) (.v 1))] .n] .n,.a 4 (.bin .Mod (.bin .Pow (.bin .Add (.bin .Mod (.v 3) (.i 998244353)) (.bin .Mult (.i 7919) (.ix (.v 0) (.i 4)))) (.i 5)) (.i 2147483647)),.a 5 (.bin .Mod (.bin .Pow (.bin .Add (.bin .Add (.v 4) (.bin .Mult (.i 104729) (.ix (.v 0) (.i 4)))) (.ix (.v 0) (.i 1))) (.i 3)) (.i 2147483629)),.r (.bin .Mod (.bin .FloorDiv (.v 5) (.i 7)) (.v 1))]⟩
abbrev g8:ao:=⟨["_law_thing"],["_law_thing"],[],#[.r (.and (.isi (.v 0) (.ty "int")) (.not (.isi (.v 0) (.ty "bool"))))]⟩
abbrev jJ:ao:=⟨["_law_hand_here","_law_size"],["_law_hand_here","_law_size","_law_way","_law_names","_law_box","_law_pick"],[],#[.a 2 (.k 95 #[.v 0,.i 14]),.a 3 (.lst #[.s "here",.s "there",.s "left",.s "way",.s "sign",.s "met"]),.a 4 (.ix (.v 3) (.k 95 #[.v 0,.i 6])),.f (.q .Lt (.v 2) (.i 6)) #[.r (.tup #[.ix (.lst #[.s "copy",.s "fill",.s "seek",.s "match",.s "shift",.s "turn"]) (.v 2)])] .n,.f (.q .Lt (.v 2) (.i 9)) #[.a 4 (.ix (.lst #[.s "here",.s "there",.s "left",.v 4]) (.k 95 #[.v 0,.i 4])),.a 5 (.bin .FloorDiv (.k 95 #[.v 0,.i 8]) (.i 3)),.r (.tup #[.s "set",.v 4,.ix (.lst #[.k 95 #[.v 0,.bin .Add (.v 1) (.i 1)],.bin .Sub (.k 95 #[.v 0,.i 5]) (.i 2),.bin .Sub (.bin .Pow (.i 10) (.i 9)) (.k 95 #[.v 0,.i 2])]) (.v 5)])] .n,.f (.q .Eq (.v 2) (.i 9)) #[.a 5 (.bin .FloorDiv (.k 95 #[.v 0,.i 7]) (.i 3)),.r (.tup #[.s "add",.v 4,.ix (.lst #[.bin .Sub (.k 95 #[.v 0,.i 7]) (.i 3),.k 95 #[.v 0,.bin .Add (.v 1) (.i 1)],.neg (.bin .Pow (.i 10) (.i 9))]) (.v 5)])] .n,.f (.q .Eq (.v 2) (.i 10)) #[.r (.tup #[.s "take",.v 4,.ix (.v 3) (.k 95 #[.v 0,.i 6])])] .n,.f (.q .Lt (.v 2) (.i 13)) #[.r (.tup #[.ix (.lst #[.s "read",.s "write"]) (.bin .Sub (.v 2) (.i 11)),.v 4])] .n,.r (.tup #[.s "hop",.k 95 #[.v 0,.i 4],.ix (.lst #[.non,.i 0,.i 1]) (.k 95 #[.v 0,.i 3])])]⟩
abbrev jv:ao:=⟨["_law_spec_here"],["_law_spec_here","_law_word"],[],#[.a 1 (.ix (.v 0) (.i 0)),.f (.q .Eq (.v 1) (.s "set")) #[.r (.make 12 #[.ix (.v 0) (.i 1),.ix (.v 0) (.i 2)])] .n,.f (.q .Eq (.v 1) (.s "add")) #[.r (.make 13 #[.ix (.v 0) (.i 1),.ix (.v 0) (.i 2)])] .n,.f (.q .Eq (.v 1) (.s "take")) #[.r (.make 14 #[.ix (.v 0) (.i 1),.ix (.v 0) (.i 2)])] .n,.f (.q .Eq (.v 1) (.s "read")) #[.r (.make 15 #[.ix (.v 0) (.i 1)])] .n,.f (.q .Eq (.v 1) (.s "write")) #[.r (.make 16 #[.ix (.v 0) (.i 1)])] .n,.f (.q .Eq (.v 1) (.s "hop")) #[.r (.make 20 #[.ix (.v 0) (.i 1),.ix (.v 0) (.i 2)])] .n,.r (.k 99 #[.v 1])]⟩
abbrev jg:ao:=⟨["_law_word"],["_law_word"],[],#[.f (.q .Eq (.v 0) (.s "copy")) #[.r (.vp 21)] .n,.f (.q .Eq (.v 0) (.s "fill")) #[.r (.vp 22)] .n,.f (.q .Eq (.v 0) (.s "seek")) #[.r (.vp 23)] .n,.f (.q .Eq (.v 0) (.s "match")) #[.r (.vp 24)] .n,.f (.q .Eq (.v 0) (.s "shift")) #[.r (.vp 25)] .n,.r (.vp 26)]⟩
abbrev lj:ao:=⟨["_law_leaves","_law_deed_here","_law_cell"],["_law_leaves","_law_deed_here","_law_cell"],[],#[.f (.or (.q .Lt (.v 2) (.i 0)) (.q .GtE (.v 2) (.bf .len #[.v 0]))) #[.r (.bl false)] .n,.r (.or (.q .Eq (.ix (.v 0) (.v 2)) (.s "open")) (.and (.q .Eq (.ix (.v 0) (.v 2)) (.s "look")) (.q .Eq (.v 1) (.s "look"))))]⟩
abbrev hR:ao:=⟨["_law_spec_here","_law_boxes"],["_law_spec_here","_law_boxes","_law_here","_law_there","_law_left","_law_word","_law_far"],[],#[.par [2,3,4] #[.ix (.v 1) (.s "here"),.ix (.v 1) (.s "there"),.ix (.v 1) (.s "left")],.a 5 (.ix (.v 0) (.i 0)),.f (.q .Eq (.v 5) (.s "read")) #[.r (.tup #[.lst #[.v 2],.lst .n])] .n,.f (.q .Eq (.v 5) (.s "write")) #[.r (.tup #[.lst .n,.lst #[.v 3]])] .n,.f (.or (.q .Eq (.v 4) (.i 0)) (.and (.q .Eq (.v 5) (.s "turn")) (.q .Eq (.v 4) (.i 1)))) #[.r (.tup #[.lst .n,.lst .n])] .n,.f (.q .Eq (.v 5) (.s "copy")) #[.r (.tup #[.lst #[.v 2],.lst #[.v 3]])] .n,.f (.q .Eq (.v 5) (.s "fill")) #[.r (.tup #[.lst .n,.lst #[.v 3]])] .n,.f (.q .Eq (.v 5) (.s "seek")) #[.r (.tup #[.lst #[.v 2],.lst .n])] .n,.f (.q .Eq (.v 5) (.s "match")) #[.r (.tup #[.lst #[.v 2,.v 3],.lst .n])] .n,.f (.q .Eq (.v 5) (.s "shift")) #[.a 6 (.ix (.lst #[.bin .Sub (.v 4) (.i 1),.i 0]) (.bf .int #[.q .LtE (.v 3) (.v 2)])),.r (.tup #[.lst #[.bin .Add (.v 2) (.v 6)],.lst #[.bin .Add (.v 3) (.v 6)]])] .n,.f (.q .Eq (.v 5) (.s "turn")) #[.r (.tup #[.lst #[.v 2,.bin .Sub (.bin .Add (.v 2) (.v 4)) (.i 1)],.lst #[.v 2,.bin .Sub (.bin .Add (.v 2) (.v 4)) (.i 1)]])] .n,.r (.tup #[.lst .n,.lst .n])]⟩
abbrev jE:ao:=⟨["_law_box","_law_number"],["_law_box","_law_number"],[],#[.f (.or (.q .Eq (.v 0) (.s "here")) (.q .Eq (.v 0) (.s "there"))) #[.r (.cmp2 .LtE .LtE (.neg (.bin .Pow (.i 10) (.i 9))) (.v 1) (.bin .Pow (.i 10) (.i 9)))] .n,.f (.or (.q .Eq (.v 0) (.s "left")) (.q .Eq (.v 0) (.s "sign"))) #[.r (.cmp2 .LtE .LtE (.i 0) (.v 1) (.bin .Pow (.i 10) (.i 9)))] .n,.f (.q .Eq (.v 0) (.s "way")) #[.r (.or (.q .Eq (.v 1) (.i 1)) (.q .Eq (.v 1) (.neg (.i 1))))] .n,.r (.or (.q .Eq (.v 1) (.i 0)) (.q .Eq (.v 1) (.i 1)))]⟩
abbrev bW:ao:=⟨["_law_spec_here","_law_boxes","_law_leaves"],["_law_spec_here","_law_boxes","_law_leaves","_law_looks","_law_puts","_law_cell"],[],#[.f (.and (.q .Eq (.ix (.v 0) (.i 0)) (.s "write")) (.not (.cmp2 .LtE .LtE (.i 0) (.ix (.v 1) (.ix (.v 0) (.i 1))) (.bin .Pow (.i 10) (.i 9))))) #[.r (.tup #[.s "fit",.ix (.v 0) (.i 1),.ix (.v 1) (.ix (.v 0) (.i 1))])] .n,.asgT [3,4] (.k 101 #[.v 0,.v 1]),.for (.nm 5) (.seq (.v 3)) #[.f (.not (.val (.k 100 #[.v 2,.s "look",.v 5]))) #[.r (.tup #[.s "look",.v 5,.i 0])] .n],.for (.nm 5) (.seq (.v 4)) #[.f (.not (.val (.k 100 #[.v 2,.s "put",.v 5]))) #[.r (.tup #[.s "put",.v 5,.i 0])] .n],.r .non]⟩
abbrev jQ:ao:=⟨["_law_spec_here","_law_boxes","_law_cells","_law_leaves"],["_law_spec_here","_law_boxes","_law_cells","_law_leaves","_law_barred_here","_law_word","_law_number"],[],#[.a 4 (.k 103 #[.v 0,.v 1,.v 3]),.f (.q .IsNot (.v 4) .non) #[.r (.v 4)] .n,.a 5 (.ix (.v 0) (.i 0)),.f (.q .In (.v 5) (.tup #[.s "set",.s "add",.s "take",.s "read"])) #[.a 6 (.ix (.v 0) (.neg (.i 1))),.f (.q .Eq (.v 5) (.s "add")) #[.a 6 (.bin .Add (.ix (.v 1) (.ix (.v 0) (.i 1))) (.v 6))] .n,.f (.q .Eq (.v 5) (.s "take")) #[.a 6 (.ix (.v 1) (.ix (.v 0) (.i 2)))] .n,.f (.q .Eq (.v 5) (.s "read")) #[.a 6 (.ix (.v 2) (.ix (.v 1) (.s "here")))] .n,.f (.not (.val (.k 102 #[.ix (.v 0) (.i 1),.v 6]))) #[.r (.tup #[.s "fit",.ix (.v 0) (.i 1),.v 6])] .n,.sub (.v 1) (.ix (.v 0) (.i 1)) (.v 6),.r (.tup #[.s "on",.i 1,.i 0])] .n,.f (.q .Eq (.v 5) (.s "write")) #[.sub (.v 2) (.ix (.v 1) (.s "there")) (.ix (.v 1) (.ix (.v 0) (.i 1))),.r (.tup #[.s "on",.i 1,.i 0])] .n,.f (.q .Eq (.v 5) (.s "hop")) #[.r (.tup #[.s "on",.bin .Add (.i 1) (.bin .Mult (.ix (.v 0) (.i 1)) (.bf .int #[.or (.q .Is (.ix (.v 0) (.i 2)) .non) (.q .Eq (.ix (.v 0) (.i 2)) (.ix (.v 1) (.s "met")))])),.i 0])] .n,.r (.tup #[.s "on",.k 105 #[.v 5,.v 1,.v 2],.i 0])]⟩
abbrev ic:ao:=⟨["_law_word","_law_boxes","_law_cells"],["_law_word","_law_boxes","_law_cells","_law_here","_law_there","_law_left","_law_way","_law_size","_law_content"],[],#[.par [3,4,5] #[.ix (.v 1) (.s "here"),.ix (.v 1) (.s "there"),.ix (.v 1) (.s "left")],.a 6 (.ix (.v 1) (.s "way")),.f (.q .In (.v 0) (.tup #[.s "seek",.s "match"])) #[.r (.k 106 #[.v 0,.v 1,.v 2])] .n,.f (.q .Eq (.v 5) (.i 0)) #[.r (.i 1)] .n,.a 7 (.i 1),.f (.q .Eq (.v 0) (.s "copy")) #[.sub (.v 2) (.v 4) (.ix (.v 2) (.v 3)),.sub (.v 1) (.s "here") (.bin .Add (.v 3) (.v 6)),.sub (.v 1) (.s "there") (.bin .Add (.v 4) (.v 6))] .n,.f (.q .Eq (.v 0) (.s "fill")) #[.sub (.v 2) (.v 4) (.ix (.v 1) (.s "sign")),.sub (.v 1) (.s "there") (.bin .Add (.v 4) (.v 6))] .n,.f (.and (.q .Eq (.v 0) (.s "shift")) (.q .LtE (.v 4) (.v 3))) #[.sub (.v 2) (.v 4) (.ix (.v 2) (.v 3)),.sub (.v 1) (.s "here") (.bin .Add (.v 3) (.i 1)),.sub (.v 1) (.s "there") (.bin .Add (.v 4) (.i 1))] #[.f (.q .Eq (.v 0) (.s "shift")) #[.sub (.v 2) (.bin .Sub (.bin .Add (.v 4) (.v 5)) (.i 1)) (.ix (.v 2) (.bin .Sub (.bin .Add (.v 3) (.v 5)) (.i 1)))] .n],.f (.and (.q .Eq (.v 0) (.s "turn")) (.q .Gt (.v 5) (.i 1))) #[.a 7 (.i 2),.a 8 (.ix (.v 2) (.v 3)),.sub (.v 2) (.v 3) (.ix (.v 2) (.bin .Sub (.bin .Add (.v 3) (.v 5)) (.i 1))),.sub (.v 2) (.bin .Sub (.bin .Add (.v 3) (.v 5)) (.i 1)) (.v 8),.sub (.v 1) (.s "here") (.bin .Add (.v 3) (.i 1))] .n,.sub (.v 1) (.s "left") (.bin .Sub (.v 5) (.v 7)),.r (.bf .int #[.q .Eq (.ix (.v 1) (.s "left")) (.i 0)])]⟩
abbrev fS:ao:=⟨["_law_word","_law_boxes","_law_cells"],["_law_word","_law_boxes","_law_cells","_law_here","_law_there","_law_left","_law_way","_law_other"],[],#[.par [3,4,5] #[.ix (.v 1) (.s "here"),.ix (.v 1) (.s "there"),.ix (.v 1) (.s "left")],.a 6 (.ix (.v 1) (.s "way")),.f (.q .Eq (.v 5) (.i 0)) #[.sub (.v 1) (.s "met") (.bf .int #[.q .Eq (.v 0) (.s "match")]),.r (.i 1)] .n,.a 7 (.ix (.v 1) (.s "sign")),.f (.q .Eq (.v 0) (.s "match")) #[.a 7 (.ix (.v 2) (.v 4))] .n,.f (.q .Eq (.q .Eq (.ix (.v 2) (.v 3)) (.v 7)) (.q .Eq (.v 0) (.s "seek"))) #[.sub (.v 1) (.s "met") (.bf .int #[.q .Eq (.v 0) (.s "seek")]),.r (.i 1)] .n,.sub (.v 1) (.s "met") (.bf .int #[.q .Eq (.v 0) (.s "match")]),.sub (.v 1) (.s "here") (.bin .Add (.v 3) (.v 6)),.f (.q .Eq (.v 0) (.s "match")) #[.sub (.v 1) (.s "there") (.bin .Add (.v 4) (.v 6))] .n,.sub (.v 1) (.s "left") (.bin .Sub (.v 5) (.i 1)),.r (.bf .int #[.q .Eq (.v 5) (.i 1)])]⟩
abbrev hJ:ao:=⟨["_law_hand_here","_law_most"],["_law_hand_here","_law_most"],[],#[.r (.lc (.k 95 #[.v 1,.ix (.lst #[.i 3,.i 1000,.bin .Mult (.i 3) (.bin .Pow (.i 10) (.i 8))]) (.k 95 #[.v 1,.i 3])]) [0] (.rng1 (.bin .Add (.i 1) (.k 95 #[.v 0,.v 1]))))]⟩
abbrev k9:ao:=⟨["_law_hand_here","_law_many"],["_law_hand_here","_law_many","_law_spots","_law_left","_law_six_here"],[],#[.a 2 (.lc (.ix (.lst #[.k 95 #[.v 1,.v 2],.i 0,.bin .Sub (.v 2) (.i 1),.v 2,.neg (.i 1),.bin .Pow (.i 10) (.i 9)]) (.k 95 #[.v 1,.i 6])) [0,1] (.rng1 (.i 2))),.a 3 (.ix (.lst #[.k 95 #[.v 0,.bin .Add (.v 1) (.i 1)],.v 1,.bin .Add (.v 1) (.i 1),.bin .Pow (.i 10) (.i 9),.i 0]) (.k 95 #[.v 0,.i 5])),.a 4 (.disp ["here","there","left","way"] #[.ix (.v 2) (.i 0),.ix (.v 2) (.i 1),.v 3,.bin .Sub (.i 1) (.bin .Mult (.i 2) (.k 95 #[.v 0,.i 2]))]),.sub (.v 4) (.s "sign") (.k 95 #[.v 0,.ix (.lst #[.i 3,.bin .Mult (.i 3) (.bin .Pow (.i 10) (.i 8))]) (.k 95 #[.v 0,.i 2])]),.sub (.v 4) (.s "met") (.k 95 #[.v 0,.i 2]),.r (.v 4)]⟩
abbrev gK:ao:=⟨["_law_hand_here","_law_size"],["_law_hand_here","_law_size","_law_parts_here","_law_low","_law_k","_law_behind"],[],#[.a 2 (.lst .n),.a 3 (.ix (.lst #[.i 0,.k 95 #[.v 0,.v 1]]) (.k 95 #[.v 0,.i 2])),.for (.nm 4) (.rng1 (.bin .Add (.i 1) (.k 95 #[.v 0,.i 4]))) #[.f (.q .Lt (.v 3) (.v 1)) #[.a 5 (.bin .Add (.bin .Add (.v 3) (.i 1)) (.k 95 #[.v 0,.ix (.lst #[.bin .Sub (.v 1) (.v 3),.bf .min #[.i 9,.bin .Sub (.v 1) (.v 3)]]) (.k 95 #[.v 0,.i 2])])),.e (.lm .insert (.v 2) #[.k 95 #[.v 0,.bin .Add (.bf .len #[.v 2]) (.i 1)],.tup #[.v 3,.v 5]]),.a 3 (.bin .Add (.v 5) (.ix (.lst #[.i 0,.i 0,.i 1,.i 3]) (.k 95 #[.v 0,.i 4])))] .n],.r (.v 2)]⟩
abbrev eX:ao:=⟨["_law_hand_here","_law_cells","_law_most"],["_law_hand_here","_law_cells","_law_most","_law_members_here","_law_low","_law_behind","_law_specs"],[],#[.a 3 (.lst .n),.for (.tp [4,5]) (.seq (.k 109 #[.v 0,.bf .len #[.v 1]])) #[.a 6 (.lc (.k 97 #[.v 1,.bin .Sub (.v 2) (.v 3)]) [0,5,4] (.rng1 (.bin .Add (.i 1) (.k 95 #[.v 0,.v 2])))),.e (.lm .append (.v 3) #[.tup #[.v 4,.v 5,.v 6,.k 108 #[.v 0,.bin .Sub (.v 5) (.v 4)]]])],.r (.v 3)]⟩
abbrev jj:ao:=⟨["_law_cells","_law_members_here"],["_law_cells","_law_members_here","_law_some","_law_low","_law_behind","_law_specs","_law_six_here","_law_boxes"],[],#[.a 2 (.lst .n),.for (.tp [3,4,5,6]) (.seq (.v 1)) #[.a 7 (.make 10 #[.ix (.v 6) (.s "here"),.ix (.v 6) (.s "there"),.ix (.v 6) (.s "left"),.ix (.v 6) (.s "way"),.ix (.v 6) (.s "sign"),.ix (.v 6) (.s "met")]),.e (.lm .append (.v 2) #[.tup #[.v 3,.v 4,.lc (.k 98 #[.v 0]) [] (.seq (.v 5)),.v 7]])],.r (.make 19 #[.bf .list #[.v 0],.v 2])]⟩
abbrev fE:ao:=⟨["_law_cells","_law_members_here"],["_law_cells","_law_members_here","_law_worlds_here","_law_low","_law_behind","_law_specs","_law_six_here"],[],#[.a 2 (.lst .n),.for (.tp [3,4,5,6]) (.seq (.v 1)) #[.e (.lm .append (.v 2) #[.lst #[.i 0,.bf .dict #[.v 6],.sl (.v 0) (.yes (.v 3)) (.yes (.v 4)),.bin .Mult (.lst #[.s "open"]) (.bin .Sub (.v 4) (.v 3))]])],.r (.v 2)]⟩
abbrev jt:ao:=⟨["_law_specs","_law_world"],["_law_specs","_law_world","_law_told"],[],#[.f (.q .Eq (.ix (.v 1) (.i 0)) (.bf .len #[.v 0])) #[.r (.s "end")] .n,.a 2 (.k 104 #[.ix (.v 0) (.ix (.v 1) (.i 0)),.ix (.v 1) (.i 1),.ix (.v 1) (.i 2),.ix (.v 1) (.i 3)]),.f (.q .NotEq (.ix (.v 2) (.i 0)) (.s "on")) #[.r (.s "stop")] .n,.sub (.v 1) (.i 0) (.bf .min #[.bf .len #[.v 0],.bin .Add (.ix (.v 1) (.i 0)) (.ix (.v 2) (.i 1))]),.r (.s "on")]⟩
abbrev bZ:ao:=⟨["_law_found","_law_world"],["_law_found","_law_world"],[],#[.f (.or (.not (.val (.isi (.v 0) (.ty "tuple")))) (.or (.q .NotEq (.bf .len #[.v 0]) (.i 3)) (.not (.val (.isi (.ix (.v 0) (.i 2)) (.ty "list")))))) #[.r (.bl false)] .n,.r (.and (.q .Eq (.v 0) (.tup #[.ix (.v 1) (.i 0),.vals true (.ix (.v 1) (.i 1)),.ix (.v 1) (.i 2)])) (.k 96 #[.ix (.v 0) (.i 0)]))]⟩
abbrev fL:ao:=⟨["_law_crew_here","_law_cells","_law_members_here","_law_worlds_here"],["_law_crew_here","_law_cells","_law_members_here","_law_worlds_here","_law_floor_here","_law_k","_law_place","_law_found"],[],#[.a 4 (.bf .list #[.v 1]),.for (.nm 5) (.rng1 (.bf .len #[.v 2])) #[.f (.not (.val (.k 114 #[.m (.v 0) "state" #[.v 5],.ix (.v 3) (.v 5)]))) #[.r (.bl false)] .n,.for (.nm 6) (.rng1 (.bf .len #[.ix (.ix (.v 3) (.v 5)) (.i 2)])) #[.sub (.v 4) (.bin .Add (.ix (.ix (.v 2) (.v 5)) (.i 0)) (.v 6)) (.ix (.ix (.ix (.v 3) (.v 5)) (.i 2)) (.v 6))]],.a 7 (.m (.v 0) "floor" .n),.r (.and (.isi (.v 7) (.ty "list")) (.and (.q .Eq (.v 7) (.v 4)) (.bf .all #[.lc (.k 96 #[.v 0]) [] (.seq (.v 7))])))]⟩
abbrev gA:ao:=⟨["_law_hand_here","_law_order"],["_law_hand_here","_law_order","_law_left","_law_found"],[],#[.a 2 (.bf .list #[.v 1]),.a 3 (.lst .n),.whl (.q .NotEq (.v 2) (.lst .n)) #[.e (.lm .append (.v 3) #[.lm .pop (.v 2) #[.k 95 #[.v 0,.bf .len #[.v 2]]]])],.r (.v 3)]⟩
abbrev dG:ao:=⟨["_law_hand_here","_law_crew_here","_law_order"],["_law_hand_here","_law_crew_here","_law_order","_law_words","_law_at","_law_size"],[],#[.a 3 (.lst .n),.a 4 (.i 0),.whl (.q .Lt (.v 4) (.bf .len #[.v 2])) #[.a 5 (.bin .Add (.i 1) (.k 95 #[.v 0,.ix (.lst #[.bf .len #[.v 2],.i 5]) (.k 95 #[.v 0,.i 2])])),.a 3 (.bin .Add (.v 3) (.m (.v 1) "go" #[.sl (.v 2) (.yes (.v 4)) (.yes (.bin .Add (.v 4) (.v 5)))])),.a 4 (.bin .Add (.v 4) (.v 5))],.r (.v 3)]⟩
abbrev mZ:ao:=⟨["_law_order","_law_words","_law_k"],["_law_order","_law_words","_law_k"],[],#[.r (.lci (.ix (.v 1) (.v 0)) (.q .Eq (.ix (.v 2) (.v 0)) (.v 3)) [1,0,2] (.rng1 (.bf .len #[.v 0])))]⟩
abbrev lC:ao:=⟨["_law_script"],["_law_script","_law_hand_here","_law_cells","_law_members_here","_law_one","_law_other","_law_third","_law_long_here","_law_order","_law_mixed_here","_law_words","_law_others","_law_worlds_here","_law_k","_law_crew_here"],[],#[.a 1 (.k 94 #[.v 0]),.a 2 (.k 107 #[.v 1,.ix (.lst #[.i 24,.i 60]) (.k 95 #[.v 1,.i 2])]),.a 3 (.k 110 #[.v 1,.v 2,.i 8]),.a 4 (.k 111 #[.v 2,.v 3]),.a 5 (.k 111 #[.v 2,.v 3]),.a 6 (.k 111 #[.v 2,.v 3]),.a 7 (.q .Eq (.k 95 #[.v 1,.i 8]) (.i 0)),.a 8 (.lc (.k 95 #[.v 1,.bf .len #[.v 2]]) [1,3] (.rng1 (.ix (.lst #[.k 95 #[.v 1,.i 61],.i 300]) (.bf .int #[.v 7])))),.a 9 (.k 116 #[.v 1,.v 8]),.f (.val (.v 7)) #[.a 10 (.m (.v 4) "go" #[.v 8])] #[.a 10 (.k 117 #[.v 1,.v 4,.v 8])],.a 11 (.lc (.m (.v 1) "step" #[.v 0]) [5] (.seq (.v 9))),.a 12 (.k 112 #[.v 2,.v 3]),.for (.nm 13) (.seq (.v 8)) #[.e (.k 113 #[.ix (.ix (.v 3) (.v 13)) (.i 2),.ix (.v 12) (.v 13)])],.for (.nm 13) (.rng1 (.bf .len #[.v 3])) #[.f (.q .NotEq (.k 118 #[.v 8,.v 10,.v 13]) (.k 118 #[.v 9,.v 11,.v 13])) #[.r (.bl false)] .n,.e (.m (.v 6) "run" #[.bin .Sub (.bin .Sub (.bf .len #[.v 3]) (.i 1)) (.v 13),.lm .count (.v 8) #[.bin .Sub (.bin .Sub (.bf .len #[.v 3]) (.i 1)) (.v 13)]]),.f (.q .NotEq (.m (.v 4) "state" #[.v 13]) (.m (.v 5) "state" #[.v 13])) #[.r (.bl false)] .n],.for (.nm 14) (.seq (.lst #[.v 4,.v 5,.v 6])) #[.f (.not (.val (.k 115 #[.v 14,.v 2,.v 3,.v 12]))) #[.r (.bl false)] .n],.r (.q .Eq (.m (.v 4) "floor" .n) (.m (.v 5) "floor" .n))]⟩
abbrev tab:Tab where
  fns:=(cB::dO::c5::iY::gU::gO::fX::ir::fv::kN::ip::lN::jm::yp::c7::fN::dm::gW::d9::jK::eZ::eU::kJ::rO::eO::kS::rH::dJ::jx::oA::dN::jR::ou::c4::gw::mx::gG::fR::vK::cI::dP::cP::d8::cX::dF::kI::iQ::fD::ju::c9::gy::iy::jB::gC::jF::eJ::rS::uP::jq::fB::nO::k6::ig::dH::ck::cR::jh::ma::gI::nY::ik::nR::vc::eG::lL::rg::oE::eE::jL::nE::yY::lJ::jS::pI::jl::oz::jz::om::gJ::mJ::hW::mw::jf::oq::jo::jI::g8::jJ::jv::jg::lj::hR::jE::bW::jQ::ic::fS::hJ::k9::gK::eX::jj::fE::jt::bZ::fL::gA::dG::mZ::lC::[])
  gfn:=(("is_whole",9)::("is_content",10)::("is_box",11)::("is_number",12)::("fits",13)::("check_box",19)::("check_number",20)::("check_rows",36)::("check_place",37)::("tried",38)::("check_cells",47)::("is_within",48)::("shared",56)::("apart",57)::("is_member",58)::("are_members",59)::("is_part",60)::("parts_of",61)::("machine_on",62)::("is_many",71)::("is_on",72)::("more",76)::("go_by_way",77)::("less_left",78)::("ask_put",79)::("haul",80)::("exchange",81)::("_law_hand",94)::("_law_draw",95)::("_law_whole",96)::("_law_spec",97)::("_law_deed",98)::("_law_long",99)::("_law_let",100)::("_law_reach",101)::("_law_fits",102)::("_law_barred",103)::("_law_step",104)::("_law_moved",105)::("_law_looked",106)::("_law_floor",107)::("_law_six",108)::("_law_parts",109)::("_law_members",110)::("_law_crew",111)::("_law_worlds",112)::("_law_goes",113)::("_law_member_stands",114)::("_law_stands",115)::("_law_mixed",116)::("_law_by_lists",117)::("_law_of",118)::("law",119)::[])
  gcl:=[("HaulError",0),("NoStore",1),("Stop",2),("NoFit",3),("NoBox",4),("NoDeed",5),("NoRows",6),("NoPlace",7),("NoPart",8),("NoMember",9),("Boxes",10),("Deed",11),("Set",12),("Add",13),("Take",14),("Read",15),("Write",16),("Machine",17),("Store",18),("Crew",19),("Hop",20),("Copy",21),("Fill",22),("Seek",23),("Match",24),("Shift",25),("Turn",26)]
  gbl:=["all","bool","dict","enumerate","int","isinstance","len","list","max","min","range","str","tuple","zip"]
  gbi:=["HaulError"]
  na:=((1,"at")::(2,"cell")::(2,"deed")::(3,"box")::(3,"number")::(4,"box")::(5,"word")::(6,"at")::(7,"at")::(8,"at")::(9,"k")::(10,"numbers")::(12,"box")::(12,"number")::(13,"box")::(13,"number")::(14,"box")::(14,"other")::(15,"box")::(16,"box")::(17,"at")::(17,"boxes")::(17,"deeds")::(17,"store")::(18,"contents")::(18,"permits")::(19,"ground")::(19,"machines")::(19,"parts")::(20,"many")::(20,"on")::[])
  me:=(((10,"copied"),18)::((10,"give"),16)::((10,"holds"),15)::((10,"told"),17)::((12,"step"),22)::((12,"words"),23)::((13,"step"),25)::((13,"words"),26)::((14,"step"),28)::((14,"words"),29)::((15,"step"),31)::((15,"words"),32)::((16,"step"),34)::((16,"words"),35)::((17,"copied"),46)::((17,"ended"),40)::((17,"rows"),45)::((17,"run"),43)::((17,"state"),44)::((17,"step"),42)::((17,"step_on"),41)::((18,"copied"),55)::((18,"look"),53)::((18,"may"),52)::((18,"put"),54)::((18,"size"),50)::((18,"told"),51)::((19,"check_member"),64)::((19,"floor"),70)::((19,"go"),69)::((19,"machine_of"),65)::((19,"run"),67)::((19,"state"),68)::((19,"step"),66)::((20,"step"),74)::((20,"words"),75)::((21,"step"),82)::((21,"words"),83)::((22,"step"),84)::((22,"words"),85)::((23,"step"),86)::((23,"words"),87)::((24,"step"),88)::((24,"words"),89)::((25,"step"),90)::((25,"words"),91)::((26,"step"),92)::((26,"words"),93)::[])
  ini:=[(1,0),(2,1),(3,2),(4,3),(5,4),(6,5),(7,6),(8,7),(9,8),(10,14),(12,21),(13,24),(14,27),(15,30),(16,33),(17,39),(18,49),(19,63),(20,73)]
  ini0:=[]
  inip:=[21,22,23,24,25,26]
  oc:=[10,11,12,13,14,15,16,17,18,19,20,21,22,23,24,25,26]
  xc:=[0,1,2,3,4,5,6,7,8,9]
  sub:=(((0,3),false)::((0,2),false)::((1,3),false)::((1,2),false)::((2,3),false)::((2,2),true)::((3,3),true)::((3,2),false)::((4,3),false)::((4,2),false)::((5,3),false)::((5,2),false)::((6,3),false)::((6,2),false)::((7,3),false)::((7,2),false)::((8,3),false)::((8,2),false)::((9,3),false)::((9,2),false)::((10,11),false)::((11,11),true)::((12,11),true)::((13,11),true)::((14,11),true)::((15,11),true)::((16,11),true)::((17,11),false)::((18,11),false)::((19,11),false)::((20,11),true)::((21,11),true)::((22,11),true)::((23,11),true)::((24,11),true)::((25,11),true)::((26,11),true)::[])
  subT:=[]
  subB:=((("NoneType","bool"),false)::(("NoneType","int"),false)::(("NoneType","list"),false)::(("NoneType","str"),false)::(("NoneType","tuple"),false)::(("bool","bool"),true)::(("bool","int"),true)::(("bool","list"),false)::(("bool","str"),false)::(("bool","tuple"),false)::(("int","bool"),false)::(("int","int"),true)::(("int","list"),false)::(("int","str"),false)::(("int","tuple"),false)::(("str","bool"),false)::(("str","int"),false)::(("str","list"),false)::(("str","str"),true)::(("str","tuple"),false)::(("list","bool"),false)::(("list","int"),false)::(("list","list"),true)::(("list","str"),false)::(("list","tuple"),false)::(("tuple","bool"),false)::(("tuple","int"),false)::(("tuple","list"),false)::(("tuple","str"),false)::(("tuple","tuple"),true)::(("dict","bool"),false)::(("dict","int"),false)::(("dict","list"),false)::(("dict","str"),false)::(("dict","tuple"),false)::[])
  subO:=[]
/-- what the proofs ask of the addresses -/
structure Ro (K:W.Frag) (R:Rt):Prop where
  hK:R.K=K
  g_BOUND:R.gl "BOUND"=some (.int 1000000000)
  g_MOST_ROWS:R.gl "MOST_ROWS"=some (.int 24)
  g_MOST_CELLS:R.gl "MOST_CELLS"=some (.int 60)
  g_MOST_MEMBERS:R.gl "MOST_MEMBERS"=some (.int 4)
  g_THINGS_OF_A_MEMBER:R.gl "THINGS_OF_A_MEMBER"=some (.int 4)
  g_MOST_HOPPED:R.gl "MOST_HOPPED"=some (.int 24)
  g_NAMES:∃ a,R.gl "NAMES"=some (.ref a)/\∀ H,a8 K H a [.str "here",.str "there",.str "left",.str "way",.str "sign",.str "met"]
end My
set_option Elab.async false
set_option maxHeartbeats 8000000
namespace My
open PySem L2 L3
open L2.V renaming ref→v6,int→wf,str→wl,non→wn
open L2.HO renaming lst→wp,tup→wr,ins→wv
local macro_rules|`(tactic|delta $x:ident)=>`(tactic|refine wc (d:=$x) nofun rfl rfl ?_)
variable {h a C d dx l lv D:Addr}{m i r c at_:Int}{ns cs':List Int}{n:Nat}{v:V}{xs ds ss ys:List V}{α:Type}{ws:List Str}{A:av}{P:V->Prop}{sp:Sp}{o:Option Int}{rest:St}{H3:Hp}{te:TE}{is:List Nat}{I:Nat->Addr->List V->Hp->Prop}
section
variable {K:W.Frag}{R:Rt}{k:Nat}{H:Hp}{Q:VK}{E:XK}{O Γ' Δ:List av}
local macro_rules| `(tactic|walk_at "w")=>`(tactic|conv=>whnf)
local macro_rules| `(tactic|left)=>`(tactic|walk_at "w")
local macro_rules| `(tactic|symm)=>`(tactic|((with_reducible (repeat(first|exact ae.e|apply ae.t)));done))
local macro_rules| `(tactic|ac_rfl)=>`(tactic|((with_reducible (repeat(first|exact aO.e|apply aO.t)));done))
local macro_rules| `(tactic|ac_nf)=>`(tactic|first|(with_reducible exact Sub.refl)|(refine' Sub.cons ?h ?r;(case h=>symm);(case r=>ac_nf))|(with_reducible exact Sub.nil)|(with_reducible apply Sub.drop;(ac_nf)))
local macro_rules| `(tactic|walk_at "sp")=>`(tactic|(refine Sep.sub ?_ (by with_reducible assumption);(ac_nf)))
local macro_rules| `(tactic|grind)=>`(tactic|first|exact Sep.get (by with_reducible assumption) (by symm)|exact Sep.fY (by with_reducible assumption) (by symm))
local macro_rules| `(tactic|walk_at "ar")=>`(tactic|first|lia|omega|decide|exact pc rfl|(unfold qx;omega)|(unfold B5;omega)|(unfold B5;decide)|(unfold qx;decide)|(simp only[ce,length_set,List.length_replicate];omega))
local macro_rules| `(tactic|walk_at "ls")=>`(tactic|first|(conv=>lhs;simp only[List.set_cons_succ,List.set_cons_zero,Int.reduceToNat])|rfl)
local macro_rules| `(tactic|walk_at "pf")=>`(tactic|first|(conv=>lhs;simp (decide:=true) only [cN,if_true,if_false])|rfl)
local macro_rules| `(tactic|walk_at "st")=>`(tactic|first
  |(with_reducible refine And.intro rfl ?_)
  |(with_reducible refine aL rfl ?_)
  |(with_reducible refine ar rfl ?_)
  |(with_reducible refine Fd ?_)
  |((with_reducible refine' aM ?e ?v ?_);(case e=>grind);(case v=>exact rfl))
  |((with_reducible refine' dz ?e ?v ?_);(case e=>grind);(case v=>exact rfl))
  |((with_reducible refine' Ji ?e ?i ?v ?_);(case e=>grind);(case i=>omega);(case v=>exact rfl))
  |(with_reducible refine Fj rfl ?_)
  |(with_reducible refine Hv rfl ?_)
  |((with_reducible refine' iD ?e ?_);(case e=>grind))
  |((with_reducible refine' uN ?e ?_);(case e=>grind))
  |((with_reducible refine' fO ?s ?r ?j ?x (λH hs=>?_));(case s=>with_reducible assumption);(case r=>ac_rfl);(case j=>exact rfl);(case x=>walk_at "ls"))
  |((with_reducible refine' GL ?s ?l (λp H hs=>?_));(case s=>with_reducible assumption);(case l=>exact pc rfl))
  |((with_reducible refine' Hf ?s ?l (λp H hs=>?_));(case s=>with_reducible assumption);(case l=>exact pc rfl))
  |((with_reducible refine' al_dct ?s (λp H hs=>?_));(case s=>with_reducible assumption))
  |((with_reducible refine' Ju ?e ?_);(case e=>grind))
  |((with_reducible refine' CL ?e ?_);(case e=>grind))
  |((with_reducible refine' rm ?s ?e ?f ?l (λp H hs=>?_));(case s=>with_reducible assumption);(case e=>grind);(case f=>grind);(case l=>walk_at "ar"))
  |((with_reducible refine' Kn ?s ?e ?f ?g ?l (λp H hs=>?_));(case s=>with_reducible assumption);(case e=>grind);(case f=>walk_at "ar");(case g=>walk_at "ar");(case l=>walk_at "ar"))
  |((with_reducible refine' LS ?s ?r ?o ?n ?l ?x (λH hs=>?_));(case s=>with_reducible assumption);(case r=>ac_rfl);(case o=>exact rfl);(case n=>exact rfl);(case l=>walk_at "ar");(case x=>walk_at "pf"))
  |((with_reducible refine' cK ?e ?o ?n ?l ?_);(case e=>grind);(case o=>exact rfl);(case n=>exact rfl);(case l=>exact rfl))
  |((with_reducible refine' JH ?e ?o ?n ?l ?_);(case e=>grind);(case o=>exact rfl);(case n=>exact rfl);(case l=>exact rfl))
  |((with_reducible refine' isi_x ?e ?o ?b ?_);(case e=>grind);(case o=>exact rfl);(case b=>exact rfl))
  |((with_reducible refine' isi_xt ?e ?o ?b ?_);(case e=>grind);(case o=>exact rfl);(case b=>exact rfl))
  |((with_reducible refine' cS ?t ?b ?_);(case t=>exact rfl);(case b=>exact rfl))
  |((with_reducible refine' Cp ?a ?b ?_);(case a=>exact rfl);(case b=>exact rfl))
  |((with_reducible refine' BU ?a ?b ?_);(case a=>exact rfl);(case b=>exact rfl))
  |((with_reducible refine' uV ?s ?e (λp H hs=>?_));(case s=>with_reducible assumption);(case e=>grind))
  |((with_reducible refine' HB ?s ?e (λp H hs=>?_));(case s=>with_reducible assumption);(case e=>grind))
  |(refine And.intro (by walk_at "ar") ?_))
local macro_rules| `(tactic|walk_at "go")=>`(tactic|(walk_at "w";repeat(walk_at "st";walk_at "w")))
local macro_rules| `(tactic|right)=>`(tactic|walk_at "go")
abbrev hand (h:Addr)(m:Int):av:=ex λx:Addr×List Int×Int×Int×Int×Int=>qm (pt h (wp [v6 x.1,wf x.2.2.1,wf x.2.2.2.1,wf x.2.2.2.2.1,wf x.2.2.2.2.2])) (qm (pt x.1 (wp (x.2.1.map wf)))
 (pu (x.2.1.length<=63/\0<=x.2.2.1/\x.2.2.1<2147483629/\0<=x.2.2.2.1/\0<=x.2.2.2.2.1/\0<=x.2.2.2.2.2/\x.2.2.2.2.2<=m)))
def Am (s:Sep (hand h m::O) H):∃ (c:Addr) (ns:List Int) (fo i r n:Int),Sep (pt h (wp [v6 c,wf fo,wf i,wf r,wf n])::pt c (wp (ns.map wf))::O) H/\ns.length<=63/\0<=fo/\fo<2147483629/\0<=i/\0<=r/\0<=n/\n<=m:=by
 obtain⟨⟨c,ns,fo,i,r,n⟩,s⟩:=Sep.Ib.mp s;have s2:=Sep.star.mp ((Sep.star.mp s).pull .k1);have p:=(s2.pull .k1).pure;exact⟨c,ns,fo,i,r,n,((s2.pull .k1).drop).pull .k1,p⟩
def i9 {c:Addr}{fo n:Int}(s:Sep (pt h (wp [v6 c,wf fo,wf i,wf r,wf n])::pt c (wp (ns.map wf))::O) H)(p:ns.length<=63/\0<=fo/\fo<2147483629/\0<=i/\0<=r/\0<=n/\n<=m):Sep (hand h m::O) H:=by
 refine Sep.Ib.mpr ⟨⟨c,ns,fo,i,r,n⟩,Sep.star.mpr ?_⟩;exact(Sep.star.mpr (((s.pull .k1).pull .e |> λs=>(Sep.uH p s).pull .k1))).pull .k1
def J3:(10:Int) ^ Int.toNat 18=1000000000000000000:=by decide
def kU {n:Int}(hk:1<=k)(s:Sep (hand h m::O) H)(hm:m<=1099511627776)(hn0:0<n)(hn1:n<1073741824)
  (q:∀ (r:Int) (H':Hp),0<=r->r<n->Sep (hand h (m+1)::O) H'->Q (wf r) H'):aa tab R k 95 [v6 h,wf n] H Q E:=by
 obtain⟨c,ns,fo,i,r,j,hs,h63,f0,f1,i0,r0,k0,k1⟩:=Am s;clear s;have nn:n≠0:=by omega
 delta jI;right;refine ay (λhr=>?_) (λhr=>?_)
 .right;rename_i H1 hs1 H2 hs2;exact q _ _ (Int.emod_nonneg _ nn) (Int.emod_lt_of_pos _ hn0) (i9 hs2 ⟨h63,f0,f1,i0,Int.ediv_nonneg r0 nofun,by omega,by omega⟩)
 right;refine ay (λhc=>?_) (λhc=>?_)
 .right;obtain⟨z,hz⟩:∃ z,lH (ns.map wf) i=some (wf z):=yz i0 (by rw[ce]at hc;exact hc);refine aM (by grind) hz ?_;right;refine ay (λhz18=>?_) (λhz18=>?_)
  .rw[J3]at hz18;right;rename_i H1 hs1 H2 hs2 H3 hs3;exact q _ _ (Int.emod_nonneg _ nn) (Int.emod_lt_of_pos _ hn0) (i9 hs3 ⟨h63,f0,f1,by omega,Int.ediv_nonneg nofun nofun,by omega,by omega⟩)
  .right;rename_i H1 hs1 H2 hs2;exact q _ _ (Int.emod_nonneg _ nn) (Int.emod_lt_of_pos _ hn0) (i9 hs2 ⟨h63,f0,f1,by omega,r0,by omega,by omega⟩)
 .right;rename_i H1 hs1;exact q _ _ (Int.emod_nonneg _ nn) (Int.emod_lt_of_pos _ hn0) (i9 hs1 ⟨h63,f0,f1,by omega,r0,by omega,by omega⟩)
def HK (hk:1<=k)(s:Sep O H)(hS:aS R.K H a (ns.map wf))(h63:ns.length<=63)(q:∀ h H',Sep (hand h 0::O) H'->Q (v6 h) H'):aa tab R k 94 [v6 a] H Q E:=by
 delta jo;right;refine LG s hS (λp H1 hs1=>?_);rw[Jr ns h63]at hs1;right;rename_i c H2 hs2;refine bT (xs:=ns.map wf) (λj U H=>∃ (fo:Int) (v:Option V),U=[some (v6 a),some (v6 c),some (wf fo),v]/\0<=fo/\fo<2147483629/\Sep (pt c (wp (ns.map wf))::pt p (wp (ns.map wf))::O) H) ?_ ?_ ?_ ?_
 .exact⟨_,none,rfl,by rw[ce];omega,by rw[ce];omega,hs2⟩
 .rintro j U H ⟨fo,v,rfl,h0,h2,hs⟩;exact aS.of hs.at
 .rintro j x U H hx ⟨fo,v,rfl,h0,h2,hs⟩;obtain⟨z,rfl⟩:=tm hx;right;exact⟨_,_,rfl,by omega,by omega,hs⟩
 .rintro U H ⟨fo,v,rfl,h0,h2,hs⟩;right;rename_i l H3 hs3;exact q l _ (i9 ((hs3.pull .k2).drop) ⟨h63,h0,h2,by omega,by omega,by omega,by omega⟩)
def aj {n:Int}(s:Sep (hand h m::O) H)(e:m<=n):Sep (hand h n::O) H:=by
 obtain⟨c,ns,fo,i,r,j,hs,h63,f0,f1,i0,r0,k0,k1⟩:=Am s;exact i9 hs ⟨h63,f0,f1,i0,r0,k0,by omega⟩
inductive Kd (H:Hp):V->String->Prop where
 |non:Kd H wn "NoneType"
 |bl (b:Bool):Kd H (.bl b) "bool"
 |int (i:Int):Kd H (wf i) "int"
 |str (x:Str):Kd H (wl x) "str"
 |lst {a:Addr}{xs:List V}(e:H a=some (wp xs)):Kd H (v6 a) "list"
 |tup {a:Addr}{xs:List V}(e:H a=some (wr xs)):Kd H (v6 a) "tuple"
 |dct {a:Addr}{kvs:List (Key×V)}(e:H a=some (.dK kvs)):Kd H (v6 a) "dict"
def fe {t:String}(h:tyName v H=some t):Kd H v t:=by
 unfold tyName at h
 split at h
 .cases h;exact .non
 .cases h;exact .bl _
 .cases h;exact .int _
 .cases h;exact .str _
 .split at h
  .rename_i e;cases h;exact .lst e
  .rename_i e;cases h;exact .tup e
  .rename_i e;cases h;exact .dct e
  .cases h
 .cases h
abbrev uB:V->Bool
 | wf _=>true
 |_=>false
abbrev fA:V->Bool
 | wf i=>decide (0<=i)&&decide (i<=1000000000)
 |_=>false
def aH {t:String}(hk:1<=k)(ht:tyName v H=some t)(q:Q (.bl (uB v)) H):aa tab R k 9 [v] H Q E:=by
 delta kN;right;cases fe ht
 all_goals
  refine cS ht rfl ?_;right
  first
   |exact q
   |(refine cS ht rfl ?_;right;exact q)
def cn {t:String}(ro:Ro K R)(hk:2<=k)(ht:tyName v H=some t)(q:Q (.bl (fA v)) H):aa tab R k 10 [v] H Q E:=by
 delta ip;right;refine aH nofun ht ?_;cases fe ht
 case int i=>
  right;refine ay (λh0=>?_) (λh0=>?_)
  .left;simp only[ro.g_BOUND];right;have e:fA (wf i)=decide (i<=1000000000):=by simp[fA,h0]
   rw[e]at q;exact q
  .right;have e:fA (wf i)=false:=by simp[fA,h0]
   rw[e]at q;exact q
 all_goals
  right;exact q
abbrev bad (xs:List V):Option Int:=if xs.length<1\/60<xs.length then some (-1) else(xs.findIdx? λx=>!fA x).map λn=>(n:Int)
def GA (h:¬ (1<=xs.length/\xs.length<=60)):bad xs=some (-1):=by
 unfold bad;rw[if_pos nofun]
def Hz {j:Nat}{x:V}(h:1<=xs.length/\xs.length<=60)(hx:xs[j]? =some x)(hc:fA x=false)(hb:∀ i y,i<j->xs[i]? =some y->fA y=true):bad xs=some j:=by
 unfold bad;rw[if_neg nofun];have:xs.findIdx? (λx=>!fA x)=some j:=by
  rw[List.findIdx?_eq_some_iff_getElem];obtain⟨hj,e⟩:=tz.mp hx;refine⟨hj,by rw[e,hc];rfl,λi hi=>?_⟩;rw[hb i xs[i] hi (li _)]
  decide
 rw[this]
 rfl
def rZ (h:1<=xs.length/\xs.length<=60)(hb:∀ (i:Nat) y,xs[i]? =some y->fA y=true):bad xs=none:=by
 unfold bad;rw[if_neg nofun];have:xs.findIdx? (λx=>!fA x)=none:=by
  rw[List.findIdx?_eq_none_iff];intro x hx;obtain⟨i,hi⟩:=List.mem_iff_getElem?.mp hx;rw[hb i x hi]
  rfl
 rw[this]
 rfl
def Dv (h:bad xs=none):1<=xs.length/\xs.length<=60:=by
 unfold bad at h
 split at h
 .cases h
 .omega
def ve {x:V}:(sK (Int.toNat (n:Int)) [x]).flatten=sK n x:=by
 rw[sn]
 induction n with
 |zero=>rfl
 |succ n ih=>rw[replicate_succ,flatten_cons,ih];rfl
abbrev mM (C:Addr)(fs:List (Str×V))(x:Addr)(fr:Bool):av:=ex λd:Addr=>qm (pt x (.exc C (some d) fs fr)) (pt d (.own x))
def kP {x:Addr}{fs:List (Str×V)}{fr:Bool}(s:Sep (pt x (.exc C (some d) fs fr)::pt d (.own x)::O) H):Sep (mM C fs x fr::O) H:=Sep.Ib.mpr ⟨d,Sep.star.mpr s⟩
def Fb {x:Addr}{fs:List (Str×V)}{fr:Bool}(s:Sep (mM C fs x fr::O) H):∃ d,Sep (pt x (.exc C (some d) fs fr)::pt d (.own x)::O) H:=let⟨d,s⟩:=Sep.Ib.mp s;⟨d,Sep.star.mp s⟩
def dZ {x:Addr}(hk:1<=k)(s:Sep (pt x (.exc (R.cad 1) none [] true)::O) H)(q:∀ d H',Sep (pt x (.exc (R.cad 1) (some d) [("at",v)] true)::pt d (.own x)::O) H'->Q wn H'):aa tab R k 0 [v6 x,v] H Q E:=by
 delta cB;right;refine⟨_,1,_,_,_,_,rfl,by grind,rfl,?_⟩;right;refine AG s rfl rfl (λd H hs=>?_);right;exact q d H hs
def CT (ro:Ro K R)(hk:3<=k)(s:Sep (pt a (wp xs)::tys xs::O) H)(q0:bad xs=none->∀ H',Sep (pt a (wp xs)::tys xs::O) H'->Q wn H')
  (q1:∀ at',bad xs=some at'->∀ x H',Sep (mM (R.cad 1) [("at",wf at')] x false::pt a (wp xs)::tys xs::O) H'->E x H'):aa tab R k 47 [v6 a] H Q E:=by
 delta fD;right;refine cS (t:="list") (yf s.at) rfl ?_;right
 by_cases hl:1<=xs.length/\xs.length<=60
 .refine aL (decide_eq_true nofun) ?_;left;simp only[ro.g_MOST_CELLS];right;refine aL (c:=decide ((xs.length:Int)<=60)) (decide_eq_true nofun) ?_;right;refine kc (xs:=xs) (λj U H=>∃ y z,U=[some (v6 a),y,z]/\(∀ i w,i<j->xs[i]? =some w->fA w=true)/\Sep (pt a (wp xs)::tys xs::O) H) ?_ ?_ ?_ ?_
  .exact⟨none,none,rfl,λi w h=>absurd h nofun,s⟩
  .rintro j U H ⟨y,z,rfl,_,hs⟩;exact hs.at
  .rintro j x T U H hx ⟨y,z,rfl,hb,hs⟩ hT;have hs1:=hs.iO (xs:=[wf j,x]) hT;left;refine⟨T,_,rfl,.inl (a8.of hs1.atT),rfl,?_⟩;right;obtain⟨t,ht⟩:=(hs1.pull .k2).Kb x (cr hx);refine cn ro nofun ht ?_;right;refine cG (λhc=>?_) (λhc=>?_)
   .right;refine⟨_,_,rfl,λi w hi hw=>?_,hs1.drop⟩
    by_cases e:i=j
    .subst e;rw[hx]at hw;cases hw;exact hc
    .exact hb i w nofun hw
   .right;intro p hp;refine dZ nofun (hs1.drop.new hp) (λd H hs=>?_);right;refine fV hs (by ac_rfl) rfl (λH hs=>?_);exact q1 _ (Hz hl hx hc hb) p H (kP hs)
  .rintro U H ⟨y,z,rfl,hb,hs⟩;right;exact q0 (rZ hl λi w hi=>hb i w (tz.mp hi).1 hi) _ hs
 .have fin:∀ p,H p=none->aa tab R (k-1) 0 [v6 p,wf (-1)] (upd H p (.exc (R.cad 1) none [] true)) (λv H2=>v=wn/\∃ b i dx fs,v6 p=v6 b/\H2 b=some (.exc (R.cad i) dx fs true)/\tab.xc.contains i=true/\E b (upd H2 b (.exc (R.cad i) dx fs false))) E:=by
   intro p hp;refine dZ nofun (s.new hp) (λd H hs=>?_);refine⟨rfl,?_⟩;refine fV (G:=⟨tab,R,aa tab R 0,true⟩) hs (by ac_rfl) rfl (λH hs=>?_);exact q1 _ (GA hl) p H (kP hs)
  by_cases h1:1<=xs.length
  .refine aL (decide_eq_true nofun) ?_;left;simp only[ro.g_MOST_CELLS];right;refine ar (c:=decide ((xs.length:Int)<=60)) (decide_eq_false nofun) ?_;right;exact fin
  .refine ar (decide_eq_false nofun) ?_;right;exact fin
abbrev a6 (C p:Addr)(cs ws:List V):av:=ex λx:Addr×Addr×Addr=>qm (pt p (wv C x.1 [("contents",v6 x.2.1),("permits",v6 x.2.2)])) (qm (pt x.1 (.own p)) (qm (pt x.2.1 (wp cs)) (pt x.2.2 (wp ws))))
def b9 {p:Addr}{cs ws:List V}(s:Sep (a6 C p cs ws::O) H):∃ dx a b,Sep (pt p (wv C dx [("contents",v6 a),("permits",v6 b)])::pt dx (.own p)::pt a (wp cs)::pt b (wp ws)::O) H:=by
 obtain⟨⟨dx,a,b⟩,s⟩:=Sep.Ib.mp s;refine⟨dx,a,b,?_⟩;have s1:=Sep.star.mp s;have s2:=Sep.star.mp (s1.pull .k1);have s3:=Sep.star.mp (s2.pull .k1);exact((s3.pull .k2).pull .k3)
def dX {p b:Addr}{cs ws:List V}(s:Sep (pt p (wv C dx [("contents",v6 a),("permits",v6 b)])::pt dx (.own p)::pt a (wp cs)::pt b (wp ws)::O) H):Sep (a6 C p cs ws::O) H:=by
 refine Sep.Ib.mpr ⟨(dx,a,b),Sep.star.mpr ?_⟩;have s3:=Sep.star.mpr ((s.pull .k3).pull .k3);have s2:=Sep.star.mpr (s3.pull .k2);exact s2.pull .k1
def pZ {p:Addr}(ro:Ro K R)(hk:4<=k)(s:Sep (pt p (wv (R.cad 18) dx [])::pt dx (.own p)::pt a (wp xs)::tys xs::O) H)
  (q0:bad xs=none->∀ H',Sep (a6 (R.cad 18) p xs (sK xs.length (wl "open"))::pt a (wp xs)::tys xs::O) H'->Q wn H')
  (q1:∀ at',bad xs=some at'->∀ x H',Sep (mM (R.cad 1) [("at",wf at')] x false::pt a (wp xs)::tys xs::O) H'->E x H'):aa tab R k 49 [v6 p,v6 a] H Q E:=by
 delta c9;right;refine CT (O:=pt p (wv (R.cad 18) dx [])::pt dx (.own p)::O) ro nofun (s.sub (by ac_nf)) (λhb H hs=>?_) (λat' hb x H hs=>?_)
 .have hl:=Dv hb;right;rename_i l H1 hs1 H2 hs2 m H3 hs3 w H4 hs4 H5 hs5;rw[ve]at hs5;exact q0 hb _ (dX (hs5.sub (by ac_nf)))
 .exact q1 at' hb x H (hs.sub (by ac_nf))
def iS {p:Addr}{cs ws:List V}(s:Sep O H)(h:ae (a6 C p cs ws) O Δ):∃ dx a b,H p=some (wv C dx [("contents",v6 a),("permits",v6 b)]):=by
 obtain⟨dx,a,b,hs⟩:=b9 (s.pull h);exact⟨dx,a,b,hs.at⟩
def yu {p:Addr}{cs ws:List V}(hk:1<=k)(s:Sep (a6 (R.cad 18) p cs ws::O) H)(q:Q (wf cs.length) H):aa tab R k 50 [v6 p] H Q E:=by
 obtain⟨dx,a,b,hs⟩:=b9 s;delta gy;right;exact q
def G5 {p:Addr}{cs ws:List V}(hk:1<=k)(s:Sep (a6 (R.cad 18) p cs ws::O) H)(q:∀ l H',Sep (pt l (wp cs)::a6 (R.cad 18) p cs ws::O) H'->Q (v6 l) H'):aa tab R k 51 [v6 p] H Q E:=by
 obtain⟨dx,a,b,hs⟩:=b9 s;delta iy;right;rename_i l H1 hs1;exact q l H1 ((dX (hs1.sub (by ac_nf))).pull .k1)
def aF {xs:List α}{x:α}(h0:0<=i)(hx:xs[i.toNat]? =some x):lH xs i=some x:=by
 have h:=L2.pX hx
 rwa [Int.toNat_of_nonneg h0]at h
abbrev ai (ws:List Str)(d:Str)(i:Int):Bool:=decide (0<=i)&&(decide (i<ws.length)&&(match ws[i.toNat]? with
 |some w=>if w="look" then d =="look" else w =="open"
 |none=>false))
def aq {d:Str}(h:ai ws d i=true):0<=i/\i<ws.length:=by
 unfold ai at h;rw[nl,nl,decide_eq_true_eq,decide_eq_true_eq]at h;exact⟨h.1,h.2.1⟩
def A6 {p:Addr}{cs:List V}{d:Str}(hk:2<=k)(s:Sep (a6 (R.cad 18) p cs (ws.map wl)::O) H)(hl:cs.length=ws.length)(q:Q (.bl (ai ws d i)) H):aa tab R k 52 [v6 p,wl d,wf i] H Q E:=by
 delta jB;right;refine ay (λh0=>?_) (λh0=>?_)
 .obtain⟨dx,a,b,e⟩:=iS s .e;right;refine⟨_,18,_,_,_,rfl,e,rfl,rfl,?_⟩;left;refine yu nofun s ?_;right;refine ay (λh1=>?_) (λh1=>?_)
  .obtain⟨dx,a,b,hs⟩:=b9 s;have h2:i.toNat<ws.length:=by omega
   have e1:ws[i.toNat]? =some ws[i.toNat]:=li h2;generalize ws[i.toNat]=w at e1;have e2:(ws.map wl)[i.toNat]? =some (wl w):=by rw[io,e1];rfl
   have e3:ai ws d i=(if w="look" then d =="look" else w =="open"):=by
    unfold ai;rw[e1,decide_eq_true h0,decide_eq_true (by omega:i<ws.length)]
    rfl
   rw[e3]at q;right;refine aM (by grind) (aF h0 e2) ?_;right;refine cG (λhw=>?_) (λhw=>?_)
   .have hw:w="look":=by simpa[cV] using hw
    rw[if_pos hw]at q;right;exact q
   .have hw:¬ w="look":=by simpa[cV] using hw
    rw[if_neg hw]at q;right;refine aM (by grind) (aF h0 e2) ?_;right;exact q
  .have e3:ai ws d i=false:=by
    unfold ai;rw[decide_eq_false (by omega:¬ i<ws.length),Bool.false_and,Bool.and_false]
   rw[e3]at q;right;exact q
 .have e3:ai ws d i=false:=by
   unfold ai;rw[decide_eq_false h0,Bool.false_and]
  rw[e3]at q;right;exact q
def d6 {x:Addr}{w:V}(hk:1<=k)(s:Sep (pt x (.exc (R.cad 2) none [] true)::O) H)(q:∀ d H',Sep (pt x (.exc (R.cad 2) (some d) [("deed",v),("cell",w)] true)::pt d (.own x)::O) H'->Q wn H'):aa tab R k 1 [v6 x,v,w] H Q E:=by
 delta dO;right;refine⟨_,2,_,_,_,_,rfl,by grind,rfl,?_⟩;right;refine AG s rfl rfl (λd H hs=>?_);right;refine Je hs (by ac_rfl) rfl rfl (pc rfl) rfl (λH hs=>?_);right;exact q d H hs
def Ho {p:Addr}{cs:List V}(hk:3<=k)(s:Sep (a6 (R.cad 18) p cs (ws.map wl)::O) H)(hl:cs.length=ws.length)(q0:ai ws "look" i=true->∀ x,cs[i.toNat]? =some x->Q x H)
  (q1:ai ws "look" i=false->∀ x H',Sep (mM (R.cad 2) [("deed",wl "look"),("cell",wf i)] x false::a6 (R.cad 18) p cs (ws.map wl)::O) H'->E x H'):aa tab R k 53 [v6 p,wf i] H Q E:=by
 delta gC;obtain⟨dx,a,b,e⟩:=iS s .e;right;refine⟨_,18,_,_,_,rfl,e,rfl,rfl,?_⟩;left;refine A6 nofun s hl ?_;right;refine cG (λhm=>?_) (λhm=>?_)
 .obtain⟨h0,h1⟩:=aq hm;obtain⟨dx,a,b,hs⟩:=b9 s;have h2:i.toNat<cs.length:=by omega
  have e1:cs[i.toNat]? =some cs[i.toNat]:=li h2;right;refine aM (by grind) (aF h0 e1) ?_;exact q0 hm _ e1
 .right;intro x hx;refine d6 nofun (s.new hx) (λd H hs=>?_);right;refine fV hs (by ac_rfl) rfl (λH hs=>?_);exact q1 hm x H (kP hs)
def Jd {p:Addr}{cs:List V}(hk:3<=k)(s:Sep (a6 (R.cad 18) p cs (ws.map wl)::O) H)(hl:cs.length=ws.length)(q0:ai ws "put" i=true->∀ H',Sep (a6 (R.cad 18) p (cs.set i.toNat v) (ws.map wl)::O) H'->Q wn H')
  (q1:ai ws "put" i=false->∀ x H',Sep (mM (R.cad 2) [("deed",wl "put"),("cell",wf i)] x false::a6 (R.cad 18) p cs (ws.map wl)::O) H'->E x H'):aa tab R k 54 [v6 p,wf i,v] H Q E:=by
 delta jF;obtain⟨dx,a,b,e⟩:=iS s .e;right;refine⟨_,18,_,_,_,rfl,e,rfl,rfl,?_⟩;left;refine A6 nofun s hl ?_;right;refine cG (λhm=>?_) (λhm=>?_)
 .obtain⟨h0,h1⟩:=aq hm;obtain⟨dx,a,b,hs⟩:=b9 s;right;refine fO hs (by ac_rfl) (dq h0 nofun) rfl (λH hs=>?_);right;exact q0 hm H (dX hs)
 .right;intro x hx;refine d6 nofun (s.new hx) (λd H hs=>?_);right;refine fV hs (by ac_rfl) rfl (λH hs=>?_);exact q1 hm x H (kP hs)
abbrev cT (n:Nat):V->V->Bool
 | wf a,wf b=>decide (0<=a)&&(decide (a<=b)&&decide (b<=n))
 |_,_=>false
def sN {w:V}{t u:String}(hk:2<=k)(ht:tyName v H=some t)(hu:tyName w H=some u)(q:Q (.bl (cT n v w)) H):aa tab R k 48 [v,w,wf n] H Q E:=by
 delta ju;right;refine aH nofun ht ?_;cases fe ht
 case int i=>
  right;refine aH nofun hu ?_;cases fe hu
  case int j=>
   right;refine ay (λh0=>?_) (λh0=>?_)
   .right;refine ay (λh1=>?_) (λh1=>?_)
    .right;have e:cT n (wf i) (wf j)=decide (j<=n):=by simp[cT,h0,h1]
     rw[e]at q;exact q
    .right;have e:cT n (wf i) (wf j)=false:=by simp[cT,h1]
     rw[e]at q;exact q
   .right;have e:cT n (wf i) (wf j)=false:=by simp[cT,h0]
    rw[e]at q;exact q
  all_goals
   right;exact q
 all_goals
  right;exact q
def gE:(10:Int) ^ Int.toNat 9=1000000000:=by decide
local macro_rules| `(tactic|walk_at "dr")=>`(tactic|(refine' kU ?k ?s ?m ?a ?b (λr H hr0 hr1 hs=>?_);(case s=>walk_at "sp");(case k=>exact nofun);(case m=>omega);(case a=>walk_at "ar");(case b=>walk_at "ar")))
local macro_rules| `(tactic|walk_at "gd")=>`(tactic|(walk_at "w";repeat(first|(walk_at "st";walk_at "w")|(walk_at "dr";walk_at "w"))))
abbrev cD (ns:List Int):Prop:=∀ i ∈ ns,0<=i/\i<=1000000000
def ug (h:cD ns)(h0:0<=i)(h1:i<=1000000000):cD (ns++[i]):=λj hj=>by
 rcases mem_append.mp hj with hj|hj
 .exact h j hj
 .rw[mem_singleton.mp hj];exact⟨h0,h1⟩
def wa (h:cD ns)(h0:0<=i)(h1:i<=1000000000):cD (ns.set n i):=λj hj=>by
 rcases mem_or_eq_of_mem_set hj with hj|rfl
 .exact h j hj
 .exact⟨h0,h1⟩
abbrev bx (f:α->List av):av:=⟨λH D=>∃ x,bt (f x) H D,λH H' D ⟨x,h⟩ k t=>⟨x,bt.st h k t⟩,λH D D' ⟨x,h⟩ k=>⟨x,bt.up h k⟩⟩
def hV:∀ {O Δ:List av}{D:Addr->Prop},bt (O++Δ) H D ↔ ∃ D1 D2:Addr->Prop,(∀ a,D1 a->D a)/\(∀ a,D2 a->D a)/\(∀ a,D1 a->D2 a->False)/\bt O H D1/\bt Δ H D2
 | [],Δ,D=>⟨λh=>⟨λ_=>False,D,λ_ z=>z.elim,λ_ z=>z,λ_ z _=>z,True.intro,h⟩,λ⟨_,_,_,s2,_,_,h⟩=>bt.up h s2⟩
 |A::O,Δ,D=>by
  constructor
  .rintro⟨E1,E2,s1,s2,dj,hA,h⟩;obtain⟨F1,F2,t1,t2,dk,h1,h2⟩:=hV.mp h;refine⟨λa=>E1 a\/F1 a,F2,λa z=>z.elim (s1 a) λz=>s2 a (t1 a z),λa z=>s2 a (t2 a z),λa z w=>z.elim (λz=>dj a z (t2 a w)) λz=>dk a z w,?_,h2⟩;exact⟨E1,F1,λa z=>.inl z,λa z=>.inr z,λa z w=>dj a z (t1 a w),hA,h1⟩
  .rintro⟨D1,D2,s1,s2,dj,⟨E1,E2,t1,t2,dk,hA,h1⟩,h2⟩;refine⟨E1,λa=>E2 a\/D2 a,λa z=>s1 a (t1 a z),λa z=>z.elim (λz=>s1 a (t2 a z)) (s2 a),λa z w=>w.elim (dk a z) λw=>dj a (t1 a z) w,hA,?_⟩;exact hV.mpr ⟨E2,D2,λa z=>.inl z,λa z=>.inr z,λa z w=>dj a (t2 a z) w,h1,h2⟩
def fz {f:α->List av}(s:Sep (bx f::O) H):∃ x,Sep (f x++O) H:=by
 obtain⟨D,k,D1,D2,s1,s2,dj,⟨x,h1⟩,h2⟩:=s;exact⟨x,D,k,hV.mpr ⟨D1,D2,s1,s2,dj,h1,h2⟩⟩
def dS {f:α->List av}(x:α)(s:Sep (f x++O) H):Sep (bx f::O) H:=by
 obtain⟨D,k,h⟩:=s;obtain⟨D1,D2,s1,s2,dj,h1,h2⟩:=hV.mp h;exact⟨D,k,D1,D2,s1,s2,dj,⟨x,h1⟩,h2⟩
abbrev qq:List Str:=["here","there","left","way","sign","met"]
abbrev xK:List Key:=[.inr "here",.inr "there",.inr "left",.inr "way",.inr "sign",.inr "met"]
abbrev dU:V->Bool
 | wf i=>decide (-1000000000<=i)&&decide (i<=1000000000)
 |_=>false
abbrev mW (a b:Int):V->Bool
 | wf i=>i ==a||i ==b
 |_=>false
abbrev bz:Nat->V->Bool
 |0,v=>dU v
 |1,v=>dU v
 |3,v=>mW 1 (-1) v
 |5,v=>mW 0 1 v
 |_,v=>fA v
def fc {t:String}(ro:Ro K R)(hk:2<=k)(ht:tyName v H=some t)(q:Q (.bl (dU v)) H):aa tab R k 12 [v] H Q E:=by
 delta jm;right;refine aH nofun ht ?_;cases fe ht
 case int i=>
  left;refine aL rfl ?_;left;simp only[ro.g_BOUND];right;refine ay (λh0=>?_) (λh0=>?_)
  .left;simp only[ro.g_BOUND];right;have e:dU (wf i)=decide (i<=1000000000):=by simp[dU,h0]
   rw[e]at q;exact q
  .right;have e:dU (wf i)=false:=by simp[dU,h0]
   rw[e]at q;exact q
 all_goals
  right;exact q
def kX {j:Nat}{x:Str}(h:qq[j]? =some x):(j=0/\x="here")\/(j=1/\x="there")\/(j=2/\x="left")\/(j=3/\x="way")\/(j=4/\x="sign")\/(j=5/\x="met"):=by
 rcases j with _|_|_|_|_|_|j
 .cases h;exact .inl ⟨rfl,rfl⟩
 .cases h;exact .inr (.inl ⟨rfl,rfl⟩)
 .cases h;exact .inr (.inr (.inl ⟨rfl,rfl⟩))
 .cases h;exact .inr (.inr (.inr (.inl ⟨rfl,rfl⟩)))
 .cases h;exact .inr (.inr (.inr (.inr (.inl ⟨rfl,rfl⟩))))
 .cases h;exact .inr (.inr (.inr (.inr (.inr ⟨rfl,rfl⟩))))
 .exact absurd h (by simp[qq])
local macro_rules| `(tactic|walk_at "sc")=>`(tactic|first|(refine aL (by decide+kernel) ?_;walk_at "go")|(refine ar (by decide+kernel) ?_;walk_at "go"))
def uq {t:String}{j:Nat}{x:Str}(ro:Ro K R)(hk:3<=k)(hj:qq[j]? =some x)(ht:tyName v H=some t)(q:Q (.bl (bz j v)) H):aa tab R k 13 [wl x,v] H Q E:=by
 delta yp;rcases kX hj with⟨rfl,rfl⟩|⟨rfl,rfl⟩|⟨rfl,rfl⟩|⟨rfl,rfl⟩|⟨rfl,rfl⟩|⟨rfl,rfl⟩
 all_goals right
 all_goals repeat walk_at "sc"
 .exact fc ro nofun ht q
 .exact fc ro nofun ht q
 .exact cn ro nofun ht q
 .refine aH nofun ht ?_;cases fe ht
  case int i=>
   right;refine aI (λh0=>?_) (λh0=>?_)
   .right;have e:bz 3 (wf i)=true:=by simp[bz,mW,h0]
    rw[e]at q;exact q
   .right;have e:bz 3 (wf i)=(i == -1):=by simp[bz,mW,h0]
    rw[e]at q;exact q
  all_goals
   right;exact q
 .exact cn ro nofun ht q
 .refine aH nofun ht ?_;cases fe ht
  case int i=>
   right;refine aI (λh0=>?_) (λh0=>?_)
   .right;have e:bz 5 (wf i)=true:=by simp[bz,mW,h0]
    rw[e]at q;exact q
   .right;have e:bz 5 (wf i)=(i ==1):=by simp[bz,mW,h0]
    rw[e]at q;exact q
  all_goals
   right;exact q
abbrev boxes (R:Rt)(b:Addr)(ns:List Int):av:=bx λx:Addr×Addr=>[pt b (wv (R.cad 10) x.1 [("numbers",v6 x.2)]),pt x.1 (.own b),pt x.2 (.dK (xK.zip (ns.map wf))),pu (ns.length=6)]
def gu {b:Addr}(s:Sep (boxes R b ns::O) H):∃ dx d,ns.length=6/\Sep (pt b (wv (R.cad 10) dx [("numbers",v6 d)])::pt dx (.own b)::pt d (.dK (xK.zip (ns.map wf)))::O) H:=by
 obtain⟨⟨dx,d⟩,s⟩:=fz s;have s:Sep (pt b (wv (R.cad 10) dx [("numbers",v6 d)])::pt dx (.own b)::pt d (.dK (xK.zip (ns.map wf)))::pu (ns.length=6)::O) H:=s;have p:=(s.pull .k3).pure;exact⟨dx,d,p,(s.pull .k3).drop⟩
def gL {b:Addr}(hn:ns.length=6)(s:Sep (pt b (wv (R.cad 10) dx [("numbers",v6 d)])::pt dx (.own b)::pt d (.dK (xK.zip (ns.map wf)))::O) H):Sep (boxes R b ns::O) H:=
 dS (dx,d) (Sep.push .k3 (Sep.uH hn s))
def six {ns:List α}(h:ns.length=6):∃ a b c d e f,ns=[a,b,c,d,e,f]:=by
 match ns,h with
 | [a,b,c,d,e,f],_=>exact⟨a,b,c,d,e,f,rfl⟩
def vn {j:Nat}{x:Str}(hn:ns.length=6)(hj:qq[j]? =some x):∃ i,ns[j]? =some i/\kb (xK.zip (ns.map wf)) (.inr x)=some (wf i):=by
 obtain⟨a,b,c,d,e,f,rfl⟩:=six hn;rcases kX hj with⟨rfl,rfl⟩|⟨rfl,rfl⟩|⟨rfl,rfl⟩|⟨rfl,rfl⟩|⟨rfl,rfl⟩|⟨rfl,rfl⟩<;>exact⟨_,rfl,rfl⟩
def DX {b:Addr}(ro:Ro K R)(hk:1<=k)(s:Sep (boxes R b ns::O) H)(q:∀ t H',Sep (tu t (ns.map wf)::boxes R b ns::O) H'->Q (v6 t) H'):aa tab R k 17 [v6 b] H Q E:=by
 obtain⟨dx,d,hn,s⟩:=gu s;delta gW;right;obtain⟨a,hg,hS⟩:=ro.g_NAMES;simp only[hg];rw[<-ro.hK]at hS;right;refine Ki (hS H) ?_;refine F0 (xs:=qq.map wl) (pc rfl) (λD ys H=>ys=(ns.map wf).take ys.length/\Sep (pt D (wp ys)::pt b (wv (R.cad 10) dx [("numbers",v6 d)])::pt dx (.own b)::pt d (.dK (xK.zip (ns.map wf)))::O) H) ?_ ?_ ?_ ?_
 .intro D ys H _;exact hS H
 .intro D hD;exact⟨rfl,s.new hD⟩
 .rintro D ys x H' hx ⟨e,hs⟩;rw[io]at hx;obtain⟨z,hz,rfl⟩:=nw.mp hx;obtain⟨i,h1,h2⟩:=vn hn hz;right;refine pH (k:=.inr z) (by grind) h2 ?_;have hlt:=(tz.mp h1).1;refine pJ.mk (by grind) nofun ⟨?_,?_⟩
  .have e2:(ns.map wf)[ys.length]? =some (wf i):=by rw[io,h1];rfl
   rw[ci,ge,take_succ,e2]
   conv=>lhs;rw[e]
   rfl
  .exact hs.set rfl
 .rintro D ys H' hl ⟨e,hs⟩;have e2:ys=ns.map wf:=by
   rw[e,hl];rw[take_of_length_le];simp[qq,hn]
  subst e2;right;refine Fq hs (by grind) (λp H hs=>?_);right;refine q p H ?_;refine Sep.pull .k1 (gL (dx:=dx) (d:=d) hn ?_);walk_at "sp"
def vf {x:Addr}(ro:Ro K R)(hk:4<=k)(hn:ns.length=6)(hf:∀ (j:Nat) i,ns[j]? =some i->bz j (wf i)=true) (s:Sep (pt x (wv (R.cad 10) dx [])::pt dx (.own x)::O) H) (q:∀ H',Sep (boxes R x ns::O) H'->Q wn H'):
  aa tab R k 14 (v6 x::ns.map wf) H Q E:=by
 obtain⟨a0,a1,a2,a3,a4,a5,rfl⟩:=six hn;delta c7;right;rename_i p H1 hs1;obtain⟨na,hg,hS⟩:=ro.g_NAMES;simp only[hg];rw[<-ro.hK]at hS;right;refine Hx (tp1:=true) (tp2:=true) (xs:=qq.map wl) (ys:=[wf a0,wf a1,wf a2,wf a3,wf a4,wf a5]) (hS _) (a8.of hs1.at) ?_;refine uT (xs:=qq.map wl) (ys:=[wf a0,wf a1,wf a2,wf a3,wf a4,wf a5]) (λj U H=>∃ v w,U=[some (v6 x),some (wf a0),some (wf a1),some (wf a2),some (wf a3),some (wf a4),some (wf a5),some (v6 p),v,w]/\Sep (pt p (wr [wf a0,wf a1,wf a2,wf a3,wf a4,wf a5])::pt x (wv (R.cad 10) dx [])::pt dx (.own x)::O) H) rfl ?_ ?_ ?_ ?_
 .exact⟨none,none,rfl,hs1⟩
 .rintro j U H ⟨v,w,rfl,hs⟩;exact⟨hS _,a8.of hs.at⟩
 .rintro j y z T U H hy hz ⟨v,w,rfl,hs⟩ hT;rw[io]at hy;obtain⟨nm,hnm,rfl⟩:=nw.mp hy;obtain⟨i,hi,rfl⟩:∃ i,([a0,a1,a2,a3,a4,a5]:List Int)[j]? =some i/\z=wf i:=by
   have hz':(([a0,a1,a2,a3,a4,a5]:List Int).map wf)[j]? =some z:=hz;rw[io]at hz';obtain⟨i,h1,h2⟩:=nw.mp hz';exact⟨i,h1,h2.symm⟩
  have hs2:=hs.iO (xs:=[wl nm,wf i]) hT;left;refine⟨T,_,rfl,.inl (a8.of hs2.atT),rfl,?_⟩;right;refine uq ro nofun hnm rfl ?_;rw[hf j i hi];right;exact⟨_,_,rfl,hs2.drop⟩
 .rintro U H ⟨v,w,rfl,hs⟩;right;simp only[hg];right;refine Jf (tp1:=true) (tp2:=true) (ks:=xK) (ys:=([a0,a1,a2,a3,a4,a5]:List Int).map wf) hs (hS _) (a8.of hs.at) (by decide+kernel) rfl (pc rfl) (λd H2 hs2=>?_);right;rename_i H3 hs3;refine q _ ?_;refine gL (dx:=dx) (d:=d) rfl ?_;walk_at "sp"
def AA {j:Nat}{x:Str}(ro:Ro K R)(hk:1<=k)(hj:qq[j]? =some x)(q:Q (.bl true) H):aa tab R k 11 [wl x] H Q E:=by
 delta lN;right;obtain⟨a,hg,hs⟩:=ro.g_NAMES;simp only[hg];have hs':=hs H;rw[<-ro.hK]at hs';right;refine fT hs' rfl rfl ?_;rcases kX hj with⟨rfl,rfl⟩|⟨rfl,rfl⟩|⟨rfl,rfl⟩|⟨rfl,rfl⟩|⟨rfl,rfl⟩|⟨rfl,rfl⟩<;>exact q
def dy {b:Addr}{j:Nat}{x:Str}(ro:Ro K R)(hk:2<=k)(s:Sep (boxes R b ns::O) H)(hj:qq[j]? =some x)(hi:ns[j]? =some i)(q:Q (wf i) H):aa tab R k 15 [v6 b,wl x] H Q E:=by
 obtain⟨dx,d,hn,s⟩:=gu s;delta fN;right;refine AA ro nofun hj ?_;right;obtain⟨i',h1,h2⟩:=vn hn hj;rw[hi]at h1;cases h1;exact pH (k:=.inr x) (by grind) h2 q
def wK {b:Addr}(ro:Ro K R)(hk:5<=k)(s:Sep (boxes R b ns::O) H)(q:∀ c H',Sep (boxes R c ns::boxes R b ns::O) H'->Q (v6 c) H'):aa tab R k 18 [v6 b] H Q E:=by
 delta d9;right;intro x dx h1 h2 h3;refine vf (ns:=[0,0,0,1,0,0]) ro nofun rfl ?_ (iw s h1 h2 h3) (λH1 hs1=>?_)
 .intro j i hi;rcases j with _|_|_|_|_|_|j<;>first|(cases hi;rfl)|exact absurd hi (by simp)
 refine⟨rfl,?_⟩;obtain⟨dx1,d1,hn1,hs2⟩:=gu hs1;obtain⟨dx2,d2,hn2,hs3⟩:=gu (hs2.pull .k3);right;refine vm hs3 (by grind) (λd3 H3 hs4=>?_);right;rename_i H4 hs5;refine q _ _ ?_;refine gL (dx:=dx1) (d:=d3) hn2 ?_;refine Sep.push .k3 (gL (dx:=dx2) (d:=d2) hn2 ?_);walk_at "sp"
def rG {t:String}(hk:1<=k)(ht:tyName v H=some t)(q:Q (.bl (uB v)) H):aa tab R k 96 [v] H Q E:=by
 delta g8;right;cases fe ht
 all_goals
  refine cS ht rfl ?_;right
  first
   |exact q
   |(refine cS ht rfl ?_;right;exact q)
def gZ {x:Addr}{w:V}(hk:1<=k)(s:Sep (pt x (.exc (R.cad 3) none [] true)::O) H)(q:∀ d H',Sep (pt x (.exc (R.cad 3) (some d) [("box",v),("number",w)] true)::pt d (.own x)::O) H'->Q wn H'):aa tab R k 2 [v6 x,v,w] H Q E:=by
 delta c5;right;refine⟨_,3,_,_,_,_,rfl,by grind,rfl,?_⟩;right;refine AG s rfl rfl (λd H hs=>?_);right;refine Je hs (by ac_rfl) rfl rfl (pc rfl) rfl (λH hs=>?_);right;exact q d H hs
abbrev JT:V->Bool
 | wl x=>Ip (wl x) (qq.map wl)
 |_=>false
def pA {t:String}(ro:Ro K R)(hk:1<=k)(ht:tyName v H=some t)(q:Q (.bl (JT v)) H):aa tab R k 11 [v] H Q E:=by
 delta lN;right;obtain⟨a,hg,hs⟩:=ro.g_NAMES;have hs':=hs H;rw[<-ro.hK]at hs';cases fe ht
 case str x=>
  refine cS ht rfl ?_;left;refine aL rfl ?_;left;simp only[hg];right;exact fT hs' rfl rfl q
 all_goals
  refine cS ht rfl ?_;right;exact q
def tM {j:Nat}{x:Str}(hj:qq[j]? =some x):JT (wl x)=true:=by
 rcases kX hj with⟨rfl,rfl⟩|⟨rfl,rfl⟩|⟨rfl,rfl⟩|⟨rfl,rfl⟩|⟨rfl,rfl⟩|⟨rfl,rfl⟩<;>rfl
def vA {j:Nat}{x:Str}(hn:ns.length=6)(hj:qq[j]? =some x):putK (xK.zip (ns.map wf)) (.inr x) (wf i)=xK.zip ((ns.set j i).map wf):=by
 obtain⟨a,b,c,d,e,f,rfl⟩:=six hn;rcases kX hj with⟨rfl,rfl⟩|⟨rfl,rfl⟩|⟨rfl,rfl⟩|⟨rfl,rfl⟩|⟨rfl,rfl⟩|⟨rfl,rfl⟩<;>rfl
def Gn {b:Addr}{j:Nat}{x:Str}(ro:Ro K R)(hk:4<=k)(s:Sep (boxes R b ns::O) H)(hj:qq[j]? =some x)(hf:bz j (wf i)=true)(q:∀ H',Sep (boxes R b (ns.set j i)::O) H'->Q wn H'):aa tab R k 16 [v6 b,wl x,wf i] H Q E:=by
 obtain⟨dx,d,hn,s⟩:=gu s;delta dm;right;refine pA (t:="str") ro nofun rfl ?_;rw[tM hj];right;refine uq ro nofun hj rfl ?_;rw[hf];right;refine vg (k:=.inr x) (kvs':=xK.zip ((ns.set j i).map wf)) s (by ac_rfl) (by rw[length_zip,ce,hn];decide) (vA hn hj) (λH1 hs1=>?_);right;exact q H1 (gL (by rw[length_set];exact hn) hs1)
def tj {b:Addr}{j:Nat}{x:Str}{t:String}(ro:Ro K R)(hk:4<=k)(s:Sep (boxes R b ns::O) H)(hj:qq[j]? =some x)(ht:tyName v H=some t)(hf:bz j v=false)(q:∀ e d H',Sep (pt e (.exc (R.cad 3) (some d) [("box",wl x),("number",v)] false)::pt d (.own e)::boxes R b ns::O) H'->E e H'):aa tab R k 16 [v6 b,wl x,v] H Q E:=by
 delta dm;right;refine pA (t:="str") ro nofun rfl ?_;rw[tM hj];right;refine uq ro nofun hj ht ?_;rw[hf];right;intro e he;refine gZ nofun (s.new he) (λd H3 hs3=>⟨rfl,?_⟩);exact fV (G:=⟨tab,R,aa tab R (k-1),true⟩) hs3 .e rfl (λH4 hs4=>q e d H4 hs4)
abbrev Ob (R:Rt)(A:av)(b:Addr)(i:Nat)(fl:List Str):Prop:=∀ H D,A.p H D->∃ dx fs,H b=some (wv (R.cad i) dx fs)/\fs.map (·.1)=fl
def vT {m:Str}:∀ {fs:List (Str×V)},(fs.map (·.1)).all (λx=>!(m ==x))=true->fs.lookup m=none
 | [],_=>rfl
 |(x,v)::fs,h=>by
  simp only[map_cons,all_cons,nl]at h;have h1:(m ==x)=false:=by simpa using h.1
  rw[lookup_cons,h1];exact vT h.2
def ab {G:Gx}{b:Addr}{i f:Nat}{fl:List Str}{m:Str}{X:Nat->Prop}(o:Ob G.R A b i fl)(s:Sep O H)(p:ae A O Δ)(hm:fl.all (λx=>!(m ==x))=true) (hf:G.T.me.lookup (i,m)=some f) (h:X f):
  ∃ p' i' dx fs f',v6 b=v6 p'/\H p'=some (wv (G.R.cad i') dx fs)/\fs.lookup m=none/\G.T.me.lookup (i',m)=some f'/\X f':=by
 obtain⟨D,k,D1,D2,s1,s2,dj,h1,h2⟩:=s.pull p;obtain⟨dx,fs,e1,e2⟩:=o H D1 h1;exact⟨b,i,dx,fs,f,rfl,e1,vT (e2▸hm),hf,h⟩
structure Bx where
 h:Int
 t:Int
 l:Int
 w:Int
 s:Int
 m:Int
abbrev Bx.ls (x:Bx):List Int:=[x.h,x.t,x.l,x.w,x.s,x.m]
abbrev Bx.ok (x:Bx):Prop:=(-1000000000<=x.h/\x.h<=1000000000)/\(-1000000000<=x.t/\x.t<=1000000000)/\(0<=x.l/\x.l<=1000000000)/\(x.w=1\/x.w= -1)/\(0<=x.s/\x.s<=1000000000)/\(x.m=0\/x.m=1)
abbrev aK (R:Rt)(b:Addr)(x:Bx):av:=bx λ_:Unit=>[boxes R b x.ls,pu x.ok]
variable {x:Bx}
def dI {b:Addr}(s:Sep (aK R b x::O) H):x.ok/\Sep (boxes R b x.ls::O) H:=by
 obtain⟨_,s⟩:=fz s;have s:Sep (boxes R b x.ls::pu x.ok::O) H:=s;exact⟨(s.pull .k1).pure,(s.pull .k1).drop⟩
def nZ {b:Addr}(hx:x.ok)(s:Sep (boxes R b x.ls::O) H):Sep (aK R b x::O) H:=dS () (Sep.push .k1 (Sep.uH hx s))
def lp {b:Addr}(s:Sep O H)(p:ae (aK R b x) O Δ):x.ok:=(dI (s.pull p)).1
def ba {b:Addr}:Ob R (aK R b x) b 10 ["numbers"]:=by
 rintro H D ⟨_,D1,D2,_,_,_,⟨⟨dx,d⟩,E1,E2,_,_,_,⟨_,h⟩,_⟩,_⟩;exact⟨dx,_,h,rfl⟩
def FF (h:x.ok):∀ (j:Nat) i,x.ls[j]? =some i->bz j (wf i)=true:=by
 obtain⟨⟨h1,h2⟩,⟨h3,h4⟩,⟨h5,h6⟩,h7,⟨h8,h9⟩,h10⟩:=h;intro j i hi;rcases j with _|_|_|_|_|_|j
 .cases hi;simp[bz,dU,h1,h2]
 .cases hi;simp[bz,dU,h3,h4]
 .cases hi;simp[bz,fA,h5,h6]
 .cases hi;rcases h7 with e|e<;>rw[e]<;>rfl
 .cases hi;simp[bz,fA,h8,h9]
 .cases hi;rcases h10 with e|e<;>rw[e]<;>rfl
 .exact absurd hi (by simp[Bx.ls])
def vW (h: -1000000000<=i/\i<=1000000000):dU (wf i)=true:=by simp[dU,h.1,h.2]
def v7 (h:0<=i/\i<=1000000000):fA (wf i)=true:=by simp[fA,h.1,h.2]
section
variable {b:Addr}{h t l w s m i:Int}
def JK (ro:Ro K R)(hk:2<=k)(z:Sep O H)(p:ae (aK R b ⟨h,t,l,w,s,m⟩) O Δ)(q:Q (wf h) H):aa tab R k 15 [v6 b,wl "here"] H Q E:=dy (j:=0) ro hk (dI (z.pull p)).2 rfl rfl q
def Km (ro:Ro K R)(hk:2<=k)(z:Sep O H)(p:ae (aK R b ⟨h,t,l,w,s,m⟩) O Δ)(q:Q (wf t) H):aa tab R k 15 [v6 b,wl "there"] H Q E:=dy (j:=1) ro hk (dI (z.pull p)).2 rfl rfl q
def GS (ro:Ro K R)(hk:2<=k)(z:Sep O H)(p:ae (aK R b ⟨h,t,l,w,s,m⟩) O Δ)(q:Q (wf l) H):aa tab R k 15 [v6 b,wl "left"] H Q E:=dy (j:=2) ro hk (dI (z.pull p)).2 rfl rfl q
def HR (ro:Ro K R)(hk:2<=k)(z:Sep O H)(p:ae (aK R b ⟨h,t,l,w,s,m⟩) O Δ)(q:Q (wf w) H):aa tab R k 15 [v6 b,wl "way"] H Q E:=dy (j:=3) ro hk (dI (z.pull p)).2 rfl rfl q
def Lx (ro:Ro K R)(hk:2<=k)(z:Sep O H)(p:ae (aK R b ⟨h,t,l,w,s,m⟩) O Δ)(q:Q (wf s) H):aa tab R k 15 [v6 b,wl "sign"] H Q E:=dy (j:=4) ro hk (dI (z.pull p)).2 rfl rfl q
def Ke (ro:Ro K R)(hk:2<=k)(z:Sep O H)(p:ae (aK R b ⟨h,t,l,w,s,m⟩) O Δ)(q:Q (wf m) H):aa tab R k 15 [v6 b,wl "met"] H Q E:=dy (j:=5) ro hk (dI (z.pull p)).2 rfl rfl q
def qA {y:Bx}{j:Nat}{nm:Str}(ro:Ro K R)(hk:4<=k)(z:Sep O H)(r:aO (aK R b x) (aK R b y) O Γ')(hj:qq[j]? =some nm)(hf:bz j (wf i)=true)(hx:x.ls.set j i=y.ls)(hy:x.ok->y.ok)(q:∀ H',Sep Γ' H'->Q wn H'):aa tab R k 16 [v6 b,wl nm,wf i] H Q E:=by
 obtain⟨Δ,h1,h2⟩:=r.bL;obtain⟨hok,z2⟩:=dI (z.pull h1);refine Gn ro hk z2 hj hf (λH' z3=>q H' (Sep.push h2 (nZ (hy hok) ?_)));rw[hx]at z3;exact z3
def Ka (ro:Ro K R)(hk:4<=k)(z:Sep O H)(r:aO (aK R b ⟨h,t,l,w,s,m⟩) (aK R b ⟨i,t,l,w,s,m⟩) O Γ')(hi: -1000000000<=i/\i<=1000000000)(q:∀ H',Sep Γ' H'->Q wn H'):aa tab R k 16 [v6 b,wl "here",wf i] H Q E:=
 qA (j:=0) ro hk z r rfl (vW hi) rfl (λ⟨_,a⟩=>⟨hi,a⟩) q
def JE (ro:Ro K R)(hk:4<=k)(z:Sep O H)(r:aO (aK R b ⟨h,t,l,w,s,m⟩) (aK R b ⟨h,i,l,w,s,m⟩) O Γ')(hi: -1000000000<=i/\i<=1000000000)(q:∀ H',Sep Γ' H'->Q wn H'):aa tab R k 16 [v6 b,wl "there",wf i] H Q E:=
 qA (j:=1) ro hk z r rfl (vW hi) rfl (λ⟨a1,_,a⟩=>⟨a1,hi,a⟩) q
def IE (ro:Ro K R)(hk:4<=k)(z:Sep O H)(r:aO (aK R b ⟨h,t,l,w,s,m⟩) (aK R b ⟨h,t,i,w,s,m⟩) O Γ')(hi:0<=i/\i<=1000000000)(q:∀ H',Sep Γ' H'->Q wn H'):aa tab R k 16 [v6 b,wl "left",wf i] H Q E:=
 qA (j:=2) ro hk z r rfl (v7 hi) rfl (λ⟨a1,a2,_,a⟩=>⟨a1,a2,hi,a⟩) q
def LD (ro:Ro K R)(hk:4<=k)(z:Sep O H)(r:aO (aK R b ⟨h,t,l,w,s,m⟩) (aK R b ⟨h,t,l,w,s,i⟩) O Γ')(hi:i=0\/i=1)(q:∀ H',Sep Γ' H'->Q wn H'):aa tab R k 16 [v6 b,wl "met",wf i] H Q E:=
 qA (j:=5) ro hk z r rfl (by rcases hi with rfl|rfl<;>rfl) rfl (λ⟨a1,a2,a3,a4,a5,_⟩=>⟨a1,a2,a3,a4,a5,hi⟩) q
def Dh (ro:Ro K R)(hk:1<=k)(z:Sep O H)(p:ae (aK R b x) O Δ)(q:∀ t H',Sep (tu t (x.ls.map wf)::O) H'->Q (v6 t) H'):aa tab R k 17 [v6 b] H Q E:=by
 obtain⟨hok,z2⟩:=dI (z.pull p);exact DX ro hk z2 (λt H' z3=>q t H' (Sep.push (.t p) (nZ hok (z3.pull .k1))))
def Ds (ro:Ro K R)(hk:4<=k)(hx:x.ok)(z:Sep (pt b (wv (R.cad 10) dx [])::pt dx (.own b)::O) H)(q:∀ H',Sep (aK R b x::O) H'->Q wn H'):
  aa tab R k 14 (v6 b::x.ls.map wf) H Q E:=vf ro hk rfl (FF hx) z (λH' z2=>q H' (nZ hx z2))
def An (ro:Ro K R)(hk:4<=k)(hx:(Bx.mk h t l w s m).ok)(z:Sep (pt b (wv (R.cad 10) dx [])::pt dx (.own b)::O) H)(q:∀ H',Sep (aK R b ⟨h,t,l,w,s,m⟩::O) H'->Q wn H'):
  aa tab R k 14 [v6 b,wf h,wf t,wf l,wf w,wf s,wf m] H Q E:=Ds (x:=⟨h,t,l,w,s,m⟩) ro hk hx z q
end
abbrev gt (cs:List Int)(i:Int):Int:=(cs[i.toNat]?).getD 0
def Kp {cs:List Int}{x:Int}(h:cs[i.toNat]? =some x):gt cs i=x:=by unfold gt;rw[h];rfl
def Dp {cs:List Int}(h0:0<=i)(h1:i<cs.length):cs[i.toNat]? =some (gt cs i):=by
 unfold gt;rw[li nofun]
 rfl
def gN {cs:List Int}(h0:0<=i)(h1:i<cs.length):lH (cs.map wf) i=some (wf (gt cs i)):=aF h0 (by rw[io,Dp h0 h1];rfl)
def zw {cs:List Int}(hc:cD cs):0<=gt cs i/\gt cs i<=1000000000:=by
 unfold gt;cases e:cs[i.toNat]? with
 |none=>exact⟨by decide,by decide⟩
 |some x=>exact hc x (cr e)
abbrev Ay (cs:List Int)(ws:List Str):Prop:=cs.length=ws.length/\1<=cs.length/\cs.length<=60/\cD cs
abbrev aU (R:Rt)(a:Addr)(cs:List Int)(ws:List Str):av:=bx λ_:Unit=>[a6 (R.cad 18) a (cs.map wf) (ws.map wl),pu (Ay cs ws)]
def jN {cs:List Int}(s:Sep (aU R a cs ws::O) H):Ay cs ws/\Sep (a6 (R.cad 18) a (cs.map wf) (ws.map wl)::O) H:=by
 obtain⟨_,s⟩:=fz s;have s:Sep (a6 (R.cad 18) a (cs.map wf) (ws.map wl)::pu (Ay cs ws)::O) H:=s;exact⟨(s.pull .k1).pure,(s.pull .k1).drop⟩
def md {cs:List Int}(hx:Ay cs ws)(s:Sep (a6 (R.cad 18) a (cs.map wf) (ws.map wl)::O) H):Sep (aU R a cs ws::O) H:=dS () (Sep.push .k1 (Sep.uH hx s))
def cC {cs:List Int}(s:Sep O H)(p:ae (aU R a cs ws) O Δ):Ay cs ws:=(jN (s.pull p)).1
def bH {cs:List Int}:Ob R (aU R a cs ws) a 18 ["contents","permits"]:=by
 rintro H D ⟨_,D1,D2,_,_,_,⟨⟨dx,c,d⟩,E1,E2,_,_,_,⟨_,h⟩,_⟩,_⟩;exact⟨dx,_,h,rfl⟩
section
variable {a:Addr}{cs:List Int}{ws:List Str}{i v:Int}
def dr (hk:3<=k)(z:Sep O H)(p:ae (aU R a cs ws) O Δ)(q0:ai ws "look" i=true->Q (wf (gt cs i)) H)
  (q1:ai ws "look" i=false->∀ e H',Sep (mM (R.cad 2) [("deed",wl "look"),("cell",wf i)] e false::O) H'->E e H'):aa tab R k 53 [v6 a,wf i] H Q E:=by
 obtain⟨hok,z2⟩:=jN (z.pull p);refine Ho hk z2 (by rw[ce];exact hok.1) (λhm x hx=>?_) (λhm e H' z3=>q1 hm e H' (Sep.push (.t p) (md hok (z3.pull .k1))));rw[io]at hx;obtain⟨y,hy,rfl⟩:=nw.mp hx;rw[<-Kp hy];exact q0 hm
def kL (hk:3<=k)(z:Sep O H)(r:aO (aU R a cs ws) (aU R a (cs.set i.toNat v) ws) O Γ')(hv:0<=v/\v<=1000000000)(q0:ai ws "put" i=true->∀ H',Sep Γ' H'->Q wn H')
  (q1:ai ws "put" i=false->∀ e H',Sep (mM (R.cad 2) [("deed",wl "put"),("cell",wf i)] e false::O) H'->E e H'):aa tab R k 54 [v6 a,wf i,wf v] H Q E:=by
 obtain⟨Δ,p,p'⟩:=r.bL;obtain⟨hok,z2⟩:=jN (z.pull p);refine Jd hk z2 (by rw[ce];exact hok.1) (λhm H' z3=>q0 hm H' ?_) (λhm e H' z3=>q1 hm e H' (Sep.push (.t p) (md hok (z3.pull .k1))));refine Sep.push p' (md ⟨by rw[length_set];exact hok.1,by rw[length_set];exact hok.2.1,by rw[length_set];exact hok.2.2.1,wa hok.2.2.2 hv.1 hv.2⟩ ?_);rw[List.map_set];exact z3
def Fu {d:Str}(hk:2<=k)(z:Sep O H)(p:ae (aU R a cs ws) O Δ)(q:Q (.bl (ai ws d i)) H):aa tab R k 52 [v6 a,wl d,wf i] H Q E:=by
 obtain⟨hok,z2⟩:=jN (z.pull p);exact A6 hk z2 (by rw[ce];exact hok.1) q
def uS (hk:1<=k)(z:Sep O H)(p:ae (aU R a cs ws) O Δ)(q:∀ l H',Sep (pt l (wp (cs.map wf))::O) H'->Q (v6 l) H'):aa tab R k 51 [v6 a] H Q E:=by
 obtain⟨hok,z2⟩:=jN (z.pull p);exact G5 hk z2 (λl H' z3=>q l H' (Sep.push (.t p) (md hok (z3.pull .k1))))
end
def xA {cs:List Int}(h1:1<=cs.length)(h60:cs.length<=60)(hc:cD cs):bad (cs.map wf)=none:=by
 refine rZ (by rw[ce];exact⟨h1,h60⟩) λi y hy=>?_
 rw[io]at hy;obtain⟨z,hz,rfl⟩:=nw.mp hy;exact v7 (hc z (cr hz))
def yM {cs:List Int}(s:Sep O H):Sep (tys (cs.map wf)::O) H:=Sep.IA (λx hx=>by
 obtain⟨z,_,rfl⟩:=List.mem_map.mp hx;exact⟨"int",rfl⟩) s
def pP {p:Addr}{cs:List Int}(ro:Ro K R)(hk:4<=k)(h1:1<=cs.length)(h60:cs.length<=60)(hc:cD cs)(s:Sep (pt p (wv (R.cad 18) dx [])::pt dx (.own p)::O) H)(h:ae (pt a (wp (cs.map wf))) O Δ)
  (q:∀ H',Sep (aU R p cs (sK cs.length "open")::O) H'->Q wn H'):aa tab R k 49 [v6 p,v6 a] H Q E:=by
 have s2:=yM (cs:=cs) (s.pull (.j2 h));refine pZ (a:=a) (dx:=dx) (O:=Δ) ro hk (s2.sub ?_) (λ_ H' z=>q H' ?_) (λat' hb=>absurd hb (by rw[xA h1 h60 hc];exact λz=>nomatch z))
 .ac_nf
 .refine Sep.push (.t h) ?_;have e:sK (cs.map wf).length (wl "open")=(sK cs.length ("open":Str)).map wl:=by rw[ce,map_replicate]
  rw[e]at z;have z2:=md (cs:=cs) ⟨by rw[List.length_replicate],h1,h60,hc⟩ z;exact z2.sub (by ac_nf)
def aZ {T:Tab}{f:Nat}{vs vs':List V}(e:vs=vs')(h:aa T R k f vs' H Q E):aa T R k f vs H Q E:=e▸h
local macro_rules| `(tactic|walk_at "ag")=>`(tactic|first|refine aZ (vs':=[_,_]) rfl ?_|refine aZ (vs':=[_,_,_]) rfl ?_|refine aZ (vs':=[_]) rfl ?_|refine aZ (vs':=[_,_,_,_]) rfl ?_)
local macro_rules| `(tactic|walk_at "mt")=>`(tactic|first|((with_reducible refine' ab ba ?s ?p ?m ?f ?_);(case s=>with_reducible assumption);(case p=>symm);(case m=>exact rfl);(case f=>exact rfl))|((with_reducible refine' ab bH ?s ?p ?m ?f ?_);(case s=>with_reducible assumption);(case p=>symm);(case m=>exact rfl);(case f=>exact rfl)))
local macro_rules| `(tactic|walk_at "hq")=>`(tactic|((with_reducible (first|refine' JK ?r ?k ?s ?p ?_|refine' Km ?r ?k ?s ?p ?_|refine' GS ?r ?k ?s ?p ?_|refine' HR ?r ?k ?s ?p ?_|refine' Lx ?r ?k ?s ?p ?_|refine' Ke ?r ?k ?s ?p ?_));(case r=>with_reducible assumption);(case k=>exact nofun);(case s=>with_reducible assumption);(case p=>symm)))
local macro_rules| `(tactic|walk_at "gq")=>`(tactic|((with_reducible (first|refine' Ka ?r ?k ?s ?p ?i (λH hs=>?_)|refine' JE ?r ?k ?s ?p ?i (λH hs=>?_)|refine' IE ?r ?k ?s ?p ?i (λH hs=>?_)|refine' LD ?r ?k ?s ?p ?i (λH hs=>?_)));(case r=>with_reducible assumption);(case k=>exact nofun);(case s=>with_reducible assumption);(case p=>ac_rfl);(case i=>omega)))
local macro_rules| `(tactic|walk_at "ws")=>`(tactic|(walk_at "w";repeat(first|(walk_at "st";walk_at "w")|(walk_at "mt";walk_at "w")|(walk_at "ag";(walk_at "hq");walk_at "w")|(walk_at "ag";(walk_at "gq");walk_at "w"))))
local macro_rules| `(tactic|walk_at "sc")=>`(tactic|first|(refine aL (by decide+kernel) ?_;walk_at "go")|(refine ar (by decide+kernel) ?_;walk_at "go"))
inductive Out where
 |on (r:Int) (x:Bx) (cs:List Int)
 |no (d:Str) (c:Int)
section
variable {b a:Addr}{h t l w s m i j by':Int}{cs:List Int}{ws:List Str}
def Ff (ro:Ro K R)(hk:5<=k)(z:Sep O H)(r:aO (aK R b ⟨h,t,l,w,s,m⟩) (aK R b ⟨h+i,t,l,w,s,m⟩) O Γ')(hi: -1000000000<=h+i/\h+i<=1000000000)(q:∀ H',Sep Γ' H'->Q wn H'):aa tab R k 76 [v6 b,wl "here",wf i] H Q E:=by
 obtain⟨Δ,p1,p2⟩:=r.bL;delta oE;left;refine⟨rfl,?_⟩;left;refine ab ba z p1 rfl rfl ?_;left;refine⟨rfl,?_⟩;left;refine ab ba z p1 rfl rfl ?_;left;refine JK ro nofun z p1 ?_;left;exact Ka ro nofun z r hi q
def J4 (ro:Ro K R)(hk:5<=k)(z:Sep O H)(r:aO (aK R b ⟨h,t,l,w,s,m⟩) (aK R b ⟨h,t+i,l,w,s,m⟩) O Γ')(hi: -1000000000<=t+i/\t+i<=1000000000)(q:∀ H',Sep Γ' H'->Q wn H'):aa tab R k 76 [v6 b,wl "there",wf i] H Q E:=by
 obtain⟨Δ,p1,p2⟩:=r.bL;delta oE;left;refine⟨rfl,?_⟩;left;refine ab ba z p1 rfl rfl ?_;left;refine⟨rfl,?_⟩;left;refine ab ba z p1 rfl rfl ?_;left;refine Km ro nofun z p1 ?_;left;exact JE ro nofun z r hi q
def Mq (ro:Ro K R)(hk:5<=k)(z:Sep O H)(r:aO (aK R b ⟨h,t,l,w,s,m⟩) (aK R b ⟨h,t,l+i,w,s,m⟩) O Γ')(hi:0<=l+i/\l+i<=1000000000)(q:∀ H',Sep Γ' H'->Q wn H'):aa tab R k 76 [v6 b,wl "left",wf i] H Q E:=by
 obtain⟨Δ,p1,p2⟩:=r.bL;delta oE;left;refine⟨rfl,?_⟩;left;refine ab ba z p1 rfl rfl ?_;left;refine⟨rfl,?_⟩;left;refine ab ba z p1 rfl rfl ?_;left;refine GS ro nofun z p1 ?_;left;exact IE ro nofun z r hi q
abbrev fin (l:Int):Int:=if l=0 then 1 else 0
def rz (ro:Ro K R)(hk:6<=k)(z:Sep O H)(r:aO (aK R b ⟨h,t,l,w,s,m⟩) (aK R b ⟨h,t,l+ -i,w,s,m⟩) O Γ')(hi:0<=l+ -i/\l+ -i<=1000000000)(q:∀ H',Sep Γ' H'->Q (wf (fin (l+ -i))) H'):aa tab R k 78 [v6 b,wf i] H Q E:=by
 obtain⟨Δ,p1,p2⟩:=r.bL;delta jL;right;refine Mq ro nofun z r hi (λH1 z1=>?_);right;refine ab ba z1 p2 rfl rfl ?_;left;refine GS ro nofun z1 p2 ?_;right;refine aI (λe=>?_) (λe=>?_)
 .right;have q:=q H1 z1;rw[fin,if_pos e]at q;exact q
 .right;have q:=q H1 z1;rw[fin,if_neg e]at q;exact q
def tP (hk:4<=k)(z:Sep O H)(r:aO (aU R a cs ws) (aU R a (cs.set j.toNat (gt cs i)) ws) O Γ')(q0:ai ws "look" i=true->ai ws "put" j=true->∀ H',Sep Γ' H'->Q wn H')
  (q1:ai ws "look" i=false->∀ e H',Sep (mM (R.cad 2) [("deed",wl "look"),("cell",wf i)] e false::O) H'->E e H')
  (q2:ai ws "look" i=true->ai ws "put" j=false->∀ e H',Sep (mM (R.cad 2) [("deed",wl "put"),("cell",wf j)] e false::O) H'->E e H'):aa tab R k 80 [v6 a,wf i,wf j] H Q E:=by
 obtain⟨Δ,p1,p2⟩:=r.bL;have ok:=cC z p1;delta yY;right;refine ab bH z p1 rfl rfl ?_;left;refine dr nofun z p1 (λhm=>?_) q1;right;refine ab bH z p1 rfl rfl ?_;left;refine kL nofun z r (zw ok.2.2.2) (λhp H1 z1=>?_) (q2 hm);right;exact q0 hm hp H1 z1
def nP (hk:3<=k)(z:Sep O H)(p:ae (aU R a cs ws) O Δ)(q0:ai ws "put" i=true->Q wn H)
  (q1:ai ws "put" i=false->∀ e H',Sep (mM (R.cad 2) [("deed",wl "put"),("cell",wf i)] e false::O) H'->E e H'):aa tab R k 79 [v6 a,wf i] H Q E:=by
 delta nE;right;refine ab bH z p rfl rfl ?_;left;refine Fu nofun z p ?_;right;refine cG (λhm=>?_) (λhm=>?_)
 .right;exact q0 hm
 .right;intro x hx;refine d6 nofun (z.new hx) (λd H hs=>?_);right;exact fV hs (by ac_rfl) rfl (λH hs=>q1 hm x H (kP hs))
def uI {Γf:Int->Int->List av}(hk:4<=k)(z:Sep O H)(r:∀ v w:Int,∃ Γ1,aO (aU R a cs ws) (aU R a (cs.set i.toNat v) ws) O Γ1/\aO (aU R a (cs.set i.toNat v) ws) (aU R a ((cs.set i.toNat v).set j.toNat w) ws) Γ1 (Γf v w)) (q0:ai ws "look" i=true->ai ws "look" j=true->ai ws "put" i=true->ai ws "put" j=true->∀ H',Sep (Γf (gt cs j) (gt cs i)) H'->Q wn H')
  (q1:ai ws "look" i=false->∀ e H',Sep (mM (R.cad 2) [("deed",wl "look"),("cell",wf i)] e false::O) H'->E e H')
  (q2:ai ws "look" i=true->ai ws "look" j=false->∀ e H',Sep (mM (R.cad 2) [("deed",wl "look"),("cell",wf j)] e false::O) H'->E e H')
  (q3:ai ws "look" i=true->ai ws "look" j=true->ai ws "put" i=false->∀ e H',Sep (mM (R.cad 2) [("deed",wl "put"),("cell",wf i)] e false::O) H'->E e H')
  (q4:ai ws "look" i=true->ai ws "look" j=true->ai ws "put" i=true->ai ws "put" j=false->∀ e H',Sep (mM (R.cad 2) [("deed",wl "put"),("cell",wf j)] e false::O) H'->E e H'):aa tab R k 81 [v6 a,wf i,wf j] H Q E:=by
 obtain⟨Γ1,r1,r2⟩:=r (gt cs j) (gt cs i);obtain⟨Δ,p1,p2⟩:=r1.bL;obtain⟨Δ2,p3,p4⟩:=r2.bL;have ok:=cC z p1;delta lJ;right;refine ab bH z p1 rfl rfl ?_;left;refine dr nofun z p1 (λh1=>?_) q1;right;refine ab bH z p1 rfl rfl ?_;left;refine dr nofun z p1 (λh2=>?_) (q2 h1);right;refine nP nofun z p1 (λh3=>?_) (q3 h1 h2);right;refine nP nofun z p1 (λh4=>?_) (q4 h1 h2 h3);right;refine ab bH z p1 rfl rfl ?_;left;refine kL nofun z r1 (zw ok.2.2.2) (λhp H1 z1=>?_) (λhp=>absurd (h3.symm.trans hp) (by decide));right;refine ab bH z1 p3 rfl rfl ?_;left;refine kL nofun z1 r2 (zw ok.2.2.2) (λhp H2 z2=>?_) (λhp=>absurd (h4.symm.trans hp) (by decide));right;exact q0 h1 h2 h3 h4 H2 z2
abbrev tL (R:Rt)(b a:Addr)(x:Bx)(cs:List Int)(ws:List Str)(O:List av)(Q:VK)(E:XK):Out->Prop
 | .on r x' cs'=>∀ H',Sep (aK R b x'::aU R a cs' ws::O) H'->Q (wf r) H'
 | .no d c=>∀ e H',Sep (mM (R.cad 2) [("deed",wl d),("cell",wf c)] e false::aK R b x::aU R a cs ws::O) H'->E e H'
abbrev hm (cs:List Int)(ws:List Str)(i j:Int)(f:List Int->Out):Out:=
 if ai ws "look" i=true then(if ai ws "put" j=true then f (cs.set j.toNat (gt cs i)) else .no "put" j) else .no "look" i
abbrev f9 (x:Bx)(cs:List Int)(ws:List Str):Out:=
 if x.l=0 then .on 1 x cs else if x.t<=x.h then hm cs ws x.h x.t λcs'=>.on (fin (x.l+ -1)) ⟨x.h+1,x.t+1,x.l+ -1,x.w,x.s,x.m⟩ cs'
 else hm cs ws (x.h+x.l-1) (x.t+x.l-1) λcs'=>.on (fin (x.l+ -1)) ⟨x.h,x.t,x.l+ -1,x.w,x.s,x.m⟩ cs'
abbrev xm (cs:List Int)(ws:List Str)(i j:Int)(f:List Int->Out):Out:=
 if ai ws "look" i=true then(if ai ws "look" j=true then(if ai ws "put" i=true then(if ai ws "put" j=true then f ((cs.set i.toNat (gt cs j)).set j.toNat (gt cs i)) else .no "put" j) else .no "put" i) else .no "look" j) else .no "look" i
abbrev lQ (x:Bx)(cs:List Int)(ws:List Str):Out:=
 if x.l=0 then .on 1 x cs else if x.l=1 then .on 1 ⟨x.h,x.t,0,x.w,x.s,x.m⟩ cs else xm cs ws x.h (x.h+x.l-1) λcs'=>.on (fin (x.l+ -2)) ⟨x.h+1,x.t,x.l+ -2,x.w,x.s,x.m⟩ cs'
def yU (ro:Ro K R)(hk:7<=k)(z:Sep (aK R b x::aU R a cs ws::O) H)(q:tL R b a x cs ws O Q E (f9 x cs ws)):aa tab R k 90 [v,v6 b,v6 a] H Q E:=by
 have ok:=lp z .e;have sk:=cC z .k1;obtain⟨h,t,l,w,s,m⟩:=x;obtain⟨⟨o1,o2⟩,⟨o3,o4⟩,⟨o5,o6⟩,o7⟩:=ok;dsimp only at o1 o2 o3 o4 o5 o6;obtain⟨s1,s2,s3,s4⟩:=sk;delta hW;walk_at "ws";refine aI (λe=>?_) (λe=>?_)
 .walk_at "ws";rw[f9,if_pos e]at q;exact q H z
 rw[f9,if_neg e]at q;walk_at "ws";refine ay (λe2=>?_) (λe2=>?_)
 .rw[if_pos e2]at q;walk_at "ws";refine tP nofun z .k1 (λh1 h2 H1 z1=>?_) (λh1=>?_) (λh1 h2=>?_)
  .have g1:=aq h1;have g2:=aq h2;rw[hm,if_pos h1,if_pos h2]at q;walk_at "ws";refine Ff ro nofun z1 .e nofun (λH2 z2=>?_);walk_at "ws";refine J4 ro nofun z2 .e nofun (λH3 z3=>?_);walk_at "ws";exact rz ro nofun z3 .e nofun (λH4 z4=>q H4 z4)
  .rw[hm,if_neg (by rw[h1];decide)]at q;exact q
  .rw[hm,if_pos h1,if_neg (by rw[h2];decide)]at q;exact q
 .rw[if_neg e2]at q;walk_at "ws";refine tP nofun z .k1 (λh1 h2 H1 z1=>?_) (λh1=>?_) (λh1 h2=>?_)
  .rw[hm,if_pos h1,if_pos h2]at q;walk_at "ws";exact rz ro nofun z1 .e nofun (λH4 z4=>q H4 z4)
  .rw[hm,if_neg (by rw[h1];decide)]at q;exact q
  .rw[hm,if_pos h1,if_neg (by rw[h2];decide)]at q;exact q
def DA (ro:Ro K R)(hk:7<=k)(z:Sep (aK R b x::aU R a cs ws::O) H)(q:tL R b a x cs ws O Q E (lQ x cs ws)):aa tab R k 92 [v,v6 b,v6 a] H Q E:=by
 have ok:=lp z .e;have sk:=cC z .k1;obtain⟨h,t,l,w,s,m⟩:=x;obtain⟨⟨o1,o2⟩,⟨o3,o4⟩,⟨o5,o6⟩,o7⟩:=ok;dsimp only at o1 o2 o3 o4 o5 o6;obtain⟨s1,s2,s3,s4⟩:=sk;delta jf;walk_at "ws";refine aI (λe=>?_) (λe=>?_)
 .walk_at "ws";rw[lQ,if_pos e]at q;exact q H z
 rw[lQ,if_neg e]at q;walk_at "ws";refine aI (λe2=>?_) (λe2=>?_)
 .rw[if_pos e2]at q;walk_at "ws";refine rz ro nofun z .e nofun (λH4 z4=>?_);subst e2;exact q H4 z4
 .rw[if_neg e2]at q;walk_at "ws";refine uI (Γf:=λv w'=>aK R b ⟨h,t,l,w,s,m⟩::aU R a ((cs.set h.toNat v).set (h+l-1).toNat w') ws::O) nofun z (λv w=>⟨_,.t .e,.t .e⟩) (λh1 h2 h3 h4 H1 z1=>?_) (λh1=>?_) (λh1 h2=>?_) (λh1 h2 h3=>?_) (λh1 h2 h3 h4=>?_)
  .have g1:=aq h1;rw[xm,if_pos h1,if_pos h2,if_pos h3,if_pos h4]at q;walk_at "ws";refine Ff ro nofun z1 .e nofun (λH2 z2=>?_);walk_at "ws";exact rz ro nofun z2 .e nofun (λH4 z4=>q H4 z4)
  .rw[xm,if_neg (by rw[h1];decide)]at q;exact q
  .rw[xm,if_pos h1,if_neg (by rw[h2];decide)]at q;exact q
  .rw[xm,if_pos h1,if_pos h2,if_neg (by rw[h3];decide)]at q;exact q
  .rw[xm,if_pos h1,if_pos h2,if_pos h3,if_neg (by rw[h4];decide)]at q;exact q
end
section
variable {b a:Addr}{h t l w s m i j:Int}{cs:List Int}{ws:List Str}
def GC (ro:Ro K R)(hk:6<=k)(z:Sep O H)(r:aO (aK R b ⟨h,t,l,w,s,m⟩) (aK R b ⟨h+w,t,l,w,s,m⟩) O Γ')(hi: -1000000000<=h+w/\h+w<=1000000000)(q:∀ H',Sep Γ' H'->Q wn H'):aa tab R k 77 [v6 b,wl "here"] H Q E:=by
 obtain⟨Δ,p1,p2⟩:=r.bL;delta eE;left;refine⟨rfl,?_⟩;left;refine⟨rfl,?_⟩;left;refine ab ba z p1 rfl rfl ?_;left;refine HR ro nofun z p1 ?_;left;exact Ff ro nofun z r hi q
def HI (ro:Ro K R)(hk:6<=k)(z:Sep O H)(r:aO (aK R b ⟨h,t,l,w,s,m⟩) (aK R b ⟨h,t+w,l,w,s,m⟩) O Γ')(hi: -1000000000<=t+w/\t+w<=1000000000)(q:∀ H',Sep Γ' H'->Q wn H'):aa tab R k 77 [v6 b,wl "there"] H Q E:=by
 obtain⟨Δ,p1,p2⟩:=r.bL;delta eE;left;refine⟨rfl,?_⟩;left;refine⟨rfl,?_⟩;left;refine ab ba z p1 rfl rfl ?_;left;refine HR ro nofun z p1 ?_;left;exact J4 ro nofun z r hi q
abbrev lT (x:Bx)(cs:List Int)(ws:List Str):Out:=
 if x.l=0 then .on 1 x cs else hm cs ws x.h x.t λcs'=>.on (fin (x.l+ -1)) ⟨x.h+x.w,x.t+x.w,x.l+ -1,x.w,x.s,x.m⟩ cs'
abbrev l9 (x:Bx)(cs:List Int)(ws:List Str):Out:=
 if x.l=0 then .on 1 x cs else if ai ws "put" x.t=true then .on (fin (x.l+ -1)) ⟨x.h,x.t+x.w,x.l+ -1,x.w,x.s,x.m⟩ (cs.set x.t.toNat x.s) else .no "put" x.t
abbrev lV (x:Bx)(cs:List Int)(ws:List Str):Out:=
 if x.l=0 then .on 1 ⟨x.h,x.t,x.l,x.w,x.s,0⟩ cs else if ai ws "look" x.h=true then
  (if gt cs x.h=x.s then .on 1 ⟨x.h,x.t,x.l,x.w,x.s,1⟩ cs else .on (fin (x.l+ -1)) ⟨x.h+x.w,x.t,x.l+ -1,x.w,x.s,0⟩ cs) else .no "look" x.h
abbrev gb (x:Bx)(cs:List Int)(ws:List Str):Out:=
 if x.l=0 then .on 1 ⟨x.h,x.t,x.l,x.w,x.s,1⟩ cs else if ai ws "look" x.h=true then(if ai ws "look" x.t=true then
  (if gt cs x.h=gt cs x.t then .on (fin (x.l+ -1)) ⟨x.h+x.w,x.t+x.w,x.l+ -1,x.w,x.s,1⟩ cs else .on 1 ⟨x.h,x.t,x.l,x.w,x.s,0⟩ cs) else .no "look" x.t) else .no "look" x.h
def nt {c:Bool}(h:c=false):¬ c=true:=by rw[h];decide
def Dw (ro:Ro K R)(hk:8<=k)(z:Sep (aK R b x::aU R a cs ws::O) H)(q:tL R b a x cs ws O Q E (lT x cs ws)):aa tab R k 82 [v,v6 b,v6 a] H Q E:=by
 have ok:=lp z .e;have sk:=cC z .k1;obtain⟨h,t,l,w,s,m⟩:=x;obtain⟨⟨o1,o2⟩,⟨o3,o4⟩,⟨o5,o6⟩,o7,o8⟩:=ok;dsimp only at o1 o2 o3 o4 o5 o6 o7;obtain⟨s1,s2,s3,s4⟩:=sk;delta jS;walk_at "ws";refine aI (λe=>?_) (λe=>?_)
 .walk_at "ws";rw[lT,if_pos e]at q;exact q H z
 rw[lT,if_neg e]at q;walk_at "ws";refine tP nofun z .k1 (λh1 h2 H1 z1=>?_) (λh1=>?_) (λh1 h2=>?_)
 .have g1:=aq h1;have g2:=aq h2;rw[hm,if_pos h1,if_pos h2]at q;walk_at "ws";refine GC ro nofun z1 .e nofun (λH2 z2=>?_);walk_at "ws";refine HI ro nofun z2 .e nofun (λH3 z3=>?_);walk_at "ws";exact rz ro nofun z3 .e nofun (λH4 z4=>q H4 z4)
 .rw[hm,if_neg (nt h1)]at q;exact q
 .rw[hm,if_pos h1,if_neg (nt h2)]at q;exact q
def D7 (ro:Ro K R)(hk:8<=k)(z:Sep (aK R b x::aU R a cs ws::O) H)(q:tL R b a x cs ws O Q E (l9 x cs ws)):aa tab R k 84 [v,v6 b,v6 a] H Q E:=by
 have ok:=lp z .e;have sk:=cC z .k1;obtain⟨h,t,l,w,s,m⟩:=x;obtain⟨⟨o1,o2⟩,⟨o3,o4⟩,⟨o5,o6⟩,o7,o8,o9⟩:=ok;dsimp only at o1 o2 o3 o4 o5 o6 o7 o8;obtain⟨s1,s2,s3,s4⟩:=sk;delta jl;walk_at "ws";refine aI (λe=>?_) (λe=>?_)
 .walk_at "ws";rw[l9,if_pos e]at q;exact q H z
 rw[l9,if_neg e]at q;walk_at "ws";refine kL nofun z .k1 o8 (λh2 H1 z1=>?_) (λh2=>?_)
 .have g2:=aq h2;rw[if_pos h2]at q;walk_at "ws";refine HI ro nofun z1 .e nofun (λH3 z3=>?_);walk_at "ws";exact rz ro nofun z3 .e nofun (λH4 z4=>q H4 z4)
 .rw[if_neg (nt h2)]at q;exact q
def Dc (ro:Ro K R)(hk:8<=k)(z:Sep (aK R b x::aU R a cs ws::O) H)(q:tL R b a x cs ws O Q E (lV x cs ws)):aa tab R k 86 [v,v6 b,v6 a] H Q E:=by
 have ok:=lp z .e;have sk:=cC z .k1;obtain⟨h,t,l,w,s,m⟩:=x;obtain⟨⟨o1,o2⟩,⟨o3,o4⟩,⟨o5,o6⟩,o7,o8⟩:=ok;dsimp only at o1 o2 o3 o4 o5 o6 o7;obtain⟨s1,s2,s3,s4⟩:=sk;delta jz;walk_at "ws";refine aI (λe=>?_) (λe=>?_)
 .rw[lV,if_pos e]at q;walk_at "ws";rename_i H1 z1;exact q _ z1
 rw[lV,if_neg e]at q;walk_at "ws";refine dr nofun z .k1 (λh1=>?_) (λh1=>?_)
 .have g1:=aq h1;rw[if_pos h1]at q;walk_at "ws";refine aI (λe=>?_) (λe=>?_)
  .rw[if_pos e]at q;walk_at "ws";rename_i H1 z1;exact q _ z1
  .rw[if_neg e]at q;walk_at "ws";rename_i H1 z1;refine GC ro nofun z1 .e nofun (λH3 z3=>?_);walk_at "ws";exact rz ro nofun z3 .e nofun (λH4 z4=>q H4 z4)
 .rw[if_neg (nt h1)]at q;exact q
def Ad (ro:Ro K R)(hk:8<=k)(z:Sep (aK R b x::aU R a cs ws::O) H)(q:tL R b a x cs ws O Q E (gb x cs ws)):aa tab R k 88 [v,v6 b,v6 a] H Q E:=by
 have ok:=lp z .e;have sk:=cC z .k1;obtain⟨h,t,l,w,s,m⟩:=x;obtain⟨⟨o1,o2⟩,⟨o3,o4⟩,⟨o5,o6⟩,o7,o8⟩:=ok;dsimp only at o1 o2 o3 o4 o5 o6 o7;obtain⟨s1,s2,s3,s4⟩:=sk;delta gJ;walk_at "ws";refine aI (λe=>?_) (λe=>?_)
 .rw[gb,if_pos e]at q;walk_at "ws";rename_i H1 z1;exact q _ z1
 rw[gb,if_neg e]at q;walk_at "ws";refine dr nofun z .k1 (λh1=>?_) (λh1=>?_)
 .have g1:=aq h1;rw[if_pos h1]at q;walk_at "ws";refine dr nofun z .k1 (λh2=>?_) (λh2=>?_)
  .have g2:=aq h2;rw[if_pos h2]at q;walk_at "ws";refine aI (λe=>?_) (λe=>?_)
   .rw[if_pos e]at q;walk_at "ws";rename_i H1 z1;refine GC ro nofun z1 .e nofun (λH2 z2=>?_);walk_at "ws";refine HI ro nofun z2 .e nofun (λH3 z3=>?_);walk_at "ws";exact rz ro nofun z3 .e nofun (λH4 z4=>q H4 z4)
   .rw[if_neg e]at q;walk_at "ws";rename_i H1 z1;exact q _ z1
  .rw[if_neg (nt h2)]at q;exact q
 .rw[if_neg (nt h1)]at q;exact q
end
abbrev b2i (c:Bool):Int:=match c with
 |true=>1
 |false=>0
def km {G:Gx}{c:Bool}(q:Q (wf (b2i c)) H):mh G .int [.bl c] H Q:=by
 unfold mh;refine .inr ⟨c,rfl,?_⟩;cases c<;>exact q
section
variable {cs:List Int}{f g:Nat->Int}{i v:Int}
end
abbrev dd (R:Rt)(d:Addr)(c:Nat):av:=bx λdx:Addr=>[pt d (wv (R.cad c) dx []),pt dx (.own d)]
def Lk {c:Nat}(s:Sep (pt d (wv (R.cad c) dx [])::pt dx (.own d)::O) H):Sep (dd R d c::O) H:=dS dx s
def KH {c:Nat}:Ob R (dd R d c) d c []:=by
 rintro H D ⟨dx,D1,D2,_,_,_,⟨_,h⟩,_⟩;exact⟨dx,_,h,rfl⟩
def gQ {p:Addr}{cs:List Int}(h1:H l=some (wp (cs.map wf)))(h2:H p=some (wp (cs.map wf))):gm R.K H 2 (v6 l) (v6 p) true:=
 rf (n:=0) h1 h2 λx hx=>by
  obtain⟨z,_,rfl⟩:=List.mem_map.mp hx;exact⟨"int",rfl⟩
abbrev ak (d:Addr)(x:Bx):av:=pt d (.dK (xK.zip (x.ls.map wf)))
section
variable {d:Addr}{h t l w s m i:Int}{P:Hp->Prop}
def Lc {K:W.Frag}(z:Sep O H)(p:ae (ak d ⟨h,t,l,w,s,m⟩) O Δ)(q:Q (wf h) H):sj K (v6 d) (wl "here") H Q:=pH (k:=.inr "here") (z.get p) rfl q
def Mg {K:W.Frag}(z:Sep O H)(p:ae (ak d ⟨h,t,l,w,s,m⟩) O Δ)(q:Q (wf t) H):sj K (v6 d) (wl "there") H Q:=pH (k:=.inr "there") (z.get p) rfl q
def Md {K:W.Frag}(z:Sep O H)(p:ae (ak d ⟨h,t,l,w,s,m⟩) O Δ)(q:Q (wf l) H):sj K (v6 d) (wl "left") H Q:=pH (k:=.inr "left") (z.get p) rfl q
def Mi {K:W.Frag}(z:Sep O H)(p:ae (ak d ⟨h,t,l,w,s,m⟩) O Δ)(q:Q (wf w) H):sj K (v6 d) (wl "way") H Q:=pH (k:=.inr "way") (z.get p) rfl q
def LZ {K:W.Frag}(z:Sep O H)(p:ae (ak d ⟨h,t,l,w,s,m⟩) O Δ)(q:Q (wf s) H):sj K (v6 d) (wl "sign") H Q:=pH (k:=.inr "sign") (z.get p) rfl q
def Mu {K:W.Frag}(z:Sep O H)(p:ae (ak d ⟨h,t,l,w,s,m⟩) O Δ)(q:Q (wf m) H):sj K (v6 d) (wl "met") H Q:=pH (k:=.inr "met") (z.get p) rfl q
def qD {y:Bx}{j:Nat}{nm:Str}(z:Sep O H)(r:aO (ak d x) (ak d y) O Γ')(hj:qq[j]? =some nm)(hx:x.ls.set j i=y.ls)(q:∀ H',Sep Γ' H'->P H'):hX (v6 d) (wl nm) (wf i) H P:=by
 refine vg (k:=.inr nm) z r (pc rfl) ?_ q;rw[<-hx];exact vA rfl hj
def LW (z:Sep O H)(r:aO (ak d ⟨h,t,l,w,s,m⟩) (ak d ⟨i,t,l,w,s,m⟩) O Γ')(q:∀ H',Sep Γ' H'->P H'):hX (v6 d) (wl "here") (wf i) H P:=qD (j:=0) z r rfl rfl q
def LX (z:Sep O H)(r:aO (ak d ⟨h,t,l,w,s,m⟩) (ak d ⟨h,i,l,w,s,m⟩) O Γ')(q:∀ H',Sep Γ' H'->P H'):hX (v6 d) (wl "there") (wf i) H P:=qD (j:=1) z r rfl rfl q
def Mn (z:Sep O H)(r:aO (ak d ⟨h,t,l,w,s,m⟩) (ak d ⟨h,t,i,w,s,m⟩) O Γ')(q:∀ H',Sep Γ' H'->P H'):hX (v6 d) (wl "left") (wf i) H P:=qD (j:=2) z r rfl rfl q
def Mv (z:Sep O H)(r:aO (ak d ⟨h,t,l,w,s,m⟩) (ak d ⟨h,t,l,w,s,i⟩) O Γ')(q:∀ H',Sep Γ' H'->P H'):hX (v6 d) (wl "met") (wf i) H P:=qD (j:=5) z r rfl rfl q
end
local macro_rules| `(tactic|walk_at "sx")=>`(tactic|((with_reducible (first|refine' Lc ?s ?p ?_|refine' Mg ?s ?p ?_|refine' Md ?s ?p ?_|refine' Mi ?s ?p ?_|refine' LZ ?s ?p ?_|refine' Mu ?s ?p ?_));(case s=>with_reducible assumption);(case p=>symm)))
local macro_rules| `(tactic|walk_at "sy")=>`(tactic|((with_reducible (first|refine' LW ?s ?p (λH hs=>?_)|refine' LX ?s ?p (λH hs=>?_)|refine' Mn ?s ?p (λH hs=>?_)|refine' ds_w ?s ?p (λH hs=>?_)|refine' ds_s ?s ?p (λH hs=>?_)|refine' Mv ?s ?p (λH hs=>?_)));(case s=>with_reducible assumption);(case p=>ac_rfl)))
local macro_rules| `(tactic|walk_at "wd")=>`(tactic|(walk_at "w";repeat(first|(walk_at "sx";walk_at "w")|(walk_at "sy";walk_at "w")|(walk_at "st";walk_at "w")|(refine km ?_;walk_at "w"))))
def Ar {d:Str}(hk:1<=k)(z:Sep O H)(p:ae (pt lv (wp (ws.map wl))) O Δ)(q:Q (.bl (ai ws d i)) H):aa tab R k 100 [v6 lv,wl d,wf i] H Q E:=by
 have e0:H lv=some (wp (ws.map wl)):=z.get p;have no:(i<0\/¬ i<ws.length)->ai ws d i=false:=λh=>by
  unfold ai;rcases h with h|h
  .rw[decide_eq_false (by omega:¬ 0<=i),Bool.false_and]
  .rw[decide_eq_false h,Bool.false_and,Bool.and_false]
 delta lj;left;refine ay (λh0=>?_) (λh0=>?_)
 .right;rw[no (.inl h0)]at q;exact q
 left;refine iD e0 ?_;left;rw[ce];refine ay (λh1=>?_) (λh1=>?_)
 .right;rw[no (.inr nofun)]at q;exact q
 have h2:i.toNat<ws.length:=by omega
 have e1:ws[i.toNat]? =some ws[i.toNat]:=li h2;generalize ws[i.toNat]=w at e1;have e2:(ws.map wl)[i.toNat]? =some (wl w):=by rw[io,e1];rfl
 have e3:ai ws d i=(if w="look" then d =="look" else w =="open"):=by
  unfold ai;rw[e1,decide_eq_true (by omega:0<=i),decide_eq_true (by omega:i<ws.length)]
  rfl
 left;refine aM e0 (aF nofun e2) ?_;right;refine cG (λhw=>?_) (λhw=>?_)
 .have hw:w="open":=by simpa[cV] using hw
  subst hw;rw[e3,if_neg (by decide+kernel)]at q;right;exact q
 .have hw:¬ w="open":=by simpa[cV] using hw
  left;refine aM e0 (aF nofun e2) ?_;right;refine cG (λhl=>?_) (λhl=>?_)
  .have hl:w="look":=by simpa[cV] using hl
   rw[e3,if_pos hl]at q;right;exact q
  .have hl:¬ w="look":=by simpa[cV] using hl
   have e4:(w ==("open":Str))=false:=by simpa using hw
   rw[e3,if_neg hl,e4]at q;right;exact q
inductive Wd where
 |copy|fill|seek|mtch|shift|turn
abbrev Wd.s:Wd->Str
 | .copy=>"copy"
 | .fill=>"fill"
 | .seek=>"seek"
 | .mtch=>"match"
 | .shift=>"shift"
 | .turn=>"turn"
abbrev DE (h t l:Int):Wd->List Int
 | .copy=>[h]
 | .fill=>[]
 | .seek=>[h]
 | .mtch=>[h,t]
 | .shift=>if t<=h then[h+0] else[h+(l-1)]
 | .turn=>if l=1 then[] else[h,h+l-1]
abbrev B7 (h t l:Int):Wd->List Int
 | .copy=>[t]
 | .fill=>[t]
 | .seek=>[]
 | .mtch=>[]
 | .shift=>if t<=h then[t+0] else[t+(l-1)]
 | .turn=>if l=1 then[] else[h,h+l-1]
abbrev nz (wd:Wd)(x:Bx):List Int:=if x.l=0 then[] else DE x.h x.t x.l wd
abbrev xN (wd:Wd)(x:Bx):List Int:=if x.l=0 then[] else B7 x.h x.t x.l wd
def Nl {v0 v1:V}{c:Bool}:lH [v0,v1] (b2i c)=some (if c=true then v1 else v0):=by cases c<;>rfl
abbrev aV (ws:List Str)(d:Str):List Int->Option (Str×Int)
 | []=>none
 |c::r=>if ai ws d c=true then aV ws d r else some (d,c)
abbrev bC (ws:List Str)(ls ps:List Int):Option (Str×Int):=match aV ws "look" ls with
 |some r=>some r
 |none=>aV ws "put" ps
def la {ws:List Str}{d:Str}:∀ {l:List Int},(∀ c ∈ l,ai ws d c=true)->aV ws d l=none
 | [],_=>rfl
 |c::r,h=>by
  unfold aV;rw[if_pos (h c mo)];exact la λc hc=>h c (dL _ hc)
def pD {ws:List Str}{d:Str}{c:Int}:∀ {l:List Int}{j:Nat},(∀ i x,i<j->l[i]? =some x->ai ws d x=true)->l[j]? =some c->ai ws d c=false->aV ws d l=some (d,c)
 | [],_,_,h,_=>by simp at h
 |a::r,0,_,h,hc=>by
  have:a=c:=by simpa using h
  subst this;unfold aV;rw[if_neg (nt hc)]
 |a::r,j+1,hb,h,hc=>by
  unfold aV;rw[if_pos (hb 0 a (Nat.succ_pos _) rfl)];exact pD (λi x hi hx=>hb (i+1) x (Nat.succ_lt_succ hi) (by simpa using hx)) (by simpa using h) hc
abbrev cO:Wd->Bx->List Int->List Str->Out
 | .copy=>lT
 | .fill=>l9
 | .seek=>lV
 | .mtch=>gb
 | .shift=>f9
 | .turn=>lQ
abbrev jD (d p:Addr)(O:List av)(Q:VK):Out->Prop
 | .on r x' cs'=>∀ H',Sep (ak d x'::pt p (wp (cs'.map wf))::O) H'->Q (wf r) H'
 | .no _ _=>True
def aD {d:Str}{r:List Int}(h:aV ws d (c::r)=none):ai ws d c=true/\aV ws d r=none:=by
 unfold aV at h
 by_cases e:ai ws d c=true
 .rw[if_pos e]at h;exact⟨e,h⟩
 .rw[if_neg e]at h;cases h
def hE {ls ps:List Int}(h:bC ws ls ps=none):aV ws "look" ls=none/\aV ws "put" ps=none:=by
 unfold bC at h
 split at h
 .cases h
 .rename_i e;exact⟨e,h⟩
def nS {l:Int}:b2i (cV (wf l) (wf 0))=fin l:=by
 show b2i (l ==0)=_;unfold fin
 by_cases e:l=0
 .rw[if_pos e,e];rfl
 .rw[if_neg e,show(l ==0)=false by simpa using e];rfl
def cJ {cs:List Int}{v:Int}:(cs.map wf).set n (wf v)=(cs.set n v).map wf:=by rw[List.map_set]
def Al {l:Int}:b2i (cV (wf l) (wf 1))=fin (l+ -1):=by
 show b2i (l ==1)=_;unfold fin
 by_cases e:l=1
 .rw[if_pos nofun,e];rfl
 .rw[if_neg nofun,show(l ==1)=false by simpa using e];rfl
def Bv {l:Int}:l-1=l+ -1:=by omega
def MG {l:Int}:l-2=l+ -2:=by omega
def EK {j:Int}(h:i=j):cV (wf i) (wf j)=true:=by subst h;show(i ==i)=true;simp
def Er {j:Int}(h:i≠j):cV (wf i) (wf j)=false:=by show(i ==j)=false;simpa using h
variable {wd:Wd}
section
variable {d p:Addr}{h t l w s m:Int}{cs:List Int}{ws:List Str}
def rB (wd:Wd)(hw:wd=.seek\/wd=.mtch)(hk:1<=k)(hl:cs.length=ws.length)(hb:bC ws (nz wd x) (xN wd x)=none)(z:Sep (ak d x::pt p (wp (cs.map wf))::O) H)
  (q:jD d p O Q (cO wd x cs ws)):aa tab R k 106 [wl wd.s,v6 d,v6 p] H Q E:=by
 obtain⟨h,t,l,w,s,m⟩:=x;obtain⟨b1,b2⟩:=hE hb;have f1:b2i (cV (wl Wd.seek.s) (wl "match"))=0:=by decide+kernel
 have f2:b2i (cV (wl Wd.mtch.s) (wl "match"))=1:=by decide+kernel
 have f3:b2i (cV (wl Wd.seek.s) (wl "seek"))=1:=by decide+kernel
 have f4:b2i (cV (wl Wd.mtch.s) (wl "seek"))=0:=by decide+kernel
 have f5:cV (wl Wd.seek.s) (wl "seek")=true:=by decide+kernel
 have f6:cV (wl Wd.mtch.s) (wl "seek")=false:=by decide+kernel
 delta fS;rcases hw with rfl|rfl
 .have q:jD d p O Q (lV ⟨h,t,l,w,s,m⟩ cs ws):=q;walk_at "wd";refine aI (λe=>?_) (λe=>?_)
  .rw[lV,if_pos e]at q;walk_at "wd";rename_i H1 z1;rw[f1]at z1;exact q _ z1
  rw[lV,if_neg e]at q;have b1:aV ws "look" [h]=none:=(congrArg _ (if_neg e)).symm.trans b1;obtain⟨m1,_⟩:=aD b1;obtain⟨g1,g2⟩:=aq m1;rw[if_pos m1]at q;walk_at "wd"
  repeat walk_at "sc"
  refine aM (by grind) (gN g1 nofun) ?_;walk_at "wd";rw[f5]
  by_cases e2:gt cs h=s
  .rw[if_pos e2]at q;rw[EK e2];walk_at "wd";rename_i H1 z1;rw[f3]at z1;exact q _ z1
  .rw[if_neg e2]at q;rw[Er e2];walk_at "wd"
   repeat walk_at "sc"
   walk_at "wd";rename_i H1 z1 H2 z2 H3 z3;rw[f1,Bv]at z3;rw[Al];exact q _ z3
 .have q:jD d p O Q (gb ⟨h,t,l,w,s,m⟩ cs ws):=q;walk_at "wd";refine aI (λe=>?_) (λe=>?_)
  .rw[gb,if_pos e]at q;walk_at "wd";rename_i H1 z1;rw[f2]at z1;exact q _ z1
  rw[gb,if_neg e]at q;have b1:aV ws "look" [h,t]=none:=(congrArg _ (if_neg e)).symm.trans b1;obtain⟨m1,b3⟩:=aD b1;obtain⟨m2,_⟩:=aD b3;obtain⟨g1,g2⟩:=aq m1;obtain⟨g3,g4⟩:=aq m2;rw[if_pos m1,if_pos m2]at q;walk_at "wd"
  repeat walk_at "sc"
  refine aM (by grind) (gN g3 nofun) ?_;walk_at "wd";refine aM (by grind) (gN g1 nofun) ?_;walk_at "wd";rw[f6]
  by_cases e2:gt cs h=gt cs t
  .rw[if_pos e2]at q;rw[EK e2];walk_at "wd"
   repeat walk_at "sc"
   walk_at "wd";rename_i H1 z1 H2 z2 H3 z3 H4 z4;rw[f2,Bv]at z4;rw[Al];exact q _ z4
  .rw[if_neg e2]at q;rw[Er e2];walk_at "wd";rename_i H1 z1;rw[f4]at z1;exact q _ z1
def DO (wd:Wd)(hk:2<=k)(hx:0<=x.l)(hl:cs.length=ws.length)(hb:bC ws (nz wd x) (xN wd x)=none)(z:Sep (ak d x::pt p (wp (cs.map wf))::O) H)
  (q:jD d p O Q (cO wd x cs ws)):aa tab R k 105 [wl wd.s,v6 d,v6 p] H Q E:=by
 delta ic;obtain⟨h,t,l,w,s,m⟩:=x;obtain⟨b1,b2⟩:=hE hb;dsimp only at hx;cases wd
 case seek=>
  walk_at "wd";rename_i p0 H0 z0;refine fT (a8.of z0.at) rfl rfl ?_;left;refine aL (by decide+kernel) ?_;left;refine⟨rfl,?_⟩;left;exact rB .seek (.inl rfl) nofun hl hb z0.drop q
 case mtch=>
  walk_at "wd";rename_i p0 H0 z0;refine fT (a8.of z0.at) rfl rfl ?_;left;refine aL (by decide+kernel) ?_;left;refine⟨rfl,?_⟩;left;exact rB .mtch (.inr rfl) nofun hl hb z0.drop q
 case copy=>
  have q:jD d p O Q (lT ⟨h,t,l,w,s,m⟩ cs ws):=q;walk_at "wd";rename_i p0 H0 z0;refine fT (a8.of z0.at) rfl rfl ?_;left;refine ar (by decide+kernel) ?_
  replace z0:=z0.drop
  walk_at "wd";refine aI (λe=>?_) (λe=>?_)
  .rw[lT,if_pos e]at q;walk_at "wd";exact q _ z0
  have b1:aV ws "look" [h]=none:=(congrArg _ (if_neg e)).symm.trans b1;have b2:aV ws "put" [t]=none:=(congrArg _ (if_neg e)).symm.trans b2;have m1:=(aD b1).1;have m2:=(aD b2).1;obtain⟨g1,g2⟩:=aq m1;obtain⟨g3,g4⟩:=aq m2;rw[lT,if_neg e,hm,if_pos m1,if_pos m2]at q;walk_at "wd";refine aM (by grind) (gN g1 nofun) ?_;walk_at "wd";refine fO z0 .k1 (dq g3 (by rw[ce];omega)) cJ (λH1 z1=>?_);walk_at "wd"
  repeat walk_at "sc"
  walk_at "wd";rename_i H2 z2 H3 z3 H4 z4;rw[Bv]at z4;rw[nS,Bv];exact q _ z4
 case fill=>
  have q:jD d p O Q (l9 ⟨h,t,l,w,s,m⟩ cs ws):=q;walk_at "wd";rename_i p0 H0 z0;refine fT (a8.of z0.at) rfl rfl ?_;left;refine ar (by decide+kernel) ?_
  replace z0:=z0.drop
  walk_at "wd";refine aI (λe=>?_) (λe=>?_)
  .rw[l9,if_pos e]at q;walk_at "wd";exact q _ z0
  have b2:aV ws "put" [t]=none:=(congrArg _ (if_neg e)).symm.trans b2;have m2:=(aD b2).1;obtain⟨g3,g4⟩:=aq m2;rw[l9,if_neg e,if_pos m2]at q;walk_at "wd";refine fO z0 .k1 (dq g3 (by rw[ce];omega)) cJ (λH1 z1=>?_);walk_at "wd"
  repeat walk_at "sc"
  walk_at "wd";rename_i H2 z2 H3 z3;rw[Bv]at z3;rw[nS,Bv];exact q _ z3
 case shift=>
  have q:jD d p O Q (f9 ⟨h,t,l,w,s,m⟩ cs ws):=q;walk_at "wd";rename_i p0 H0 z0;refine fT (a8.of z0.at) rfl rfl ?_;left;refine ar (by decide+kernel) ?_
  replace z0:=z0.drop
  walk_at "wd";refine aI (λe=>?_) (λe=>?_)
  .rw[f9,if_pos e]at q;walk_at "wd";exact q _ z0
  rw[f9,if_neg e]at q;have b1:aV ws "look" (DE h t l .shift)=none:=(congrArg _ (if_neg e)).symm.trans b1;have b2:aV ws "put" (B7 h t l .shift)=none:=(congrArg _ (if_neg e)).symm.trans b2;walk_at "wd"
  by_cases e2:t<=h
  .have b1:aV ws "look" [h+0]=none:=(congrArg _ (if_pos e2)).symm.trans b1;have b2:aV ws "put" [t+0]=none:=(congrArg _ (if_pos e2)).symm.trans b2;rw[Int.add_zero]at b1 b2;have m1:=(aD b1).1;have m2:=(aD b2).1;obtain⟨g1,g2⟩:=aq m1;obtain⟨g3,g4⟩:=aq m2;rw[if_pos e2,hm,if_pos m1,if_pos m2]at q;refine aL (decide_eq_true e2) ?_;walk_at "wd";refine aM (by grind) (gN g1 nofun) ?_;walk_at "wd";refine fO z0 .k1 (dq g3 (by rw[ce];omega)) cJ (λH1 z1=>?_);walk_at "wd"
   repeat walk_at "sc"
   walk_at "wd";rename_i H2 z2 H3 z3 H4 z4;rw[Bv]at z4;rw[nS,Bv];exact q _ z4
  .have b1:aV ws "look" [h+(l-1)]=none:=(congrArg _ (if_neg e2)).symm.trans b1;have b2:aV ws "put" [t+(l-1)]=none:=(congrArg _ (if_neg e2)).symm.trans b2;rw[show h+(l-1)=h+l-1 by omega]at b1;rw[show t+(l-1)=t+l-1 by omega]at b2;have m1:=(aD b1).1;have m2:=(aD b2).1;obtain⟨g1,g2⟩:=aq m1;obtain⟨g3,g4⟩:=aq m2;rw[if_neg e2,hm,if_pos m1,if_pos m2]at q;refine ar (decide_eq_false e2) ?_;walk_at "wd";refine aM (by grind) (gN g1 nofun) ?_;walk_at "wd";refine fO z0 .k1 (dq g3 (by rw[ce];omega)) cJ (λH1 z1=>?_);walk_at "wd"
   repeat walk_at "sc"
   walk_at "wd";rename_i H2 z2;rw[Bv]at z2;rw[nS,Bv];exact q _ z2
 case turn=>
  have q:jD d p O Q (lQ ⟨h,t,l,w,s,m⟩ cs ws):=q;walk_at "wd";rename_i p0 H0 z0;refine fT (a8.of z0.at) rfl rfl ?_;left;refine ar (by decide+kernel) ?_
  replace z0:=z0.drop
  walk_at "wd";refine aI (λe=>?_) (λe=>?_)
  .rw[lQ,if_pos e]at q;walk_at "wd";exact q _ z0
  rw[lQ,if_neg e]at q;have b1:aV ws "look" (DE h t l .turn)=none:=(congrArg _ (if_neg e)).symm.trans b1;have b2:aV ws "put" (B7 h t l .turn)=none:=(congrArg _ (if_neg e)).symm.trans b2;walk_at "wd"
  repeat walk_at "sc"
  refine ay (λe2=>?_) (λe2=>?_)
  .have b1:aV ws "look" [h,h+l-1]=none:=(congrArg _ (if_neg nofun)).symm.trans b1;have b2:aV ws "put" [h,h+l-1]=none:=(congrArg _ (if_neg nofun)).symm.trans b2;obtain⟨m1,b1⟩:=aD b1;obtain⟨m3,b2⟩:=aD b2;have m2:=(aD b1).1;have m4:=(aD b2).1;obtain⟨g1,g2⟩:=aq m1;obtain⟨g3,g4⟩:=aq m2;rw[if_neg (show ¬ l=1 by omega),xm,if_pos m1,if_pos m2,if_pos m3,if_pos m4]at q;walk_at "wd";refine aM (by grind) (gN g1 nofun) ?_;walk_at "wd";refine aM (by grind) (gN g3 nofun) ?_;walk_at "wd";refine fO z0 .k1 (dq g1 (by rw[ce];omega)) cJ (λH1 z1=>?_);walk_at "wd";refine fO z1 .k1 (dq g3 (by rw[ce,length_set];omega)) cJ (λH2 z2=>?_);walk_at "wd";rename_i H3 z3 H4 z4;rw[MG]at z4;rw[nS,MG];exact q _ z4
  .have e1:l=1:=by omega
   subst e1;rw[if_pos rfl]at q;walk_at "wd";rename_i H3 z3;rw[nS];exact q _ z3
def jC {ls ps:List Int}{v:Str×Int}{a:Out}(h:bC ws (c::ls) ps=some v)(k:bC ws ls ps=some v->a=.no v.1 v.2):(if ai ws "look" c=true then a else .no "look" c)=.no v.1 v.2:=by
 unfold bC at h k;rw[aV]at h
 by_cases e:ai ws "look" c=true
 .rw[if_pos e]at h⊢;exact k h
 .rw[if_neg e]at h⊢;cases h;rfl
def nQ {ps:List Int}{v:Str×Int}{a:Out}(h:bC ws [] (c::ps)=some v)(k:bC ws [] ps=some v->a=.no v.1 v.2):(if ai ws "put" c=true then a else .no "put" c)=.no v.1 v.2:=by
 have h:aV ws "put" (c::ps)=some v:=h;unfold aV at h
 by_cases e:ai ws "put" c=true
 .rw[if_pos e]at h⊢;exact k h
 .rw[if_neg e]at h⊢;cases h;rfl
def jr {v:Str×Int}{a:Out}(h:bC ws [] []=some v):a=.no v.1 v.2:=nomatch (show none=some v from h)
def G6 {dd:Str}(hx:0<=x.l)(hb:bC ws (nz wd x) (xN wd x)=some (dd,c)):cO wd x cs ws=.no dd c:=by
 obtain⟨h,t,l,w,s,m⟩:=x
 by_cases e:l=0
 .have e1:nz wd ⟨h,t,l,w,s,m⟩=[]:=if_pos e;have e2:xN wd ⟨h,t,l,w,s,m⟩=[]:=if_pos e;rw[e1,e2]at hb;cases hb
 have e1:nz wd ⟨h,t,l,w,s,m⟩=DE h t l wd:=if_neg e;have e2:xN wd ⟨h,t,l,w,s,m⟩=B7 h t l wd:=if_neg e;rw[e1,e2]at hb;cases wd
 .exact(if_neg e).trans (jC hb λhb=>nQ hb jr)
 .exact(if_neg e).trans (nQ hb jr)
 .exact(if_neg e).trans (jC hb jr)
 .exact(if_neg e).trans (jC hb λhb=>jC hb jr)
 .refine(if_neg e).trans ?_
  by_cases e2:t<=h
  .rw[show DE h t l .shift=[h+0] from if_pos e2,show B7 h t l .shift=[t+0] from if_pos e2,Int.add_zero,Int.add_zero]at hb;exact(if_pos e2).trans (jC hb λhb=>nQ hb jr)
  .rw[show DE h t l .shift=[h+(l-1)] from if_neg e2,show B7 h t l .shift=[t+(l-1)] from if_neg e2,<-Int.add_sub_assoc,<-Int.add_sub_assoc]at hb;exact(if_neg e2).trans (jC hb λhb=>nQ hb jr)
 .refine(if_neg e).trans ?_
  by_cases e2:l=1
  .rw[show DE h t l .turn=[] from if_pos e2,show B7 h t l .turn=[] from if_pos e2]at hb;exact jr hb
  .rw[show DE h t l .turn=[h,h+l-1] from if_neg e2,show B7 h t l .turn=[h,h+l-1] from if_neg e2]at hb;exact(if_neg e2).trans (jC hb λhb=>jC hb λhb=>nQ hb λhb=>nQ hb jr)
end
def kE {xs:List α}(h0:0<=i)(h1:i<xs.length):∃ v,lH xs i=some v/\v ∈ xs:=by
 have hl:i.toNat<xs.length:=by omega
 refine⟨xs[i.toNat],?_,getElem_mem hl⟩;have:=L2.pX (li hl)
 rwa [Int.toNat_of_nonneg h0]at this
def dE (h0:0<=r)(h1:r<xs.length)(h:∀ v ∈ xs,P v):∃ v,lH xs r=some v/\P v:=by
 obtain⟨v,hv,hm⟩:=kE h0 h1;exact⟨v,hv,h v hm⟩
abbrev inR (lo hi:Int)(v:V):Prop:=∃ i,v=wf i/\lo<=i/\i<=hi
def inR.mk {lo hi:Int}(h0:lo<=i)(h1:i<=hi):inR lo hi (wf i):=⟨i,rfl,h0,h1⟩
def J8 {a b:V}(ha:P a)(hb:P b):∀ v ∈ [a,b],P v:=λv hv=>by
 simp only[nb,not_mem_nil,or_false]at hv;rcases hv with rfl|rfl<;>assumption
def Li {a b c:V}(ha:P a)(hb:P b)(hc:P c):∀ v ∈ [a,b,c],P v:=λv hv=>by
 simp only[nb,not_mem_nil,or_false]at hv;rcases hv with rfl|rfl|rfl<;>assumption
def MS {a b c d:V}(ha:P a)(hb:P b)(hc:P c)(hd:P d):∀ v ∈ [a,b,c,d],P v:=λv hv=>by
 simp only[nb,not_mem_nil,or_false]at hv;rcases hv with rfl|rfl|rfl|rfl<;>assumption
abbrev kF:Nat->pO->pO
 |0,b=>b
 |n+1,.cons _ r=>kF n r
 |_+1,.nil=>.nil
abbrev Wd.cl:Wd->Nat
 | .copy=>21
 | .fill=>22
 | .seek=>23
 | .mtch=>24
 | .shift=>25
 | .turn=>26
def FG (wd:Wd)(hk:1<=k)(z:Sep O H)(q:∀ d H',Sep (dd R d wd.cl::O) H'->Q (v6 d) H'):aa tab R k 99 [wl wd.s] H Q E:=by
 delta jg;cases wd
 all_goals
  right
  repeat walk_at "sc"
  exact Lf z (λx dx H1 z1=>q x H1 (Lk z1))
def yl {t p:Addr}(h1:H t=some (wr (ns.map wf)))(h2:H p=some (wr (ns.map wf))):gm R.K H 2 (v6 t) (v6 p) true:=
 zH (n:=0) h1 h2 rfl λj x y e1 e2=>by
  rw[e1]at e2;cases e2;rw[io]at e1;obtain⟨i,_,rfl⟩:=nw.mp e1;exact kH (t:="int") rfl
def yQ:(xK.zip (x.ls.map wf)).map (·.2)=x.ls.map wf:=rfl
def Bo {tp:Bool}{kvs:List (Key×V)}(s:Sep O H)(e:H d=some (.dK kvs))(h:∀ p H',H p=none->Sep (pt p (G3 tp (kvs.map (·.2)))::O) H'->Q (v6 p) H'):so tp (v6 d) H Q:=by unfold so;exact⟨d,kvs,rfl,e,λp hp=>h p _ hp (s.new hp)⟩
def DQ {p:Addr}(h1:H l=some (wp (ws.map wl)))(h2:H p=some (wp (ws.map wl))):gm R.K H 2 (v6 l) (v6 p) true:=
 rf (n:=0) h1 h2 λx hx=>by
  obtain⟨z,_,rfl⟩:=List.mem_map.mp hx;exact⟨"str",rfl⟩
inductive Bn where
 |h
 |t
 |l
 |w
 |s
 |m
abbrev Bn.j:Bn->Nat
 | .h=>0
 | .t=>1
 | .l=>2
 | .w=>3
 | .s=>4
 | .m=>5
abbrev Bn.nm:Bn->Str
 | .h=>"here"
 | .t=>"there"
 | .l=>"left"
 | .w=>"way"
 | .s=>"sign"
 | .m=>"met"
def Bn.at (b:Bn):qq[b.j]? =some b.nm:=by cases b<;>rfl
abbrev Bx.g (x:Bx):Bn->Int
 | .h=>x.h
 | .t=>x.t
 | .l=>x.l
 | .w=>x.w
 | .s=>x.s
 | .m=>x.m
abbrev Bx.p (x:Bx)(i:Int):Bn->Bx
 | .h=>⟨i,x.t,x.l,x.w,x.s,x.m⟩
 | .t=>⟨x.h,i,x.l,x.w,x.s,x.m⟩
 | .l=>⟨x.h,x.t,i,x.w,x.s,x.m⟩
 | .w=>⟨x.h,x.t,x.l,i,x.s,x.m⟩
 | .s=>⟨x.h,x.t,x.l,x.w,i,x.m⟩
 | .m=>⟨x.h,x.t,x.l,x.w,x.s,i⟩
def Bx.gl (x:Bx)(b:Bn):x.ls[b.j]? =some (x.g b):=by cases b<;>rfl
def Bx.pl (x:Bx)(i:Int)(b:Bn):x.ls.set b.j i=(x.p i b).ls:=by cases b<;>rfl
abbrev a7 (b:Bn)(i:Int):Bool:=bz b.j (wf i)
def FT {b:Bn}(h:a7 b i=true)(o:x.ok):(x.p i b).ok:=by
 obtain⟨o1,o2,o3,o4,o5,o6⟩:=o;cases b
 .have h:(decide (-1000000000<=i)&&decide (i<=1000000000))=true:=h;have h: -1000000000<=i/\i<=1000000000:=by simpa using h
  exact⟨h,o2,o3,o4,o5,o6⟩
 .have h:(decide (-1000000000<=i)&&decide (i<=1000000000))=true:=h;have h: -1000000000<=i/\i<=1000000000:=by simpa using h
  exact⟨o1,h,o3,o4,o5,o6⟩
 .have h:(decide (0<=i)&&decide (i<=1000000000))=true:=h;have h:0<=i/\i<=1000000000:=by simpa using h
  exact⟨o1,o2,h,o4,o5,o6⟩
 .have h:(i ==1||i == -1)=true:=h;have h:i=1\/i= -1:=by simpa using h
  exact⟨o1,o2,o3,h,o5,o6⟩
 .have h:(decide (0<=i)&&decide (i<=1000000000))=true:=h;have h:0<=i/\i<=1000000000:=by simpa using h
  exact⟨o1,o2,o3,o4,h,o6⟩
 .have h:(i ==0||i ==1)=true:=h;have h:i=0\/i=1:=by simpa using h
  exact⟨o1,o2,o3,o4,o5,h⟩
def EL (h0:0<=r)(h1:r<6):∃ b:Bn,lH [wl "here",wl "there",wl "left",wl "way",wl "sign",wl "met"] r=some (wl b.nm):=by
 have:r=0\/r=1\/r=2\/r=3\/r=4\/r=5:=by omega
 rcases this with rfl|rfl|rfl|rfl|rfl|rfl
 .exact⟨.h,rfl⟩
 .exact⟨.t,rfl⟩
 .exact⟨.l,rfl⟩
 .exact⟨.w,rfl⟩
 .exact⟨.s,rfl⟩
 .exact⟨.m,rfl⟩
def Ma {b:Addr}{n:Bn}(ro:Ro K R)(hk:4<=k)(z:Sep (aK R b x::O) H)(q0:a7 n i=true->∀ H',Sep (aK R b (x.p i n)::O) H'->Q wn H')
  (q1:a7 n i=false->∀ e H',Sep (mM (R.cad 3) [("box",wl n.nm),("number",wf i)] e false::aK R b x::O) H'->E e H'):aa tab R k 16 [v6 b,wl n.nm,wf i] H Q E:=by
 cases h:a7 n i with
 |true=>exact qA ro hk z .e n.at h (x.pl i n) (FT h) (q0 h)
 |false=>
  obtain⟨o,z2⟩:=dI z;exact tj ro hk z2 n.at rfl h λe d H' z3=>q1 h e H' (kP (Sep.push .k2 (nZ o (z3.pull .k2))))
def Bm {b:Addr}{n:Bn}(ro:Ro K R)(hk:2<=k)(z:Sep O H)(p:ae (aK R b x) O Δ)(q:Q (wf (x.g n)) H):aa tab R k 15 [v6 b,wl n.nm] H Q E:=dy ro hk (dI (z.pull p)).2 n.at (x.gl n) q
def mL {K:W.Frag}{n:Bn}(z:Sep O H)(p:ae (ak d x) O Δ)(q:Q (wf (x.g n)) H):sj K (v6 d) (wl n.nm) H Q:=by
 refine pH (k:=.inr n.nm) (v:=wf (x.g n)) (z.get p) ?_ q;cases n<;>rfl
def Eb {n:Bn}{P:Hp->Prop}(z:Sep O H)(r:aO (ak d x) (ak d (x.p i n)) O Γ')(q:∀ H',Sep Γ' H'->P H'):hX (v6 d) (wl n.nm) (wf i) H P:=qD z r n.at (x.pl i n) q
inductive Sp where
 |set (b:Bn) (i:Int)
 |add (b:Bn) (i:Int)
 |take (b c:Bn)
 |read (b:Bn)
 |write (b:Bn)
abbrev Sp.w:Sp->Str
 | .set _ _=>"set"
 | .add _ _=>"add"
 | .take _ _=>"take"
 | .read _=>"read"
 | .write _=>"write"
abbrev Sp.b:Sp->Bn
 | .set b _=>b
 | .add b _=>b
 | .take b _=>b
 | .read b=>b
 | .write b=>b
abbrev Sp.tl:Sp->List V
 | .set b i=>[wl "set",wl b.nm,wf i]
 | .add b i=>[wl "add",wl b.nm,wf i]
 | .take b c=>[wl "take",wl b.nm,wl c.nm]
 | .read b=>[wl "read",wl b.nm]
 | .write b=>[wl "write",wl b.nm]
abbrev Sp.cl:Sp->Nat
 | .set _ _=>12
 | .add _ _=>13
 | .take _ _=>14
 | .read _=>15
 | .write _=>16
abbrev Sp.fs:Sp->List (Str×V)
 | .set b i=>[("box",wl b.nm),("number",wf i)]
 | .add b i=>[("box",wl b.nm),("number",wf i)]
 | .take b c=>[("box",wl b.nm),("other",wl c.nm)]
 | .read b=>[("box",wl b.nm)]
 | .write b=>[("box",wl b.nm)]
abbrev Sp.ok:Sp->Prop
 | .set _ i=>-1000000000<=i/\i<=1000000000
 | .add _ i=>-1000000000<=i/\i<=1000000000
 |_=>True
inductive xY where
 |on (x:Bx) (cs:List Int)
 |no (d:Str) (c:Int)
 |nf (b:Bn) (i:Int)
abbrev bb (x:Bx)(cs:List Int)(b:Bn)(i:Int):xY:=if a7 b i=true then .on (x.p i b) cs else .nf b i
abbrev j5 (x:Bx)(cs:List Int)(ws:List Str):Sp->xY
 | .set b i=>bb x cs b i
 | .add b i=>bb x cs b (x.g b+i)
 | .take b c=>bb x cs b (x.g c)
 | .read b=>if ai ws "look" x.h=true then bb x cs b (gt cs x.h) else .no "look" x.h
 | .write b=>if fA (wf (x.g b))=true then(if ai ws "put" x.t=true then .on x (cs.set x.t.toNat (x.g b)) else .no "put" x.t) else .nf b (x.g b)
abbrev sd (R:Rt)(d:Addr)(sp:Sp):av:=bx λdx:Addr=>[pt d (wv (R.cad sp.cl) dx sp.fs),pt dx (.own d)]
def Ae (s:Sep (pt d (wv (R.cad sp.cl) dx sp.fs)::pt dx (.own d)::O) H):Sep (sd R d sp::O) H:=dS dx s
def sQ (s:Sep O H)(p:ae (sd R d sp) O Δ):∃ dx,H d=some (wv (R.cad sp.cl) dx sp.fs):=by
 obtain⟨dx,s⟩:=fz (s.pull p);exact⟨dx,Sep.at s⟩
abbrev eY (R:Rt)(b a:Addr)(x:Bx)(cs:List Int)(ws:List Str)(O:List av)(Q:VK)(E:XK):xY->Prop
 | .on x' cs'=>∀ H',Sep (aK R b x'::aU R a cs' ws::O) H'->Q (wf 1) H'
 | .no d c=>∀ e H',Sep (mM (R.cad 2) [("deed",wl d),("cell",wf c)] e false::aK R b x::aU R a cs ws::O) H'->E e H'
 | .nf n i=>∀ e H',Sep (mM (R.cad 3) [("box",wl n.nm),("number",wf i)] e false::aK R b x::aU R a cs ws::O) H'->E e H'
def kf {b:Addr}{cs:List Int}{n:Bn}(ro:Ro K R)(hk:4<=k)(z:Sep (aK R b x::aU R a cs ws::O) H)(q:eY R b a x cs ws O (λ_=>Q wn) E (bb x cs n i)):aa tab R k 16 [v6 b,wl n.nm,wf i] H Q E:=by
 unfold bb at q;refine Ma ro hk z (λh H' z'=>?_) (λh e H' z'=>?_)
 .rw[if_pos h]at q;exact q H' z'
 .rw[if_neg (by rw[h];exact Bool.false_ne_true)]at q;exact q e H' z'
def eY.imp {b:Addr}{cs:List Int}{Q':VK}(h:∀ H',Q (wf 1) H'->Q' (wf 1) H'):∀ {o:xY},eY R b a x cs ws O Q E o->eY R b a x cs ws O Q' E o
 | .on _ _,q=>λH' z=>h _ (q H' z)
 | .no _ _,q=>q
 | .nf _ _,q=>q
def Jn:Ob R (sd R d sp) d sp.cl (sp.fs.map (·.1)):=by
 rintro H D ⟨dx,D1,D2,_,_,_,⟨_,h⟩,_⟩;exact⟨dx,_,h,rfl⟩
def Cu (sp:Sp)(ro:Ro K R):∃ f,tab.me.lookup (sp.cl,("step":Str))=some f/\(∀ Ψ,dflt ⟨tab,R,Ψ,true⟩ f 3=[])/\∀ {k:Nat}{de b a:Addr}{x:Bx}{cs:List Int}{ws:List Str}{O:List av}{H:Hp}{Q:VK}{E:XK},5<=k->Sep (aK R b x::aU R a cs ws::sd R de sp::O) H->eY R b a x cs ws (sd R de sp::O) Q E (j5 x cs ws sp)->aa tab R k f [v6 de,v6 b,v6 a] H Q E:=by
 cases sp with
 |set n i=>
  refine⟨22,rfl,λ_=>rfl,λ{k de b a x cs ws O H Q E} hk z q=>wc (d:=kJ) nofun rfl rfl ?_⟩;obtain⟨dx,e⟩:=sQ z (by symm);right;refine ab ba z (by symm) rfl rfl ?_;left;refine cK e rfl rfl rfl ?_;left;refine cK e rfl rfl rfl ?_;left;refine aZ (vs':=[_,_,_]) rfl ?_;exact kf ro nofun z (eY.imp (Q:=Q) (λH' h=>h) q)
 |add n i=>
  refine⟨25,rfl,λ_=>rfl,λ{k de b a x cs ws O H Q E} hk z q=>wc (d:=kS) nofun rfl rfl ?_⟩;obtain⟨dx,e⟩:=sQ z (by symm);right;refine ab ba z (by symm) rfl rfl ?_;left;refine cK e rfl rfl rfl ?_;right;refine ab ba z (by symm) rfl rfl ?_;left;refine cK e rfl rfl rfl ?_;left;refine aZ (vs':=[_,_]) rfl ?_;refine Bm (n:=n) ro nofun z (by symm) ?_;left;refine cK e rfl rfl rfl ?_;right;refine aZ (vs':=[_,_,_]) rfl ?_;exact kf ro nofun z (eY.imp (Q:=Q) (λH' h=>h) q)
 |take n m=>
  refine⟨28,rfl,λ_=>rfl,λ{k de b a x cs ws O H Q E} hk z q=>wc (d:=jx) nofun rfl rfl ?_⟩;obtain⟨dx,e⟩:=sQ z (by symm);right;refine ab ba z (by symm) rfl rfl ?_;left;refine cK e rfl rfl rfl ?_;right;refine ab ba z (by symm) rfl rfl ?_;left;refine cK e rfl rfl rfl ?_;left;refine aZ (vs':=[_,_]) rfl ?_;refine Bm (n:=m) ro nofun z (by symm) ?_;left;refine aZ (vs':=[_,_,_]) rfl ?_;exact kf ro nofun z (eY.imp (Q:=Q) (λH' h=>h) q)
 |read n=>
  refine⟨31,rfl,λ_=>rfl,λ{k de b a x cs ws O H Q E} hk z q=>wc (d:=jR) nofun rfl rfl ?_⟩;obtain⟨dx,e⟩:=sQ z (by symm);right;refine ab ba z (by symm) rfl rfl ?_;left;refine cK e rfl rfl rfl ?_;right;refine ab bH z (by symm) rfl rfl ?_;right;refine ab ba z (by symm) rfl rfl ?_;left;refine aZ (vs':=[_,_]) rfl ?_;refine Bm (n:=.h) ro nofun z (by symm) ?_;left;refine aZ (vs':=[_,_]) rfl ?_;have q:eY R b a x cs ws (sd R de (.read n)::O) Q E (if ai ws "look" x.h=true then bb x cs n (gt cs x.h) else .no "look" x.h):=q;refine dr (i:=x.h) nofun z (by symm) (λh=>?_) (λh e H' z'=>?_)
  .rw[if_pos h]at q;left;refine aZ (vs':=[_,_,_]) rfl ?_;exact kf ro nofun z (eY.imp (Q:=Q) (λH' h=>h) q)
  .rw[if_neg (by rw[h];exact Bool.false_ne_true)]at q;exact q e H' z'
 |write n=>
  refine⟨34,rfl,λ_=>rfl,λ{k de b a x cs ws O H Q E} hk z q=>wc (d:=gw) nofun rfl rfl ?_⟩;obtain⟨dx,e⟩:=sQ z (by symm);have q:eY R b a x cs ws (sd R de (.write n)::O) Q E (if fA (wf (x.g n))=true then(if ai ws "put" x.t=true then .on x (cs.set x.t.toNat (x.g n)) else .no "put" x.t) else .nf n (x.g n)):=q;right;refine ab ba z (by symm) rfl rfl ?_;left;refine cK e rfl rfl rfl ?_;left;refine aZ (vs':=[_,_]) rfl ?_;refine Bm (n:=n) ro nofun z (by symm) ?_;right;refine cn (t:="int") ro nofun rfl ?_;cases hc:fA (wf (x.g n)) with
  |false=>
   rw[if_neg (by rw[hc];exact Bool.false_ne_true)]at q;right;refine cK e rfl rfl rfl ?_;right;intro ex he;refine gZ nofun (z.new he) (λd H3 hs3=>⟨rfl,?_⟩);exact fV (G:=⟨tab,R,aa tab R (k-1),true⟩) hs3 .e rfl (λH4 hs4=>q ex H4 (kP hs4))
  |true=>
   rw[if_pos hc]at q;right;refine ab bH z (by symm) rfl rfl ?_;right;refine ab ba z (by symm) rfl rfl ?_;left;refine aZ (vs':=[_,_]) rfl ?_;refine Bm (n:=.t) ro nofun z (by symm) ?_;left;refine aZ (vs':=[_,_,_]) rfl ?_;have hc2:0<=x.g n/\x.g n<=1000000000:=by
    have hc3:(decide (0<=x.g n)&&decide (x.g n<=1000000000))=true:=hc;simpa using hc3
   refine kL (i:=x.t) nofun z (by ac_rfl) hc2 (λh H' z'=>?_) (λh e H' z'=>?_)
   .rw[if_pos h]at q;exact q H' z'
   .rw[if_neg (by rw[h];exact Bool.false_ne_true)]at q;exact q e H' z'
variable {w:Str}
def bB {n:Bn}(ro:Ro K R)(hk:2<=k)(q:Q wn H):aa tab R k 19 [wl w,wl n.nm] H Q E:=by
 delta jK;right;refine pA (t:="str") ro nofun rfl ?_;rw[tM n.at];right;exact q
def dW (ro:Ro K R)(hk:3<=k)(h0: -1000000000<=i)(h1:i<=1000000000)(q:Q wn H):aa tab R k 20 [wl w,wf i] H Q E:=by
 delta eZ;right;refine fc (t:="int") ro nofun rfl ?_;rw[show dU (wf i)=true by simp[dU,h0,h1]];right;exact q
def JB {x:Addr}{n:Bn}(ro:Ro K R)(hk:4<=k)(h0: -1000000000<=i)(h1:i<=1000000000)(z:Sep (pt x (wv (R.cad 12) dx [])::pt dx (.own x)::O) H)(q:∀ H',Sep (sd R x (.set n i)::O) H'->Q wn H'):aa tab R k 21 [v6 x,wl n.nm,wf i] H Q E:=by
 delta eU;right;refine bB ro nofun ?_;right;refine dW ro nofun h0 h1 ?_;right;exact q _ (Ae (by assumption))
def Kh {x:Addr}{n:Bn}(ro:Ro K R)(hk:4<=k)(h0: -1000000000<=i)(h1:i<=1000000000)(z:Sep (pt x (wv (R.cad 13) dx [])::pt dx (.own x)::O) H)(q:∀ H',Sep (sd R x (.add n i)::O) H'->Q wn H'):aa tab R k 24 [v6 x,wl n.nm,wf i] H Q E:=by
 delta eO;right;refine bB ro nofun ?_;right;refine dW ro nofun h0 h1 ?_;right;exact q _ (Ae (by assumption))
def JO {x:Addr}{n m:Bn}(ro:Ro K R)(hk:4<=k)(z:Sep (pt x (wv (R.cad 14) dx [])::pt dx (.own x)::O) H)(q:∀ H',Sep (sd R x (.take n m)::O) H'->Q wn H'):aa tab R k 27 [v6 x,wl n.nm,wl m.nm] H Q E:=by
 delta dJ;right;refine bB ro nofun ?_;right;refine bB ro nofun ?_;right;exact q _ (Ae (by assumption))
def Jl {x:Addr}{n:Bn}(ro:Ro K R)(hk:4<=k)(z:Sep (pt x (wv (R.cad 15) dx [])::pt dx (.own x)::O) H)(q:∀ H',Sep (sd R x (.read n)::O) H'->Q wn H'):aa tab R k 30 [v6 x,wl n.nm] H Q E:=by
 delta dN;right;refine bB ro nofun ?_;right;exact q _ (Ae (by assumption))
def Kx {x:Addr}{n:Bn}(ro:Ro K R)(hk:4<=k)(z:Sep (pt x (wv (R.cad 16) dx [])::pt dx (.own x)::O) H)(q:∀ H',Sep (sd R x (.write n)::O) H'->Q wn H'):aa tab R k 33 [v6 x,wl n.nm] H Q E:=by
 delta c4;right;refine bB ro nofun ?_;right;exact q _ (Ae (by assumption))
abbrev lb:V->Bool
 | wf i=>decide (0<=i)&&decide (i<=24)
 |_=>false
abbrev Io:V->Bool
 | wn=>true
 | wf i=>i ==0||i ==1
 |_=>false
def wW {t:String}(ro:Ro K R)(hk:2<=k)(ht:tyName v H=some t)(q:Q (.bl (lb v)) H):aa tab R k 71 [v] H Q E:=by
 delta nR;right;refine aH nofun ht ?_;cases fe ht
 case int i=>
  right;refine ay (λh0=>?_) (λh0=>?_)
  .left;simp only[ro.g_MOST_HOPPED];right;rw[show lb (wf i)=decide (i<=24) by simp[lb,h0]]at q;exact q
  .right;rw[show lb (wf i)=false by simp[lb,h0]]at q;exact q
 all_goals
  right;exact q
def DZ {t:String}(hk:2<=k)(ht:tyName v H=some t)(q:Q (.bl (Io v)) H):aa tab R k 72 [v] H Q E:=by
 delta vc;right;refine iN ?_;cases fe ht
 case int i=>
  left;refine ar rfl ?_;right;refine aH (t:="int") nofun rfl ?_;right;refine aI (λh0=>?_) (λh0=>?_)
  .right;rw[show Io (wf i)=true by simp[Io,h0]]at q;exact q
  .right;rw[show Io (wf i)=(i ==1) by simp[Io,h0]]at q;exact q
 case non=>
  left;refine aL rfl ?_;exact q
 all_goals
  left;refine ar rfl ?_;right;refine aH nofun ht ?_;right;exact q
abbrev oV:Option Int->V
 |none=>wn
 |some i=>wf i
abbrev Ls:Option Int->Prop
 |none=>True
 |some i=>i=0\/i=1
abbrev Il (R:Rt)(d:Addr)(n:Int)(o:Option Int):av:=bx λdx:Addr=>[pt d (wv (R.cad 20) dx [("many",wf n),("on",oV o)]),pt dx (.own d)]
def Mz {n:Int}(s:Sep (pt d (wv (R.cad 20) dx [("many",wf n),("on",oV o)])::pt dx (.own d)::O) H):Sep (Il R d n o::O) H:=dS dx s
def Kj {n:Int}(s:Sep O H)(p:ae (Il R d n o) O Δ):∃ dx,H d=some (wv (R.cad 20) dx [("many",wf n),("on",oV o)]):=by
 obtain⟨dx,s⟩:=fz (s.pull p);exact⟨dx,Sep.at s⟩
def Ko {n:Int}:Ob R (Il R d n o) d 20 ["many","on"]:=by
 rintro H D ⟨dx,D1,D2,_,_,_,⟨_,h⟩,_⟩;exact⟨dx,_,h,rfl⟩
def JM {x:Addr}{n:Int}(ro:Ro K R)(hk:4<=k)(h0:0<=n)(h1:n<=24)(ho:Ls o)(z:Sep (pt x (wv (R.cad 20) dx [])::pt dx (.own x)::O) H)(q:∀ H',Sep (Il R x n o::O) H'->Q wn H'):aa tab R k 73 [v6 x,wf n,oV o] H Q E:=by
 delta eG;right;refine wW (t:="int") ro nofun rfl ?_;rw[show lb (wf n)=true by simp[lb,h0,h1]];right;obtain⟨t,ht⟩:∃ t,tyName (oV o) H=some t:=by cases o<;>exact⟨_,rfl⟩
 refine DZ nofun ht ?_;rw[show Io (oV o)=true by cases o with|none=>rfl|some i=>rcases ho with rfl|rfl<;>rfl];right;exact q _ (Mz (by assumption))
abbrev II (n:Int)(o:Option Int)(m:Int):Int:=match o with
 |none=>1+n
 |some i=>if i=m then 1+n else 1
def DT {b:Addr}{n:Int}(ro:Ro K R)(hk:3<=k)(z:Sep O H)(p1:ae (Il R d n o) O Δ){Δ':List av}(p2:ae (aK R b x) O Δ')(q:Q (wf (II n o x.m)) H):aa tab R k 74 [v6 d,v6 b,v] H Q E:=by
 delta lL;obtain⟨dx,e⟩:=Kj z p1;right;refine cK e rfl rfl rfl ?_;right;refine iN ?_;cases o with
 |none=>
  left;refine aL rfl ?_;right;refine cK e rfl rfl rfl ?_;right;exact q
 |some i=>
  left;refine ar rfl ?_;right;refine cK e rfl rfl rfl ?_;right;refine ab ba z p2 rfl rfl ?_;left;refine aZ (vs':=[_,_]) rfl ?_;obtain⟨h,t,l,w,s,m⟩:=x;refine Ke ro nofun z p2 ?_;right;have q:Q (wf (if i=m then 1+n else 1)) H:=q;refine aI (λh0=>?_) (λh0=>?_)
  .rw[if_pos h0]at q;right;refine cK e rfl rfl rfl ?_;right;exact q
  .rw[if_neg h0]at q;right;exact q
def step_any (wd:Wd)(ro:Ro K R):∃ f,tab.me.lookup (wd.cl,("step":Str))=some f/\(∀ Ψ,dflt ⟨tab,R,Ψ,true⟩ f 3=[])/\∀ {k:Nat}{v:V}{b a:Addr}{x:Bx}{cs:List Int}{ws:List Str}{O:List av}{H:Hp}{Q:VK}{E:XK},8<=k->Sep (aK R b x::aU R a cs ws::O) H->tL R b a x cs ws O Q E (cO wd x cs ws)->aa tab R k f [v,v6 b,v6 a] H Q E:=by
 cases wd
 .exact⟨82,rfl,λ_=>rfl,λhk z q=>Dw ro hk z q⟩
 .exact⟨84,rfl,λ_=>rfl,λhk z q=>D7 ro hk z q⟩
 .exact⟨86,rfl,λ_=>rfl,λhk z q=>Dc ro hk z q⟩
 .exact⟨88,rfl,λ_=>rfl,λhk z q=>Ad ro hk z q⟩
 .exact⟨90,rfl,λ_=>rfl,λhk z q=>yU ro nofun z q⟩
 .exact⟨92,rfl,λ_=>rfl,λhk z q=>DA ro nofun z q⟩
def kB {n:Bn}(hk:1<=k)(q:Q (.bl (a7 n i)) H):aa tab R k 102 [wl n.nm,wf i] H Q E:=by
 delta jE;cases n
 all_goals right
 all_goals repeat walk_at "sc"
 .rw[gE];refine ay (λh0=>?_) (λh0=>?_)
  .right;rw[gE];rw[show a7 .h i=decide (i<=1000000000) by simp[a7,Bn.j,bz,dU,h0]]at q;exact q
  .right;rw[show a7 .h i=false by simp[a7,Bn.j,bz,dU,h0]]at q;exact q
 .rw[gE];refine ay (λh0=>?_) (λh0=>?_)
  .right;rw[gE];rw[show a7 .t i=decide (i<=1000000000) by simp[a7,Bn.j,bz,dU,h0]]at q;exact q
  .right;rw[show a7 .t i=false by simp[a7,Bn.j,bz,dU,h0]]at q;exact q
 .refine ay (λh0=>?_) (λh0=>?_)
  .right;rw[gE];rw[show a7 .l i=decide (i<=1000000000) by simp[a7,Bn.j,bz,fA,h0]]at q;exact q
  .right;rw[show a7 .l i=false by simp[a7,Bn.j,bz,fA,h0]]at q;exact q
 .refine aI (λh0=>?_) (λh0=>?_)
  .right;rw[show a7 .w i=true by simp[a7,Bn.j,bz,mW,h0]]at q;exact q
  .right;rw[show a7 .w i=(i == -1) by simp[a7,Bn.j,bz,mW,h0]]at q;exact q
 .refine ay (λh0=>?_) (λh0=>?_)
  .right;rw[gE];rw[show a7 .s i=decide (i<=1000000000) by simp[a7,Bn.j,bz,fA,h0]]at q;exact q
  .right;rw[show a7 .s i=false by simp[a7,Bn.j,bz,fA,h0]]at q;exact q
 .refine aI (λh0=>?_) (λh0=>?_)
  .right;rw[show a7 .m i=true by simp[a7,Bn.j,bz,mW,h0]]at q;exact q
  .right;rw[show a7 .m i=(i ==1) by simp[a7,Bn.j,bz,mW,h0]]at q;exact q
inductive Rw where
 |lg (w:Wd)
 |sp (s:Sp)
 |hop (n:Int) (o:Option Int)
abbrev Rw.tl:Rw->List V
 | .lg w=>[wl w.s]
 | .sp s=>s.tl
 | .hop n o=>[wl "hop",wf n,oV o]
abbrev Rw.ok:Rw->Prop
 | .lg _=>True
 | .sp s=>s.ok
 | .hop n o=>(0<=n/\n<=24)/\Ls o
abbrev Rw.cl:Rw->Nat
 | .lg w=>w.cl
 | .sp s=>s.cl
 | .hop _ _=>20
abbrev nK (R:Rt)(d:Addr):Rw->av
 | .lg w=>dd R d w.cl
 | .sp s=>sd R d s
 | .hop n o=>Il R d n o
abbrev Rw.fs:Rw->List Str
 | .lg _=>[]
 | .sp s=>s.fs.map (·.1)
 | .hop _ _=>["many","on"]
def EZ (r:Rw):Ob R (nK R d r) d r.cl r.fs:=by
 cases r with
 |lg w=>exact KH
 |sp s=>exact Jn
 |hop n o=>exact Ko
def Jo {r:Rw}(z:Sep O H)(p:ae (nK R d r) O Δ):∃ dx fs,H d=some (wv (R.cad r.cl) dx fs):=by
 obtain⟨D,k,D1,D2,s1,s2,dj,h1,h2⟩:=z.pull p;obtain⟨dx,fs,e,_⟩:=EZ r H D1 h1;exact⟨dx,fs,e⟩
inductive l8 where
 |on (r:Int) (x:Bx) (cs:List Int)
 |no (d:Str) (c:Int)
 |nf (b:Bn) (i:Int)
abbrev ofM:Out->l8
 | .on r x cs=>.on r x cs
 | .no d c=>.no d c
abbrev jZ:xY->l8
 | .on x cs=>.on 1 x cs
 | .no d c=>.no d c
 | .nf b i=>.nf b i
abbrev ef (x:Bx)(cs:List Int)(ws:List Str):Rw->l8
 | .lg w=>ofM (cO w x cs ws)
 | .sp s=>jZ (j5 x cs ws s)
 | .hop n o=>.on (II n o x.m) x cs
abbrev yO (R:Rt)(b a:Addr)(x:Bx)(cs:List Int)(ws:List Str)(O:List av)(Q:VK)(E:XK):l8->Prop
 | .on r x' cs'=>∀ H',Sep (aK R b x'::aU R a cs' ws::O) H'->Q (wf r) H'
 | .no d c=>∀ e H',Sep (mM (R.cad 2) [("deed",wl d),("cell",wf c)] e false::aK R b x::aU R a cs ws::O) H'->E e H'
 | .nf n i=>∀ e H',Sep (mM (R.cad 3) [("box",wl n.nm),("number",wf i)] e false::aK R b x::aU R a cs ws::O) H'->E e H'
def Dl (r:Rw)(ro:Ro K R):∃ f,tab.me.lookup (r.cl,("step":Str))=some f/\(∀ Ψ,dflt ⟨tab,R,Ψ,true⟩ f 3=[])/\∀ {k:Nat}{de b a:Addr}{x:Bx}{cs:List Int}{ws:List Str}{O:List av}{H:Hp}{Q:VK}{E:XK},8<=k->Sep (aK R b x::aU R a cs ws::nK R de r::O) H->yO R b a x cs ws (nK R de r::O) Q E (ef x cs ws r)->aa tab R k f [v6 de,v6 b,v6 a] H Q E:=by
 cases r with
 |lg w=>
  obtain⟨f,hf,hd,hs⟩:=step_any w ro;refine⟨f,hf,hd,λ{k de b a x cs ws O H Q E} hk z q=>hs hk z ?_⟩;have q:yO R b a x cs ws (nK R de (.lg w)::O) Q E (ofM (cO w x cs ws)):=q
  revert q
  cases cO w x cs ws<;>exact λq=>q
 |sp s=>
  obtain⟨f,hf,hd,hs⟩:=Cu s ro;refine⟨f,hf,hd,λ{k de b a x cs ws O H Q E} hk z q=>hs nofun z ?_⟩;have q:yO R b a x cs ws (nK R de (.sp s)::O) Q E (jZ (j5 x cs ws s)):=q
  revert q
  cases j5 x cs ws s<;>exact λq=>q
 |hop n o=>
  refine⟨74,rfl,λ_=>rfl,λ{k de b a x cs ws O H Q E} hk z q=>?_⟩;exact DT ro nofun z .k2 .e (q H z)
def wJ {cs:List Int}(ro:Ro K R)(hk:5<=k)(z:Sep O H)(p:ae (aU R a cs ws) O Δ)(q:∀ c H',Sep (aU R c cs ws::O) H'->Q (v6 c) H'):aa tab R k 55 [v6 a] H Q E:=by
 delta eJ;have ok:=cC z p;right;rename_i l H1 z1;intro c dx g1 g2 g3;refine pP (cs:=[0]) ro nofun (by decide) (by decide) (λi hi=>by rw[mem_singleton.mp hi];decide) (iw z1 g1 g2 g3) .e (λH2 z2=>⟨rfl,?_⟩);obtain⟨_,z3⟩:=jN z2;obtain⟨dx1,c1,d1,z4⟩:=b9 z3;obtain⟨_,z5⟩:=jN (z4.pull (.j2 (.j2 (.t p))));obtain⟨dx2,c2,d2,z6⟩:=b9 z5;clear z1 z2 z3 z4 z5;right;rename_i l3 H3 z7 H4 z8 l5 H5 z9 H6 z10;refine q c H6 ?_;have z11:Sep (pt c (wv (R.cad 18) dx1 [("contents",v6 l3),("permits",v6 l5)])::pt dx1 (.own c)::pt l3 (wp (cs.map wf))::pt l5 (wp (ws.map wl))::pt a (wv (R.cad 18) dx2 [("contents",v6 c2),("permits",v6 d2)])::pt dx2 (.own a)::pt c2 (wp (cs.map wf))::pt d2 (wp (ws.map wl))::Δ) H6:=z10.sub (by ac_nf);have z12:=md ok (dX z11);have z13:Sep (pt a (wv (R.cad 18) dx2 [("contents",v6 c2),("permits",v6 d2)])::pt dx2 (.own a)::pt c2 (wp (cs.map wf))::pt d2 (wp (ws.map wl))::aU R c cs ws::Δ) H6:=z12.sub (by ac_nf);exact Sep.push (.t p) (md ok (dX z13))
def wD {b:Addr}(ro:Ro K R)(hk:5<=k)(z:Sep O H)(p:ae (aK R b x) O Δ)(q:∀ c H',Sep (aK R c x::O) H'->Q (v6 c) H'):aa tab R k 18 [v6 b] H Q E:=by
 obtain⟨o,z2⟩:=dI (z.pull p);refine wK ro hk z2 (λc H' z3=>q c H' ?_);have z4:=nZ o z3;have z5:=nZ o (z4.pull .k1);exact Sep.push (.t p) z5
abbrev mi (R:Rt)(m l s b:Addr)(at_:Int)(ds:List V):av:=bx λdx:Addr=>[pt m (wv (R.cad 17) dx [("deeds",v6 l),("store",v6 s),("boxes",v6 b),("at",wf at_)]),pt dx (.own m),pt l (wp ds)]
def ym {m s b:Addr}(z:Sep (mi R m l s b at_ ds::O) H):∃ dx,Sep (pt m (wv (R.cad 17) dx [("deeds",v6 l),("store",v6 s),("boxes",v6 b),("at",wf at_)])::pt dx (.own m)::pt l (wp ds)::O) H:=fz z
def BM {m s b:Addr}(z:Sep (pt m (wv (R.cad 17) dx [("deeds",v6 l),("store",v6 s),("boxes",v6 b),("at",wf at_)])::pt dx (.own m)::pt l (wp ds)::O) H):Sep (mi R m l s b at_ ds::O) H:=dS dx z
def vZ {m s b:Addr}:Ob R (mi R m l s b at_ ds) m 17 ["deeds","store","boxes","at"]:=by
 rintro H D ⟨dx,D1,D2,_,_,_,⟨_,h⟩,_⟩;exact⟨dx,_,h,rfl⟩
abbrev HM (R:Rt)(O:List av)(ds:List V):Prop:=∀ v ∈ ds,∃ a r Δ,v=v6 a/\ae (nK R a r) O Δ
def vN (r:Rw):tab.oc.contains r.cl=true/\tab.sub.lookup (r.cl,11)=some true:=by
 cases r with
 |lg w=>cases w<;>exact⟨rfl,rfl⟩
 |sp s=>cases s<;>exact⟨rfl,rfl⟩
 |hop n o=>exact⟨rfl,rfl⟩
def pE (ro:Ro K R)(hk:1<=k)(h0:1<=ds.length)(h1:ds.length<=24)(z:Sep O H)(p:ae (pt l (wp ds)) O Δ)(hd:HM R O ds)(q:∀ H',Sep O H'->Q wn H'):aa tab R k 36 [v6 l] H Q E:=by
 delta gG;left;refine cS (t:="list") (yf (z.get p)) rfl ?_;right;refine iD (z.get p) ?_;right;refine ay (λh=>?_) (λh=>absurd nofun h);left;simp only[ro.g_MOST_ROWS];right;refine ay (λh=>?_) (λh=>absurd nofun h);right;refine CL (z.get p) ?_;refine kc (xs:=ds) (λj U H=>∃ u v,U=[some (v6 l),u,v]/\Sep O H) ?_ ?_ ?_ ?_
 .exact⟨none,none,rfl,z⟩
 .rintro j U H ⟨u,v,rfl,hs⟩;exact hs.get p
 .rintro j x T U H hx ⟨u,v,rfl,hs⟩ hT;obtain⟨a,r,Δ',rfl,hp⟩:=hd x (cr hx);have hs4:=hs.iO (xs:=[wf j,v6 a]) hT;obtain⟨dx,fs,e⟩:=Jo hs4 (.t hp);left;refine⟨T,_,rfl,.inl (a8.of hs4.atT),rfl,?_⟩;generalize upd H T _=H4 at hs4 e⊢;right;refine Jc e (vN r).1 (b:=true) (vN r).2 ?_;right;exact⟨_,_,rfl,hs4.drop⟩
 .rintro U H ⟨u,v,rfl,hs⟩;exact q _ hs
def mQ {n:Int}(hk:2<=k)(h0:0<=at_)(h1:at_<=n)(q:Q wn H):aa tab R k 37 [wf at_,wf n] H Q E:=by
 delta fR;right;refine aH (t:="int") nofun rfl ?_;right;refine ay (λh=>?_) (λh=>absurd h0 h);right;refine ay (λh=>?_) (λh=>absurd h1 h);right;exact q
def xM {m s b:Addr}{cs:List Int}(ro:Ro K R)(hk:6<=k)(n0:1<=ds.length)(n1:ds.length<=24)(h0:0<=at_)(h1:at_<=ds.length){Δl Δs Δb:List av}(pl:ae (pt l (wp ds)) O Δl)(ps:ae (aU R s cs ws) O Δs)(pb:ae (aK R b x) O Δb)(hd:HM R O ds)
  (z:Sep (pt m (wv (R.cad 17) dx [])::pt dx (.own m)::O) H) (q:∀ l2 s2 b2 H',Sep (mi R m l2 s2 b2 at_ ds::aU R s2 cs ws::aK R b2 x::O) H'->Q wn H'):aa tab R k 39 [v6 m,v6 l,v6 s,v6 b,wf at_] H Q E:=by
 delta cI;right;refine pE ro nofun n0 n1 z (.j2 pl) (λv hv=>by
  obtain⟨a,r,Δ',e,hp⟩:=hd v hv;exact⟨a,r,_,e,.t (.t hp)⟩) (λH1 z1=>?_)
 right;refine iD (z1.get (.j2 pl)) ?_;right;refine mQ nofun h0 h1 ?_;right;refine uV z1 (z1.get (.j2 pl)) (λl2 H2 z2=>?_);right;rename_i H3 z3;refine ab bH z3 (.j2 (.t ps)) rfl rfl ?_;left;refine wJ ro nofun z3 (.j2 (.t ps)) (λs2 H4 z4=>?_);right;rename_i H5 z5;refine ab ba z5 (.j2 (.j2 pb)) rfl rfl ?_;left;refine wD ro nofun z5 (.j2 (.j2 pb)) (λb2 H6 z6=>?_);right;rename_i H7 z7 H8 z8;refine q l2 s2 b2 H8 (BM (dx:=dx) ?_);exact z8.sub (by ac_nf)
abbrev l8.bx (x:Bx):l8->Bx
 | .on _ x' _=>x'
 |_=>x
abbrev l8.cs (cs:List Int):l8->List Int
 | .on _ _ cs'=>cs'
 |_=>cs
abbrev Nk (t:Addr):l8->av
 | .on r _ _=>tu t [wf r,wn]
 | .no d c=>bx λte:Addr=>[tu t [wn,v6 te],tu te [wl d,wf c]]
 | .nf b _=>bx λte:Addr=>[tu t [wn,v6 te],tu te [wl "fit",wl b.nm]]
def BY {de b:Addr}{cs:List Int}(r:Rw)(ro:Ro K R)(hk:9<=k)(z:Sep (aK R b x::aU R a cs ws::nK R de r::O) H)
  (q:∀ t H',Sep (Nk t (ef x cs ws r)::aK R b ((ef x cs ws r).bx x)::aU R a ((ef x cs ws r).cs cs) ws::nK R de r::O) H'->Q (v6 t) H'):aa tab R k 38 [v6 de,v6 b,v6 a] H Q E:=by
 obtain⟨f,hf,hd,hst⟩:=Dl r ro;delta vK;right;refine ab (EZ r) z .k2 (by cases r with|lg w=>rfl|sp s=>cases s<;>rfl|hop n o=>rfl) hf ?_;left;refine aZ (vs':=[v6 de,v6 b,v6 a]) (by show _::(_++dflt _ _ 3)=_;rw[hd];rfl) ?_;refine hst nofun z ?_
 revert q
 cases ef x cs ws r with
 |on n x' cs'=>
  intro q H1 z1;right;rename_i t H3 z3;exact q t H3 z3.toT
 |no d c=>
  intro q e H1 z1;obtain⟨dx,z2⟩:=Fb z1;refine⟨2,_,_,true,z2.at,rfl,rfl,?_⟩;left;refine aL rfl ?_;right;rename_i te H3 z3 t H4 z4;have z5:=(z4.toT.pull .k1).toT;exact q t H4 (dS te (z5.sub (.cons .k1 (.cons .e (.drop (.drop .refl))))))
 |nf n i=>
  intro q e H1 z1;obtain⟨dx,z2⟩:=Fb z1;refine⟨3,_,_,false,z2.at,rfl,rfl,?_⟩;left;refine ar rfl ?_;left;refine⟨3,_,_,true,z2.at,rfl,rfl,?_⟩;left;refine aL rfl ?_;right;rename_i te H3 z3 t H4 z4;have z5:=(z4.toT.pull .k1).toT;exact q t H4 (dS te (z5.sub (.cons .k1 (.cons .e (.drop (.drop .refl))))))
abbrev fH (R:Rt)(O:List av)(ds:List V)(rs:List Rw):Prop:=ds.length=rs.length/\∀ (i:Nat) (r:Rw),rs[i]? =some r->∃ a Δ,ds[i]? =some (v6 a)/\ae (nK R a r) O Δ
variable {rs:List Rw}
def fH.more (h:fH R O ds rs):fH R (A::O) ds rs:=⟨h.1,λi r e=>by
 obtain⟨a,Δ,e2,p⟩:=h.2 i r e;exact⟨a,_,e2,.t p⟩⟩
def fH.all (h:fH R O ds rs):HM R O ds:=λv hv=>by
 obtain⟨i,hi⟩:=getElem?_of_mem hv;have hl:=(tz.mp hi).1;obtain⟨a,Δ,e2,p⟩:=h.2 i _ (li (by rw[<-h.1];exact hl));rw[hi]at e2;cases e2;exact⟨a,_,Δ,rfl,p⟩
structure Nt where
 w:Str
 at_:Int
 x:Bx
 cs:List Int
abbrev mS (rs:List Rw)(at_:Int)(x:Bx)(cs:List Int)(ws:List Str):Nt:=match rs[at_.toNat]? with
 |none=>⟨"end",at_,x,cs⟩
 |some r=>match ef x cs ws r with
  | .on n x' cs'=>⟨"on",min (at_+n) rs.length,x',cs'⟩
  |_=>⟨"stop",at_,x,cs⟩
section
variable {m l s b:Addr}{at_:Int}{ds:List V}{rs:List Rw}{x:Bx}{cs:List Int}{ws:List Str}
def vk (hk:1<=k)(z:Sep O H)(p:ae (mi R m l s b at_ ds) O Δ)(q:Q (.bl (decide (at_=ds.length))) H):aa tab R k 40 [v6 m] H Q E:=by
 delta dP;obtain⟨dx,z1⟩:=ym (z.pull p);right;have e:cV (wf at_) (wf (ds.length:Int))=decide (at_=(ds.length:Int)):=by
  show(at_ ==(ds.length:Int))=_
  by_cases h:at_=(ds.length:Int)
  .rw[decide_eq_true h,beq_iff_eq];exact h
  .rw[decide_eq_false h];simpa using h
 rw[e];exact q
def xq (ro:Ro K R)(hk:10<=k)(h0:0<=at_)(h1:at_<=ds.length)(hd:fH R O ds rs)(z:Sep (mi R m l s b at_ ds::aU R s cs ws::aK R b x::O) H)
  (q:∀ H',Sep (mi R m l s b (mS rs at_ x cs ws).at_ ds::aU R s (mS rs at_ x cs ws).cs ws::aK R b (mS rs at_ x cs ws).x::O) H'->Q (wl (mS rs at_ x cs ws).w) H'):aa tab R k 41 [v6 m,v6 s] H Q E:=by
 delta cP;unfold mS at q;right;refine ab vZ z .e rfl rfl ?_;left;refine vk nofun z .e ?_
 by_cases he:at_=ds.length
 .rw[decide_eq_true he];right;rw[getElem?_eq_none (by have:=hd.1;omega)]at q;exact q H z
 .rw[decide_eq_false he];have hlt:at_.toNat<rs.length:=by have:=hd.1;omega
  have er:rs[at_.toNat]? =some rs[at_.toNat]:=li hlt;generalize rs[at_.toNat]=r at er;obtain⟨de,Δ,e2,p⟩:=hd.2 _ _ er;rw[er]at q;dsimp only at q;obtain⟨dx,z1⟩:=ym z;right;refine aM (i:=at_) (by grind) (aF h0 e2) ?_;right;have z2:Sep (aK R b x::aU R s cs ws::nK R de r::pt m (wv (R.cad 17) dx [("deeds",v6 l),("store",v6 s),("boxes",v6 b),("at",wf at_)])::pt dx (.own m)::pt l (wp ds)::Δ) H:=z1.sub (.cons (.t .k3) (.cons .k3 (.cons (.j2 (.t p)) .refl)));refine BY r ro nofun z2 (λt H2 z3=>?_);clear z z1 z2
  revert q z3
  cases ef x cs ws r with
  |on n x' cs'=>
   intro q z3;have z3:Sep (tu t [wf n,wn]::aK R b x'::aU R s cs' ws::nK R de r::pt m (wv (R.cad 17) dx [("deeds",v6 l),("store",v6 s),("boxes",v6 b),("at",wf at_)])::pt dx (.own m)::pt l (wp ds)::Δ) H2:=z3;right;refine iN ?_;left;refine ar rfl ?_;right;rename_i H4 z4;rw[hd.1]at z4;refine q H4 (BM (dx:=dx) ?_);exact(z4.sub (Γ':=nK R de r::pt m _::pt dx (.own m)::pt l (wp ds)::aU R s cs' ws::aK R b x'::Δ) (by ac_nf)).push (.j2 (.j2 (.t p)))
  |no d c=>
   intro q z3;obtain⟨te,z4⟩:=fz z3;have z4:Sep (tu t [wn,v6 te]::tu te [wl d,wf c]::aK R b x::aU R s cs ws::nK R de r::pt m (wv (R.cad 17) dx [("deeds",v6 l),("store",v6 s),("boxes",v6 b),("at",wf at_)])::pt dx (.own m)::pt l (wp ds)::Δ) H2:=z4;right;refine iN ?_;left;refine aL rfl ?_;refine q H2 (BM (dx:=dx) ?_);exact(z4.sub (Γ':=nK R de r::pt m _::pt dx (.own m)::pt l (wp ds)::aU R s cs ws::aK R b x::Δ) (by ac_nf)).push (.j2 (.j2 (.t p)))
  |nf n i=>
   intro q z3;obtain⟨te,z4⟩:=fz z3;have z4:Sep (tu t [wn,v6 te]::tu te [wl "fit",wl n.nm]::aK R b x::aU R s cs ws::nK R de r::pt m (wv (R.cad 17) dx [("deeds",v6 l),("store",v6 s),("boxes",v6 b),("at",wf at_)])::pt dx (.own m)::pt l (wp ds)::Δ) H2:=z4;right;refine iN ?_;left;refine aL rfl ?_;refine q H2 (BM (dx:=dx) ?_);exact(z4.sub (Γ':=nK R de r::pt m _::pt dx (.own m)::pt l (wp ds)::aU R s cs ws::aK R b x::Δ) (by ac_nf)).push (.j2 (.j2 (.t p)))
def vB (ro:Ro K R)(hk:11<=k)(h0:0<=at_)(h1:at_<=ds.length)(hd:fH R O ds rs)(z:Sep (mi R m l s b at_ ds::aU R s cs ws::aK R b x::O) H)
  (q:∀ H',Sep (mi R m l s b (mS rs at_ x cs ws).at_ ds::aU R s (mS rs at_ x cs ws).cs ws::aK R b (mS rs at_ x cs ws).x::O) H'->Q (wl (mS rs at_ x cs ws).w) H'):aa tab R k 42 [v6 m] H Q E:=by
 delta d8;obtain⟨dx,z1⟩:=ym z;right;refine ab vZ z .e rfl rfl ?_;right;refine aZ (vs':=[_,_]) rfl ?_;exact xq ro nofun h0 h1 hd z q
def se (ro:Ro K R)(hk:2<=k)(z:Sep (mi R m l s b at_ ds::aU R s cs ws::aK R b x::O) H)
  (q:∀ t t1 l1 H',Sep (pt t (wr [wf at_,v6 t1,v6 l1])::pt l1 (wp (cs.map wf))::tu t1 (x.ls.map wf)::mi R m l s b at_ ds::aU R s cs ws::aK R b x::O) H'->Q (v6 t) H'):aa tab R k 44 [v6 m] H Q E:=by
 delta dF;obtain⟨dx,z1⟩:=ym z;right;refine ab ba z .k2 rfl rfl ?_;left;refine Dh ro nofun z .k2 (λt1 H1 z2=>?_);obtain⟨dx,z3⟩:=ym (z2.pull .k1);right;refine ab bH z2 .k2 rfl rfl ?_;left;refine uS nofun z2 .k2 (λl1 H2 z4=>?_);right;rename_i t H3 z5;exact q t t1 l1 H3 z5
end
abbrev BC (x:Bx):Rw->List Int
 | .lg w=>nz w x
 | .sp (.read _)=>[x.h]
 |_=>[]
abbrev Bz (x:Bx):Rw->List Int
 | .lg w=>xN w x
 | .sp (.write _)=>[x.t]
 |_=>[]
def gM {sp:Addr}(r:Rw)(hk:1<=k)(z:Sep (tu sp r.tl::ak d x::O) H)
  (q:∀ t l1 l2 H',Sep (tu t [v6 l1,v6 l2]::pt l1 (wp ((BC x r).map wf))::pt l2 (wp ((Bz x r).map wf))::tu sp r.tl::ak d x::O) H'->Q (v6 t) H'):aa tab R k 101 [v6 sp,v6 d] H Q E:=by
 obtain⟨h,t,l,w,s,m⟩:=x;delta hR;have fi:∀ (L P:List Int){p l1 l2:Addr}{H3:Hp},BC ⟨h,t,l,w,s,m⟩ r=L->Bz ⟨h,t,l,w,s,m⟩ r=P->Sep (pt p (wr [v6 l1,v6 l2])::pt l2 (wp (P.map wf))::pt l1 (wp (L.map wf))::tu sp r.tl::ak d ⟨h,t,l,w,s,m⟩::O) H3->Q (v6 p) H3:=by
  intro L P p l1 l2 H3 e1 e2 z3;refine q p l1 l2 H3 ?_;rw[e1,e2];have z4:=z3.toT;walk_at "sp"
 clear q;cases r with
 |lg wd=>
  have L0:l≠0->BC ⟨h,t,l,w,s,m⟩ (.lg wd)=DE h t l wd:=λe=>if_neg e
  have P0:l≠0->Bz ⟨h,t,l,w,s,m⟩ (.lg wd)=B7 h t l wd:=λe=>if_neg e
  have L1:l=0->BC ⟨h,t,l,w,s,m⟩ (.lg wd)=[]:=λe=>if_pos e
  have P1:l=0->Bz ⟨h,t,l,w,s,m⟩ (.lg wd)=[]:=λe=>if_pos e
  cases wd
  case turn=>
   walk_at "wd"
   repeat walk_at "sc"
   refine aI (λe=>?_) (λe=>?_)
   .walk_at "wd";rename_i l1 H1 z1 l2 H2 z2 p H3 z3;exact fi [] [] (L1 e) (P1 e) z3
   walk_at "wd"
   repeat walk_at "sc"
   refine aI (λe2=>?_) (λe2=>?_)
   .walk_at "wd";rename_i l1 H1 z1 l2 H2 z2 p H3 z3;exact fi [] [] ((L0 e).trans (if_pos e2)) ((P0 e).trans (if_pos e2)) z3
   .walk_at "wd"
    repeat walk_at "sc"
    rename_i l1 H1 z1 l2 H2 z2 p H3 z3;exact fi [h,h+l-1] [h,h+l-1] ((L0 e).trans (if_neg e2)) ((P0 e).trans (if_neg e2)) z3
  case shift=>
   walk_at "wd"
   repeat walk_at "sc"
   refine aI (λe=>?_) (λe=>?_)
   .walk_at "wd";rename_i l1 H1 z1 l2 H2 z2 p H3 z3;exact fi [] [] (L1 e) (P1 e) z3
   walk_at "wd"
   repeat walk_at "sc"
   walk_at "wd";dsimp only;refine aM (by grind) Nl ?_
   by_cases e2:t<=h
   .rw[if_pos (decide_eq_true e2)];walk_at "wd";rename_i l1 H1 z1 l2 H2 z2 p H3 z3;have z4:Sep (pt p (wr [v6 l1,v6 l2])::pt l2 (wp [wf (t+0)])::pt l1 (wp [wf (h+0)])::tu sp (Rw.tl (.lg .shift))::ak d ⟨h,t,l,w,s,m⟩::O) H3:=by walk_at "sp"
    exact fi [h+0] [t+0] ((L0 e).trans (if_pos e2)) ((P0 e).trans (if_pos e2)) z4
   .rw[if_neg (by simpa using e2)];walk_at "wd";rename_i l1 H1 z1 l2 H2 z2 p H3 z3;have z4:Sep (pt p (wr [v6 l1,v6 l2])::pt l2 (wp [wf (t+(l-1))])::pt l1 (wp [wf (h+(l-1))])::tu sp (Rw.tl (.lg .shift))::ak d ⟨h,t,l,w,s,m⟩::O) H3:=by walk_at "sp"
    exact fi [h+(l-1)] [t+(l-1)] ((L0 e).trans (if_neg e2)) ((P0 e).trans (if_neg e2)) z4
  all_goals
   walk_at "wd"
   repeat walk_at "sc"
   refine aI (λe=>?_) (λe=>?_)
   .walk_at "wd";rename_i l1 H1 z1 l2 H2 z2 p H3 z3;exact fi [] [] (L1 e) (P1 e) z3
   walk_at "wd"
   repeat walk_at "sc"
   rename_i l1 H1 z1 l2 H2 z2 p H3 z3;exact fi _ _ (L0 e) (P0 e) z3
 |sp s'=>
  cases s'
  case read|write=>
   walk_at "wd"
   repeat walk_at "sc"
   rename_i l1 H1 z1 l2 H2 z2 p H3 z3;exact fi _ _ rfl rfl z3
  all_goals
   walk_at "wd"
   repeat walk_at "sc"
   refine aI (λe=>?_) (λe=>?_)
   .walk_at "wd";rename_i l1 H1 z1 l2 H2 z2 p H3 z3;exact fi [] [] rfl rfl z3
   walk_at "wd"
   repeat walk_at "sc"
   rename_i l1 H1 z1 l2 H2 z2 p H3 z3;exact fi [] [] rfl rfl z3
 |hop n o=>
  walk_at "wd"
  repeat walk_at "sc"
  refine aI (λe=>?_) (λe=>?_)
  .walk_at "wd";rename_i l1 H1 z1 l2 H2 z2 p H3 z3;exact fi [] [] rfl rfl z3
  walk_at "wd"
  repeat walk_at "sc"
  rename_i l1 H1 z1 l2 H2 z2 p H3 z3;exact fi [] [] rfl rfl z3
def fm {sp t l1 l2:Addr}{tl:List V}{ls ps:List Int}{D:Ends}{E:St->XK}{u:Option V}(hk:2<=k)(z1:Sep (tu t [v6 l1,v6 l2]::pt l1 (wp (ls.map wf))::pt l2 (wp (ps.map wf))::tu sp tl::ak d x::pt lv (wp (ws.map wl))::O) H)
  (q0:bC ws ls ps=none->∀ H',Sep (tu sp tl::ak d x::pt lv (wp (ws.map wl))::O) H'->D.rt wn H')
  (q1:∀ dd c,bC ws ls ps=some (dd,c)->∀ t H',Sep (pt t (wr [wl dd,wf c,wf 0])::tu sp tl::ak d x::pt lv (wp (ws.map wl))::O) H'->D.rt (v6 t) H'):
  wB (kF 2 bW.body) ⟨tab,R,aa tab R (k-1),true⟩ D E [some (v6 sp),some (v6 d),some (v6 lv),some (v6 l1),some (v6 l2),u] H:=by
 right;refine bT (xs:=ls.map wf) (λj U H=>∃ v,U=[some (v6 sp),some (v6 d),some (v6 lv),some (v6 l1),some (v6 l2),v]/\(∀ i x,i<j->ls[i]? =some x->ai ws "look" x=true)/\Sep (tu t [v6 l1,v6 l2]::pt l1 (wp (ls.map wf))::pt l2 (wp (ps.map wf))::tu sp tl::ak d x::pt lv (wp (ws.map wl))::O) H) ?_ ?_ ?_ ?_
 .exact⟨_,rfl,λi x hi=>absurd hi nofun,z1⟩
 .rintro j U H ⟨v,rfl,_,hs⟩;exact aS.of (by grind)
 .rintro j y U H hx ⟨v,rfl,hb,hs⟩;rw[io]at hx;obtain⟨c,hc,rfl⟩:=nw.mp hx;right;refine Ar nofun hs (by symm) ?_;right;refine cG (λhm=>?_) (λhm=>?_)
  .right;refine⟨_,rfl,λi x hi hxx=>?_,hs⟩
   by_cases e:i=j
   .subst e;rw[hc]at hxx;cases hxx;exact hm
   .exact hb i x nofun hxx
  .right;rename_i p H2 z2;refine q1 "look" c ?_ p H2 ?_
   .unfold bC;rw[pD hb hc hm]
   .walk_at "sp"
 .rintro U H ⟨v,rfl,hb,hs⟩;have e0:aV ws "look" ls=none:=la λc hc=>by
   obtain⟨i,hi⟩:=List.mem_iff_getElem?.mp hc;have:=(tz.mp hi).1;exact hb i c (by rw[ce];exact this) hi
  right;refine bT (xs:=ps.map wf) (λj U H=>∃ v,U=[some (v6 sp),some (v6 d),some (v6 lv),some (v6 l1),some (v6 l2),v]/\(∀ i x,i<j->ps[i]? =some x->ai ws "put" x=true)/\Sep (tu t [v6 l1,v6 l2]::pt l1 (wp (ls.map wf))::pt l2 (wp (ps.map wf))::tu sp tl::ak d x::pt lv (wp (ws.map wl))::O) H) ?_ ?_ ?_ ?_
  .exact⟨_,rfl,λi x hi=>absurd hi nofun,hs⟩
  .rintro j U H ⟨v,rfl,_,hs⟩;exact aS.of (by grind)
  .rintro j y U H hx ⟨v,rfl,hb,hs⟩;rw[io]at hx;obtain⟨c,hc,rfl⟩:=nw.mp hx;right;refine Ar nofun hs (by symm) ?_;right;refine cG (λhm=>?_) (λhm=>?_)
   .right;refine⟨_,rfl,λi x hi hxx=>?_,hs⟩
    by_cases e:i=j
    .subst e;rw[hc]at hxx;cases hxx;exact hm
    .exact hb i x nofun hxx
   .right;rename_i p H2 z2;refine q1 "put" c ?_ p H2 ?_
    .unfold bC;rw[e0];exact pD hb hc hm
    .walk_at "sp"
  .rintro U H ⟨v,rfl,hb2,hs⟩;right;refine q0 ?_ H (by walk_at "sp");unfold bC;rw[e0];exact la λc hc=>by
    obtain⟨i,hi⟩:=List.mem_iff_getElem?.mp hc;have:=(tz.mp hi).1;exact hb2 i c (by rw[ce];exact this) hi
abbrev l8.tl:l8->List V
 | .on r _ _=>[wl "on",wf r,wf 0]
 | .no d c=>[wl d,wf c,wf 0]
 | .nf b i=>[wl "fit",wl b.nm,wf i]
def bQ {sp:Addr}(r:Rw)(hk:2<=k)(hr:∀ b,r=.sp (.write b)->fA (wf (x.g b))=true) (z:Sep (tu sp r.tl::ak d x::pt lv (wp (ws.map wl))::O) H)
  (q0:bC ws (BC x r) (Bz x r)=none->∀ H',Sep (tu sp r.tl::ak d x::pt lv (wp (ws.map wl))::O) H'->Q wn H')
  (q1:∀ dd c,bC ws (BC x r) (Bz x r)=some (dd,c)->∀ t H',Sep (pt t (wr [wl dd,wf c,wf 0])::tu sp r.tl::ak d x::pt lv (wp (ws.map wl))::O) H'->Q (v6 t) H'):aa tab R k 103 [v6 sp,v6 d,v6 lv] H Q E:=by
 delta bW;cases r with
 |sp s=>
  cases s
  case write b=>
   have hc:(decide (0<=x.g b)&&decide (x.g b<=1000000000))=true:=hr b rfl;have hc:0<=x.g b/\x.g b<=1000000000:=by simpa using hc
   right
   repeat walk_at "sc"
   refine mL z .k1 ?_;right;refine ay (λh0=>?_) (λh0=>absurd hc.1 h0);right;rw[gE];refine ay (λh0=>?_) (λh0=>absurd hc.2 h0);right;refine gM (.sp (.write b)) nofun z (λt l1 l2 H1 z1=>?_);right;refine⟨t,_,rfl,.inl (a8.of z1.atT),rfl,?_⟩;exact fm hk z1 q0 q1
  all_goals
   right
   repeat walk_at "sc"
   refine gM (.sp _) nofun z (λt l1 l2 H1 z1=>?_);right;refine⟨t,_,rfl,.inl (a8.of z1.atT),rfl,?_⟩;exact fm hk z1 q0 q1
 |lg w=>
  cases w
  all_goals
   right
   repeat walk_at "sc"
   refine gM (.lg _) nofun z (λt l1 l2 H1 z1=>?_);right;refine⟨t,_,rfl,.inl (a8.of z1.atT),rfl,?_⟩;exact fm hk z1 q0 q1
 |hop n o=>
  right
  repeat walk_at "sc"
  refine gM (.hop n o) nofun z (λt l1 l2 H1 z1=>?_);right;refine⟨t,_,rfl,.inl (a8.of z1.atT),rfl,?_⟩;exact fm hk z1 q0 q1
def xa {sp:Addr}{b:Bn}(hk:2<=k)(hb:fA (wf (x.g b))=false)(z:Sep (tu sp (Rw.tl (.sp (.write b)))::ak d x::pt lv (wp (ws.map wl))::O) H)
  (q:∀ t H',Sep (pt t (wr [wl "fit",wl b.nm,wf (x.g b)])::tu sp (Rw.tl (.sp (.write b)))::ak d x::pt lv (wp (ws.map wl))::O) H'->Q (v6 t) H'):aa tab R k 103 [v6 sp,v6 d,v6 lv] H Q E:=by
 delta bW;have hc:(decide (0<=x.g b)&&decide (x.g b<=1000000000))=false:=hb;have hc:0<=x.g b->¬ x.g b<=1000000000:=by simpa using hc
 right
 repeat walk_at "sc"
 refine mL z .k1 ?_;right;refine ay (λh0=>?_) (λh0=>?_)
 .right;rw[gE];refine ay (λh1=>absurd h1 (hc h0)) (λh1=>?_);right;refine mL z .k1 ?_;right;rename_i t H1 z1;exact q t H1 z1
 .right;refine mL z .k1 ?_;right;rename_i t H1 z1;exact q t H1 z1
def Bp {sp p:Addr}{cs:List Int}(r:Rw)(hk:3<=k)(hr:r.ok)(hx:0<=x.l)(hl:cs.length=ws.length)(z:Sep (tu sp r.tl::ak d x::pt p (wp (cs.map wf))::pt lv (wp (ws.map wl))::O) H)
  (q:∀ td H',Sep (pt td (wr (ef x cs ws r).tl)::tu sp r.tl::ak d ((ef x cs ws r).bx x)::pt p (wp (((ef x cs ws r).cs cs).map wf))::pt lv (wp (ws.map wl))::O) H'->Q (v6 td) H'):aa tab R k 104 [v6 sp,v6 d,v6 p,v6 lv] H Q E:=by
 delta jQ;have z0:Sep (tu sp r.tl::ak d x::pt lv (wp (ws.map wl))::pt p (wp (cs.map wf))::O) H:=z.sub (by ac_nf);right;cases r with
 |lg w=>
  refine bQ (.lg w) nofun (λb e=>by cases e) z0 (λhb H1 z1=>?_) (λdd c hb t H1 z1=>?_)
  .right;refine bq ?_;left;refine ar rfl ?_;right;rename_i tp H2 z2;refine fT (a8.of z2.at) rfl rfl ?_;left;refine ar (by cases w<;>decide+kernel) ?_;right;refine ar (by cases w<;>decide+kernel) ?_;right;refine ar (by cases w<;>decide+kernel) ?_;right;refine DO w (O:=pt lv (wp (ws.map wl))::tu sp (Rw.tl (.lg w))::O) nofun hx hl hb (z2.sub (by ac_nf)) ?_;have q:∀ td H',Sep (pt td (wr (ofM (cO w x cs ws)).tl)::tu sp (Rw.tl (.lg w))::ak d ((ofM (cO w x cs ws)).bx x)::pt p (wp (((ofM (cO w x cs ws)).cs cs).map wf))::pt lv (wp (ws.map wl))::O) H'->Q (v6 td) H':=q
   revert q
   cases cO w x cs ws with
   |no dd c=>exact λ_=>True.intro
   |on n x' cs'=>
    intro q H3 z3;right;rename_i t H4 z4;exact q t H4 (z4.sub (.cons .e (.cons .k3 .refl)))
  .have e:ef x cs ws (.lg w)=.no dd c:=congrArg ofM (G6 hx hb);rw[e]at q;right;refine bq ?_;left;refine aL rfl ?_;left;exact q t H1 (z1.sub (.cons .e (.cons .e (.cons .e (.cons .k1 .refl)))))
 |hop n o=>
  refine bQ (.hop n o) nofun (λb e=>by cases e) z0 (λhb H1 z1=>?_) (λdd c hb t H1 z1=>by cases hb);right;refine bq ?_;left;refine ar rfl ?_;right;rename_i tp H2 z2;refine fT (a8.of z2.at) rfl rfl ?_;left;refine ar (by decide+kernel) ?_;right
  repeat walk_at "sc"
  have hn:∀ c:Bool,qx n (b2i c):=λc=>by cases c<;>(unfold qx b2i;have:=hr.1;omega)
  refine iN ?_;cases o with
  |none=>
   left;refine aL rfl ?_;right;refine km ?_;left;refine⟨hn true,?_⟩;right;rename_i t H4 z4;have e:1+n*b2i true=1+n:=by rw[show b2i true=1 from rfl,Int.mul_one]
   rw[e]at z4;exact q t H4 (z4.sub (.cons .e (.cons .k1 (.cons .k1 (.cons .k2 (.cons .k1 (.drop .refl)))))))
  |some i=>
   left;refine ar rfl ?_;right;refine mL (n:=.m) z2 (by symm) ?_;right;refine km ?_;left;refine⟨hn _,?_⟩;right;rename_i t H4 z4;have e:1+n*b2i (cV (oV (some i)) (wf (x.g Bn.m)))=if i=x.m then 1+n else 1:=by
    show 1+n*b2i (i ==x.m)=_
    by_cases h:i=x.m
    .rw[if_pos h,show(i ==x.m)=true by simpa using h,show b2i true=1 from rfl,Int.mul_one]
    .rw[if_neg h,show(i ==x.m)=false by simpa using h,show b2i false=0 from rfl,Int.mul_zero,Int.add_zero]
   rw[e]at z4;exact q t H4 (z4.sub (.cons .e (.cons .k1 (.cons .k1 (.cons .k2 (.cons .k1 (.drop .refl)))))))
 |sp s=>
  have q:∀ td H',Sep (pt td (wr (jZ (j5 x cs ws s)).tl)::tu sp s.tl::ak d ((jZ (j5 x cs ws s)).bx x)::pt p (wp (((jZ (j5 x cs ws s)).cs cs).map wf))::pt lv (wp (ws.map wl))::O) H'->Q (v6 td) H':=q;cases s with
  |set n i=>
   have q:∀ td H',Sep (pt td (wr (jZ (bb x cs n i)).tl)::tu sp (Sp.tl (.set n i))::ak d ((jZ (bb x cs n i)).bx x)::pt p (wp (((jZ (bb x cs n i)).cs cs).map wf))::pt lv (wp (ws.map wl))::O) H'->Q (v6 td) H':=q;refine bQ (.sp (.set n i)) nofun (λb e=>by cases e) z0 (λhb H1 z1=>?_) (λdd c hb t H1 z1=>by cases hb);right;refine bq ?_;left;refine ar rfl ?_;right;rename_i tp H2 z2;refine fT (a8.of z2.at) rfl rfl ?_;left;refine aL (by decide+kernel) ?_;right
   repeat walk_at "sc"
   refine kB (n:=n) (i:=i) nofun ?_;cases hf:a7 n (i) with
   |false=>
    rw[bb,if_neg (by rw[hf];exact Bool.false_ne_true)]at q;right;rename_i td H3 z3;exact q td H3 (z3.sub (.cons .e (.cons .k1 (.cons .k1 (.cons .k2 (.cons .k1 (.drop .refl)))))))
   |true=>
    rw[bb,if_pos hf]at q;right;refine Eb (n:=n) (i:=i) z2 (by ac_rfl) (λH3 z3=>?_);right;rename_i td H4 z4;exact q td H4 (z4.sub (.cons .e (.cons .k1 (.cons .k1 (.cons .k2 (.cons .k1 (.drop .refl)))))))
  |add n i=>
   have q:∀ td H',Sep (pt td (wr (jZ (bb x cs n (x.g n+i))).tl)::tu sp (Sp.tl (.add n i))::ak d ((jZ (bb x cs n (x.g n+i))).bx x)::pt p (wp (((jZ (bb x cs n (x.g n+i))).cs cs).map wf))::pt lv (wp (ws.map wl))::O) H'->Q (v6 td) H':=q;refine bQ (.sp (.add n i)) nofun (λb e=>by cases e) z0 (λhb H1 z1=>?_) (λdd c hb t H1 z1=>by cases hb);right;refine bq ?_;left;refine ar rfl ?_;right;rename_i tp H2 z2;refine fT (a8.of z2.at) rfl rfl ?_;left;refine aL (by decide+kernel) ?_;right
   repeat walk_at "sc"
   refine mL (n:=n) z2 (by symm) ?_;right
   repeat walk_at "sc"
   refine kB (n:=n) (i:=x.g n+i) nofun ?_;cases hf:a7 n (x.g n+i) with
   |false=>
    rw[bb,if_neg (by rw[hf];exact Bool.false_ne_true)]at q;right;rename_i td H3 z3;exact q td H3 (z3.sub (.cons .e (.cons .k1 (.cons .k1 (.cons .k2 (.cons .k1 (.drop .refl)))))))
   |true=>
    rw[bb,if_pos hf]at q;right;refine Eb (n:=n) (i:=x.g n+i) z2 (by ac_rfl) (λH3 z3=>?_);right;rename_i td H4 z4;exact q td H4 (z4.sub (.cons .e (.cons .k1 (.cons .k1 (.cons .k2 (.cons .k1 (.drop .refl)))))))
  |take n m=>
   have q:∀ td H',Sep (pt td (wr (jZ (bb x cs n (x.g m))).tl)::tu sp (Sp.tl (.take n m))::ak d ((jZ (bb x cs n (x.g m))).bx x)::pt p (wp (((jZ (bb x cs n (x.g m))).cs cs).map wf))::pt lv (wp (ws.map wl))::O) H'->Q (v6 td) H':=q;refine bQ (.sp (.take n m)) nofun (λb e=>by cases e) z0 (λhb H1 z1=>?_) (λdd c hb t H1 z1=>by cases hb);right;refine bq ?_;left;refine ar rfl ?_;right;rename_i tp H2 z2;refine fT (a8.of z2.at) rfl rfl ?_;left;refine aL (by decide+kernel) ?_;right
   repeat walk_at "sc"
   refine mL (n:=m) z2 (by symm) ?_;right
   repeat walk_at "sc"
   refine kB (n:=n) (i:=x.g m) nofun ?_;cases hf:a7 n (x.g m) with
   |false=>
    rw[bb,if_neg (by rw[hf];exact Bool.false_ne_true)]at q;right;rename_i td H3 z3;exact q td H3 (z3.sub (.cons .e (.cons .k1 (.cons .k1 (.cons .k2 (.cons .k1 (.drop .refl)))))))
   |true=>
    rw[bb,if_pos hf]at q;right;refine Eb (n:=n) (i:=x.g m) z2 (by ac_rfl) (λH3 z3=>?_);right;rename_i td H4 z4;exact q td H4 (z4.sub (.cons .e (.cons .k1 (.cons .k1 (.cons .k2 (.cons .k1 (.drop .refl)))))))
  |read n=>
   have q:∀ td H',Sep (pt td (wr (jZ (if ai ws "look" x.h=true then bb x cs n (gt cs x.h) else .no "look" x.h)).tl)::tu sp (Sp.tl (.read n))::ak d ((jZ (if ai ws "look" x.h=true then bb x cs n (gt cs x.h) else .no "look" x.h)).bx x)::pt p (wp (((jZ (if ai ws "look" x.h=true then bb x cs n (gt cs x.h) else .no "look" x.h)).cs cs).map wf))::pt lv (wp (ws.map wl))::O) H'->Q (v6 td) H':=q;refine bQ (.sp (.read n)) nofun (λb e=>by cases e) z0 (λhb H1 z1=>?_) (λdd c hb t H1 z1=>?_)
   .obtain⟨hm,_⟩:=aD (hE hb).1;have hm:ai ws "look" x.h=true:=hm;have g:=aq hm;rw[if_pos hm]at q;right;refine bq ?_;left;refine ar rfl ?_;right;rename_i tp H2 z2;refine fT (a8.of z2.at) rfl rfl ?_;left;refine aL (by decide+kernel) ?_;right
    repeat walk_at "sc"
    refine mL (n:=.h) z2 (by symm) ?_;right;refine aM (i:=x.h) (by grind) (gN g.1 nofun) ?_;right
    repeat walk_at "sc"
    refine kB (n:=n) (i:=gt cs x.h) nofun ?_;cases hf:a7 n (gt cs x.h) with
    |false=>
     rw[bb,if_neg (by rw[hf];exact Bool.false_ne_true)]at q;right;rename_i td H3 z3;exact q td H3 (z3.sub (.cons .e (.cons .k1 (.cons .k1 (.cons .k2 (.cons .k1 (.drop .refl)))))))
    |true=>
     rw[bb,if_pos hf]at q;right;refine Eb (n:=n) (i:=gt cs x.h) z2 (by ac_rfl) (λH3 z3=>?_);right;rename_i td H4 z4;exact q td H4 (z4.sub (.cons .e (.cons .k1 (.cons .k1 (.cons .k2 (.cons .k1 (.drop .refl)))))))
   .have hm:ai ws "look" x.h=false/\dd="look"/\c=x.h:=by
     cases e:ai ws "look" x.h with
     |true=>rw[show bC ws (BC x (.sp (.read n))) (Bz x (.sp (.read n)))=none by show bC ws [x.h] []=none;unfold bC aV;rw[if_pos e];rfl]at hb;cases hb
     |false=>
      rw[show bC ws (BC x (.sp (.read n))) (Bz x (.sp (.read n)))=some (("look":Str),x.h) by show bC ws [x.h] []=_;unfold bC aV;rw[if_neg (nt e)]]at hb;cases hb;exact⟨rfl,rfl,rfl⟩
    obtain⟨e1,rfl,rfl⟩:=hm;rw[if_neg (nt e1)]at q;right;refine bq ?_;left;refine aL rfl ?_;left;exact q t H1 (z1.sub (.cons .e (.cons .e (.cons .e (.cons .k1 .refl)))))
  |write n=>
   have q:∀ td H',Sep (pt td (wr (jZ (if fA (wf (x.g n))=true then(if ai ws "put" x.t=true then .on x (cs.set x.t.toNat (x.g n)) else .no "put" x.t) else .nf n (x.g n))).tl)::tu sp (Sp.tl (.write n))::ak d ((jZ (if fA (wf (x.g n))=true then(if ai ws "put" x.t=true then .on x (cs.set x.t.toNat (x.g n)) else .no "put" x.t) else .nf n (x.g n))).bx x)::pt p (wp (((jZ (if fA (wf (x.g n))=true then(if ai ws "put" x.t=true then .on x (cs.set x.t.toNat (x.g n)) else .no "put" x.t) else .nf n (x.g n))).cs cs).map wf))::pt lv (wp (ws.map wl))::O) H'->Q (v6 td) H':=q;cases hc:fA (wf (x.g n)) with
   |false=>
    rw[if_neg (nt hc)]at q;refine xa nofun hc z0 (λt H1 z1=>?_);right;refine bq ?_;left;refine aL rfl ?_;left;exact q t H1 (z1.sub (.cons .e (.cons .e (.cons .e (.cons .k1 .refl)))))
   |true=>
    rw[if_pos hc]at q;refine bQ (.sp (.write n)) nofun (λb e=>by cases e;exact hc) z0 (λhb H1 z1=>?_) (λdd c hb t H1 z1=>?_)
    .have hm:ai ws "put" x.t=true:=(aD (hE hb).2).1;have g:=aq hm;rw[if_pos hm]at q;right;refine bq ?_;left;refine ar rfl ?_;right;rename_i tp H2 z2;refine fT (a8.of z2.at) rfl rfl ?_;left;refine ar (by decide+kernel) ?_;right
     repeat walk_at "sc"
     refine mL (n:=n) z2 (by symm) ?_;right;refine mL (n:=.t) z2 (by symm) ?_;left;refine fO (i:=x.t) z2 (by ac_rfl) (dq g.1 (by rw[ce];omega)) cJ (λH3 z3=>?_);right;rename_i td H4 z4;exact q td H4 (z4.sub (.cons .e (.cons .k1 (.cons .k1 (.cons .k2 (.cons .k1 (.drop .refl)))))))
    .have hm:ai ws "put" x.t=false/\dd="put"/\c=x.t:=by
      cases e:ai ws "put" x.t with
      |true=>rw[show bC ws (BC x (.sp (.write n))) (Bz x (.sp (.write n)))=none by show bC ws [] [x.t]=none;unfold bC aV;dsimp only;unfold aV;rw[if_pos e]]at hb;cases hb
      |false=>
       rw[show bC ws (BC x (.sp (.write n))) (Bz x (.sp (.write n)))=some (("put":Str),x.t) by show bC ws [] [x.t]=_;unfold bC aV;dsimp only;unfold aV;rw[if_neg (nt e)]]at hb;cases hb;exact⟨rfl,rfl,rfl⟩
     obtain⟨e1,rfl,rfl⟩:=hm;rw[if_neg (nt e1)]at q;right;refine bq ?_;left;refine aL rfl ?_;left;exact q t H1 (z1.sub (.cons .e (.cons .e (.cons .e (.cons .k1 .refl)))))
def KC (h0:0<=r)(h1:r<6):∃ wd:Wd,lH [wl "copy",wl "fill",wl "seek",wl "match",wl "shift",wl "turn"] r=some (wl wd.s):=by
 have:r=0\/r=1\/r=2\/r=3\/r=4\/r=5:=by omega
 rcases this with rfl|rfl|rfl|rfl|rfl|rfl
 .exact⟨.copy,rfl⟩
 .exact⟨.fill,rfl⟩
 .exact⟨.seek,rfl⟩
 .exact⟨.mtch,rfl⟩
 .exact⟨.shift,rfl⟩
 .exact⟨.turn,rfl⟩
def GY (h0:0<=r)(h1:r<3):∃ o:Option Int,lH [wn,wf 0,wf 1] r=some (oV o)/\Ls o:=by
 rcases(by omega:r=0\/r=1\/r=2) with rfl|rfl|rfl
 .exact⟨none,rfl,True.intro⟩
 .exact⟨some 0,rfl,.inl rfl⟩
 .exact⟨some 1,rfl,.inr rfl⟩
abbrev sV (v:V):Prop:=∃ b:Bn,v=wl b.nm
def Ec {sz:Int}(hk:2<=k)(s:Sep (hand h m::O) H)(hm:m<=1099510000000)(h0:0<=sz)(h1:sz<=60)(q:∀ t r H',Rw.ok r->Sep (tu t r.tl::hand h (m+10)::O) H'->Q (v6 t) H'):aa tab R k 97 [v6 h,wf sz] H Q E:=by
 delta jJ;walk_at "gd";rename_i wy H1 wy0 wy1 hs1 p1 H2 hs2 r2 H3 r20 r21 hs3;obtain⟨b,e2⟩:=EL r20 r21;refine aM (by grind) e2 ?_;clear s hs1 hs2;right;refine ay (λg0=>?_) (λg0=>?_)
 .right;rename_i l4 H4 hs4;obtain⟨wd,e3⟩:=KC wy0 g0;refine aM (by grind) e3 ?_;right;rename_i t H5 hs5;have z6:Sep (tu t (Rw.tl (.lg wd))::_) _:=hs5.toT;exact q t (.lg wd) _ True.intro ((aj (n:=m+10) (z6.pull (A:=hand h _) (by symm)) nofun).sub (by ac_nf))
 right;refine ay (λg1=>?_) (λg1=>?_)
 .walk_at "gd";rename_i l4 H4 hs4 r5 H5 r50 r51 hs5;obtain⟨v,e3,b3,rfl⟩:=dE (P:=sV) (xs:=[wl "here",wl "there",wl "left",wl b.nm]) (r:=r5) r50 (by simpa using r51) (MS ⟨.h,rfl⟩ ⟨.t,rfl⟩ ⟨.l,rfl⟩ ⟨b,rfl⟩);refine aM (by grind) e3 ?_;walk_at "gd";rename_i r6 H6 r60 r61 hs6 r7 H7 r70 r71 hs7 r8 H8 r80 r81 hs8 r9 H9 r90 r91 hs9 l10 H10 hs10;obtain⟨v,e4,i,rfl,i0,i1⟩:=dE (xs:=[wf r7,wf (r8-2),wf (10 ^ Int.toNat 9-r9)]) (P:=inR (-1000000000) 1000000000) (r:=r6 / 3) nofun (by simp;omega) (Li (.mk nofun nofun) (.mk nofun nofun) (.mk (by rw[gE];omega) (by rw[gE];omega)));refine aM (by grind) e4 ?_;right;rename_i t H11 hs11;have z6:Sep (tu t (Rw.tl (.sp (.set b3 i)))::_) _:=hs11.toT;exact q t (.sp (.set b3 i)) _ ⟨i0,i1⟩ ((aj (n:=m+10) (z6.pull (A:=hand h _) (by symm)) nofun).sub (by ac_nf))
 right;refine aI (λg2=>?_) (λg2=>?_)
 .walk_at "gd";rename_i r6 H6 r60 r61 hs6 r7 H7 r70 r71 hs7 r8 H8 r80 r81 hs8 l10 H10 hs10;obtain⟨v,e4,i,rfl,i0,i1⟩:=dE (xs:=[wf (r7-3),wf r8,wf (-(10 ^ Int.toNat 9))]) (P:=inR (-1000000000) 1000000000) (r:=r6 / 3) nofun (by simp;omega) (Li (.mk nofun nofun) (.mk nofun nofun) (.mk (by rw[gE];omega) (by rw[gE];omega)));refine aM (by grind) e4 ?_;right;rename_i t H11 hs11;have z6:Sep (tu t (Rw.tl (.sp (.add b i)))::_) _:=hs11.toT;exact q t (.sp (.add b i)) _ ⟨i0,i1⟩ ((aj (n:=m+10) (z6.pull (A:=hand h _) (by symm)) nofun).sub (by ac_nf))
 right;refine aI (λg3=>?_) (λg3=>?_)
 .walk_at "gd";rename_i r6 H6 r60 r61 hs6;obtain⟨c,e3⟩:=EL r60 r61;refine aM (by grind) e3 ?_;right;rename_i t H11 hs11;have z6:Sep (tu t (Rw.tl (.sp (.take b c)))::_) _:=hs11.toT;exact q t (.sp (.take b c)) _ True.intro ((aj (n:=m+10) (z6.pull (A:=hand h _) (by symm)) nofun).sub (by ac_nf))
 right;refine ay (λg4=>?_) (λg4=>?_)
 .right;rename_i l4 H4 hs4;rcases(by omega:wy=11\/wy=12) with rfl|rfl
  .right;rename_i t H11 hs11;have z6:Sep (tu t (Rw.tl (.sp (.read b)))::_) _:=hs11.toT;exact q t (.sp (.read b)) _ True.intro ((aj (n:=m+10) (z6.pull (A:=hand h _) (by symm)) nofun).sub (by ac_nf))
  .right;rename_i t H11 hs11;have z6:Sep (tu t (Rw.tl (.sp (.write b)))::_) _:=hs11.toT;exact q t (.sp (.write b)) _ True.intro ((aj (n:=m+10) (z6.pull (A:=hand h _) (by symm)) nofun).sub (by ac_nf))
 walk_at "gd";rename_i r6 H6 r60 r61 hs6 l7 H7 hs7 r8 H8 r80 r81 hs8;obtain⟨o,e3,ho⟩:=GY r80 r81;refine aM (by grind) e3 ?_;right;rename_i t H11 hs11;have z6:Sep (tu t (Rw.tl (.hop r6 o))::_) _:=hs11.toT;exact q t (.hop r6 o) _ ⟨⟨by omega,by omega⟩,ho⟩ ((aj (n:=m+10) (z6.pull (A:=hand h _) (by symm)) nofun).sub (by ac_nf))
def yT {t:Addr}(r:Rw)(ro:Ro K R)(hk:5<=k)(ok:r.ok)(z:Sep (tu t r.tl::O) H)(q:∀ d H',Sep (nK R d r::tu t r.tl::O) H'->Q (v6 d) H'):aa tab R k 98 [v6 t] H Q E:=by
 delta jv;cases r with
 |lg w=>
  have f:∀ x ∈ ([("set":Str),"add","take","read","write","hop"]),cV (wl w.s) (wl x)=false:=by cases w<;>decide+kernel
  right;refine ar (f "set" (by decide)) ?_;right;refine ar (f "add" (by decide)) ?_;right;refine ar (f "take" (by decide)) ?_;right;refine ar (f "read" (by decide)) ?_;right;refine ar (f "write" (by decide)) ?_;right;refine ar (f "hop" (by decide)) ?_;right;exact FG w nofun z q
 |hop n o=>
  right
  repeat walk_at "sc"
  intro d dx g1 g2 g3;exact JM ro nofun ok.1.1 ok.1.2 ok.2 (iw z g1 g2 g3) (λH2 z2=>⟨rfl,q d H2 z2⟩)
 |sp s=>
  cases s with
  |set n i=>
   right
   repeat walk_at "sc"
   intro d dx g1 g2 g3;exact JB ro nofun ok.1 ok.2 (iw z g1 g2 g3) (λH2 z2=>⟨rfl,q d H2 z2⟩)
  |add n i=>
   right
   repeat walk_at "sc"
   intro d dx g1 g2 g3;exact Kh ro nofun ok.1 ok.2 (iw z g1 g2 g3) (λH2 z2=>⟨rfl,q d H2 z2⟩)
  |take n m=>
   right
   repeat walk_at "sc"
   intro d dx g1 g2 g3;exact JO ro nofun (iw z g1 g2 g3) (λH2 z2=>⟨rfl,q d H2 z2⟩)
  |read n=>
   right
   repeat walk_at "sc"
   intro d dx g1 g2 g3;exact Jl ro nofun (iw z g1 g2 g3) (λH2 z2=>⟨rfl,q d H2 z2⟩)
  |write n=>
   right
   repeat walk_at "sc"
   intro d dx g1 g2 g3;exact Kx ro nofun (iw z g1 g2 g3) (λH2 z2=>⟨rfl,q d H2 z2⟩)
def Js {l:Int}:fin l=0\/fin l=1:=by
 unfold fin
 split
 .exact .inr rfl
 .exact .inl rfl
abbrev idx (wd:Wd)(x:Bx):Int:=match wd with
 | .fill=>x.t
 | .shift=>if x.t<=x.h then x.h else x.h+x.l-1
 |_=>x.h
abbrev dir (wd:Wd)(x:Bx):Int:=match wd with
 | .shift=>if x.t<=x.h then 1 else -1
 | .turn=>1
 |_=>x.w
abbrev gone (n:Nat)(w h h':Int):Prop:=h'=h\/(0<=h/\h<n)/\(h'=h+w\/h'=h+1)
def iT {d:Str}{w h:Int}(m:ai ws d h=true):gone ws.length w h (h+w):=.inr ⟨aq m,.inl rfl⟩
def tO {d:Str}{w h:Int}(m:ai ws d h=true):gone ws.length w h (h+1):=.inr ⟨aq m,.inr rfl⟩
abbrev yV (x x':Bx)(n:Nat):Prop:=x'.w=x.w/\(0<=x.l->0<=x'.l)/\(x.ok->n<=60->x'.ok)
def cp {h' t' l' m':Int}(hh:gone n x.w x.h h')(ht:gone n x.w x.t t')(hl:0<=x.l->0<=l'/\l'<=x.l)(hm:m'=x.m\/m'=0\/m'=1):yV x ⟨h',t',l',x.w,x.s,m'⟩ n:=by
 refine⟨rfl,λz=>(hl z).1,λok hn=>?_⟩;obtain⟨o1,o2,o3,o4,o5,o6⟩:=ok;have b:=hl o3.1;have gg:∀ {h h':Int},gone n x.w h h'-> -1000000000<=h/\h<=1000000000-> -1000000000<=h'/\h'<=1000000000:=λ{h h'} g o=>by
  rcases g with rfl|⟨g,e⟩
  .exact o
  .omega
 exact⟨gg hh o1,gg ht o2,⟨b.1,Int.le_trans b.2 o3.2⟩,o4,o5,hm.elim (λe=>o6.imp (e.trans ·) (e.trans ·)) id⟩
def aT {P:Out->Prop}{c:Prop} [Decidable c] {a b:Out}(h:c->P a)(g:¬ c->P b):P (if c then a else b):=by
 by_cases e:c
 .rw[if_pos e];exact h e
 .rw[if_neg e];exact g e
def Ir {l:Int}(e:¬ l=0)(z:0<=l):0<=l+ -1/\l+ -1<=l:=by omega
section
variable {P:Out->Prop}{wd:Wd}{x:Bx}{cs:List Int}{ws:List Str}
def yt {j:Int}{f:List Int->Out}(no:∀ (d:Str) (c:Int),d="look"\/d="put"->P (.no d c)) (h:ai ws "look" i=true->ai ws "put" j=true->P (f (cs.set j.toNat (gt cs i)))):P (hm cs ws i j f):=
 aT (λa=>aT (h a) (λ_=>no _ _ (.inr rfl))) (λ_=>no _ _ (.inl rfl))
def zN (done:∀ x',yV x x' ws.length->P (.on 1 x' cs)) (no:∀ (d:Str) (c:Int),d="look"\/d="put"->P (.no d c))
  (go:∀ x' cs',yV x x' ws.length->cs'.length=cs.length->(0<=idx wd x/\idx wd x<ws.length)/\idx wd x'=idx wd x+dir wd x/\dir wd x'=dir wd x->P (.on (fin x'.l) x' cs')):P (cO wd x cs ws):=by
 have sm:∀ {m':Int},m'=x.m\/m'=0\/m'=1->yV x ⟨x.h,x.t,x.l,x.w,x.s,m'⟩ ws.length:=λe=>cp (.inl rfl) (.inl rfl) (λz=>⟨z,Int.le_refl _⟩) e
 have lk:∀ {c},P (.no "look" c):=no _ _ (.inl rfl);have pu:∀ {c},P (.no "put" c):=no _ _ (.inr rfl);cases wd
 .exact aT (λ_=>done _ (sm (.inl rfl))) λe=>yt no λa b=>go _ _ (cp (iT a) (iT b) (Ir e) (.inl rfl)) (length_set ..) ⟨aq a,rfl,rfl⟩
 .exact aT (λ_=>done _ (sm (.inl rfl))) λe=>aT (λb=>go _ _ (cp (.inl rfl) (iT b) (Ir e) (.inl rfl)) (length_set ..) ⟨aq b,rfl,rfl⟩) λ_=>pu
 .exact aT (λ_=>done _ (sm (.inr (.inl rfl)))) λe=>aT (λa=>aT (λ_=>done _ (sm (.inr (.inr rfl)))) λ_=>go _ _ (cp (iT a) (.inl rfl) (Ir e) (.inr (.inl rfl))) rfl ⟨aq a,rfl,rfl⟩) λ_=>lk
 .exact aT (λ_=>done _ (sm (.inr (.inr rfl)))) λe=>aT (λa=>aT (λb=>aT (λ_=>go _ _ (cp (iT a) (iT b) (Ir e) (.inr (.inr rfl))) rfl ⟨aq a,rfl,rfl⟩) λ_=>done _ (sm (.inr (.inl rfl)))) λ_=>lk) λ_=>lk
 .refine aT (λ_=>done _ (sm (.inl rfl))) λe=>aT (λc=>yt no λa b=>go _ _ (cp (tO a) (tO b) (Ir e) (.inl rfl)) (length_set ..) ?_) λc=>yt no λa b=>go _ _ (cp (.inl rfl) (.inl rfl) (Ir e) (.inl rfl)) (length_set ..) ?_
  .have g:=aq a;unfold idx dir;dsimp only;rw[if_pos c,if_pos c,if_pos nofun,if_pos nofun];exact⟨g,rfl,rfl⟩
  .have g:=aq a;unfold idx dir;dsimp only;rw[if_neg c,if_neg c];exact⟨g,by omega,rfl⟩
 .exact aT (λ_=>done _ (sm (.inl rfl))) λe=>aT (λc=>done _ (cp (.inl rfl) (.inl rfl) (λz=>⟨Int.le_refl _,z⟩) (.inl rfl))) λc=>
   aT (λa=>aT (λ_=>aT (λ_=>aT (λ_=>go _ _ (cp (tO a) (.inl rfl) (λz=>by omega) (.inl rfl)) ((length_set ..).trans (length_set ..)) ⟨aq a,rfl,rfl⟩) λ_=>pu) λ_=>pu) λ_=>lk) λ_=>lk
end
variable {x':Bx}
def tS {cs:List Int}(h:cO wd x cs ws=.on r x' cs'):
  yV x x' ws.length/\cs'.length=cs.length/\(r=0\/r=1)/\(r=0->(0<=idx wd x/\idx wd x<ws.length)/\idx wd x'=idx wd x+dir wd x/\dir wd x'=dir wd x):=by
 revert h
 refine zN (P:=λo=>o=.on r x' cs'->_) (λy w e=>?_) (λ_ _ _ e=>by cases e) (λy c w l g e=>?_)
 .cases e;exact⟨w,rfl,.inr rfl,λz=>by cases z⟩
 .cases e;exact⟨w,l,Js,λ_=>g⟩
def yA {cs:List Int}{d:Str}(h:cO wd x cs ws=.no d c):d="look"\/d="put":=by
 revert h
 exact zN (P:=λo=>o=.no d c->_) (λ_ _ e=>by cases e) (λ_ _ h e=>by cases e;exact h) (λ_ _ _ _ _ e=>by cases e)
def wx {cs:List Int}{r:Rw}{d:Str}(h:ef x cs ws r=.no d c):d="look"\/d="put":=by
 have gv:∀ {b:Bn}{i:Int},jZ (bb x cs b i)≠.no d c:=λ{b i} e=>by
  unfold bb at e
  split at e<;>cases e
 cases r with
 |lg w=>
  have h:ofM (cO w x cs ws)=.no d c:=h;cases e:cO w x cs ws with
  |on r x' cs'=>rw[e]at h;cases h
  |no d' c'=>rw[e]at h;cases h;exact yA e
 |hop n o=>cases h
 |sp s=>
  cases s with
  |set n i=>exact absurd h gv
  |add n i=>exact absurd h gv
  |take n m=>exact absurd h gv
  |read n=>
   have h:jZ (if ai ws "look" x.h=true then bb x cs n (gt cs x.h) else .no "look" x.h)=.no d c:=h
   split at h
   .exact absurd h gv
   .cases h;exact .inl rfl
  |write n=>
   have h:jZ (if fA (wf (x.g n))=true then(if ai ws "put" x.t=true then .on x (cs.set x.t.toNat (x.g n)) else .no "put" x.t) else .nf n (x.g n))=.no d c:=h
   split at h
   .split at h
    .cases h
    .cases h;exact .inr rfl
   .cases h
abbrev iz (O:List av)(ss:List V)(rs:List Rw):Prop:=ss.length=rs.length/\(∀ r ∈ rs,r.ok)/\∀ (i:Nat) (r:Rw),rs[i]? =some r->∃ t Δ,ss[i]? =some (v6 t)/\ae (tu t r.tl) O Δ
def iz.more (h:iz O ss rs):iz (A::O) ss rs:=⟨h.1,h.2.1,λi r e=>by
 obtain⟨a,Δ,e2,p⟩:=h.2.2 i r e;exact⟨a,_,e2,.t p⟩⟩
noncomputable abbrev sA (w d p lv:Addr)(at_:Int)(x:Bx)(cs:List Int)(ws:List Str)(O:List av):List av:=pt w (wp [wf at_,v6 d,v6 p,v6 lv])::ak d x::pt p (wp (cs.map wf))::pt lv (wp (ws.map wl))::O
section
variable {w d p lv SP:Addr}{at_:Int}{ss:List V}{rs:List Rw}{x:Bx}{cs:List Int}{ws:List Str}
def F6 (hk:4<=k)(h0:0<=at_)(h1:at_<=ss.length)(hx:0<=x.l)(hl:cs.length=ws.length)(hs:iz O ss rs)(z:Sep (sA w d p lv at_ x cs ws (pt SP (wp ss)::O)) H)
  (q:∀ H',Sep (sA w d p lv (mS rs at_ x cs ws).at_ (mS rs at_ x cs ws).x (mS rs at_ x cs ws).cs ws (pt SP (wp ss)::O)) H'->Q (wl (mS rs at_ x cs ws).w) H'):aa tab R k 113 [v6 SP,v6 w] H Q E:=by
 delta jt;have hl1:=hs.1;unfold mS at q;right;refine aI (λhe=>?_) (λhe=>?_)
 .rw[getElem?_eq_none nofun]at q;right;exact q H z
 .have hlt:at_.toNat<rs.length:=by omega
  have er:rs[at_.toNat]? =some rs[at_.toNat]:=li hlt;have ok:=hs.2.1 _ (getElem_mem hlt);generalize rs[at_.toNat]=r at er ok;obtain⟨t,Δ,e2,pt_⟩:=hs.2.2 _ _ er;rw[er]at q;dsimp only at q;right;refine aM (i:=at_) (by grind) (aF h0 e2) ?_;right;refine Bp (O:=pt w (wp [wf at_,v6 d,v6 p,v6 lv])::pt SP (wp ss)::O) r nofun ok hx hl (Sep.Ja (z.fY (.j2 (.j2 (.t pt_)))) (z.sub (by ac_nf))) (λtd H2 z2=>?_);clear z;generalize ho:ef x cs ws r=o at q z2;cases o with
  |on n x' cs'=>
   have z2:Sep (pt td (wr [wl "on",wf n,wf 0])::tu t r.tl::ak d x'::pt p (wp (cs'.map wf))::pt lv (wp (ws.map wl))::pt w (wp [wf at_,v6 d,v6 p,v6 lv])::pt SP (wp ss)::O) H2:=z2;right
   repeat walk_at "sc"
   rename_i H3 z3;rw[show min (ss.length:Int) (at_+n)=min (at_+n) rs.length by rw[Int.min_comm,hl1]]at z3;exact q H3 (z3.sub (by ac_nf))
  |no dd c=>
   have z2:Sep (pt td (wr [wl dd,wf c,wf 0])::tu t r.tl::ak d x::pt p (wp (cs.map wf))::pt lv (wp (ws.map wl))::pt w (wp [wf at_,v6 d,v6 p,v6 lv])::pt SP (wp ss)::O) H2:=z2;right;refine ar (by rcases wx ho with rfl|rfl<;>decide+kernel) ?_;right;exact q H2 (z2.sub (by ac_nf))
  |nf n i=>
   have z2:Sep (pt td (wr [wl "fit",wl n.nm,wf i])::tu t r.tl::ak d x::pt p (wp (cs.map wf))::pt lv (wp (ws.map wl))::pt w (wp [wf at_,v6 d,v6 p,v6 lv])::pt SP (wp ss)::O) H2:=z2;right
   repeat walk_at "sc"
   exact q H2 (z2.sub (by ac_nf))
end
section
variable {m l s b:Addr}{at_:Int}{ds:List V}{rs:List Rw}{x:Bx}{cs:List Int}{ws:List Str}
def Fc {t t2 t1 t3 l1 l3:Addr}(h1:H t=some (wr [wf at_,v6 t1,v6 l1]))(h2:H t2=some (wr [wf at_,v6 t3,v6 l3]))(ea:gm R.K H 2 (v6 t1) (v6 t3) true)(eb:gm R.K H 2 (v6 l1) (v6 l3) true):gm R.K H 3 (v6 t) (v6 t2) true:=
 zH (n:=1) h1 h2 rfl λj x y e1 e2=>by
  rcases j with _|_|_|j
  .cases e1;cases e2;exact kH (t:="int") rfl
  .cases e1;cases e2;exact ea
  .cases e1;cases e2;exact eb
  .simp at e1
end
def set_same {l:List α}{a:α}(h:l[n]? =some a):l.set n a=l:=by
 apply List.ext_getElem?;intro i;rw[List.getElem?_set]
 split
 .rename_i e;subst e;rw[h]
  split
  .rfl
  .rename_i h2;exact absurd (tz.mp h).1 h2
 .rfl
def af {A:av}:∀ {L O Δ:List av},ae A O Δ->ae A (L++O) (L++Δ)
 | [],_,_,h=>h
 |B::L,_,_,h=>.t (af h)
def bg {α:Type}{f:α->av}{x:α}:∀ {l:List α},x ∈ l->∃ Δ,∀ O,ae (f x) (l.map f++O) (Δ++O)
 |y::l,h=>by
  rcases nb.mp h with rfl|h
  .exact⟨l.map f,λO=>.e⟩
  .obtain⟨Δ,hp⟩:=bg (f:=f) h;exact⟨f y::Δ,λO=>.t (hp O)⟩
abbrev sU (R:Rt)(p:Addr×Rw):av:=nK R p.1 p.2
abbrev iH (p:Addr×Rw):av:=tu p.1 p.2.tl
abbrev dR (p:Addr×Rw):V:=v6 p.1
def ke {L:List (Addr×Rw)}(h:L.map (·.2)=rs):fH R (L.reverse.map (sU R)++O) (L.map dR) rs:=by
 subst h;refine⟨by simp,λi r e=>?_⟩;rw[io]at e;obtain⟨⟨a,r'⟩,g,rfl⟩:=nw.mp e;obtain⟨Δ,hp⟩:=bg (f:=sU R) (x:=(a,r')) (l:=L.reverse) (by have:=cr g;simpa using this);exact⟨a,_,by rw[io,g];rfl,hp O⟩
def qV {S:List (Addr×Rw)}(h:S.map (·.2)=rs)(ok:∀ r ∈ rs,Rw.ok r):iz (S.reverse.map iH++O) (S.map dR) rs:=by
 refine⟨by rw[<-h];simp,ok,λi r e=>?_⟩;subst h;rw[io]at e;obtain⟨⟨a,r'⟩,g,rfl⟩:=nw.mp e;obtain⟨Δ,hp⟩:=bg (f:=iH) (x:=(a,r')) (l:=S.reverse) (by have:=cr g;simpa using this);exact⟨a,_,by rw[io,g];rfl,hp O⟩
section
variable {d p lv SP:Addr}{at_:Int}{ss:List V}{rs:List Rw}{x:Bx}{cs:List Int}{ws:List Str}
end
def HN {cs:List Int}(h:cO wd x cs ws=.on r x' cs'):
  (r=0\/r=1)/\x'.w=x.w/\(r=0->0<=idx wd x/\idx wd x<ws.length/\idx wd x'=idx wd x+dir wd x/\dir wd x'=dir wd x):=
 have ⟨w,_,r,g⟩:=tS h
 ⟨r,w.1,λz=>⟨(g z).1.1,(g z).1.2,(g z).2⟩⟩
def iz.set {i:Nat}{t:Addr}{r:Rw}(h:iz O ss rs)(hi:i<rs.length)(ok:r.ok)(p:ae (tu t r.tl) O Δ):iz O (ss.set i (v6 t)) (rs.set i r):=by
 refine⟨by rw[length_set,length_set];exact h.1,λr' hr=>?_,λj r' e=>?_⟩
 .rcases mem_or_eq_of_mem_set hr with hr|rfl
  .exact h.2.1 _ hr
  .exact ok
 .by_cases hj:i=j
  .subst hj;rw[getElem?_set_self hi]at e;cases e;exact⟨t,Δ,getElem?_set_self (by rw[h.1];exact hi),p⟩
  .rw[getElem?_set_ne hj]at e;obtain⟨a,Δ',e2,pp⟩:=h.2.2 j r' e;exact⟨a,Δ',by rw[getElem?_set_ne hj];exact e2,pp⟩
def Dk {cs:List Int}{r:Rw}{n:Int}(ok:r.ok)(h:ef x cs ws r=.on n x' cs'):0<=n:=by
 cases r with
 |lg w=>
  have h:ofM (cO w x cs ws)=.on n x' cs':=h;cases e:cO w x cs ws with
  |no d c=>rw[e]at h;cases h
  |on r y ys=>
   rw[e]at h;cases h;rcases(HN e).1 with rfl|rfl<;>decide
 |hop m o=>
  cases h;have:=ok.1;cases o with
  |none=>show 0<=1+m;omega
  |some i=>
   show 0<=(if i=x.m then 1+m else 1)
   split<;>omega
 |sp s=>
  have h:jZ (j5 x cs ws s)=.on n x' cs':=h;cases e:j5 x cs ws s with
  |on y ys=>rw[e]at h;cases h;decide
  |no d c=>rw[e]at h;cases h
  |nf b i=>rw[e]at h;cases h
def A8 {cs:List Int}(h0:0<=at_)(h1:at_<=rs.length)(hn:∀ r ∈ rs,Rw.ok r):0<=(mS rs at_ x cs ws).at_/\(mS rs at_ x cs ws).at_<=rs.length/\((mS rs at_ x cs ws).w="on"\/((mS rs at_ x cs ws).w="end"\/(mS rs at_ x cs ws).w="stop")/\(mS rs at_ x cs ws).at_=at_/\(mS rs at_ x cs ws).x=x/\(mS rs at_ x cs ws).cs=cs):=by
 unfold mS;cases e:rs[at_.toNat]? with
 |none=>exact⟨h0,h1,.inr ⟨.inl rfl,rfl,rfl,rfl⟩⟩
 |some r=>
  have ok:=hn r (cr e);dsimp only;cases ho:ef x cs ws r with
  |no d c=>exact⟨h0,h1,.inr ⟨.inr rfl,rfl,rfl,rfl⟩⟩
  |nf b i=>exact⟨h0,h1,.inr ⟨.inr rfl,rfl,rfl,rfl⟩⟩
  |on n x' cs'=>
   have hn0:0<=n:=Dk ok ho;refine⟨?_,?_,.inl rfl⟩
   .show 0<=min (at_+n) (rs.length:Int)
    omega
   .show min (at_+n) (rs.length:Int)<=rs.length
    omega
def Nw:cV (wl w) (wl w)=true:=by show(w ==w)=true;simp
structure vh where
 n:Nat
 at_:Int
 x:Bx
 cs:List Int
abbrev rN (rs:List Rw)(ws:List Str):Nat->Int->Bx->List Int->vh
 |0,at_,x,cs=>⟨0,at_,x,cs⟩
 |n+1,at_,x,cs=>if(mS rs at_ x cs ws).w="on" then⟨(rN rs ws n (mS rs at_ x cs ws).at_ (mS rs at_ x cs ws).x (mS rs at_ x cs ws).cs).n+1,(rN rs ws n (mS rs at_ x cs ws).at_ (mS rs at_ x cs ws).x (mS rs at_ x cs ws).cs).at_,(rN rs ws n (mS rs at_ x cs ws).at_ (mS rs at_ x cs ws).x (mS rs at_ x cs ws).cs).x,(rN rs ws n (mS rs at_ x cs ws).at_ (mS rs at_ x cs ws).x (mS rs at_ x cs ws).cs).cs⟩ else⟨0,at_,x,cs⟩
abbrev rW (rs:List Rw)(n:Nat)(r:vh):Str:=if r.at_=(rs.length:Int) then "end" else if n<=r.n then "bell" else "stop"
def Ep {rs:List Rw}{ws:List Str}(ok:∀ r ∈ rs,Rw.ok r):∀ {n:Nat}{at_:Int}{x:Bx}{cs:List Int},0<=at_->at_<=rs.length->(rN rs ws n at_ x cs).n<=n/\0<=(rN rs ws n at_ x cs).at_/\(rN rs ws n at_ x cs).at_<=rs.length
 |0,at_,x,cs,h0,h1=>⟨re _,h0,h1⟩
 |n+1,at_,x,cs,h0,h1=>by
  unfold rN
  split
  .obtain⟨g0,g1,_⟩:=A8 (x:=x) (cs:=cs) (ws:=ws) h0 h1 ok;obtain⟨a,b,c⟩:=Ep ok (n:=n) (x:=(mS rs at_ x cs ws).x) (cs:=(mS rs at_ x cs ws).cs) g0 g1;exact⟨Nat.succ_le_succ a,b,c⟩
  .exact⟨Nat.zero_le _,h0,h1⟩
section
variable {m l s b:Addr}{at_:Int}{ds:List V}{rs:List Rw}{x:Bx}{cs:List Int}{ws:List Str}
def G9 (ro:Ro K R)(hk:12<=k)(h0:0<=at_)(h1:at_<=rs.length)(hok:∀ r ∈ rs,Rw.ok r) (hd:fH R O ds rs) (z:Sep (mi R m l s b at_ ds::aU R s cs ws::aK R b x::O) H)
  (q:∀ t H',Sep (pt t (wr [wl (rW rs n (rN rs ws n at_ x cs)),wf ((rN rs ws n at_ x cs).n:Int)])::mi R m l s b (rN rs ws n at_ x cs).at_ ds::aU R s (rN rs ws n at_ x cs).cs ws::aK R b (rN rs ws n at_ x cs).x::O) H'->Q (v6 t) H'):aa tab R k 43 [v6 m,wf (n:Int)] H Q E:=by
 delta cX;have e1:=hd.1;obtain⟨f0,f1,f2⟩:=Ep (ws:=ws) (n:=n) (x:=x) (cs:=cs) hok h0 h1;generalize hF:rN rs ws n at_ x cs=F at q f0 f1 f2
 right;have out:∀ {D:Ends}{E:St->XK}{H':Hp},D.rt=Q->Sep (mi R m l s b F.at_ ds::aU R s F.cs ws::aK R b F.x::O) H'->wB (kF 2 cX.body) ⟨tab,R,aa tab R (k-1),true⟩ D E [some (v6 m),some (wf (n:Int)),some (wf (F.n:Int))] H':=λ{D E H'} hD z=>by
  rw[<-hD]at q;unfold rW at q;right;refine ab vZ z .e rfl rfl ?_;left;refine vk nofun z .e ?_
  by_cases he:F.at_=ds.length
  .rw[decide_eq_true he];rw[if_pos nofun]at q;right;rename_i t H3 z3;exact q t H3 z3
  .rw[decide_eq_false he];rw[if_neg nofun]at q;right;refine ay (λg=>?_) (λg=>?_)
   .rw[if_pos nofun]at q;right;rename_i t H3 z3;exact q t H3 z3
   .rw[if_neg nofun]at q;right;rename_i t H3 z3;exact q t H3 z3
 refine⟨λμ U H=>∃ j:Nat,∃ at_ x cs,μ=n-j/\j<=n/\0<=at_/\at_<=(rs.length:Int)/\rN rs ws (n-j) at_ x cs=⟨F.n-j,F.at_,F.x,F.cs⟩/\j<=F.n/\U=[some (v6 m),some (wf (n:Int)),some (wf (j:Int))]/\Sep (mi R m l s b at_ ds::aU R s cs ws::aK R b x::O) H,⟨n,0,at_,x,cs,rfl,Nat.zero_le _,h0,h1,hF,Nat.zero_le _,rfl,z⟩,?_⟩;rintro μ U H ⟨j,at2,x2,cs2,rfl,hj,a0,a1,hr,hjF,rfl,z2⟩;right;refine ay (λg=>?_) (λg=>?_)
 .have ej:n-j=(n-(j+1))+1:=by omega
  rw[ej]at hr;unfold rN at hr;obtain⟨g0,g1,g2⟩:=A8 (x:=x2) (cs:=cs2) (ws:=ws) a0 a1 hok;right;refine ab vZ z2 .e rfl rfl ?_;left;refine vB (rs:=rs) ro nofun a0 nofun hd z2 (λH3 z3=>?_);generalize hm:mS rs at2 x2 cs2 ws=M at hr z3 g0 g1 g2;obtain⟨word,at3,x3,cs3⟩:=M;dsimp only at hr z3 g0 g1 g2;right;rcases g2 with rfl|⟨hw,rfl,rfl,rfl⟩
  .rw[if_pos rfl]at hr;have r1:=congrArg vh.n hr;have r2:=congrArg vh.at_ hr;have r3:=congrArg vh.x hr;have r4:=congrArg vh.cs hr;dsimp only at r1 r2 r3 r4;refine aL (Nw (w:="on")) ?_;refine⟨λU H=>∃ at_ x cs,0<=at_/\at_<=(rs.length:Int)/\rN rs ws (n-(j+1)) at_ x cs=⟨F.n-(j+1),F.at_,F.x,F.cs⟩/\U=[some (v6 m),some (wf (n:Int)),some (wf ((j+1:Nat):Int))]/\Sep (mi R m l s b at_ ds::aU R s cs ws::aK R b x::O) H,?_,?_⟩
   .rintro σ' H' ⟨a,y,c,b0,b1,b2,rfl,b4⟩;exact⟨n-(j+1),by omega,j+1,a,y,c,rfl,by omega,b0,b1,b2,by omega,rfl,b4⟩
   .right;refine⟨at3,x3,cs3,g0,g1,?_,rfl,z3⟩;generalize rN rs ws (n-(j+1)) at3 x3 cs3=G at r1 r2 r3 r4⊢;obtain⟨gn,ga,gx,gc⟩:=G;dsimp only at r1 r2 r3 r4;subst r2 r3 r4;rw[show gn=F.n-(j+1) by omega]
  .have hne:¬ (word="on"):=by rcases hw with rfl|rfl<;>decide+kernel
   rw[if_neg hne]at hr;have r1:=congrArg vh.n hr;have r2:=congrArg vh.at_ hr;have r3:=congrArg vh.x hr;have r4:=congrArg vh.cs hr;dsimp only at r1 r2 r3 r4;refine ar (by show(word =="on")=false;simpa using hne) ?_;have r2:at3=F.at_:=r2;have r3:x3=F.x:=r3;have r4:cs3=F.cs:=r4;subst r2 r3 r4;rw[show(j:Int)=(F.n:Int) by omega];exact out rfl z3
 .have ej:n-j=0:=by omega
  rw[ej]at hr;have r1:=congrArg vh.n hr;have r2:=congrArg vh.at_ hr;have r3:=congrArg vh.x hr;have r4:=congrArg vh.cs hr;have r1:0=F.n-j:=r1;have r2:at2=F.at_:=r2;have r3:x2=F.x:=r3;have r4:cs2=F.cs:=r4;subst r2 r3 r4;rw[show(j:Int)=(F.n:Int) by omega];refine ar rfl ?_;exact out rfl z2
end
def zO {cs:List Int}(hx:0<=x.l)(h:cO wd x cs ws=.on r x' cs'):0<=x'.l/\cs'.length=cs.length:=
 ⟨(tS h).1.2.1 hx,(tS h).2.1⟩
def gS {cs:List Int}{b:Bn}(hx:0<=x.l)(h:bb x cs b i=.on x' cs'):0<=x'.l/\cs'.length=cs.length:=by
 unfold bb at h
 by_cases e:a7 b i=true
 .rw[if_pos e]at h;cases h;refine⟨?_,rfl⟩;cases b
  .exact hx
  .exact hx
  .have e:(decide (0<=i)&&decide (i<=1000000000))=true:=e;have e:0<=i/\i<=1000000000:=by simpa using e
   exact e.1
  .exact hx
  .exact hx
  .exact hx
 .rw[if_neg e]at h;cases h
def xJ {cs:List Int}{s:Sp}(hx:0<=x.l)(h:j5 x cs ws s=.on x' cs'):0<=x'.l/\cs'.length=cs.length:=by
 cases s with
 |set b i=>exact gS hx h
 |add b i=>exact gS hx h
 |take b c=>exact gS hx h
 |read b=>
  have h:(if ai ws "look" x.h=true then bb x cs b (gt cs x.h) else .no "look" x.h)=.on x' cs':=h
  by_cases e:ai ws "look" x.h=true
  .rw[if_pos e]at h;exact gS hx h
  .rw[if_neg e]at h;cases h
 |write b=>
  have h:(if fA (wf (x.g b))=true then(if ai ws "put" x.t=true then .on x (cs.set x.t.toNat (x.g b)) else .no "put" x.t) else .nf b (x.g b))=xY.on x' cs':=h
  by_cases e:fA (wf (x.g b))=true
  .rw[if_pos e]at h
   by_cases e2:ai ws "put" x.t=true
   .rw[if_pos e2]at h;cases h;exact⟨hx,length_set ..⟩
   .rw[if_neg e2]at h;cases h
  .rw[if_neg e]at h;cases h
def wY {cs:List Int}{r:Rw}{n:Int}(hx:0<=x.l)(h:ef x cs ws r=.on n x' cs'):0<=x'.l/\cs'.length=cs.length:=by
 cases r with
 |lg w=>
  have h:ofM (cO w x cs ws)=.on n x' cs':=h;cases e:cO w x cs ws with
  |no d c=>rw[e]at h;cases h
  |on r y ys=>
   rw[e]at h;cases h;exact zO hx e
 |hop m o=>cases h;exact⟨hx,rfl⟩
 |sp s=>
  have h:jZ (j5 x cs ws s)=.on n x' cs':=h;cases e:j5 x cs ws s with
  |on y ys=>rw[e]at h;cases h;exact xJ hx e
  |no d c=>rw[e]at h;cases h
  |nf b i=>rw[e]at h;cases h
def pj {cs:List Int}(hx:0<=x.l):0<=(mS rs at_ x cs ws).x.l/\(mS rs at_ x cs ws).cs.length=cs.length:=by
 unfold mS;cases e:rs[at_.toNat]? with
 |none=>exact⟨hx,rfl⟩
 |some r=>
  dsimp only;cases ho:ef x cs ws r with
  |no d c=>exact⟨hx,rfl⟩
  |nf b i=>exact⟨hx,rfl⟩
  |on n x' cs'=>exact wY hx ho
section
variable {w d p lv SP:Addr}{at_:Int}{ss:List V}{rs:List Rw}{x:Bx}{cs:List Int}{ws:List Str}
end
def Sep.mv:∀ {L P Δ O:List av}{H:Hp},Sep (P++(Δ++(L++O))) H->Sep (P++(L++(Δ++O))) H
 | [],_,_,_,_,z=>z
 |A::L,P,Δ,O,H,z=>(Sep.mv (L:=L) (P:=A::P) (Δ:=Δ) (O:=O) (z.pull (af (af .e)))).push (af .e)
def ax {α:Type}{f:α->av}{x:α}:∀ {l:List α}{i:Nat},l[i]? =some x->∀ {O:List av},ae (f x) (l.map f++O) ((l.eraseIdx i).map f++O)
 |y::l,0,h,O=>by cases h;exact .e
 |y::l,i+1,h,O=>.t (ax (l:=l) (i:=i) h)
def d7 {α:Type}{f:α->av}{x y:α}:∀ {l:List α}{i:Nat},l[i]? =some x->∀ {O:List av},ae (f y) ((l.set i y).map f++O) ((l.eraseIdx i).map f++O)
 |z::l,0,h,O=>.e
 |z::l,i+1,h,O=>.t (d7 (l:=l) (i:=i) h)
def wo {b:Addr}{j i2 j2:Int}(hk:1<=k)(z:Sep O H)(e1:H a=some (wr [wf i,wf j]))(e2:H b=some (wr [wf i2,wf j2]))(hd:min j j2<=max i i2)(q:Q wn H):aa tab R k 56 [v6 a,v6 b] H Q E:=by
 delta rS;right;refine dz e1 rfl ?_;right;refine dz e2 rfl ?_;right;refine dz e1 rfl ?_;right;refine dz e2 rfl ?_;right;refine ay (λh=>absurd h nofun) (λh=>?_);right;exact q
def yx (h:n<=xs.length):dQ xs none (some (n:Int))=xs.take n:=by
 unfold dQ;show(xs.drop 0).take ((if(n:Int)<0 then((n:Int)+(xs.length:Int)).toNat else min (n:Int).toNat xs.length)-0)=_;rw[if_neg nofun,sn,Nat.min_eq_left h]
 rfl
def yr (h:n<=xs.length):dQ xs (some (n:Int)) none=xs.drop n:=by
 unfold dQ;show(xs.drop (if(n:Int)<0 then((n:Int)+(xs.length:Int)).toNat else min (n:Int).toNat xs.length)).take (xs.length-(if(n:Int)<0 then((n:Int)+(xs.length:Int)).toNat else min (n:Int).toNat xs.length))=_;rw[if_neg nofun,sn,Nat.min_eq_left h];exact take_of_length_le (by rw[jp];omega)
def um {m:Nat}(h:n<=xs.length)(h2:m<=xs.length):dQ xs (some (n:Int)) (some (m:Int))=(xs.drop n).take (m-n):=by
 unfold dQ;show(xs.drop (if(n:Int)<0 then((n:Int)+(xs.length:Int)).toNat else min (n:Int).toNat xs.length)).take ((if(m:Int)<0 then((m:Int)+(xs.length:Int)).toNat else min (m:Int).toNat xs.length)-(if(n:Int)<0 then((n:Int)+(xs.length:Int)).toNat else min (n:Int).toNat xs.length))=_;rw[if_neg (by omega:¬ (n:Int)<0),if_neg (by omega:¬ (m:Int)<0),sn,sn,Nat.min_eq_left h,Nat.min_eq_left h2]
structure Pt where
 p:Addr
 i:Int
 j:Int
abbrev cA (q:Pt):V:=v6 q.p
abbrev dg (q:Pt):av:=tu q.p [wf q.i,wf q.j]
abbrev Dr (a b:Pt):Prop:=min a.j b.j<=max a.i b.i
def CZ {L:List Pt}(hk:2<=k)(hn:L.length<=4)(z:Sep O H)(p:ae (pt l (wp (L.map cA))) O Δ)(ht:∀ q ∈ L,∃ Δ,ae (dg q) O Δ) (hd:∀ (n m:Nat) (a b:Pt),n<m->L[n]? =some a->L[m]? =some b->Dr a b) (q:∀ H',Sep O H'->Q (.bl true) H'):aa tab R k 57 [v6 l] H Q E:=by
 delta uP;right;refine CL (z.get p) ?_;refine kc (xs:=L.map cA) (λj U H=>∃ u v w,U=[some (v6 l),u,v,w]/\Sep O H) ⟨none,none,none,rfl,z⟩ ?_ ?_ ?_
 .rintro j U H ⟨u,v,w,rfl,hs⟩;exact hs.get p
 .rintro j x T U H hx ⟨u,v,w,rfl,hs⟩ hT;rw[io]at hx;obtain⟨b,eb,rfl⟩:=nw.mp hx;have hs4:=hs.iO (xs:=[wf j,cA b]) hT;left;refine⟨T,_,rfl,.inl (a8.of hs4.atT),rfl,?_⟩;generalize upd H T _=H4 at hs4⊢;right;refine HB hs4 (hs4.get (.t p)) (λP H5 hs5=>?_);have hj:j<L.length:=(tz.mp eb).1;rw[yx (by rw[ce];omega)]at hs5;obtain⟨Δb,pb⟩:=ht b (cr eb);clear hs4 hs;right;refine bT (xs:=(L.map cA).take j) (λi U H=>∃ w,U=[some (v6 l),some (wf j),some (cA b),w]/\Sep (pt P (wp ((L.map cA).take j))::tu T [wf j,cA b]::O) H) ⟨_,rfl,hs5⟩ ?_ ?_ ?_
  .rintro i U H ⟨w,rfl,hs⟩;exact aS.of (hs.get .e)
  .rintro i x U H hx ⟨w,rfl,hs⟩;rw[getElem?_take]at hx
   split at hx
   .rename_i hij;rw[io]at hx;obtain⟨a,ea,rfl⟩:=nw.mp hx;obtain⟨Δa,pa⟩:=ht a (cr ea);right;refine wo nofun hs (hs.fY (.j2 pa)) (hs.fY (.j2 pb)) (hd i j a b hij ea eb) ?_;refine bq ?_;refine ar rfl ?_;right;exact⟨_,rfl,hs⟩
   .cases hx
  .rintro U H ⟨w,rfl,hs⟩;right;exact⟨_,_,_,rfl,hs.drop.drop⟩
 .rintro U H ⟨u,v,w,rfl,hs⟩;right;exact q _ hs
structure Mh where
 t:Addr
 i:Int
 j:Int
 dl:Addr
 b:Addr
 rs:List Rw
 x:Bx
abbrev ku (q:Mh):V:=v6 q.t
abbrev p9 (q:Mh):av:=tu q.t [wf q.i,wf q.j,v6 q.dl,v6 q.b]
def qz {t:Addr}(ro:Ro K R)(hk:1<=k)(e:H t=some (wr xs))(hl:xs.length=4)(q:Q (.bl true) H):aa tab R k 58 [v6 t] H Q E:=by
 delta jq;left;refine cS (t:="tuple") (Ku e) rfl ?_;right;refine uN e ?_;left;simp only[ro.g_THINGS_OF_A_MEMBER];right;rw[hl];exact q
def mz {L:List Mh}(ro:Ro K R)(hk:2<=k)(n0:1<=L.length)(n1:L.length<=4)(z:Sep O H)(p:ae (pt l (wp (L.map ku))) O Δ)(ht:∀ q ∈ L,∃ Δ,ae (p9 q) O Δ) (q:∀ H',Sep O H'->Q (.bl true) H'):aa tab R k 59 [v6 l] H Q E:=by
 delta fB;left;refine cS (t:="list") (yf (z.get p)) rfl ?_;right;refine iD (z.get p) ?_;rw[ce];right;refine ay (λh=>?_) (λh=>absurd nofun h);left;simp only[ro.g_MOST_MEMBERS];right;refine ay (λh=>?_) (λh=>absurd nofun h);right;refine Ju (z.get p) ?_;refine lr (xs:=L.map ku) (by rw[ce];omega) (λD ys H=>ys=sK ys.length (.bl true)/\Sep (pt D (wp ys)::O) H) (λD ys H hI=>aS.of (hI.2.get (.t p))) (λD hD=>⟨rfl,z.new (o:=wp []) hD⟩) (λD ys y H hy hI=>?_) (λD ys H hl hI=>?_)
 .obtain⟨e,zz⟩:=hI;rw[io]at hy;obtain⟨o,eo,rfl⟩:=nw.mp hy;obtain⟨Δo,po⟩:=ht o (cr eo);have hlt:=(tz.mp eo).1;right;refine qz ro nofun (zz.fY (.t po)) rfl ?_;refine pJ.mk zz.at nofun ⟨?_,zz.set rfl⟩;rw[ci,ge,List.replicate_succ',<-e]
 .obtain⟨e,zz⟩:=hI;right;refine zl (K:=R.K) (bs:=sK ys.length true) rfl (by rw[map_replicate,<-e];exact zz.at) ?_;right;rw[show(sK ys.length true).all id=true by simp];exact q _ zz.drop
def wL {p:Addr}{j:Int}(hk:3<=k)(e:H p=some (wr [wf i,wf j]))(h0:0<=i)(h1:i<j)(h2:j<=n)(q:Q (.bl true) H):aa tab R k 60 [v6 p,wf n] H Q E:=by
 delta nO;right;refine dz e rfl ?_;right;refine dz e rfl ?_;right;refine sN (t:="int") (u:="int") nofun rfl rfl ?_;refine aL (by simp[cT,h0,h2,Int.le_of_lt h1]) ?_;right;refine dz e rfl ?_;right;refine dz e rfl ?_;right;dsimp only;rw[decide_eq_true h1];exact q
abbrev ij (q:Pt):Int×Int:=(q.i,q.j)
abbrev DI (q:Mh):Int×Int:=(q.i,q.j)
abbrev K7 (a b:Mh):Prop:=min a.j b.j<=max a.i b.i
def zx {L':List Pt}{L:List Mh}(e:L'.map ij=L.map DI){a:Pt}(h:L'[n]? =some a):∃ b,L[n]? =some b/\a.i=b.i/\a.j=b.j:=by
 have h2:(L'.map ij)[n]? =(L.map DI)[n]? :=by rw[e]
 rw[io,io,h]at h2;obtain⟨b,e1,e2⟩:=nw.mp h2.symm;exact⟨b,e1,(congrArg (·.1) e2).symm,(congrArg (·.2) e2).symm⟩
def bj {L:List α}{o:α}(h:L[n]? =some o):L.take (n+1)=L.take n++[o]:=by
 rw[take_succ,h]
 rfl
def cw {f:α->av}{x:α}{l:List α}:ae (f x) ((l++[x]).map f++O) (l.map f++O):=by
 rw[f8,le];exact af .e
def t8 {L:List Mh}(ro:Ro K R)(hk:4<=k)(n0:1<=L.length)(n1:L.length<=4)(z:Sep O H)(p:ae (pt l (wp (L.map ku))) O Δ)(ht:∀ q ∈ L,∃ Δ,ae (p9 q) O Δ) (hp:∀ q ∈ L,0<=q.i/\q.i<q.j/\q.j<=n) (hd:∀ (n m:Nat) (a b:Mh),n<m->L[n]? =some a->L[m]? =some b->K7 a b)
  (q:∀ P (L':List Pt) H',L'.map ij=L.map DI->Sep (pt P (wp (L'.map cA))::(L'.map dg++O)) H'->Q (v6 P) H'):aa tab R k 61 [v6 l,wf n] H Q E:=by
 delta k6;right;refine mz ro nofun n0 n1 z p ht (λH1 z1=>?_);right;rename_i P H2 z2;refine CL (z2.get (.t p)) ?_;refine kc (xs:=L.map ku) (λj U H=>∃ u v w,∃ L':List Pt,U=[some (v6 l),some (wf n),some (v6 P),u,v,w]/\L'.map ij=(L.take j).map DI/\Sep (pt P (wp (L'.map cA))::(L'.map dg++O)) H) ⟨none,none,none,[],rfl,rfl,z2⟩ ?_ ?_ ?_
 .rintro j U H ⟨u,v,w,L',rfl,e,hs⟩;exact hs.get (.t (af p))
 .rintro j x T U H hx ⟨u,v,w,L',rfl,e,hs⟩ hT;rw[io]at hx;obtain⟨b,eb,rfl⟩:=nw.mp hx;have hj:=(tz.mp eb).1;obtain⟨Δb,pb⟩:=ht b (cr eb);obtain⟨b0,b1,b2⟩:=hp b (cr eb);have hs4:=hs.iO (xs:=[wf j,ku b]) hT;left;refine⟨T,_,rfl,.inl (a8.of hs4.atT),rfl,?_⟩;generalize upd H T _=H4 at hs4⊢;right;refine dz (hs4.fY (.j2 (af pb))) rfl ?_;right;refine dz (hs4.fY (.j2 (af pb))) rfl ?_;right;rename_i X H5 hs5;refine wL (n:=n) nofun hs5.at b0 b1 b2 ?_;refine ar rfl ?_;clear hs4 hs;right;rename_i Y H6 hs6;have hl':L'.length=j:=by
   have:=congrArg List.length e;rw[ce,ce,db]at this
   omega
  refine rm hs6 (hs6.get .k3) hs6.at (by rw[ce,ge];omega) (λZ H7 hs7=>?_);have e':(L'++[(⟨X,b.i,b.j⟩:Pt)]).map ij=(L.take (j+1)).map DI:=by
   rw[bj eb,f8,f8,e]
   rfl
  have hs8:Sep (tu X [wf b.i,wf b.j]::pt P (wp (L'.map cA))::pt Z (wp (L'.map cA++[v6 X]))::(L'.map dg++O)) H7:=(hs7.pull .k2).toT.sub (by ac_nf);have hs9:Sep (pt P (wp (L'.map cA))::pt Z (wp ((L'++[(⟨X,b.i,b.j⟩:Pt)]).map cA))::((L'++[(⟨X,b.i,b.j⟩:Pt)]).map dg++O)) H7:=Sep.push (.j2 cw) (by rw[f8];exact hs8);clear hs5 hs6 hs7 hs8;right;refine CZ (L:=L'++[(⟨X,b.i,b.j⟩:Pt)]) nofun (by rw[ci,ge];omega) hs9 .k1 (λa ha=>?_) (λn m a a2 hn h1 h2=>?_) (λH8 hs10=>?_)
  .obtain⟨Δ,hp⟩:=bg (f:=dg) ha;exact⟨_,.t (.t (hp O))⟩
  .obtain⟨c,c1,c2,c3⟩:=zx e' h1;obtain⟨d,d1,d2,d3⟩:=zx e' h2;have g1:L[n]? =some c:=by
    rw[getElem?_take]at c1
    split at c1
    .exact c1
    .cases c1
   have g2:L[m]? =some d:=by
    rw[getElem?_take]at d1
    split at d1
    .exact d1
    .cases d1
   have:=hd n m c d hn g1 g2;unfold K7 at this;unfold Dr
   omega
  .refine ar rfl ?_;right;refine⟨P,_,rfl,hs10.at,?_⟩;right;refine⟨_,hs10.at,qP hs10 .e (by rw[ce];omega) (λH9 hs11=>?_)⟩;right;refine⟨_,_,_,L'++[⟨X,b.i,b.j⟩],rfl,e',?_⟩;have hs12:=(hs11.pull .k1).drop;rw[f8];exact hs12
 .rintro U H ⟨u,v,w,L',rfl,e,hs⟩;right;rw[ce,take_length]at e;exact q P L' _ e hs
abbrev qp (R:Rt)(q:Mh):av:=bx λL:List (Addr×Rw)=>pt q.dl (wp (L.map dR))::aK R q.b q.x::pu (L.map (·.2)=q.rs)::L.reverse.map (sU R)
def Lq {q:Mh}(z:Sep (qp R q::O) H):∃ L:List (Addr×Rw),L.map (·.2)=q.rs/\Sep (pt q.dl (wp (L.map dR))::aK R q.b q.x::(L.reverse.map (sU R)++O)) H:=by
 obtain⟨L,z1⟩:=fz z;have z2:=z1.pull .k2;exact⟨L,z2.pure,z2.drop⟩
def Mp {q:Mh}{L:List (Addr×Rw)}(e:L.map (·.2)=q.rs)(z:Sep (pt q.dl (wp (L.map dR))::aK R q.b q.x::(L.reverse.map (sU R)++O)) H):Sep (qp R q::O) H:=dS L (Sep.push .k2 (Sep.uH e z))
structure Mm where
 m:Addr
 at_:Int
 rs:List Rw
 x:Bx
 cs:List Int
 ws:List Str
abbrev du (q:Mm):V:=v6 q.m
abbrev bY (R:Rt)(q:Mm):av:=bx λe:Addr×Addr×Addr×List (Addr×Rw)=>mi R q.m e.1 e.2.1 e.2.2.1 q.at_ (e.2.2.2.map dR)::aU R e.2.1 q.cs q.ws::aK R e.2.2.1 q.x::pu (e.2.2.2.map (·.2)=q.rs)::e.2.2.2.reverse.map (sU R)
variable {q:Mm}
def A7 (z:Sep (bY R q::O) H):∃ (l s b:Addr) (L:List (Addr×Rw)),L.map (·.2)=q.rs/\Sep (mi R q.m l s b q.at_ (L.map dR)::aU R s q.cs q.ws::aK R b q.x::(L.reverse.map (sU R)++O)) H:=by
 obtain⟨⟨l,s,b,L⟩,z1⟩:=fz z;have z2:=z1.pull .k3;exact⟨l,s,b,L,z2.pure,z2.drop⟩
def zP {s b:Addr}{L:List (Addr×Rw)}(e:L.map (·.2)=q.rs)(z:Sep (mi R q.m l s b q.at_ (L.map dR)::aU R s q.cs q.ws::aK R b q.x::(L.reverse.map (sU R)++O)) H):Sep (bY R q::O) H:=dS (l,s,b,L) (Sep.push .k3 (Sep.uH e z))
def oh {p:Addr}{cs:List Int}{q:Mh}{i j:Nat}{Δ1 Δ2:List av}(ro:Ro K R)(hk:7<=k)(n0:1<=q.rs.length)(n1:q.rs.length<=24)(hij:i<j)(hj:j<=cs.length)(c60:cs.length<=60)(hc:cD cs)(z:Sep (qp R q::pt C (wp (cs.map wf))::O) H)(p1:ae (tu p [wf i,wf j]) O Δ1)(p2:ae (p9 q) O Δ2)
  (h:∀ m H',Sep (bY R ⟨m,0,q.rs,q.x,(cs.drop i).take (j-i),sK (j-i) "open"⟩::pt C (wp (cs.map wf))::O) H'->Q (v6 m) H'):aa tab R k 62 [v6 C,v6 p,v6 q.t] H Q E:=by
 delta ig;obtain⟨L,eL,z1⟩:=Lq z;clear z;right;refine dz (z1.fY (.j2 (af (.t p2)))) rfl ?_;right;refine dz (z1.fY (.j2 (af (.t p1)))) rfl ?_;right;refine dz (z1.fY (.j2 (af (.t p1)))) rfl ?_;right;refine HB z1 (z1.get (.j2 (af .e))) (λS H2 z2=>?_);rw[um (by rw[ce];omega) (by rw[ce];omega),<-map_drop,<-map_take]at z2;have el:((cs.drop i).take (j-i)).length=j-i:=by rw[db,jp];omega
 right;intro a dx g1 g2 g3;refine pP ro nofun nofun nofun (λy hy=>hc y (mem_of_mem_drop (mem_of_mem_take hy))) (iw z2 g1 g2 g3) .e (λH3 z3=>⟨rfl,?_⟩);rw[el]at z3;right;refine dz (z3.fY (.j2 (.j2 (af (.t p2))))) rfl ?_;right;intro m dx3 g1 g2 g3;have hrow:=ke (R:=R) (O:=pt C (wp (cs.map wf))::O) eL;have hlen:=hrow.1;refine xM (l:=q.dl) (s:=a) (b:=q.b) (x:=q.x) (at_:=0) (ds:=L.map dR) ro nofun nofun nofun nofun nofun .k2 .e .k3 (fH.all hrow.more.more.more.more) (iw z3 g1 g2 g3) (λl2 s2 b2 H7 z7=>⟨rfl,?_⟩);refine h m H7 (zP (l:=l2) (s:=s2) (b:=b2) eL ?_);exact z7.sub (by ac_nf)
@[irreducible] noncomputable def wQ (I:Addr->List V->Hp->Prop) (D:Addr) (ys:List V) (rest:St) (x y:Option V):VK:=λv H3=>∃ zs,H3 D=some (wp zs)/\zs.length<bn/\∃ ys2 x2 x3,x::y::rest=x2::x3::rest/\ys2.length=ys.length+1/\I D ys2 (upd H3 D (wp (zs++[v])))
def wQ.mk {I:Addr->List V->Hp->Prop}{x y:Option V}(h1:H3 D=some (wp ys))(hl:ys.length<=999)(h2:I D (ys++[v]) (upd H3 D (wp (ys++[v])))):wQ I D ys rest x y v H3:=
 by unfold wQ;exact⟨ys,h1,cx nofun,ys++[v],x,y,rfl,by simp,h2⟩
def zX {b:Addr}{tp1 tp2:Bool}(hn:xs.length=ys.length)(I:Addr->List V->Hp->Prop)(hl:∀ D zs H,I D zs H->Sq R.K tp1 H a xs/\Sq R.K tp2 H b ys) (h0:∀ D,H D=none->I D [] (upd H D (wp [])))
  (hs:∀ D zs x y T H',xs[zs.length]? =some x->ys[zs.length]? =some y->I D zs H'->H' T=none->te (some x::some y::rest) (upd H' T (wr [x,y])) (wQ I D zs rest (some x) (some y)))
  (hd:∀ D zs H',zs.length=xs.length->I D zs H'->Q (v6 D) H'):LCt R.K 2 te (Ik R.K tp1 a tp2 b) (none::none::rest) H Q:=by
 unfold LCt;intro D hD;refine⟨λi m σ' H'=>m=xs.length-i/\i<=xs.length/\∃ ys x0 x1,σ'=x0::x1::rest/\ys.length=i/\I D ys H',⟨xs.length,by simp,Nat.zero_le _,[],none,none,rfl,rfl,h0 D hD⟩,λi m σ' H' ⟨e,hi,zs,x0,x1,e1,e2,h⟩=>?_⟩;subst e1 e2;obtain⟨g1,g2⟩:=hl D zs H' h
 by_cases hlt:zs.length<xs.length
 .refine .inr ⟨⟨xs,ys,xs[zs.length],ys[zs.length]'(hn▸hlt),g1,g2,li hlt,li (hn▸hlt)⟩,λσ2 H2=>∃ ys2 x2 x3,σ2=x2::x3::rest/\ys2.length=zs.length+1/\I D ys2 H2,λσ2 H2 ⟨ys2,x2,x3,f1,f2,f3⟩=>⟨xs.length-(zs.length+1),by omega,rfl,hlt,ys2,x2,x3,f1,f2,f3⟩,λx H'' y=>?_⟩;obtain⟨T,v,v',hT,rfl,rfl,hy,hy'⟩:=y;have z:=hs D zs v v' T H' (hy xs g1) (hy' ys g2) h hT;refine⟨T,[v,v'],rfl,a8.of az,rfl,rfl,?_⟩;unfold wQ at z;exact⟨λ_=>z,λe=>nomatch e⟩
 .have:zs.length=xs.length:=by omega
  exact .inl ⟨⟨xs,ys,g1,g2,.inl (Nat.le_of_eq this.symm)⟩,hd D zs H' this h⟩
abbrev bh (q:Mm):Mm:={ q with m:=0 }
abbrev vp (cs:List Int)(q:Mh):Mm:=⟨0,0,q.rs,q.x,(cs.drop q.i.toNat).take (q.j.toNat-q.i.toNat),sK (q.j.toNat-q.i.toNat) "open"⟩
def Cf {L:List α}{o:α}(h:L[n]? =some o):L.drop n=o::L.drop (n+1):=by
 obtain⟨hl,e⟩:=tz.mp h;rw[List.drop_eq_getElem_cons hl,e]
abbrev Lj (n:Nat)(q:Mh):Prop:=(0<=q.i/\q.i<q.j/\q.j<=n)/\1<=q.rs.length/\q.rs.length<=24
def Sep.cut {A B:List av}(z:Sep (A++(B++O)) H):Sep (A++O) H:=by
 induction B with
 |nil=>exact z
 |cons X B ih=>exact ih (z.pull (af .e)).drop
section
variable {C l pl:Addr}{cs:List Int}{L:List Mh}{P:List Pt}
def p6 (ro:Ro K R)(hk:7<=k)(n1:L.length<=4)(ok:∀ q ∈ L,Lj cs.length q) (c60:cs.length<=60) (hc:cD cs) (eP:P.map ij=L.map DI)
  (hte:∀ {v w:V}{H:Hp}{Q:VK},aa tab R k 62 [v6 C,v,w] H Q (λ_ _=>False)->te [some v,some w,some (v6 C)] H Q) (hP:∀ a ∈ P,∃ Δ,ae (dg a) O Δ)
  (z:Sep (pt C (wp (cs.map wf))::pt l (wp (L.map ku))::pt pl (wp (P.map cA))::(L.map (qp R)++(L.map p9++O))) H)
  (q:∀ D (M:List Mm) H',M.map bh=L.map (vp cs)->Sep (pt D (wp (M.map du))::pt pl (wp (P.map cA))::(M.map (bY R)++O)) H'->Q (v6 D) H'):LCt R.K 2 te (Ik R.K false pl false l) (none::none::[some (v6 C)]) H Q:=by
 have hlP:P.length=L.length:=by
  have:=congrArg List.length eP
  rwa [ce,ce]at this
 refine zX (xs:=P.map cA) (ys:=L.map ku) (by rw[ce,ce];exact hlP) (λD ys H=>∃ M:List Mm,ys=M.map du/\M.map bh=(L.take M.length).map (vp cs)/\Sep (pt D (wp ys)::pt C (wp (cs.map wf))::pt l (wp (L.map ku))::pt pl (wp (P.map cA))::(M.map (bY R)++((L.drop M.length).map (qp R)++(L.map p9++O)))) H) (λD ys H ⟨M,_,_,zz⟩=>⟨aS.of (zz.get .k3),aS.of (zz.get .k2)⟩) (λD hD=>⟨[],rfl,rfl,z.new (o:=wp []) hD⟩) (λD ys x y T H hx hy hI hT=>?_) (λD ys H hl hI=>?_)
 .obtain⟨M,rfl,e2,zz⟩:=hI;rw[ce,io]at hx hy;obtain⟨pp,ep,rfl⟩:=nw.mp hx;obtain⟨o,eo,rfl⟩:=nw.mp hy;obtain⟨⟨o0,o1,o2⟩,r0,r1⟩:=ok o (cr eo);have hn:=(tz.mp eo).1;obtain⟨o',eo',ei,ej⟩:=zx eP ep;rw[eo]at eo';cases eo';have z2:=(zz.iO (xs:=[cA pp,ku o]) hT).drop;generalize upd H T _=H2 at z2;rw[Cf eo]at z2;have z3:=(z2.pull .k1).pull (.j2 (.j2 (af .e)));obtain⟨Δ1,p1⟩:=hP pp (cr ep);obtain⟨Δ2,p2⟩:=bg (f:=p9) (cr eo);have p1':ae (tu pp.p [wf ((o.i.toNat:Nat):Int),wf ((o.j.toNat:Nat):Int)]) O Δ1:=by
   have e:dg pp=tu pp.p [wf ((o.i.toNat:Nat):Int),wf ((o.j.toNat:Nat):Int)]:=by
    show tu pp.p [wf pp.i,wf pp.j]=_;rw[ei,ej,Int.toNat_of_nonneg o0,Int.toNat_of_nonneg nofun]
   rw[<-e];exact p1
  refine hte (oh (i:=o.i.toNat) (j:=o.j.toNat) (q:=o) ro hk r0 r1 nofun nofun c60 hc z3 (p:=pp.p) (.j2 (.t (af (af (af p1'))))) (.j2 (.t (af (af (p2 _))))) (λm H3 z4=>?_));have z5:=(z4.pull .k2).set (o':=wp (M.map du++[v6 m])) rfl;refine wQ.mk (z4.get .k2) (by rw[ce];omega) ⟨M++[⟨m,0,o.rs,o.x,(cs.drop o.i.toNat).take (o.j.toNat-o.i.toNat),sK (o.j.toNat-o.i.toNat) "open"⟩],by rw[f8];rfl,?_,?_⟩
  .rw[ci,ge,bj eo,f8,f8,e2]
   rfl
  .rw[ci,ge];exact Sep.push (.j2 (.j2 cw)) (z5.pull .k1)
 .obtain⟨M,rfl,e2,zz⟩:=hI;rw[ce,ce,hlP]at hl;rw[hl,take_length]at e2;refine q D M H e2 ?_;rw[hl,List.drop_length]at zz;have z2:=(zz.pull .k1).drop;have z3:=(z2.pull .k1).drop;exact Sep.cut (A:=pt D _::pt pl _::M.map (bY R)) (B:=L.map p9) z3
end
abbrev di (R:Rt)(c:Addr)(cs:List Int)(ws:List Str)(P:List (Int×Int))(ms:List V):av:=bx λe:Addr×Addr×Addr×Addr×List Pt=>pt c (wv (R.cad 19) e.1 [("ground",v6 e.2.1),("parts",v6 e.2.2.1),("machines",v6 e.2.2.2.1)])::pt e.1 (.own c)::pt e.2.2.1 (wp (e.2.2.2.2.map cA))::pt e.2.2.2.1 (wp ms)::aU R e.2.1 cs ws::pu (e.2.2.2.2.map ij=P)::e.2.2.2.2.map dg
section
variable {c:Addr}{cs:List Int}{ws:List Str}{P:List (Int×Int)}{ms:List V}
def HC (z:Sep (di R c cs ws P ms::O) H):∃ (dx gr pl ml:Addr) (L:List Pt),L.map ij=P/\Sep (pt c (wv (R.cad 19) dx [("ground",v6 gr),("parts",v6 pl),("machines",v6 ml)])::pt dx (.own c)::pt pl (wp (L.map cA))::pt ml (wp ms)::aU R gr cs ws::(L.map dg++O)) H:=by
 obtain⟨⟨dx,gr,pl,ml,L⟩,z1⟩:=fz z;have z2:=z1.pull (.j2 .k3);exact⟨dx,gr,pl,ml,L,z2.pure,z2.drop⟩
def IU {gr pl ml:Addr}{L:List Pt}(e:L.map ij=P)(z:Sep (pt c (wv (R.cad 19) dx [("ground",v6 gr),("parts",v6 pl),("machines",v6 ml)])::pt dx (.own c)::pt pl (wp (L.map cA))::pt ml (wp ms)::aU R gr cs ws::(L.map dg++O)) H):Sep (di R c cs ws P ms::O) H:=dS (dx,gr,pl,ml,L) (Sep.push (.j2 .k3) (Sep.uH e z))
def iA:Ob R (di R c cs ws P ms) c 19 ["ground","parts","machines"]:=by
 rintro H D ⟨⟨dx,gr,pl,ml,L⟩,D1,D2,_,_,_,⟨_,h⟩,_⟩;exact⟨dx,_,h,rfl⟩
def CN (hk:1<=k)(z:Sep O H)(p:ae (aU R a cs ws) O Δ)(q:Q (wf cs.length) H):aa tab R k 50 [v6 a] H Q E:=by
 obtain⟨hok,z2⟩:=jN (z.pull p);refine yu hk z2 ?_;rw[ce];exact q
def qw {L:List Mh}(ro:Ro K R)(hk:9<=k)(n0:1<=L.length)(n1:L.length<=4)(ok:∀ q ∈ L,Lj cs.length q) (hd:∀ (n m:Nat) (a b:Mh),n<m->L[n]? =some a->L[m]? =some b->K7 a b) (c0:1<=cs.length) (c60:cs.length<=60) (hc:cD cs)
  (z:Sep (pt c (wv (R.cad 19) dx [])::pt dx (.own c)::pt C (wp (cs.map wf))::pt l (wp (L.map ku))::(L.map (qp R)++(L.map p9++O))) H)
  (q:∀ (M:List Mm) H',M.map bh=L.map (vp cs)->Sep (di R c cs (sK cs.length "open") (L.map DI) (M.map du)::(M.map (bY R)++O)) H'->Q wn H'):aa tab R k 63 [v6 c,v6 C,v6 l] H Q E:=by
 delta dH;right;intro a dx2 g1 g2 g3;refine pP (a:=C) ro nofun c0 c60 hc (iw z g1 g2 g3) .k2 (λH2 z2=>⟨rfl,?_⟩);right;rename_i H3 z3;refine ab bH z3 (by symm) rfl rfl ?_;left;refine CN nofun z3 (by symm) ?_;right;have z4:Sep (pt l (wp (L.map ku))::aU R a cs (sK cs.length "open")::pt c (wv (R.cad 19) dx [("ground",v6 a)])::pt dx (.own c)::pt C (wp (cs.map wf))::(L.map (qp R)++(L.map p9++O))) H3:=z3.sub (by ac_nf);refine t8 (n:=cs.length) (L:=L) ro nofun n0 n1 z4 .e (λa ha=>?_) (λq hq=>(ok q hq).1) hd (λpl P H5 eP z5=>?_)
 .obtain⟨Δ,hp⟩:=bg (f:=p9) ha;exact⟨_,.t (.j2 (.j2 (af (hp O))))⟩
 have z6:Sep (pt pl (wp (P.map cA))::pt l (wp (L.map ku))::aU R a cs (sK cs.length "open")::pt c (wv (R.cad 19) dx [("ground",v6 a)])::pt dx (.own c)::pt C (wp (cs.map wf))::(P.map dg++(L.map (qp R)++(L.map p9++O)))) H5:=Sep.mv (P:=[_]) (Δ:=P.map dg) (L:=[_,_,_,_,_]) z5;clear z z2 z3 z4 z5;right;rename_i H6 z7;have z8:Sep (pt C (wp (cs.map wf))::pt l (wp (L.map ku))::pt pl (wp (P.map cA))::aU R a cs (sK cs.length "open")::pt c (wv (R.cad 19) dx [("ground",v6 a),("parts",v6 pl)])::pt dx (.own c)::(P.map dg++(L.map (qp R)++(L.map p9++O)))) H6:=z7.sub (by ac_nf);have z9:Sep (pt C (wp (cs.map wf))::pt l (wp (L.map ku))::pt pl (wp (P.map cA))::(L.map (qp R)++(L.map p9++(aU R a cs (sK cs.length "open")::pt c (wv (R.cad 19) dx [("ground",v6 a),("parts",v6 pl)])::pt dx (.own c)::(P.map dg++O))))) H6:=by
  have:=Sep.mv (P:=[_,_,_]) (Δ:=aU R a cs (sK cs.length "open")::pt c (wv (R.cad 19) dx [("ground",v6 a),("parts",v6 pl)])::pt dx (.own c)::P.map dg) (L:=L.map (qp R)++L.map p9) (O:=O) (H:=H6) (by rw[le];exact z8);rw[le]at this;exact this
 clear z6 z7 z8;refine Hx (tp1:=false) (tp2:=false) (aS.of (z9.get .k2)) (aS.of (z9.get .k1)) ?_;refine p6 (C:=C) (k:=k-1) ro nofun n1 ok c60 hc eP (λ{v w H Q} h=>?_) (λa ha=>?_) z9 (λml M H7 eM z10=>?_)
 .right;exact h
 .obtain⟨Δ,hp⟩:=bg (f:=dg) ha;exact⟨_,.t (.j2 (hp O))⟩
 have z11:Sep (pt ml (wp (M.map du))::pt pl (wp (P.map cA))::aU R a cs (sK cs.length "open")::pt c (wv (R.cad 19) dx [("ground",v6 a),("parts",v6 pl)])::pt dx (.own c)::(P.map dg++(M.map (bY R)++O))) H7:=Sep.mv (P:=[_,_]) (Δ:=M.map (bY R)) (L:=aU R a cs (sK cs.length "open")::pt c (wv (R.cad 19) dx [("ground",v6 a),("parts",v6 pl)])::pt dx (.own c)::P.map dg) z10;clear z9 z10;right;rename_i H8 z12;refine q M H8 eM (IU (dx:=dx) (gr:=a) (pl:=pl) (ml:=ml) eP ?_);exact z12.sub (by ac_nf)
end
section
variable {c m:Addr}{cs:List Int}{ws:List Str}{P:List (Int×Int)}{ms:List V}{i:Nat}
def d5 (hk:2<=k)(hi:i<ms.length)(z:Sep O H)(p:ae (di R c cs ws P ms) O Δ)(h:Q wn H):aa tab R k 64 [v6 c,wf i] H Q E:=by
 delta ck;obtain⟨dx,gr,pl,ml,L,eL,z1⟩:=HC (z.pull p);right;refine aH (t:="int") nofun rfl ?_;right;refine ay (λh1=>?_) (λh=>absurd nofun h);right;exact h
def dD (hk:3<=k)(hi:ms[i]? =some (v6 m))(z:Sep O H)(p:ae (di R c cs ws P ms) O Δ)(h:Q (v6 m) H):aa tab R k 65 [v6 c,wf i] H Q E:=by
 delta cR;obtain⟨dx,gr,pl,ml,L,eL,z1⟩:=HC (z.pull p);right;refine ab iA z p rfl rfl ?_;left;refine d5 nofun (tz.mp hi).1 z p ?_;right;refine aM (z1.get (by symm)) (aF nofun (by rw[sn];exact hi)) ?_;right;exact h
end
abbrev lS (q:Mm):Prop:=0<=q.at_/\q.at_<=q.rs.length/\∀ r ∈ q.rs,Rw.ok r
abbrev Ig (n:Nat)(q:Mm):Mm:=⟨q.m,(rN q.rs q.ws n q.at_ q.x q.cs).at_,q.rs,(rN q.rs q.ws n q.at_ q.x q.cs).x,(rN q.rs q.ws n q.at_ q.x q.cs).cs,q.ws⟩
abbrev nr (q:Mm):Mm:=⟨q.m,(mS q.rs q.at_ q.x q.cs q.ws).at_,q.rs,(mS q.rs q.at_ q.x q.cs q.ws).x,(mS q.rs q.at_ q.x q.cs q.ws).cs,q.ws⟩
section
variable {c:Addr}{cs:List Int}{ws:List Str}{P:List (Int×Int)}{ms:List V}{i:Nat}{q:Mm}
def kr:Ob R (bY R q) q.m 17 ["deeds","store","boxes","at"]:=by
 rintro H D ⟨⟨l,s,b,L⟩,D1,D2,_,_,_,⟨dx,D3,D4,_,_,_,⟨_,h⟩,_⟩,_⟩;exact⟨dx,_,h,rfl⟩
def Fl (ro:Ro K R)(hk:13<=k)(hi:ms[i]? =some (v6 q.m))(ok:lS q)(z:Sep (bY R q::di R c cs ws P ms::O) H)
  (h:∀ t H',Sep (pt t (wr [wl (rW q.rs n (rN q.rs q.ws n q.at_ q.x q.cs)),wf ((rN q.rs q.ws n q.at_ q.x q.cs).n:Int)])::bY R (Ig n q)::di R c cs ws P ms::O) H'->Q (v6 t) H'):aa tab R k 67 [v6 c,wf i,wf (n:Int)] H Q E:=by
 delta ma;right;refine ab iA z .k1 rfl rfl ?_;left;refine dD nofun hi z .k1 ?_;refine ab kr z .e rfl rfl ?_;obtain⟨l,s,b,L,eL,z1⟩:=A7 z;left;refine G9 ro nofun ok.1 ok.2.1 ok.2.2 (ke eL) z1 (λt H2 z2=>h t H2 ?_);exact(zP (q:=Ig n q) (l:=l) (s:=s) (b:=b) (L:=L) eL (O:=pt t _::di R c cs ws P ms::O) (Sep.push (.j2 (.t (af .e))) z2)).pull .k1
def vJ (ro:Ro K R)(hk:12<=k)(hi:ms[i]? =some (v6 q.m))(ok:lS q)(z:Sep (bY R q::di R c cs ws P ms::O) H)
  (h:∀ H',Sep (bY R (nr q)::di R c cs ws P ms::O) H'->Q (wl (mS q.rs q.at_ q.x q.cs q.ws).w) H'):aa tab R k 66 [v6 c,wf i] H Q E:=by
 delta jh;right;refine ab iA z .k1 rfl rfl ?_;left;refine dD nofun hi z .k1 ?_;refine ab kr z .e rfl rfl ?_;obtain⟨l,s,b,L,eL,z1⟩:=A7 z;left;have e:=(ke (R:=R) (O:=di R c cs ws P ms::O) eL).1;refine vB ro nofun ok.1 (by rw[e];exact ok.2.1) (ke eL) z1 (λH2 z2=>h H2 ?_);exact zP (q:=nr q) eL z2
def qI (ro:Ro K R)(hk:4<=k)(hi:ms[i]? =some (v6 q.m))(z:Sep (bY R q::di R c cs ws P ms::O) H)
  (h:∀ t t1 l1 H',Sep (pt t (wr [wf q.at_,v6 t1,v6 l1])::pt l1 (wp (q.cs.map wf))::tu t1 (q.x.ls.map wf)::bY R q::di R c cs ws P ms::O) H'->Q (v6 t) H'):aa tab R k 68 [v6 c,wf i] H Q E:=by
 delta gI;right;refine ab iA z .k1 rfl rfl ?_;left;refine dD nofun hi z .k1 ?_;refine ab kr z .e rfl rfl ?_;obtain⟨l,s,b,L,eL,z1⟩:=A7 z;left;refine se ro nofun z1 (λt t1 l1 H2 z2=>h t t1 l1 H2 ?_);have z2':Sep (mi R q.m l s b q.at_ (L.map dR)::aU R s q.cs q.ws::aK R b q.x::pt t (wr [wf q.at_,v6 t1,v6 l1])::pt l1 (wp (q.cs.map wf))::tu t1 (q.x.ls.map wf)::(L.reverse.map (sU R)++(di R c cs ws P ms::O))) H2:=z2.sub (by ac_nf);have z3:Sep (bY R q::pt t (wr [wf q.at_,v6 t1,v6 l1])::pt l1 (wp (q.cs.map wf))::tu t1 (q.x.ls.map wf)::di R c cs ws P ms::O) H2:=zP (l:=l) (s:=s) (b:=b) (L:=L) eL (Sep.mv (P:=[_,_,_]) (Δ:=[_,_,_]) (L:=L.reverse.map (sU R)) z2');exact z3.sub (by ac_nf)
end
def yZ (ro:Ro K R)(hk:2<=k)(z:Sep O H)(p:ae (bY R q) O Δ)
  (h:∀ t t1 l1 H',Sep (pt t (wr [wf q.at_,v6 t1,v6 l1])::pt l1 (wp (q.cs.map wf))::tu t1 (q.x.ls.map wf)::O) H'->Q (v6 t) H'):aa tab R k 44 [v6 q.m] H Q E:=by
 obtain⟨l,s,b,L,eL,z1⟩:=A7 (z.pull p);refine se ro hk z1 (λt t1 l1 H2 z2=>h t t1 l1 H2 ?_);have z2':Sep (mi R q.m l s b q.at_ (L.map dR)::aU R s q.cs q.ws::aK R b q.x::pt t (wr [wf q.at_,v6 t1,v6 l1])::pt l1 (wp (q.cs.map wf))::tu t1 (q.x.ls.map wf)::(L.reverse.map (sU R)++Δ)) H2:=z2.sub (by ac_nf);have z3:Sep (bY R q::pt t (wr [wf q.at_,v6 t1,v6 l1])::pt l1 (wp (q.cs.map wf))::tu t1 (q.x.ls.map wf)::Δ) H2:=zP (l:=l) (s:=s) (b:=b) (L:=L) eL (Sep.mv (P:=[_,_,_]) (Δ:=[_,_,_]) (L:=L.reverse.map (sU R)) z2');exact Sep.push (.j2 (.t p)) z3
abbrev fJ (cs:List Int)(P:List (Int×Int))(M:List Mm):Nat->List Int
 |0=>cs
 |n+1=>match P[n]?,M[n]? with
  |some p,some q=>(fJ cs P M n).take p.1.toNat++q.cs++(fJ cs P M n).drop p.2.toNat
  |_,_=>fJ cs P M n
abbrev Dt (n:Nat)(P:List (Int×Int))(M:List Mm):Prop:=P.length=M.length/\∀ (i:Nat) (p:Int×Int) (q:Mm),P[i]? =some p->M[i]? =some q->0<=p.1/\p.2<=n/\p.1+q.cs.length=p.2
def ki {cs:List Int}{P:List (Int×Int)}{M:List Mm}(f:Dt cs.length P M):∀ n,(fJ cs P M n).length=cs.length
 |0=>rfl
 |n+1=>by
  have ih:=ki f n;unfold fJ
  split
  .rename_i p q e1 e2;obtain⟨a,b,c⟩:=f.2 n p q e1 e2;rw[ci,ci,db,jp,ih]
   omega
  .exact ih
variable {M:List Mm}
def rD {c:Addr}{cs:List Int}{P:List (Int×Int)}(ro:Ro K R)(hk:4<=k)(c60:cs.length<=60)(n1:M.length<=4)(f:Dt cs.length P M)(z:Sep (di R c cs ws P (M.map du)::(M.map (bY R)++O)) H)
  (h:∀ A H',Sep (pt A (wp ((fJ cs P M M.length).map wf))::di R c cs ws P (M.map du)::(M.map (bY R)++O)) H'->Q (v6 A) H'):aa tab R k 70 [v6 c] H Q E:=by
 delta ik;obtain⟨dx,gr,pl,ml,L,eL,z1⟩:=HC z;have hlL:L.length=M.length:=by
  have:=congrArg List.length eL;rw[ce]at this;rw[this];exact f.1
 clear z;right;refine ab bH z1 (by symm) rfl rfl ?_;left;refine uS nofun z1 (by symm) (λA H2 z2=>?_);clear z1;right;refine Hx (tp1:=false) (tp2:=false) (aS.of (z2.get (by symm))) (aS.of (z2.get (by symm))) ?_;refine uT (xs:=L.map cA) (ys:=M.map du) (λj U H=>∃ A u v,U=[some (v6 c),some (v6 A),u,v]/\Sep (pt A (wp ((fJ cs P M j).map wf))::pt c (wv (R.cad 19) dx [("ground",v6 gr),("parts",v6 pl),("machines",v6 ml)])::pt dx (.own c)::pt pl (wp (L.map cA))::pt ml (wp (M.map du))::aU R gr cs ws::(L.map dg++(M.map (bY R)++O))) H) (by rw[ce,ce,hlL]) ⟨A,none,none,rfl,z2⟩ ?_ ?_ ?_
 .rintro j U H ⟨A,u,v,rfl,zz⟩;exact⟨aS.of (zz.get (by symm)),aS.of (zz.get (by symm))⟩
 .rintro j x y T U H hx hy ⟨A,u,v,rfl,zz⟩ hT;rw[io]at hx hy;obtain⟨pp,ep,rfl⟩:=nw.mp hx;obtain⟨q,eq,rfl⟩:=nw.mp hy;have eP:P[j]? =some (ij pp):=by rw[<-eL,io,ep];rfl
  obtain⟨f0,f1,f2⟩:=f.2 j _ q eP eq;have fl:=ki f j;have e3:fJ cs P M (j+1)=(fJ cs P M j).take pp.i.toNat++q.cs++(fJ cs P M j).drop pp.j.toNat:=by
   show(match P[j]?,M[j]? with
    |some p,some q=>(fJ cs P M j).take p.1.toNat++q.cs++(fJ cs P M j).drop p.2.toNat
    |_,_=>fJ cs P M j)=_
   rw[eP,eq]
   rfl
  have hs4:=zz.iO (xs:=[cA pp,du q]) hT;obtain⟨Δ1,p1⟩:=bg (f:=dg) (cr ep);obtain⟨Δ2,p2⟩:=bg (f:=bY R) (cr eq);left;refine⟨T,_,rfl,.inl (a8.of hs4.atT),rfl,?_⟩;generalize upd H T _=H4 at hs4⊢;have z5:=hs4.drop;clear hs4 zz;right;refine dz (z5.fY (.j2 (.j2 (.j2 (p1 _)))) ) rfl ?_;right;rename_i B H6 z6;have g1:pp.i=((pp.i.toNat:Nat):Int):=(Int.toNat_of_nonneg f0).symm;have g2:pp.j=((pp.j.toNat:Nat):Int):=(Int.toNat_of_nonneg (by have:(ij pp).1+(q.cs.length:Int)=(ij pp).2:=f2;have:(ij pp).2=pp.j:=rfl;omega)).symm;have g3:pp.j.toNat<=cs.length:=by have:pp.j<=(cs.length:Int):=f1;omega
  have g4:pp.i.toNat+q.cs.length=pp.j.toNat:=by have:pp.i+(q.cs.length:Int)=pp.j:=f2;omega
  rw[g1,yx (by rw[ce];omega),<-map_take]at z6;refine ab kr z6 (.t (.j2 (.j2 (.j2 (af (p2 _))))) ) rfl rfl ?_;left;refine yZ ro nofun z6 (.t (.j2 (.j2 (.j2 (af (p2 _))))) ) (λt t1 l1 H7 z7=>?_);clear z5;refine dz z7.at rfl ?_;right;refine rm z7 (z7.get .k3) (z7.get .k1) (by rw[ce,ce,db];omega) (λC1 H8 z8=>?_);right;refine dz (z8.fY (.j2 (.j2 (.j2 (.j2 (.j2 (.t (p1 _))))))) ) rfl ?_;right;rename_i D2 H9 z9;rw[g2,yr (by rw[ce];omega),<-map_drop]at z9;refine rm z9 (z9.get .k1) z9.at (by simp only[ci,ce,db,jp];omega) (λA2 H10 z10=>?_);right;refine⟨A2,_,_,rfl,?_⟩;rw[e3,f8,f8];exact z10.sub (by ac_nf)
 .rintro U H ⟨A,u,v,rfl,zz⟩;right;rw[ce,hlL]at zz;refine h A _ ?_;exact(IU (dx:=dx) (gr:=gr) (pl:=pl) (ml:=ml) eL (O:=pt A _::(M.map (bY R)++O)) (Sep.push (.j2 (.j2 (.t (af .e)))) zz)).pull .k1
def EN:(3:Int)*10 ^ Int.toNat 8=300000000:=by decide
def Nj {a b c d e:V}(ha:P a)(hb:P b)(hc:P c)(hd:P d)(he:P e):∀ v ∈ [a,b,c,d,e],P v:=λv hv=>by
 simp only[nb,not_mem_nil,or_false]at hv;rcases hv with rfl|rfl|rfl|rfl|rfl<;>assumption
def Nb {a b c d e f:V}(ha:P a)(hb:P b)(hc:P c)(hd:P d)(he:P e)(hf:P f):∀ v ∈ [a,b,c,d,e,f],P v:=λv hv=>by
 simp only[nb,not_mem_nil,or_false]at hv;rcases hv with rfl|rfl|rfl|rfl|rfl|rfl<;>assumption
def ye {M:Int}(hk:2<=k)(s:Sep (hand h m::O) H)(hm:m<=1099510000000)(hM0:1<=M)(hM1:M<=60)(q:∀ p ns H',1<=ns.length->(ns.length:Int)<=M->cD ns->Sep (pt p (wp (ns.map wf))::hand h (m+300)::O) H'->Q (v6 p) H'):aa tab R k 107 [v6 h,wf M] H Q E:=by
 delta hJ;walk_at "gd";rename_i mn H2 mn0 mn1 hs2;refine pW (n:=(1+mn).toNat) nofun (λD ys H=>∃ ns:List Int,ys=ns.map wf/\cD ns/\Sep (pt D (wp ys)::hand h (m+2+4*((ys.length:Nat):Int))::O) H) (λD hD=>⟨[],rfl,λi hi=>absurd hi (by simp),(aj ((hs2.new (o:=wp []) hD).pull .k1) (by simp)).pull .k1⟩) (λD ys H hl hI=>?_) (λD ys H hl hI=>?_)
 .obtain⟨ns,e,hc,hs⟩:=hI;walk_at "gd";rename_i l1 H3 hs3 r1 H4 r10 r11 hs4;rw[EN]at hs4;obtain⟨v,e2,N,rfl,N0,N1⟩:=dE (xs:=[wf 3,wf 1000,wf 300000000]) (P:=inR 1 300000000) (r:=r1) r10 (by simpa using r11) (Li (.mk (by decide) (by decide)) (.mk (by decide) (by decide)) (.mk (by decide) (by decide)));refine aM (by grind) e2 ?_;walk_at "gd";rename_i r2 H5 r20 r21 hs5;refine pJ.mk (by grind) nofun ⟨ns++[r2],by rw[e];simp,ug hc nofun nofun,?_⟩;have hs7:=(hs5.pull (A:=pt D (wp ys)) (by symm)).set (o':=wp (ys++[wf r2])) rfl;refine((aj (n:=m+2+4*(((ys++[wf r2]).length:Nat):Int)) (hs7.pull (A:=hand h _) (by symm)) ?_).sub (by ac_nf));rw[ci,ge]
  omega
 .obtain⟨ns,rfl,hc,hs⟩:=hI;rw[ce]at hl;refine q D ns H nofun nofun hc ?_;exact(aj (hs.pull .k1) (by rw[ce];omega)).pull .k1
def xu {h t l w:Int}(z:Sep O H)(r:aO (pt d (.dK [])) (pt d (.dK [(.inr "here",wf h),(.inr "there",wf t),(.inr "left",wf l),(.inr "way",wf w)])) O Γ') (q:∀ H',Sep Γ' H'->Q (v6 d) H'):vH ["here","there","left","way"] d [wf h,wf t,wf l,wf w] H Q:=by
 obtain⟨Δ,p1,p2⟩:=r.bL;unfold vH;exact⟨z.get p1,q _ (z.put r rfl)⟩
def Ee {M:Int}(hk:2<=k)(s:Sep (hand h m::O) H)(hm:m<=1099510000000)(hM0:1<=M)(hM1:M<=60)
  (q:∀ d x H',Bx.ok x->Sep (ak d x::hand h (m+30)::O) H'->Q (v6 d) H'):aa tab R k 108 [v6 h,wf M] H Q E:=by
 delta k9;walk_at "gd";refine pW (n:=2) nofun (λD ys H=>∃ ns:List Int,ys=ns.map wf/\(∀ i ∈ ns,-1000000000<=i/\i<=1000000000)/\Sep (pt D (wp ys)::hand h (m+3*((ys.length:Nat):Int))::O) H) (λD hD=>⟨[],rfl,λi hi=>absurd hi (by simp),(aj ((s.new (o:=wp []) hD).pull .k1) (by simp)).pull .k1⟩) (λD ys H hl hI=>?_) (λD ys H hl hI=>?_)
 .obtain⟨ns,e,hc,hs⟩:=hI;walk_at "gd";rename_i r1 H3 r10 r11 hs3 l1 H4 hs4 r2 H5 r20 r21 hs5;rw[gE]at hs5;obtain⟨v,e2,N,rfl,N0,N1⟩:=dE (xs:=[wf r1,wf 0,wf (M-1),wf M,wf (-1),wf 1000000000]) (P:=inR (-1000000000) 1000000000) (r:=r2) r20 (by simpa using r21) (Nb (.mk nofun nofun) (.mk (by decide) (by decide)) (.mk nofun nofun) (.mk nofun nofun) (.mk (by decide) (by decide)) (.mk (by decide) (by decide)));refine aM (by grind) e2 ?_;refine pJ.mk (by grind) nofun ⟨ns++[N],by rw[e];simp,λi hi=>?_,?_⟩
  .rcases mem_append.mp hi with hi|hi
   .exact hc i hi
   .rw[mem_singleton.mp hi];exact⟨N0,N1⟩
  have hs7:=(hs5.pull (A:=pt D (wp ys)) (by symm)).set (o':=wp (ys++[wf N])) rfl;refine((aj (n:=m+3*(((ys++[wf N]).length:Nat):Int)) (hs7.pull (A:=hand h _) (by symm)) ?_).sub (by ac_nf));rw[ci,ge]
  omega
 obtain⟨ns,rfl,hc,hs⟩:=hI;rw[ce]at hl
 match ns,hl,hc,hs with
 | [a,b],_,hc,hs=>
  have ha:=hc a (by simp);have hb:=hc b (by simp);have hs2:Sep (hand h (m+6)::pt D (wp [wf a,wf b])::O) H:=aj (hs.pull .k1) (by simp);clear s hs;walk_at "gd";rename_i r1 H3 r10 r11 hs3 l1 H4 hs4 r2 H5 r20 r21 hs5;rw[gE]at hs5;obtain⟨v,e2,lf,rfl,lf0,lf1⟩:=dE (xs:=[wf r1,wf M,wf (M+1),wf 1000000000,wf 0]) (P:=inR 0 1000000000) (r:=r2) r20 (by simpa using r21) (Nj (.mk nofun nofun) (.mk nofun nofun) (.mk nofun nofun) (.mk (by decide) (by decide)) (.mk (by decide) (by decide)));refine aM (by grind) e2 ?_;right;intro d hd;have hs8:=hs5.new (o:=.dK []) hd;generalize upd H5 d (.dK [])=H8 at hs8⊢;clear hs2 hs3 hs4 hs5;walk_at "gd";rename_i w2 H9 w20 w21 hs9;refine xu hs9 (by ac_rfl) (λH10 hs10=>?_);clear hs8 hs9;walk_at "gd";rename_i l2 H11 hs11 r3 H12 r30 r31 hs12;rw[EN]at hs12;obtain⟨v,e3,N,rfl,N0,N1⟩:=dE (xs:=[wf 3,wf 300000000]) (P:=inR 1 300000000) (r:=r3) r30 (by simpa using r31) (J8 (.mk (by decide) (by decide)) (.mk (by decide) (by decide)));refine aM (by grind) e3 ?_;clear hs10 hs11;walk_at "gd";rename_i sg H13 sg0 sg1 hs13;refine vg (k:=.inr "sign") (kvs':=[(.inr "here",wf a),(.inr "there",wf b),(.inr "left",wf lf),(.inr "way",wf (1-2*w2)),(.inr "sign",wf sg)]) hs13 (by ac_rfl) (pc rfl) rfl (λH14 hs14=>?_);clear hs12 hs13;walk_at "gd";rename_i mt H15 mt0 mt1 hs15;refine vg (k:=.inr "met") (kvs':=[(.inr "here",wf a),(.inr "there",wf b),(.inr "left",wf lf),(.inr "way",wf (1-2*w2)),(.inr "sign",wf sg),(.inr "met",wf mt)]) hs15 (by ac_rfl) (pc rfl) rfl (λH16 hs16=>?_);right;refine q d ⟨a,b,lf,1-2*w2,sg,mt⟩ H16 ?_ ?_
  .refine⟨ha,hb,⟨lf0,lf1⟩,?_,⟨?_,?_⟩,?_⟩<;>dsimp only<;>omega
  .have z:Sep (hand h (m+6+1+1+1+1+1+1)::pt d (.dK [(.inr "here",wf a),(.inr "there",wf b),(.inr "left",wf lf),(.inr "way",wf (1-2*w2)),(.inr "sign",wf sg),(.inr "met",wf mt)])::O) H16:=hs16.sub (by ac_nf);exact(aj z nofun).pull .k1
def Hy {y:V}(s:Sep O H)(r:aO (pt a (wp xs)) (pt a (wp (xs.take i.toNat++y::xs.drop i.toNat))) O Γ')(h0:0<=i)(h1:i<=xs.length)(hl:xs.length<=10000)(h:∀ H',Sep Γ' H'->Q wn H'):AD .insert a xs [wf i,y] H Q:=by unfold AD;exact⟨i,y,rfl,h0,h1,hl,h _ (s.put r rfl)⟩
def Az {f:α->av}{x:α}{l:List α}{r:Nat}:ae (f x) ((l.take r++x::l.drop r).map f++O) (l.map f++O):=by
 have e:l.map f++O=(l.take r).map f++((l.drop r).map f++O):=by rw[<-le,<-f8,take_append_drop]
 rw[e,f8,le];exact af .e
abbrev ky (n:Int)(L:List Pt):Prop:=(∀ q ∈ L,0<=q.i/\q.i<q.j/\q.j<=n)/\L.Pairwise Dr
def Dr.symm {a b:Pt}(h:Dr a b):Dr b a:=by unfold Dr at h⊢;omega
def wC {n:Int}{L:List Pt}{x:Pt}{r:Nat}(h:ky n L)(h0:0<=x.i)(h1:x.i<x.j)(h2:x.j<=n)(hx:∀ q ∈ L,q.j<=x.i):ky n (L.take r++x::L.drop r):=by
 have pm:(L.take r++x::L.drop r).Perm (x::L):=by
  have:=List.perm_middle (a:=x) (l₁:=L.take r) (l₂:=L.drop r)
  rwa [take_append_drop]at this
 refine⟨λq hq=>?_,(pm.pairwise_iff Dr.symm).mpr (List.pairwise_cons.mpr ⟨λq hq=>?_,h.2⟩)⟩
 .rcases nb.mp (pm.mem_iff.mp hq) with rfl|hq
  .exact⟨h0,h1,h2⟩
  .exact h.1 q hq
 .have:=hx q hq;unfold Dr
  omega
def yJ {n:Int}(hk:2<=k)(s:Sep (hand h m::O) H)(hm:m<=1099510000000)(n0:1<=n)(n60:n<=60)
  (q:∀ D (L:List Pt) H',1<=L.length->L.length<=4->ky n L->Sep (pt D (wp (L.map cA))::hand h (m+30)::(L.map dg++O)) H'->Q (v6 D) H'):aa tab R k 109 [v6 h,wf n] H Q E:=by
 delta gK;walk_at "gd";rename_i D H1 hs1 r1 H2 r10 r11 hs2 l1 H3 hs3 r2 H4 r20 r21 hs4;obtain⟨v,e2,lo,rfl,lo0,lo1⟩:=dE (xs:=[wf 0,wf r1]) (P:=inR 0 (n-1)) (r:=r2) r20 (by simpa using r21) (J8 (.mk (by decide) nofun) (.mk nofun nofun));refine aM (by grind) e2 ?_;have hs5:Sep (hand h (m+2)::pt D (wp [])::O) H4:=aj (hs4.sub (Γ':=hand h _::pt D (wp [])::O) (by ac_nf)) nofun;clear hs1 hs2 hs3 hs4 s;walk_at "gd";rename_i r3 H5 r30 r31 hs6;refine kj (λj U H=>∃ lw u v,∃ L:List Pt,U=[some (v6 h),some (wf n),some (v6 D),some (wf lw),u,v]/\0<=lw/\(∀ q ∈ L,q.j<=lw)/\(j=0->lw<n)/\(1<=j->1<=L.length)/\L.length<=j/\ky n L/\Sep (pt D (wp (L.map cA))::hand h (m+3+5*(j:Int))::(L.map dg++O)) H) ?_ ?_ ?_
 .exact⟨lo,none,none,[],rfl,lo0,λq hq=>absurd hq (by simp),λ_=>by omega,λh=>absurd h nofun,re _,⟨λq hq=>absurd hq (by simp),.nil⟩,(aj hs6 nofun).pull .k1⟩
 .rintro j U H hj ⟨lw,u,v,L,rfl,g0,g1,g2,g3,g4,g5,zz⟩;walk_at "gd";refine ay (λhlt=>?_) (λhlt=>?_)
  .walk_at "gd";rename_i l2 H6 z6 r4 H7 r40 r41 z7;obtain⟨v2,e3,N,rfl,N0,N1⟩:=dE (xs:=[wf (n-lw),wf (min 9 (n-lw))]) (P:=inR 1 (n-lw)) (r:=r4) r40 (by simpa using r41) (J8 (.mk nofun nofun) (.mk nofun nofun));refine aM (by grind) e3 ?_;clear z6;walk_at "gd";rename_i r5 H8 r50 r51 z8;have z9:Sep (pt D (wp (L.map cA))::hand h (m+3+5*(j:Int)+2)::(L.map dg++O)) H8:=(aj (z8.sub (Γ':=hand h _::pt D (wp (L.map cA))::(L.map dg++O)) (by ac_nf)) nofun).pull .k1;clear z7 z8;refine⟨D,_,rfl,z9.at,?_⟩;right;rw[ce];refine kU nofun (z9.pull .k1) nofun nofun nofun (λr6 H9 r60 r61 z10=>?_);right;rename_i X H10 z11;have z12:Sep (dg ⟨X,lw,lw+1+r5⟩::pt D (wp (L.map cA))::hand h (m+3+5*(j:Int)+2+1)::(L.map dg++O)) H10:=(z11.pull (A:=pt X _) (by symm)).toT.sub (Γ':=tu X _::pt D (wp (L.map cA))::hand h _::(L.map dg++O)) (by ac_nf);have z13:=Sep.push (.j2 (Az (r:=r6.toNat))) z12;refine⟨_,z13.at,Hy z13 .e r60 (by rw[ce];omega) (by rw[ce];omega) (λH11 z14=>?_)⟩;have em:(L.map cA).take r6.toNat++v6 X::(L.map cA).drop r6.toNat=(L.take r6.toNat++(⟨X,lw,lw+1+r5⟩:Pt)::L.drop r6.toNat).map cA:=by
    rw[f8,map_cons,map_take,map_drop]
    rfl
   rw[em]at z14;clear z9 z10 z11 z12 z13;walk_at "gd";rename_i l3 H12 z15 r7 H13 r70 r71 z16;obtain⟨v3,e4,s,rfl,s0,s1⟩:=dE (xs:=[wf 0,wf 0,wf 1,wf 3]) (P:=inR 0 3) (r:=r7) r70 (by simpa using r71) (MS (.mk (by decide) (by decide)) (.mk (by decide) (by decide)) (.mk (by decide) (by decide)) (.mk (by decide) (by decide)));refine aM (by grind) e4 ?_;right;refine⟨lw+1+r5+s,_,_,_,rfl,by omega,λq hq=>?_,λh=>absurd h nofun,λ_=>?_,?_,wC (r:=r6.toNat) (x:=⟨X,lw,lw+1+r5⟩) g5 (by dsimp only;omega) (by dsimp only;omega) (by dsimp only;omega) (λq hq=>g1 q hq),?_⟩
   .rcases mem_append.mp hq with hq|hq
    .have:=g1 q (mem_of_mem_take hq)
     omega
    .rcases nb.mp hq with rfl|hq
     .dsimp only
      omega
     .have:=g1 q (mem_of_mem_drop hq)
      omega
   .rw[ci,length_cons]
    omega
   .rw[ci,length_cons,db,jp]
    omega
   .exact(aj (n:=m+3+5*(((j+1:Nat):Nat):Int)) (z16.pull (A:=hand h _) (by symm)) nofun).sub (by ac_nf)
  .right;refine⟨lw,_,_,L,rfl,g0,g1,λh=>absurd h nofun,λ_=>g3 nofun,by omega,g5,?_⟩;exact(aj (zz.pull .k1) nofun).pull .k1
 .rintro U H ⟨lw,u,v,L,rfl,g0,g1,g2,g3,g4,g5,zz⟩;right;refine q D L H (g3 nofun) nofun g5 ?_;exact(aj (zz.pull .k1) nofun).pull .k1
structure Mb where
 t:Addr
 SP:Addr
 d:Addr
 i:Int
 j:Int
 S:List (Addr×Rw)
 x:Bx
abbrev bK (q:Mb):V:=v6 q.t
abbrev dh (q:Mb):Int×Int:=(q.i,q.j)
abbrev dj (a b:Int×Int):Prop:=min a.2 b.2<=max a.1 b.1
abbrev bp (q:Mb):av:=bx λ_:Unit=>tu q.t [wf q.i,wf q.j,v6 q.SP,v6 q.d]::pt q.SP (wp (q.S.map dR))::ak q.d q.x::q.S.reverse.map iH
def yC {q:Mb}(z:Sep (bp q::O) H):Sep (tu q.t [wf q.i,wf q.j,v6 q.SP,v6 q.d]::pt q.SP (wp (q.S.map dR))::ak q.d q.x::(q.S.reverse.map iH++O)) H:=let⟨_,z⟩:=fz z;z
def Ea {q:Mb}(z:Sep (tu q.t [wf q.i,wf q.j,v6 q.SP,v6 q.d]::pt q.SP (wp (q.S.map dR))::ak q.d q.x::(q.S.reverse.map iH++O)) H):Sep (bp q::O) H:=dS () z
abbrev FD (n:Int)(q:Mb):Prop:=(0<=q.i/\q.i<q.j/\q.j<=n)/\(1<=q.S.length/\q.S.length<=24)/\(∀ r ∈ q.S.map (·.2),Rw.ok r)/\q.x.ok
def tB {M:Int}{cs:List Int}(hk:3<=k)(s:Sep (hand h m::pt C (wp (cs.map wf))::O) H)(hm:m<=1099500000000)(M0:1<=M)(M1:M<=24)(c0:1<=cs.length)(c60:cs.length<=60)
  (q:∀ D (L:List Mb) H',1<=L.length->L.length<=4->(∀ q ∈ L,FD cs.length q)->(L.map dh).Pairwise dj->Sep (pt D (wp (L.map bK))::hand h (m+2000)::pt C (wp (cs.map wf))::(L.map bp++O)) H'->Q (v6 D) H'):aa tab R k 110 [v6 h,v6 C,wf M] H Q E:=by
 delta eX;right;rename_i D H1 z1;rw[ce];refine yJ (m:=m) nofun (aj (z1.pull (A:=hand h m) (by symm)) nofun) nofun nofun nofun (λPL P H2 p0 p1 ok z2=>?_);have z3:Sep (pt D (wp [])::hand h (m+30)::pt PL (wp (P.map cA))::pt C (wp (cs.map wf))::(P.map dg++O)) H2:=(Sep.mv (P:=[_,_]) (Δ:=P.map dg) (L:=[_,_]) (O:=O) z2).sub (O:=pt PL (wp (P.map cA))::hand h (m+30)::pt D (wp [])::pt C (wp (cs.map wf))::(P.map dg++O)) (by ac_nf);clear z1 z2 s;right;refine bT (xs:=P.map cA) (λj U H=>∃ u v w,∃ L:List Mb,U=[some (v6 h),some (v6 C),some (wf M),some (v6 D),u,v,w]/\L.map dh=(P.take j).map ij/\(∀ q ∈ L,FD cs.length q)/\Sep (pt D (wp (L.map bK))::hand h (m+30+290*(j:Int))::pt PL (wp (P.map cA))::pt C (wp (cs.map wf))::(L.map bp++(P.map dg++O))) H) ?_ ?_ ?_ ?_
 .exact⟨none,none,none,[],rfl,rfl,λq hq=>absurd hq (by simp),(aj (z3.pull .k1) nofun).pull .k1⟩
 .rintro j U H ⟨u,v,w,L,rfl,e,hK,zz⟩;exact aS.of (zz.get .k2)
 .rintro j x U H hx ⟨u,v,w,L,rfl,e,hK,zz⟩;rw[io]at hx;obtain⟨pp,ep,rfl⟩:=nw.mp hx;have hj:=(tz.mp ep).1;have hlL:L.length=j:=by
   have:=congrArg List.length e;rw[ce,ce,db]at this
   omega
  obtain⟨o0,o1,o2⟩:=ok.1 pp (cr ep);obtain⟨Δ1,pp1⟩:=bg (f:=dg) (cr ep);left;refine⟨pp.p,_,rfl,.inl (a8.of (zz.fY (.j2 (.j2 (af (pp1 _)))))),rfl,?_⟩;walk_at "gd";rename_i r2 H3 r20 r21 z4;have z5:Sep (hand h (m+31+290*(j:Int))::pt D (wp (L.map bK))::pt PL (wp (P.map cA))::pt C (wp (cs.map wf))::(L.map bp++(P.map dg++O))) H3:=aj z4 nofun;clear zz z4;refine pW (n:=(1+r2).toNat) nofun (λD' ys H=>∃ S:List (Addr×Rw),ys=S.map dR/\(∀ r ∈ S.map (·.2),Rw.ok r)/\Sep (pt D' (wp ys)::hand h (m+31+290*(j:Int)+10*((ys.length:Nat):Int))::pt D (wp (L.map bK))::pt PL (wp (P.map cA))::pt C (wp (cs.map wf))::(S.reverse.map iH++(L.map bp++(P.map dg++O)))) H) (λD hD=>⟨[],rfl,λp hp=>absurd hp (by simp),(aj ((z5.new (o:=wp []) hD).pull .k1) (by simp)).pull .k1⟩) (λD' ys H hl hI=>?_) (λSP ys H hl hI=>?_)
  .obtain⟨S,e,ok,hs⟩:=hI;right;refine Ec nofun (hs.pull .k1) nofun nofun nofun (λt r H7 o hs7=>?_);have hs8:=(hs7.pull (A:=pt D' (wp ys)) (by symm)).set (o':=wp (ys++[v6 t])) rfl;refine pJ.mk (hs7.get (by symm)) nofun ⟨S++[(t,r)],by rw[e];simp[dR],λp hp=>?_,?_⟩
   .rw[f8]at hp;rcases mem_append.mp hp with hp|hp
    .exact ok p hp
    .rw[mem_singleton.mp hp];exact o
   .rw[List.reverse_append,f8,le];show Sep (pt D' _::hand h _::pt D (wp (L.map bK))::pt PL (wp (P.map cA))::pt C (wp (cs.map wf))::tu t r.tl::(S.reverse.map iH++(L.map bp++(P.map dg++O)))) _;exact(aj (n:=m+31+290*(j:Int)+10*(((ys++[v6 t]).length:Nat):Int)) (hs8.pull (A:=hand h _) (by symm)) (by rw[ci,ge];omega)).sub (by ac_nf)
  obtain⟨S,rfl,okS,hs6⟩:=hI;rw[ce]at hl hs6;have z7:Sep (hand h (m+280+290*(j:Int))::pt SP (wp (S.map dR))::pt D (wp (L.map bK))::pt PL (wp (P.map cA))::pt C (wp (cs.map wf))::(S.reverse.map iH++(L.map bp++(P.map dg++O)))) H:=aj (hs6.pull .k1) nofun;clear z5 hs6;right;refine⟨D,_,rfl,z7.get (by symm),?_⟩;right;refine Ee (M:=pp.j-pp.i) nofun z7 nofun nofun nofun (λd x H8 hx z8=>?_);right;rename_i t H9 z9;refine⟨_,z9.get (by symm),qP z9 (by ac_rfl) (by rw[ce];omega) (λH10 z10=>?_)⟩;right;refine⟨_,_,_,L++[⟨t,SP,d,pp.i,pp.j,S,x⟩],rfl,?_,λq hq=>?_,?_⟩
  .rw[bj ep,f8,f8,e]
   rfl
  .rcases mem_append.mp hq with hq|hq
   .exact hK q hq
   .rw[mem_singleton.mp hq];exact⟨⟨o0,o1,o2⟩,⟨by dsimp only;omega,by dsimp only;omega⟩,okS,hx⟩
  .have z11:Sep (tu t [wf pp.i,wf pp.j,v6 SP,v6 d]::pt SP (wp (S.map dR))::ak d x::pt D (wp (L.map bK++[v6 t]))::hand h (m+30+290*((j+1:Nat):Int))::pt PL (wp (P.map cA))::pt C (wp (cs.map wf))::(S.reverse.map iH++(L.map bp++(P.map dg++O)))) H10:=(aj (n:=m+30+290*((j+1:Nat):Int)) (z10.toT.pull (A:=hand h _) (by symm)) nofun).sub (by ac_nf);have z12:Sep (bp ⟨t,SP,d,pp.i,pp.j,S,x⟩::pt D (wp (L.map bK++[v6 t]))::hand h (m+30+290*((j+1:Nat):Int))::pt PL (wp (P.map cA))::pt C (wp (cs.map wf))::(L.map bp++(P.map dg++O))) H10:=Ea (Sep.mv (P:=[_,_,_]) (Δ:=[_,_,_,_]) (L:=S.reverse.map iH) z11);have z13:=Sep.push (.j2 (.j2 cw)) z12;rw[f8];exact z13
 .rintro U H ⟨u,v,w,L,rfl,e,hK,zz⟩;right;rw[ce,take_length]at e;have hl:L.length=P.length:=by
   have:=congrArg List.length e
   rwa [ce,ce]at this
  refine q D L H nofun nofun hK ?_ ?_
  .rw[e];exact List.pairwise_map.mpr ok.2
  .rw[ce]at zz;have z4:Sep (pt D (wp (L.map bK))::hand h (m+2000)::pt C (wp (cs.map wf))::(L.map bp++(P.map dg++O))) H:=(aj (n:=m+2000) (zz.pull .k1) nofun).sub (by ac_nf);exact Sep.cut (A:=pt D _::hand h _::pt C _::L.map bp) (B:=P.map dg) z4
abbrev Ic (q:Mh):(Int×Int)×List Rw×Bx:=((q.i,q.j),q.rs,q.x)
abbrev mV (q:Mb):(Int×Int)×List Rw×Bx:=((q.i,q.j),q.S.map (·.2),q.x)
abbrev qo (cs:List Int)(e:(Int×Int)×List Rw×Bx):Mm:=⟨0,0,e.2.1,e.2.2,(cs.drop e.1.1.toNat).take (e.1.2.toNat-e.1.1.toNat),sK (e.1.2.toNat-e.1.1.toNat) "open"⟩
variable {L:List Mb}
def zA {G:List Mh}(e:G.map Ic=L.map mV){a:Mh}(h:G[n]? =some a):∃ b,L[n]? =some b/\Ic a=mV b:=by
 have h2:(G.map Ic)[n]? =(L.map mV)[n]? :=by rw[e]
 rw[io,io,h]at h2;obtain⟨b,e1,e2⟩:=nw.mp h2.symm;exact⟨b,e1,e2.symm⟩
def Em {o:Mb}(h:L[n]? =some o):(L.map bK)[n]? =some (v6 o.t):=by rw[io,h];rfl
def CV {ML:Addr}{cs:List Int}(ro:Ro K R)(hk:10<=k)(n0:1<=L.length)(n1:L.length<=4)(ok:∀ q ∈ L,FD cs.length q) (hd:(L.map dh).Pairwise dj) (c0:1<=cs.length) (c60:cs.length<=60) (hc:cD cs) (z:Sep (pt C (wp (cs.map wf))::pt ML (wp (L.map bK))::(L.map bp++O)) H)
  (h:∀ c (M:List Mm) H',M.map bh=L.map (λq=>qo cs (mV q))->Sep (di R c cs (sK cs.length "open") (L.map dh) (M.map du)::(M.map (bY R)++(pt C (wp (cs.map wf))::pt ML (wp (L.map bK))::(L.map bp++O)))) H'->Q (v6 c) H'):aa tab R k 111 [v6 C,v6 ML] H Q E:=by
 delta jj;right;rename_i SM H1 z1;have z2:Sep (pt SM (wp [])::pt C (wp (cs.map wf))::pt ML (wp (L.map bK))::(L.map bp++O)) H1:=z1;clear z z1;refine bT (xs:=L.map bK) (λj U H=>∃ u3 u4 u5 u6 u7,∃ G:List Mh,U=[some (v6 C),some (v6 ML),some (v6 SM),u3,u4,u5,u6,u7]/\G.map Ic=(L.take j).map mV/\Sep (pt SM (wp (G.map ku))::pt C (wp (cs.map wf))::pt ML (wp (L.map bK))::(G.map (qp R)++(G.map p9++(L.map bp++O)))) H) ?_ ?_ ?_ ?_
 .exact⟨none,none,none,none,none,[],rfl,rfl,z2⟩
 .rintro j U H ⟨u3,u4,u5,u6,u7,G,rfl,e,zz⟩;exact aS.of (zz.get .k2)
 .rintro j x U H hx ⟨u3,u4,u5,u6,u7,G,rfl,e,zz⟩;rw[io]at hx;obtain⟨o,eo,rfl⟩:=nw.mp hx;obtain⟨oi,⟨os0,os1⟩,oR,ox⟩:=ok o (cr eo);have z3:=yC (zz.pull (.j2 (.t (af (af (ax eo))))));generalize eT:G.map (qp R)++(G.map p9++((L.eraseIdx j).map bp++O))=T at z3;clear zz z2;left;refine⟨o.t,_,rfl,.inl (a8.of z3.atT),rfl,?_⟩;obtain⟨ot,oSP,od,oii,oj,oS,⟨xh,xt,xl,xw,xs,xm⟩⟩:=o;dsimp only at*;walk_at "wd";intro b dx2 g1 g2 g3;refine An ro nofun ox (iw z3 g1 g2 g3) (λH4 z4=>⟨rfl,?_⟩);generalize (⟨xh,xt,xl,xw,xs,xm⟩:Bx)=x at*;have z5:Sep (aK R b x::tu ot [wf oii,wf oj,v6 oSP,v6 od]::pt oSP (wp (oS.map dR))::ak od x::pt SM (wp (G.map ku))::pt C (wp (cs.map wf))::pt ML (wp (L.map bK))::(oS.reverse.map iH++T)) H4:=Sep.mv (P:=[_,_,_,_]) (Δ:=oS.reverse.map iH) (L:=[_,_,_]) (O:=T) z4;clear z3 z4;have hs:=qV (S:=oS) (O:=T) rfl oR;right;refine⟨SM,_,rfl,z5.get (by symm),?_⟩;right;refine lr (xs:=oS.map dR) (by rw[ce];omega) (λD ys H=>∃ Lr:List (Addr×Rw),ys=Lr.map dR/\Lr.map (·.2)=(oS.map (·.2)).take ys.length/\Sep (pt D (wp ys)::aK R b x::tu ot [wf oii,wf oj,v6 oSP,v6 od]::pt oSP (wp (oS.map dR))::ak od x::pt SM (wp (G.map ku))::pt C (wp (cs.map wf))::pt ML (wp (L.map bK))::(Lr.reverse.map (sU R)++(oS.reverse.map iH++T))) H) (λD ys H hI=>?_) (λD hD=>⟨[],rfl,rfl,z5.new (o:=wp []) hD⟩) (λD ys y H hy hI=>?_) (λDL ys H hl2 hI=>?_)
  .obtain⟨Lr,_,_,hs⟩:=hI;exact aS.of (by grind)
  .obtain⟨Lr,e1,e2,z6⟩:=hI;have hyl:=(tz.mp hy).1;have er:(oS.map (·.2))[ys.length]? =some ((oS.map (·.2))[ys.length]'(by have:=hs.1;omega)):=li _;generalize (oS.map (·.2))[ys.length]'(by have:=hs.1;omega)=r at er;obtain⟨t,Δ,e3,pp⟩:=hs.2.2 _ _ er;rw[hy]at e3;cases e3;right;refine yT r ro nofun (hs.2.1 _ (cr er)) (Sep.Ja (z6.fY (.j2 (.j2 (.j2 (.j2 (af pp))))))  z6) (λde H7 z7=>?_);have z8:=(z7.pull (A:=pt D (wp ys)) (by symm)).set (o':=wp (ys++[v6 de])) rfl;refine pJ.mk (z7.get (by symm)) (by rw[ce]at hyl;omega) ⟨Lr++[(de,r)],by rw[e1];simp[dR],?_,?_⟩
   .rw[f8,e2,ci,ge,take_succ,er]
    rfl
   .rw[List.reverse_append,f8,le];show Sep (pt D _::aK R b x::tu ot [wf oii,wf oj,v6 oSP,v6 od]::pt oSP (wp (oS.map dR))::ak od x::pt SM (wp (G.map ku))::pt C (wp (cs.map wf))::pt ML (wp (L.map bK))::nK R de r::(Lr.reverse.map (sU R)++(oS.reverse.map iH++T))) _;exact z8.sub (by ac_nf)
  obtain⟨Lr,rfl,e2,z6⟩:=hI;have e3:Lr.map (·.2)=oS.map (·.2):=by
   rw[e2,hl2,hs.1];exact take_of_length_le (re _)
  clear z5;right;rename_i t2 H8 z7;have hlG:G.length<=4:=by
   have:=congrArg List.length e;rw[ce,ce,db]at this
   omega
  refine⟨_,z7.get (by symm),qP z7 (by ac_rfl) (by rw[ce];omega) (λH9 z8=>?_)⟩;right;refine⟨_,_,_,_,_,G++[⟨t2,oii,oj,DL,b,oS.map (·.2),x⟩],rfl,?_,?_⟩
  .rw[bj eo,f8,f8,e]
   rfl
  have z9:Sep (pt DL (wp (Lr.map dR))::aK R b x::tu t2 [wf oii,wf oj,v6 DL,v6 b]::tu ot [wf oii,wf oj,v6 oSP,v6 od]::pt oSP (wp (oS.map dR))::ak od x::pt SM (wp (G.map ku++[v6 t2]))::pt C (wp (cs.map wf))::pt ML (wp (L.map bK))::(Lr.reverse.map (sU R)++(oS.reverse.map iH++T))) H9:=z8.toT.sub (by ac_nf);have z10:Sep (qp R ⟨t2,oii,oj,DL,b,oS.map (·.2),x⟩::tu t2 [wf oii,wf oj,v6 DL,v6 b]::tu ot [wf oii,wf oj,v6 oSP,v6 od]::pt oSP (wp (oS.map dR))::ak od x::pt SM (wp (G.map ku++[v6 t2]))::pt C (wp (cs.map wf))::pt ML (wp (L.map bK))::(oS.reverse.map iH++T)) H9:=Mp (L:=Lr) e3 (Sep.mv (P:=[_,_]) (Δ:=[_,_,_,_,_,_,_]) (L:=Lr.reverse.map (sU R)) z9);have z11:Sep (tu ot [wf oii,wf oj,v6 oSP,v6 od]::pt oSP (wp (oS.map dR))::ak od x::qp R ⟨t2,oii,oj,DL,b,oS.map (·.2),x⟩::tu t2 [wf oii,wf oj,v6 DL,v6 b]::pt SM (wp (G.map ku++[v6 t2]))::pt C (wp (cs.map wf))::pt ML (wp (L.map bK))::(oS.reverse.map iH++T)) H9:=z10.sub (by ac_nf);have z12:Sep (bp ⟨ot,oSP,od,oii,oj,oS,x⟩::qp R ⟨t2,oii,oj,DL,b,oS.map (·.2),x⟩::p9 ⟨t2,oii,oj,DL,b,oS.map (·.2),x⟩::pt SM (wp (G.map ku++[v6 t2]))::pt C (wp (cs.map wf))::pt ML (wp (L.map bK))::T) H9:=Ea (Sep.mv (P:=[_,_,_]) (Δ:=[_,_,_,_,_]) (L:=oS.reverse.map iH) z11);subst eT;have z13:=Sep.push (.j2 (.j2 (.t (af (af (ax eo)))))) z12;have z14:=Sep.push (.j2 (.j2 cw)) z13;have z15:=Sep.push (.j2 (.t (af cw))) z14;rw[f8 (f:=ku)];exact z15
 .rintro U H ⟨u3,u4,u5,u6,u7,G,rfl,e,zz⟩;rw[ce,take_length]at e;have hlG:G.length=L.length:=by
   have:=congrArg List.length e
   rwa [ce,ce]at this
  clear z2;right;rename_i C2 H2 z3;intro c dx g1 g2 g3;have z4:Sep (pt C2 (wp (cs.map wf))::pt SM (wp (G.map ku))::(G.map (qp R)++(G.map p9++(pt C (wp (cs.map wf))::pt ML (wp (L.map bK))::(L.map bp++O))))) H2:=by
   have:=Sep.mv (P:=[_,_]) (Δ:=[_,_]) (L:=G.map (qp R)++G.map p9) (O:=L.map bp++O) (H:=H2) (by rw[le];exact z3);rw[le]at this;exact this
  refine qw ro nofun nofun nofun (λq hq=>?_) (λn m a b hn h1 h2=>?_) c0 c60 hc (iw z4 g1 g2 g3) (λM H5 eM z5=>⟨rfl,?_⟩)
  .obtain⟨n,hn⟩:=getElem?_of_mem hq;obtain⟨o,eo,e2⟩:=zA e hn;obtain⟨oi,os,oR,ox⟩:=ok o (cr eo);have a1:q.i=o.i:=congrArg (·.1.1) e2;have a2:q.j=o.j:=congrArg (·.1.2) e2;have a3:q.rs=o.S.map (·.2):=congrArg (·.2.1) e2;unfold Lj;rw[a1,a2,a3,ce];exact⟨oi,os⟩
  .obtain⟨o1,eo1,e1⟩:=zA e h1;obtain⟨o2,eo2,e2⟩:=zA e h2;have a1:a.i=o1.i:=congrArg (·.1.1) e1;have a2:a.j=o1.j:=congrArg (·.1.2) e1;have a3:b.i=o2.i:=congrArg (·.1.1) e2;have a4:b.j=o2.j:=congrArg (·.1.2) e2;have hp:=List.pairwise_iff_getElem.mp (List.pairwise_map.mp hd) n m (tz.mp eo1).1 (tz.mp eo2).1 hn;rw[(tz.mp eo1).2,(tz.mp eo2).2]at hp;have hp:min o1.j o2.j<=max o1.i o2.i:=hp;unfold K7;rw[a1,a2,a3,a4];exact hp
  .right;refine h c M H5 ?_ ?_
   .rw[eM];have:∀ G:List Mh,G.map (vp cs)=(G.map Ic).map (qo cs):=λG=>by rw[List.map_map];rfl
    rw[this,e,List.map_map]
    rfl
   .have e5:G.map DI=L.map dh:=by
     have h1:G.map DI=(G.map Ic).map (·.1):=by rw[List.map_map];rfl
     rw[h1,e,List.map_map]
     rfl
    rw[e5]at z5;exact z5
structure Wm where
 w:Addr
 at_:Int
 x:Bx
 cs:List Int
 ws:List Str
abbrev gp (q:Wm):V:=v6 q.w
abbrev Br (q:Wm):Int×Bx×List Int×List Str:=(q.at_,q.x,q.cs,q.ws)
abbrev uY (q:Mm):Int×Bx×List Int×List Str:=(q.at_,q.x,q.cs,q.ws)
abbrev gh (q:Wm):av:=bx λe:Addr×Addr×Addr=>sA q.w e.1 e.2.1 e.2.2 q.at_ q.x q.cs q.ws []
def Jg {q:Wm}(z:Sep (gh q::O) H):∃ d p lv,Sep (sA q.w d p lv q.at_ q.x q.cs q.ws O) H:=by
 obtain⟨⟨d,p,lv⟩,z1⟩:=fz z;exact⟨d,p,lv,z1⟩
def Hl {q:Wm}{p:Addr}(z:Sep (sA q.w d p lv q.at_ q.x q.cs q.ws O) H):Sep (gh q::O) H:=dS (d,p,lv) z
def wk {ML:Addr}{cs:List Int}(hk:1<=k)(n1:L.length<=4)(ok:∀ q ∈ L,FD cs.length q) (c60:cs.length<=60) (z:Sep (pt C (wp (cs.map wf))::pt ML (wp (L.map bK))::(L.map bp++O)) H)
  (h:∀ WL (W:List Wm) H',W.map Br=L.map (λq=>uY (qo cs (mV q)))->Sep (pt WL (wp (W.map gp))::pt C (wp (cs.map wf))::pt ML (wp (L.map bK))::(W.map gh++(L.map bp++O))) H'->Q (v6 WL) H'):aa tab R k 112 [v6 C,v6 ML] H Q E:=by
 delta fE;right;rename_i WL H1 z1;have z2:Sep (pt WL (wp [])::pt C (wp (cs.map wf))::pt ML (wp (L.map bK))::(L.map bp++O)) H1:=z1;clear z z1;refine bT (xs:=L.map bK) (λj U H=>∃ u3 u4 u5 u6,∃ W:List Wm,U=[some (v6 C),some (v6 ML),some (v6 WL),u3,u4,u5,u6]/\W.map Br=(L.take j).map (λq=>uY (qo cs (mV q)))/\Sep (pt WL (wp (W.map gp))::pt C (wp (cs.map wf))::pt ML (wp (L.map bK))::(W.map gh++(L.map bp++O))) H) ?_ ?_ ?_ ?_
 .exact⟨none,none,none,none,[],rfl,rfl,z2⟩
 .rintro j U H ⟨u3,u4,u5,u6,W,rfl,e,zz⟩;exact aS.of (zz.get .k2)
 .rintro j x U H hx ⟨u3,u4,u5,u6,W,rfl,e,zz⟩;rw[io]at hx;obtain⟨o,eo,rfl⟩:=nw.mp hx;obtain⟨⟨oi0,oi1,oi2⟩,⟨os0,os1⟩,oR,ox⟩:=ok o (cr eo);have hlW:W.length<=4:=by
   have:=congrArg List.length e;rw[ce,ce,db]at this
   omega
  have z3:=yC (zz.pull (.j2 (.t (af (ax eo)))));generalize eT:W.map gh++((L.eraseIdx j).map bp++O)=T at z3;clear zz z2;have z4:Sep (tu o.t [wf o.i,wf o.j,v6 o.SP,v6 o.d]::pt o.SP (wp (o.S.map dR))::ak o.d o.x::pt WL (wp (W.map gp))::pt C (wp (cs.map wf))::pt ML (wp (L.map bK))::(o.S.reverse.map iH++T)) H:=Sep.mv (P:=[_,_,_]) (Δ:=o.S.reverse.map iH) (L:=[_,_,_]) (O:=T) z3;clear z3;left;refine⟨o.t,_,rfl,.inl (a8.of z4.atT),rfl,?_⟩;right;refine⟨WL,_,rfl,z4.get (by symm),?_⟩;right;refine vm (kvs:=xK.zip (o.x.ls.map wf)) z4 (z4.get .k2) (λd2 H2 z5=>?_);have z6:Sep (ak d2 o.x::tu o.t [wf o.i,wf o.j,v6 o.SP,v6 o.d]::pt o.SP (wp (o.S.map dR))::ak o.d o.x::pt WL (wp (W.map gp))::pt C (wp (cs.map wf))::pt ML (wp (L.map bK))::(o.S.reverse.map iH++T)) H2:=z5;clear z4 z5;right;rename_i p H3 z7 b1 H4 z8 lv H5 z9 w H6 z10;have ec:=um (xs:=cs.map wf) (n:=o.i.toNat) (m:=o.j.toNat) (by rw[ce];omega) (by rw[ce];omega);rw[Int.toNat_of_nonneg oi0,Int.toNat_of_nonneg (by omega:0<=o.j),<-map_drop,<-map_take]at ec;have en:(sK (o.j-o.i).toNat [wl "open"]).flatten=(sK (o.j.toNat-o.i.toNat) ("open":Str)).map wl:=by
   have:=ve (x:=wl "open") (n:=o.j.toNat-o.i.toNat);rw[sn]at this;rw[show(o.j-o.i).toNat=o.j.toNat-o.i.toNat by omega,map_replicate];exact this
  rw[ec,en]at z10;refine⟨_,z10.get (by symm),qP z10 (by ac_rfl) (by rw[ce];omega) (λH7 z11=>?_)⟩;right;refine⟨_,_,_,_,W++[⟨w,0,o.x,(cs.drop o.i.toNat).take (o.j.toNat-o.i.toNat),sK (o.j.toNat-o.i.toNat) "open"⟩],rfl,?_,?_⟩
  .rw[bj eo,f8,f8,e]
   rfl
  have z12:Sep (tu o.t [wf o.i,wf o.j,v6 o.SP,v6 o.d]::pt o.SP (wp (o.S.map dR))::ak o.d o.x::pt w (wp [wf 0,v6 d2,v6 p,v6 lv])::ak d2 o.x::pt p (wp (((cs.drop o.i.toNat).take (o.j.toNat-o.i.toNat)).map wf))::pt lv (wp ((sK (o.j.toNat-o.i.toNat) ("open":Str)).map wl))::pt WL (wp (W.map gp++[v6 w]))::pt C (wp (cs.map wf))::pt ML (wp (L.map bK))::(o.S.reverse.map iH++T)) H7:=z11.sub (by ac_nf);have z13:Sep (bp o::pt w (wp [wf 0,v6 d2,v6 p,v6 lv])::ak d2 o.x::pt p (wp (((cs.drop o.i.toNat).take (o.j.toNat-o.i.toNat)).map wf))::pt lv (wp ((sK (o.j.toNat-o.i.toNat) ("open":Str)).map wl))::pt WL (wp (W.map gp++[v6 w]))::pt C (wp (cs.map wf))::pt ML (wp (L.map bK))::T) H7:=Ea (Sep.mv (P:=[_,_,_]) (Δ:=[_,_,_,_,_,_,_]) (L:=o.S.reverse.map iH) z12);subst eT;have z14:=Sep.push (.j2 (.j2 (.j2 (.t (af (ax eo)))))) z13;have z15:=Hl (q:=⟨w,0,o.x,(cs.drop o.i.toNat).take (o.j.toNat-o.i.toNat),sK (o.j.toNat-o.i.toNat) "open"⟩) z14;have z16:=Sep.push (.j2 (.t cw)) z15;rw[f8 (f:=gp)];exact z16
 .rintro U H ⟨u3,u4,u5,u6,W,rfl,e,zz⟩;right;rw[ce,take_length]at e;exact h WL W H e zz
section
variable {t t1 l1 w d p lv:Addr}{at_:Int}{x:Bx}{cs:List Int}{ws:List Str}
def uG (hk:2<=k)(z:Sep (pt t (wr [wf at_,v6 t1,v6 l1])::pt l1 (wp (cs.map wf))::tu t1 (x.ls.map wf)::sA w d p lv at_ x cs ws O) H)
  (q:∀ H',Sep (pt t (wr [wf at_,v6 t1,v6 l1])::pt l1 (wp (cs.map wf))::tu t1 (x.ls.map wf)::sA w d p lv at_ x cs ws O) H'->Q (.bl true) H'):aa tab R k 114 [v6 t,v6 w] H Q E:=by
 delta bZ;left;refine cS (t:="tuple") (Ku z.at) rfl ?_;right;refine cS (t:="list") (yf (by grind)) rfl ?_;right;refine Bo z (z.get (.t .k3)) (λp2 H5 g z5=>?_);rw[yQ]at z5;have z5:Sep (pt p2 (wr (x.ls.map wf))::pt t (wr [wf at_,v6 t1,v6 l1])::pt l1 (wp (cs.map wf))::tu t1 (x.ls.map wf)::sA w d p lv at_ x cs ws O) H5:=z5;clear z;right;rename_i t6 H6 z6;refine sZ (Fc (by grind) z6.at (yl (ns:=x.ls) (by grind) (by grind)) (gQ (cs:=cs) (by grind) (by grind))) (by decide) (λe=>Sep.ne (z6.sub (Γ':=[pt t6 (wr [wf at_,v6 p2,v6 p]),pt t (wr [wf at_,v6 t1,v6 l1])]) (by ac_nf)) e.symm) ?_;right;refine rG (t:="int") nofun rfl ?_;exact q H6 z6.drop.drop
end
def BN {A B:List Int}{a:Nat}{v:Int}(hA:a+n<A.length)(hB:B[n]? =some v):(A.take a++B.take n++A.drop (a+n)).set (a+n) v=A.take a++B.take (n+1)++A.drop (a+(n+1)):=by
 have hn:=(tz.mp hB).1;have hl:(A.take a++B.take n).length=a+n:=by rw[ci,db,db];omega
 rw[List.set_append_right _ _ nofun,hl,Nat.sub_self,List.drop_eq_getElem_cons hA,List.set_cons_zero,take_succ,hB];simp[le,Nat.add_assoc]
structure j7 (cs:List Int) (L:List Mb) (M:List Mm) (W:List Wm):Prop where
 ws:W.map Br=M.map uY
 rs:M.map (·.rs)=L.map (λq=>q.S.map (·.2))
 ok:∀ q ∈ M,lS q
 fit:Dt cs.length (L.map dh) M
def j7.at {cs:List Int}{L:List Mb}{M:List Mm}{W:List Wm}(h:j7 cs L M W){i:Nat}(hi:i<L.length):∃ o q u,L[i]? =some o/\M[i]? =some q/\W[i]? =some u/\Br u=uY q/\q.rs=o.S.map (·.2)/\lS q/\0<=o.i/\o.j<=cs.length/\o.i+q.cs.length=o.j:=by
 have l1:L.length=M.length:=by have:=h.fit.1;rwa [ce]at this
 have l2:W.length=M.length:=by
  have:=congrArg List.length h.ws
  rwa [ce,ce]at this
 have e1:L[i]? =some L[i]:=li hi;have e2:M[i]? =some (M[i]'nofun):=li _;have e3:W[i]? =some (W[i]'nofun):=li _;refine⟨_,_,_,e1,e2,e3,?_,?_,h.ok _ (cr e2),h.fit.2 i _ _ (by rw[io,e1];rfl) e2⟩
 .have h2:(W.map Br)[i]? =(M.map uY)[i]? :=by rw[h.ws]
  rw[io,io,e2,e3]at h2;exact Option.some.inj h2
 .have h2:(M.map (·.rs))[i]? =(L.map (λq=>q.S.map (·.2)))[i]? :=by rw[h.rs]
  rw[io,io,e2,e1]at h2;exact Option.some.inj h2
section
variable {c C ML WL:Addr}{cs:List Int}{ws0:List Str}{L:List Mb}{M:List Mm}{W:List Wm}
def v5 {i:Nat}(h:M[i]? =some q):(M.map du)[i]? =some (v6 q.m):=by rw[io,h];rfl
def vS {i:Nat}{q:Wm}(h:W[i]? =some q):(W.map gp)[i]? =some (v6 q.w):=by rw[io,h];rfl
def L9 {i:Nat}(h:xs[i]? =some v):lH xs (0+(i:Int))=some v:=aF nofun (by rw[show(0+(i:Int)).toNat=i by omega];exact h)
def xj (ro:Ro K R)(hk:6<=k)(hK:j7 cs L M W)(n1:L.length<=4)(c60:cs.length<=60)(z:Sep (pt C (wp (cs.map wf))::pt ML (wp (L.map bK))::pt WL (wp (W.map gp))::di R c cs ws0 (L.map dh) (M.map du)::(M.map (bY R)++(W.map gh++(L.map bp++O)))) H)
  (h:∀ H',Sep (pt C (wp (cs.map wf))::pt ML (wp (L.map bK))::pt WL (wp (W.map gp))::di R c cs ws0 (L.map dh) (M.map du)::(M.map (bY R)++(W.map gh++(L.map bp++O)))) H'->Q (.bl true) H'):aa tab R k 115 [v6 c,v6 C,v6 ML,v6 WL] H Q E:=by
 delta fL;right;rename_i FL H1 z1;rw[ce];clear z;refine kj (λj U H=>∃ u5 u6,U=[some (v6 c),some (v6 C),some (v6 ML),some (v6 WL),some (v6 FL),u5,u6,none]/\Sep (pt FL (wp ((fJ cs (L.map dh) M j).map wf))::pt C (wp (cs.map wf))::pt ML (wp (L.map bK))::pt WL (wp (W.map gp))::di R c cs ws0 (L.map dh) (M.map du)::(M.map (bY R)++(W.map gh++(L.map bp++O)))) H) ⟨none,none,rfl,z1⟩ ?_ ?_
 .rintro j U H hj ⟨u5,u6,rfl,zz⟩;obtain⟨o,q,u,eo,eq,eu,ews,ers,okq,f0,f1,f2⟩:=hK.at (i:=j) nofun;right;refine ab iA zz (by symm) rfl rfl ?_;left;have z2:=(zz.pull (A:=di R c cs ws0 (L.map dh) (M.map du)) (by symm)).pull (.j2 (.j2 (.t (ax eq))));rw[Int.zero_add];refine qI ro nofun (v5 eq) z2 (λt t1 l1 H3 z3=>?_);clear zz z2;have z4:=Sep.push (.j2 (.j2 (.j2 (.j2 (ax eq))))) (z3.pull .k3);have z5:=Jg (z4.pull (.t (.j2 (.j2 (.j2 (.t (af (ax eu)))))) ));obtain⟨d,p,lv,z5⟩:=z5;clear z3 z4;have e1:u.at_=q.at_:=congrArg (·.1) ews;have e2:u.x=q.x:=congrArg (·.2.1) ews;have e3:u.cs=q.cs:=congrArg (·.2.2.1) ews;generalize eT:M.map (bY R)++((W.eraseIdx j).map gh++(L.map bp++O))=T at z5;have z6:Sep (pt t (wr [wf q.at_,v6 t1,v6 l1])::pt l1 (wp (q.cs.map wf))::tu t1 (q.x.ls.map wf)::sA u.w d p lv q.at_ q.x q.cs u.ws (di R c cs ws0 (L.map dh) (M.map du)::pt FL (wp ((fJ cs (L.map dh) M j).map wf))::pt C (wp (cs.map wf))::pt ML (wp (L.map bK))::pt WL (wp (W.map gp))::T)) H3:=by
   rw[e1,e2,e3]at z5;exact z5.sub (by ac_nf)
  clear z5;right;refine aM (z6.get (by symm)) (aF nofun (by rw[sn];exact vS eu)) ?_;right;refine uG nofun z6 (λH4 z7=>?_);have ht:H4 o.t=some (wr [wf o.i,wf o.j,v6 o.SP,v6 o.d]):=by
   rw[<-eT]at z7;exact(yC (z7.pull (.j2 (.j2 (.j2 (.j2 (.j2 (.j2 (af (af (ax eo))))))))))).atT
  have z8:=Sep.Ja ht z7.drop.drop.drop;clear z6 z7;refine ar rfl ?_;right;refine aM (z8.get (by symm)) (aF nofun (by rw[sn];exact vS eu)) ?_;right;have fl:=ki hK.fit j;have e4:fJ cs (L.map dh) M (j+1)=(fJ cs (L.map dh) M j).take o.i.toNat++q.cs++(fJ cs (L.map dh) M j).drop o.j.toNat:=by
   show(match (L.map dh)[j]?,M[j]? with
    |some p,some q=>(fJ cs (L.map dh) M j).take p.1.toNat++q.cs++(fJ cs (L.map dh) M j).drop p.2.toNat
    |_,_=>fJ cs (L.map dh) M j)=_
   rw[io,eo,eq]
   rfl
  generalize fJ cs (L.map dh) M j=F at fl e4 z8;rw[sn,ce];refine kj (λi U H=>∃ u6,U=[some (v6 c),some (v6 C),some (v6 ML),some (v6 WL),some (v6 FL),some (wf (j:Int)),u6,none]/\Sep (tu o.t [wf o.i,wf o.j,v6 o.SP,v6 o.d]::sA u.w d p lv q.at_ q.x q.cs u.ws (di R c cs ws0 (L.map dh) (M.map du)::pt FL (wp ((F.take o.i.toNat++q.cs.take i++F.drop (o.i.toNat+i)).map wf))::pt C (wp (cs.map wf))::pt ML (wp (L.map bK))::pt WL (wp (W.map gp))::T)) H) ⟨_,rfl,?_⟩ ?_ ?_
  .rw[List.take_zero,append_nil,Nat.add_zero,take_append_drop];exact z8
  .rintro i U H hi ⟨u6,rfl,zz⟩;have ei:q.cs[i]? =some q.cs[i]:=li hi;generalize q.cs[i]=v at ei;have lF:(F.take o.i.toNat++q.cs.take i++F.drop (o.i.toNat+i)).length=cs.length:=by
    rw[ci,ci,db,db,jp]
    omega
   right;refine aM (zz.get (by symm)) (aF nofun (by rw[sn];exact vS eu)) ?_;right;refine aM (zz.get (by symm)) (L9 (by rw[io,ei];rfl)) ?_;right;refine aM (zz.get (by symm)) (aF nofun (by rw[sn];exact Em eo)) ?_;right;refine fO (j:=o.i.toNat+i) (ys:=(F.take o.i.toNat++q.cs.take (i+1)++F.drop (o.i.toNat+(i+1))).map wf) zz (by ac_rfl) (by rw[dq nofun (by rw[ce,lF];omega)];congr 1;omega) (by rw[<-BN nofun ei,List.map_set]) (λH5 z9=>?_);right;exact⟨_,rfl,z9⟩
  .rintro U H ⟨u6,rfl,zz⟩;right;refine⟨_,_,rfl,?_⟩;rw[e4,show o.j.toNat=o.i.toNat+q.cs.length by omega];rw[take_of_length_le (re q.cs.length)]at zz;have z9:Sep (sA u.w d p lv u.at_ u.x u.cs u.ws (pt FL (wp ((F.take o.i.toNat++q.cs++F.drop (o.i.toNat+q.cs.length)).map wf))::pt C (wp (cs.map wf))::pt ML (wp (L.map bK))::pt WL (wp (W.map gp))::di R c cs ws0 (L.map dh) (M.map du)::T)) H:=by
    rw[e1,e2,e3];exact zz.drop.sub (by ac_nf)
   have z10:=Hl (q:=u) z9;subst eT;exact Sep.push (.j2 (.j2 (.t (af (ax eu))))) z10
 .rintro U H ⟨u5,u6,rfl,zz⟩;right;rw[sn]at zz;have lM:M.length=L.length:=by have:=hK.fit.1;rw[ce]at this;omega
  refine ab iA zz (by symm) rfl rfl ?_;left;have z2:Sep (di R c cs ws0 (L.map dh) (M.map du)::pt FL (wp ((fJ cs (L.map dh) M L.length).map wf))::pt C (wp (cs.map wf))::pt ML (wp (L.map bK))::pt WL (wp (W.map gp))::(M.map (bY R)++(W.map gh++(L.map bp++O)))) H:=zz.sub (by ac_nf);have z3:=Sep.mv (P:=[_]) (Δ:=[_,_,_,_]) (L:=M.map (bY R)) z2;refine rD ro nofun c60 nofun hK.fit z3 (λA H3 z4=>?_);rw[lM]at z4;clear zz z2 z3;have fl:=ki hK.fit L.length;generalize fJ cs (L.map dh) M L.length=F at fl z4;have z5:Sep (pt A (wp (F.map wf))::di R c cs ws0 (L.map dh) (M.map du)::pt FL (wp (F.map wf))::pt C (wp (cs.map wf))::pt ML (wp (L.map bK))::pt WL (wp (W.map gp))::(M.map (bY R)++(W.map gh++(L.map bp++O)))) H3:=Sep.mv (P:=[_,_]) (Δ:=M.map (bY R)) (L:=[_,_,_,_]) z4;clear z4;left;refine cS (t:="list") (yf z5.at) rfl ?_;right;refine sZ (gQ (cs:=F) z5.at (z5.get .k2)) (by decide) (Sep.ne (z5.sub (Γ':=[pt A (wp (F.map wf)),pt FL (wp (F.map wf))]) (by ac_nf))) ?_;refine aL rfl ?_;right;refine lr (xs:=F.map wf) (by rw[ce];omega) (λD ys H=>ys=(sK ys.length true).map V.bl/\Sep (pt D (wp ys)::pt A (wp (F.map wf))::di R c cs ws0 (L.map dh) (M.map du)::pt FL (wp (F.map wf))::pt C (wp (cs.map wf))::pt ML (wp (L.map bK))::pt WL (wp (W.map gp))::(M.map (bY R)++(W.map gh++(L.map bp++O)))) H) (λD ys H hI=>aS.of (hI.2.get .k1)) (λD hD=>⟨rfl,z5.new (o:=wp []) hD⟩) (λD ys y H hy hI=>?_) (λD ys H hl hI=>?_)
  .obtain⟨e,hs⟩:=hI;have hyl:=(tz.mp hy).1;rw[ce]at hyl;rw[io]at hy;obtain⟨i,hi,rfl⟩:=nw.mp hy;right;refine rG (t:="int") nofun rfl ?_;refine pJ.mk hs.at nofun ⟨?_,hs.set rfl⟩;rw[ci,ge,List.replicate_succ']
   conv=>lhs;rw[e]
   simp[uB]
  obtain⟨e,hs⟩:=hI;left;refine zl (K:=R.K) (bs:=sK ys.length true) rfl (e▸hs.at) ?_;rw[show(sK ys.length true).all id=true by simp];exact h _ (hs.sub (by ac_nf))
end
variable {W:List Wm}
section
variable {q:Mm}{o:Mb}{u:Wm}
def dw {β:Type}{f:α->β}{l:List α}{i:Nat}{x y:α}(h:l[i]? =some x)(e:f y=f x):(l.set i y).map f=l.map f:=by
 rw[List.map_set,e];exact set_same (by rw[io,h];rfl)
def j7.set {cs:List Int}{i:Nat}{q':Mm}{u':Wm}(h:j7 cs L M W)(eq:M[i]? =some q)(eu:W[i]? =some u)(e1:Br u'=uY q')(e2:q'.rs=q.rs)(e3:lS q')(e4:q'.cs.length=q.cs.length):j7 cs L (M.set i q') (W.set i u') where
 ws:=by rw[List.map_set,List.map_set,h.ws,e1]
 rs:=by rw[dw (f:=λq:Mm=>q.rs) eq e2];exact h.rs
 ok:=λa ha=>by
  rcases mem_or_eq_of_mem_set ha with ha|rfl
  .exact h.ok a ha
  .exact e3
 fit:=⟨by rw[length_set];exact h.fit.1,λj p a e5 e6=>by
  by_cases hj:i=j
  .subst hj;rw[getElem?_set_self (tz.mp eq).1]at e6;cases e6;rw[e4];exact h.fit.2 i p q e5 eq
  .rw[getElem?_set_ne hj]at e6;exact h.fit.2 j p a e5 e6⟩
end
section
variable {o:Mb}{u:Wm}{d p lv:Addr}{at_:Int}{x:Bx}{cs:List Int}{ws:List Str}
noncomputable abbrev LA (o:Mb)(O:List av):List av:=tu o.t [wf o.i,wf o.j,v6 o.SP,v6 o.d]::ak o.d o.x::(o.S.reverse.map iH++O)
def Jj (z:Sep (gh u::bp o::O) H):∃ d p lv,Sep (sA u.w d p lv u.at_ u.x u.cs u.ws (pt o.SP (wp (o.S.map dR))::LA o O)) H:=by
 obtain⟨d,p,lv,z1⟩:=Jg z;have z2:=yC (z1.pull (.t .k3));have z3:Sep (tu o.t [wf o.i,wf o.j,v6 o.SP,v6 o.d]::pt o.SP (wp (o.S.map dR))::ak o.d o.x::sA u.w d p lv u.at_ u.x u.cs u.ws (o.S.reverse.map iH++O)) H:=Sep.mv (P:=[_,_,_]) (Δ:=o.S.reverse.map iH) (L:=[_,_,_,_]) (O:=O) z2;exact⟨d,p,lv,z3.sub (by ac_nf)⟩
def JC {w:Addr}(z:Sep (sA w d p lv at_ x cs ws (pt o.SP (wp (o.S.map dR))::LA o O)) H):Sep (gh ⟨w,at_,x,cs,ws⟩::bp o::O) H:=by
 have z6:Sep (tu o.t [wf o.i,wf o.j,v6 o.SP,v6 o.d]::pt o.SP (wp (o.S.map dR))::ak o.d o.x::sA w d p lv at_ x cs ws (o.S.reverse.map iH++O)) H:=z.sub (by ac_nf);have z7:Sep (bp o::sA w d p lv at_ x cs ws O) H:=Ea (Sep.mv (P:=[_,_,_]) (Δ:=[_,_,_,_]) (L:=o.S.reverse.map iH) z6);have z8:Sep (sA w d p lv at_ x cs ws (bp o::O)) H:=z7.sub (by ac_nf);exact Hl (q:=⟨w,at_,x,cs,ws⟩) z8
def zT (oR:∀ r ∈ o.S.map (·.2),Rw.ok r):iz (LA o O) (o.S.map dR) (o.S.map (·.2)):=((qV (S:=o.S) (O:=O) rfl oR).more (A:=ak o.d o.x)).more (A:=tu o.t [wf o.i,wf o.j,v6 o.SP,v6 o.d])
abbrev KP (rs:List Rw)(u:Wm):Wm:=⟨u.w,(mS rs u.at_ u.x u.cs u.ws).at_,(mS rs u.at_ u.x u.cs u.ws).x,(mS rs u.at_ u.x u.cs u.ws).cs,u.ws⟩
def AL (hk:4<=k)(h0:0<=u.at_)(h1:u.at_<=(o.S.map (·.2)).length)(hx:0<=u.x.l)(hl:u.cs.length=u.ws.length)(oR:∀ r ∈ o.S.map (·.2),Rw.ok r) (z:Sep (gh u::bp o::O) H)
  (h:∀ H',Sep (gh (KP (o.S.map (·.2)) u)::bp o::O) H'->Q (wl (mS (o.S.map (·.2)) u.at_ u.x u.cs u.ws).w) H'):aa tab R k 113 [v6 o.SP,v6 u.w] H Q E:=by
 obtain⟨d,p,lv,z1⟩:=Jj z;have hs:=zT (O:=O) oR;exact F6 hk h0 (by rw[hs.1];exact h1) hx hl hs z1 (λH2 z5=>h H2 (JC z5))
end
abbrev nV (i:Nat):V:=wf (i:Int)
abbrev stM (M:List Mm)(i:Nat):List Mm:=match M[i]? with
 |some q=>M.set i (nr q)
 |none=>M
abbrev Bw (M:List Mm)(i:Nat):Str:=match M[i]? with
 |some q=>(mS q.rs q.at_ q.x q.cs q.ws).w
 |none=>""
abbrev aQ:List Mm->List Nat->List Mm
 |M,[]=>M
 |M,i::r=>aQ (stM M i) r
abbrev cf:List Mm->List Nat->List Str
 |_,[]=>[]
 |M,i::r=>Bw M i::cf (stM M i) r
def iq {i:Nat}:∀ {a:List Nat}{M:List Mm},aQ M (a++[i])=stM (aQ M a) i
 | [],M=>rfl
 |j::a,M=>iq (a:=a) (M:=stM M j)
def lY {i:Nat}:∀ {a:List Nat}{M:List Mm},cf M (a++[i])=cf M a++[Bw (aQ M a) i]
 | [],M=>rfl
 |j::a,M=>congrArg (Bw M j::·) (lY (a:=a) (M:=stM M j))
def ie:∀ {a:List Nat}{M:List Mm},(cf M a).length=a.length
 | [],M=>rfl
 |j::a,M=>congrArg (·+1) (ie (a:=a) (M:=stM M j))
def AB (h:lS q):lS (nr q):=let⟨g0,g1,_⟩:=A8 (x:=q.x) (cs:=q.cs) (ws:=q.ws) h.1 h.2.1 h.2.2;⟨g0,g1,h.2.2⟩
def Ba {i:Nat}(ok:∀ q ∈ M,lS q):(stM M i).map du=M.map du/\∀ q ∈ stM M i,lS q:=by
 unfold stM;cases e:M[i]? with
 |none=>exact⟨rfl,ok⟩
 |some q=>
  refine⟨dw e rfl,λa ha=>?_⟩;rcases mem_or_eq_of_mem_set ha with ha|rfl
  .exact ok a ha
  .exact AB (ok q (cr e))
def i4:∀ {a:List Nat}{M:List Mm},(∀ q ∈ M,lS q)->(aQ M a).map du=M.map du/\∀ q ∈ aQ M a,lS q
 | [],M,h=>⟨rfl,h⟩
 |j::a,M,h=>let⟨g1,g2⟩:=i4 (a:=a) (Ba (i:=j) h).2;⟨g1.trans (Ba h).1,g2⟩
def JL {c Ol:Addr}{cs:List Int}{P:List (Int×Int)}(ro:Ro K R)(hk:13<=k)(hl:is.length<=300)(hi:∀ i ∈ is,i<M.length) (ok:∀ q ∈ M,lS q) (z:Sep (pt Ol (wp (is.map nV))::di R c cs ws P (M.map du)::(M.map (bY R)++O)) H)
  (h:∀ D H',Sep (pt D (wp ((cf M is).map wl))::pt Ol (wp (is.map nV))::di R c cs ws P (M.map du)::((aQ M is).map (bY R)++O)) H'->Q (v6 D) H'):aa tab R k 69 [v6 c,v6 Ol] H Q E:=by
 delta nY;right;refine bT (xs:=is.map nV) (λj U H=>∃ u2,U=[some (v6 c),some (v6 Ol),u2]/\Sep (pt Ol (wp (is.map nV))::di R c cs ws P (M.map du)::(M.map (bY R)++O)) H) ⟨none,rfl,z⟩ ?_ ?_ ?_
 .rintro j U H ⟨u2,rfl,zz⟩;exact aS.of zz.at
 .rintro j x U H hx ⟨u2,rfl,zz⟩;rw[io]at hx;obtain⟨i,ei,rfl⟩:=nw.mp hx;right;refine ab iA zz .k1 rfl rfl ?_;left;refine d5 nofun (by rw[ce];exact hi i (cr ei)) zz .k1 ?_;right;exact⟨_,rfl,zz⟩
 .rintro U H ⟨u2,rfl,zz⟩;right;refine lr (xs:=is.map nV) (by rw[ce];omega) (λD ys H=>ys=(cf M (is.take ys.length)).map wl/\Sep (pt D (wp ys)::pt Ol (wp (is.map nV))::di R c cs ws P (M.map du)::((aQ M (is.take ys.length)).map (bY R)++O)) H) (λD ys H hI=>aS.of (hI.2.get .k1)) (λD hD=>⟨rfl,zz.new (o:=wp []) hD⟩) (λD ys y H hy hI=>?_) (λD ys H hl2 hI=>?_)
  .obtain⟨e1,z2⟩:=hI;rw[io]at hy;obtain⟨i,ei,rfl⟩:=nw.mp hy;have hj:=(tz.mp ei).1;obtain⟨g1,g2⟩:=i4 (a:=is.take ys.length) ok;have hlen:(aQ M (is.take ys.length)).length=M.length:=by
    have:=congrArg List.length g1
    rwa [ce,ce]at this
   have eq:(aQ M (is.take ys.length))[i]? =some ((aQ M (is.take ys.length))[i]'(by rw[hlen];exact hi i (cr ei))):=li _;generalize (aQ M (is.take ys.length))[i]'(by rw[hlen];exact hi i (cr ei))=q at eq;have es:aQ M (is.take (ys.length+1))=(aQ M (is.take ys.length)).set i (nr q):=by
    rw[bj ei,iq];unfold stM;rw[eq]
   have ew:cf M (is.take (ys.length+1))=cf M (is.take ys.length)++[(mS q.rs q.at_ q.x q.cs q.ws).w]:=by
    rw[bj ei,lY];unfold Bw;rw[eq]
   right;refine ab iA z2 .k2 rfl rfl ?_;left;have z3:Sep (bY R q::di R c cs ws P (M.map du)::pt D (wp ys)::pt Ol (wp (is.map nV))::(((aQ M (is.take ys.length)).eraseIdx i).map (bY R)++O)) H:=(z2.pull (.j2 (.t (ax eq)))).sub (by ac_nf);refine vJ (i:=i) ro nofun (by rw[<-g1,io,eq];rfl) (g2 q (cr eq)) z3 (λH2 z4=>?_);refine pJ.mk (z4.get (by symm)) nofun ⟨?_,?_⟩
   .rw[ci,ge,ew,f8,<-e1]
    rfl
   .have z5:=(z4.pull (A:=pt D (wp ys)) (by symm)).set (o':=wp (ys++[wl (mS q.rs q.at_ q.x q.cs q.ws).w])) rfl;rw[ci,ge,es];exact Sep.push (.j2 (.t (d7 eq))) (z5.sub (Γ':=bY R (nr q)::pt D _::pt Ol _::di R c cs ws P (M.map du)::_) (by ac_nf))
  .obtain⟨e1,z2⟩:=hI;rw[ce]at hl2;rw[hl2,take_length]at e1 z2;right;rw[e1]at z2;exact h D H z2
def KI (z:Sep (bY R q::O) H):0<=q.x.l/\q.cs.length=q.ws.length/\q.cs.length<=60:=by
 obtain⟨l,s,b,L,eL,z1⟩:=A7 z;exact⟨(lp z1 .k2).2.2.1.1,(cC z1 .k1).1,(cC z1 .k1).2.2.1⟩
section
variable {b:Mm}{u:Wm}
def Hu (e:Br u=uY b)(er:b.rs=rs):Br (KP rs u)=uY (nr b)/\(mS rs u.at_ u.x u.cs u.ws).w=(mS b.rs b.at_ b.x b.cs b.ws).w:=by
 have e1:u.at_=b.at_:=congrArg (·.1) e;have e2:u.x=b.x:=congrArg (·.2.1) e;have e3:u.cs=b.cs:=congrArg (·.2.2.1) e;have e4:u.ws=b.ws:=congrArg (·.2.2.2) e;subst er;refine⟨?_,by rw[e1,e2,e3,e4]⟩;show((mS b.rs u.at_ u.x u.cs u.ws).at_,(mS b.rs u.at_ u.x u.cs u.ws).x,(mS b.rs u.at_ u.x u.cs u.ws).cs,u.ws)=((mS b.rs b.at_ b.x b.cs b.ws).at_,(mS b.rs b.at_ b.x b.cs b.ws).x,(mS b.rs b.at_ b.x b.cs b.ws).cs,b.ws);rw[e1,e2,e3,e4]
end
abbrev vY:Nat->Mm->Mm
 |0,q=>q
 |n+1,q=>vY n (nr q)
abbrev Ks:Nat->Mm->List Str
 |0,_=>[]
 |n+1,q=>(mS q.rs q.at_ q.x q.cs q.ws).w::Ks n (nr q)
def pk:∀ {n:Nat}{q:Mm},bh (vY n q)=vY n (bh q)
 |0,_=>rfl
 |n+1,q=>pk (n:=n) (q:=nr q)
def pC:∀ {n:Nat}{q:Mm},Ks n (bh q)=Ks n q
 |0,_=>rfl
 |n+1,q=>congrArg (_::·) (pC (n:=n) (q:=nr q))
def Cv (h:(mS q.rs q.at_ q.x q.cs q.ws).w≠"on"):nr q=q:=by
 unfold nr;unfold mS at h⊢
 split at h
 .rfl
 .split at h
  .exact absurd rfl h
  .rfl
def vP {q:Mm}(h:nr q=q):∀ {n:Nat},vY n q=q
 |0=>rfl
 |n+1=>by rw[vY,h];exact vP h
def zu:∀ {n:Nat}{q:Mm},Ig n q=vY n q
 |0,_=>rfl
 |n+1,q=>by
  by_cases e:(mS q.rs q.at_ q.x q.cs q.ws).w="on"
  .rw[vY,<-zu];unfold Ig;rw[rN,if_pos e]
   rfl
  .rw[vP (Cv e)];unfold Ig;rw[rN,if_neg e]
def sW {i j:Nat}(h:M[i]? =some q):(stM M j)[i]? =some (if j=i then nr q else q):=by
 unfold stM
 split
 .rename_i q2 e
  by_cases g:j=i
  .subst g;rw[h]at e;cases e;rw[if_pos rfl,getElem?_set_self (tz.mp h).1]
  .rw[if_neg g,getElem?_set_ne g,h]
 .rename_i e;rw[if_neg (λg=>by subst g;rw[h]at e;cases e),h]
def lU {i:Nat}:∀ {a:List Nat}{M:List Mm}{q:Mm},M[i]? =some q->(aQ M a)[i]? =some (vY (a.count i) q)
 | [],M,q,h=>h
 |j::a,M,q,h=>by
  rw[aQ,lU (sW h),List.count_cons]
  by_cases g:j=i
  .subst g;rw[if_pos rfl,beq_self_eq_true,if_pos rfl];rfl
  .rw[if_neg g,if_neg (by rw[beq_iff_eq];exact g),Nat.add_zero]
def dA:∀ {a:List Nat}{M:List Mm},(aQ M a).length=M.length
 | [],M=>rfl
 |j::a,M=>by
  rw[aQ,dA];unfold stM
  split
  .rw[length_set]
  .rfl
def og:∀ {a:List Nat}{M:List Mm},(aQ M a).map bh=aQ (M.map bh) a
 | [],M=>rfl
 |j::a,M=>by
  rw[aQ,aQ,og]
  congr 1
  unfold stM;rw[io];cases e:M[j]? with
  |none=>rfl
  |some q=>exact List.map_set
def Ag {a b:List Nat}(h:∀ i,i<M.length->a.count i=b.count i):aQ M a=aQ M b:=by
 refine List.ext_getElem? λi=>?_
 cases e:M[i]? with
 |none=>
  have:=List.getElem?_eq_none_iff.mp e;rw[getElem?_eq_none (by rw[dA];exact this),getElem?_eq_none (by rw[dA];exact this)]
 |some q=>rw[lU e,lU e,h i (tz.mp e).1]
def qh:∀ {a b:List Nat}{M:List Mm},aQ M (a++b)=aQ (aQ M a) b
 | [],b,M=>rfl
 |j::a,b,M=>qh (a:=a) (M:=stM M j)
def vj:∀ {a b:List Nat}{M:List Mm},cf M (a++b)=cf M a++cf (aQ M a) b
 | [],b,M=>rfl
 |j::a,b,M=>congrArg (Bw M j::·) (vj (a:=a) (M:=stM M j))
def vq {i:Nat}:∀ {n:Nat}{M:List Mm}{q:Mm},M[i]? =some q->aQ M (sK n i)=M.set i (vY n q)
 |0,M,q,h=>by
  obtain⟨h1,h2⟩:=tz.mp h;subst h2;exact(List.set_getElem_self h1).symm
 |n+1,M,q,h=>by
  rw[replicate_succ,aQ,vq (by rw[sW h,if_pos rfl])];unfold stM;rw[h];exact List.set_set ..
abbrev gi (i:Nat):List Nat->List Str->List Str
 | [],_=>[]
 |_::_,[]=>[]
 |j::a,w::b=>if j=i then w::gi i a b else gi i a b
def pe {i:Nat}:∀ {a:List Nat}{M:List Mm}{q:Mm},M[i]? =some q->gi i a (cf M a)=Ks (a.count i) q
 | [],M,q,h=>rfl
 |j::a,M,q,h=>by
  rw[cf,gi,pe (sW h),List.count_cons]
  by_cases g:j=i
  .subst g;rw[if_pos rfl,if_pos rfl,beq_self_eq_true,if_pos rfl,Ks];unfold Bw;rw[h]
  .rw[if_neg g,if_neg g,if_neg (by rw[beq_iff_eq];exact g),Nat.add_zero]
def qi {cs:List Int}{P:List (Int×Int)}{M:List Mm}:∀ {n:Nat},fJ cs P M n=fJ cs P (M.map bh) n
 |0=>rfl
 |n+1=>by
  rw[fJ,fJ,<-qi,io];cases P[n]? <;>cases M[n]? <;>rfl
def uJ {N:List Mm}(e:M.map bh=N.map bh){i:Nat}(h:M[i]? =some q):∃ p,N[i]? =some p/\bh p=bh q:=by
 have h2:(M.map bh)[i]? =(N.map bh)[i]? :=by rw[e]
 rw[io,io,h]at h2;obtain⟨p,g1,g2⟩:=nw.mp h2.symm;exact⟨p,g1,g2⟩
def j7.alt {cs:List Int}{N:List Mm}(h:j7 cs L M W)(e:N.map bh=M.map bh):j7 cs L N W:=by
 have f1:∀ l:List Mm,l.map uY=(l.map bh).map uY:=λl=>by rw[List.map_map];rfl
 have f2:∀ l:List Mm,l.map (·.rs)=(l.map bh).map (·.rs):=λl=>by rw[List.map_map];rfl
 refine⟨by rw[h.ws,f1,f1 N,e],by rw[<-h.rs,f2,f2 M,e],λq hq=>?_,?_,λi p q e1 e2=>?_⟩
 .obtain⟨n,hn⟩:=getElem?_of_mem hq;obtain⟨p,g1,g2⟩:=uJ e hn;have:=h.ok p (cr g1);have a1:p.at_=q.at_:=(congrArg Mm.at_ g2:(bh p).at_=(bh q).at_);have a2:p.rs=q.rs:=(congrArg Mm.rs g2:(bh p).rs=(bh q).rs);unfold lS at this⊢;rw[<-a1,<-a2];exact this
 .have:=congrArg List.length e;rw[ce,ce]at this;rw[this];exact h.fit.1
 .obtain⟨o,g1,g2⟩:=uJ e e2;have a1:o.cs=q.cs:=(congrArg Mm.cs g2:(bh o).cs=(bh q).cs);rw[<-a1];exact h.fit.2 i p o e1 g1
section
variable {cs:List Int}{L:List Mb}{c C ML WL:Addr}{M:List Mm}{W:List Wm}
abbrev aC (R:Rt)(cs:List Int)(L:List Mb)(c:Addr)(M:List Mm):av:=bx λ_:Unit=>di R c cs (sK cs.length "open") (L.map dh) (M.map du)::M.map (bY R)
abbrev jc (cs:List Int)(C ML:Addr)(L:List Mb):av:=bx λ_:Unit=>pt C (wp (cs.map wf))::pt ML (wp (L.map bK))::L.map bp
abbrev mf (WL:Addr)(W:List Wm):av:=bx λ_:Unit=>pt WL (wp (W.map gp))::W.map gh
def lx (z:Sep (aC R cs L c M::O) H):Sep (di R c cs (sK cs.length "open") (L.map dh) (M.map du)::(M.map (bY R)++O)) H:=let⟨_,z⟩:=fz z;z
def lR (z:Sep (jc cs C ML L::O) H):Sep (pt C (wp (cs.map wf))::pt ML (wp (L.map bK))::(L.map bp++O)) H:=let⟨_,z⟩:=fz z;z
def Es (z:Sep (mf WL W::O) H):Sep (pt WL (wp (W.map gp))::(W.map gh++O)) H:=let⟨_,z⟩:=fz z;z
def kD (z:Sep (di R c cs (sK cs.length "open") (L.map dh) (M.map du)::(M.map (bY R)++O)) H):Sep (aC R cs L c M::O) H:=dS () z
def sL (z:Sep (pt C (wp (cs.map wf))::pt ML (wp (L.map bK))::(L.map bp++O)) H):Sep (jc cs C ML L::O) H:=dS () z
def As (z:Sep (pt WL (wp (W.map gp))::(W.map gh++O)) H):Sep (mf WL W::O) H:=dS () z
def jM:Ob R (aC R cs L c M) c 19 ["ground","parts","machines"]:=by
 rintro H D ⟨_,D1,D2,_,_,_,hA,_⟩;exact iA _ _ hA
def oY (ro:Ro K R)(hk:10<=k)(n0:1<=L.length)(n1:L.length<=4)(ok:∀ q ∈ L,FD cs.length q) (hd:(L.map dh).Pairwise dj) (c0:1<=cs.length) (c60:cs.length<=60) (hc:cD cs) (z:Sep (jc cs C ML L::O) H)
  (h:∀ c (M:List Mm) H',M.map bh=L.map (λq=>qo cs (mV q))->Sep (aC R cs L c M::jc cs C ML L::O) H'->Q (v6 c) H'):aa tab R k 111 [v6 C,v6 ML] H Q E:=by
 refine CV ro hk n0 n1 ok hd c0 c60 hc (lR z) (λc M H' e z1=>h c M H' e ?_);exact(sL (Sep.mv (P:=[]) (Δ:=[aC R cs L c M]) (L:=pt C (wp (cs.map wf))::pt ML (wp (L.map bK))::L.map bp) (kD z1))).pull .k1
def DN {i:Nat}(ro:Ro K R)(hk:12<=k)(eq:M[i]? =some q)(ok:lS q)(z:Sep (aC R cs L c M::O) H)(h:∀ H',Sep (aC R cs L c (M.set i (nr q))::O) H'->Q (wl (mS q.rs q.at_ q.x q.cs q.ws).w) H'):aa tab R k 66 [v6 c,wf i] H Q E:=by
 refine vJ ro hk (v5 eq) ok ((lx z).pull (.t (ax eq))) (λH' z2=>h H' (kD ?_));rw[dw (f:=du) eq (y:=nr q) rfl];exact Sep.push (.t (d7 eq)) z2
def GP {i:Nat}(ro:Ro K R)(hk:13<=k)(eq:M[i]? =some q)(ok:lS q)(z:Sep (aC R cs L c M::O) H)(h:∀ v H',Sep (aC R cs L c (M.set i (vY n q))::O) H'->Q v H'):aa tab R k 67 [v6 c,wf i,wf n] H Q E:=by
 refine Fl ro hk (v5 eq) ok ((lx z).pull (.t (ax eq))) (λt H' z2=>h _ H' (kD ?_));rw[<-zu,dw (f:=du) eq (y:=Ig n q) rfl];exact Sep.push (.t (d7 eq)) z2.drop
def si {i:Nat}(ro:Ro K R)(hk:4<=k)(eq:M[i]? =some q)(z:Sep (aC R cs L c M::O) H)
  (h:∀ t t1 l1 H',Sep (pt t (wr [wf q.at_,v6 t1,v6 l1])::pt l1 (wp (q.cs.map wf))::tu t1 (q.x.ls.map wf)::aC R cs L c M::O) H'->Q (v6 t) H'):aa tab R k 68 [v6 c,wf i] H Q E:=by
 refine qI ro hk (v5 eq) ((lx z).pull (.t (ax eq))) (λt t1 l1 H' z2=>h t t1 l1 H' ?_);have z3:=Sep.push (.j2 (.j2 (ax eq))) (z2.pull (A:=bY R q) .k3);have z4:Sep (aC R cs L c M::pt t (wr [wf q.at_,v6 t1,v6 l1])::pt l1 (wp (q.cs.map wf))::tu t1 (q.x.ls.map wf)::O) H':=kD (Sep.mv (P:=[]) (Δ:=[_,_,_]) (L:=_::M.map (bY R)) z3);exact z4.sub (by ac_nf)
def EO {Ol:Addr}(ro:Ro K R)(hk:13<=k)(hl:is.length<=300)(hi:∀ i ∈ is,i<M.length) (ok:∀ q ∈ M,lS q) (z:Sep (aC R cs L c M::pt Ol (wp (is.map nV))::O) H)
  (h:∀ D H',Sep (pt D (wp ((cf M is).map wl))::aC R cs L c (aQ M is)::pt Ol (wp (is.map nV))::O) H'->Q (v6 D) H'):aa tab R k 69 [v6 c,v6 Ol] H Q E:=by
 refine JL ro hk hl hi ok ((lx z).pull (.t (af .e))) (λD H' z2=>h D H' ?_);rw[<-(i4 (a:=is) ok).1]at z2;have z4:Sep (aC R cs L c (aQ M is)::pt D (wp ((cf M is).map wl))::pt Ol (wp (is.map nV))::O) H':=kD (Sep.mv (P:=[]) (Δ:=[_,_]) (L:=_::(aQ M is).map (bY R)) z2);exact z4.pull .k1
def rC (ro:Ro K R)(hk:4<=k)(c60:cs.length<=60)(n1:M.length<=4)(f:Dt cs.length (L.map dh) M)(z:Sep (aC R cs L c M::O) H)
  (h:∀ A H',Sep (pt A (wp ((fJ cs (L.map dh) M M.length).map wf))::aC R cs L c M::O) H'->Q (v6 A) H'):aa tab R k 70 [v6 c] H Q E:=
 rD ro hk c60 n1 f (lx z) (λA H' z2=>h A H' ((kD (Sep.mv (P:=[]) (Δ:=[_]) (L:=_::M.map (bY R)) z2)).pull .k1))
end
@[irreducible] noncomputable def EB (I:Nat->Addr->List V->Hp->Prop) (j:Nat) (D:Addr):VK:=λv H4=>∃ zs,H4 D=some (wp zs)/\zs.length<PySem.sizeLine/\∃ ys2,I (j+1) D ys2 (upd H4 D (wp (zs++[v])))
def EB.mk {j:Nat}(h1:H3 D=some (wp ys))(hl:ys.length<=999)(h2:I (j+1) D (ys++[v]) (upd H3 D (wp (ys++[v])))):EB I j D v H3:=by
 unfold EB;exact⟨ys,h1,cx nofun,ys++[v],h2⟩
@[irreducible] noncomputable def yv (I:Nat->Addr->List V->Hp->Prop) (te:TE) (j:Nat) (D:Addr) (rest:St) (x:V):Bool->Hp->Prop:=λb H3=>(b=true->te (some x::rest) H3 λv H4=>EB I j D v H4)/\(b=false->∃ ys2,I (j+1) D ys2 H3)
def yv.t {j:Nat}{x:V}{c:Bool}(e:c=true)(h:te (some x::rest) H3 λv H4=>EB I j D v H4):yv I te j D rest x c H3:=by
 unfold yv;exact⟨λ_=>h,λz=>(by rw[e]at z;cases z)⟩
def yv.f {j:Nat}{x:V}{c:Bool}(e:c=false)(h:I (j+1) D ys H3):yv I te j D rest x c H3:=by
 unfold yv;exact⟨λz=>(by rw[e]at z;cases z),λ_=>⟨ys,h⟩⟩
def DK {tc:TT}(I:Nat->Addr->List V->Hp->Prop)(h0:∀ D,H D=none->I 0 D [] (upd H D (wp [])))
  (hs:∀ j D ys H',j<n->I j D ys H'->tc (some (wf (0+(j:Nat)))::rest) H' (yv I te j D rest (wf (0+(j:Nat)))))
  (hd:∀ D ys H',I n D ys H'->Q (v6 D) H'):F4 tc te (G0 0 n) (none::rest) H Q:=by
 unfold F4;intro D hD;refine⟨λi m σ' H'=>m=n-i/\i<=n/\∃ ys x0,σ'=x0::rest/\I i D ys H',⟨n,by simp,Nat.zero_le _,[],none,rfl,h0 D hD⟩,λi m σ' H' ⟨e,hi,ys,x0,e1,h⟩=>?_⟩;subst e1
 by_cases hlt:i<n
 .refine .inr ⟨hlt,λσ2 H2=>∃ ys2 x2,σ2=x2::rest/\I (i+1) D ys2 H2,λσ2 H2 ⟨ys2,x2,f1,f3⟩=>⟨n-(i+1),by omega,rfl,hlt,ys2,x2,f1,f3⟩,λx H'' y=>?_⟩;obtain⟨e1,e2⟩:=y;subst e1 e2;have z:=hs i D ys H'' hlt h;have e:yv I te i D rest (wf (0+(i:Nat)))=λb H3=>(b=true->te (some (wf (0+(i:Nat)))::rest) H3 λv H4=>∃ zs,H4 D=some (wp zs)/\zs.length<PySem.sizeLine/\∃ ys2 x2,some (wf (0+(i:Nat)))::rest=x2::rest/\I (i+1) D ys2 (upd H4 D (wp (zs++[v]))))/\(b=false->∃ ys2 x2,some (wf (0+(i:Nat)))::rest=x2::rest/\I (i+1) D ys2 H3):=by
   funext b H3
   unfold yv;have e2:(λv H4=>EB I i D v H4)=λv H4=>∃ zs,H4 D=some (wp zs)/\zs.length<PySem.sizeLine/\∃ ys2 x2,some (wf (0+(i:Nat)))::rest=x2::rest/\I (i+1) D ys2 (upd H4 D (wp (zs++[v]))):=by
    funext v H4
    unfold EB;exact propext ⟨λ⟨zs,a,b,ys2,c⟩=>⟨zs,a,b,ys2,_,rfl,c⟩,λ⟨zs,a,b,ys2,_,_,c⟩=>⟨zs,a,b,ys2,c⟩⟩
   rw[e2];exact propext ⟨λ⟨p,q⟩=>⟨p,λz=>let⟨y,w⟩:=q z;⟨y,_,rfl,w⟩⟩,λ⟨p,q⟩=>⟨p,λz=>let⟨y,_,_,w⟩:=q z;⟨y,w⟩⟩⟩
  rw[e]at z;exact z
 .have:i=n:=by omega
  subst this;exact .inl ⟨re _,hd D ys H' h⟩
def Cm {m:Nat}(h:n<=xs.length):dQ xs (some (n:Int)) (some (m:Int))=(xs.drop n).take (m-n):=by
 by_cases g:m<=xs.length
 .exact um h g
 .unfold dQ;show(xs.drop (if(n:Int)<0 then((n:Int)+(xs.length:Int)).toNat else min (n:Int).toNat xs.length)).take ((if(m:Int)<0 then((m:Int)+(xs.length:Int)).toNat else min (m:Int).toNat xs.length)-(if(n:Int)<0 then((n:Int)+(xs.length:Int)).toNat else min (n:Int).toNat xs.length))=_;rw[if_neg (by omega:¬ (n:Int)<0),if_neg (by omega:¬ (m:Int)<0),sn,sn,Nat.min_eq_left h,Nat.min_eq_right nofun,take_of_length_le (by rw[jp];omega),take_of_length_le (by rw[jp];omega)]
def Fw {b:Addr}(h1:H a=some (wp xs))(h2:H b=some (wp [])):gm R.K H 2 (v6 a) (v6 b) xs.isEmpty:=by
 cases xs with
 |nil=>exact gQ (cs:=[]) h1 h2
 |cons x xs=>exact .lln (aS.of h1) (aS.of h2) (by simp)
def rY:∀ {l:List Nat}{i:Nat}(h:i<l.length),(l[i]::l.eraseIdx i).Perm l
 |x::l,0,_=>.refl _
 |x::l,i+1,h=>(List.Perm.swap x _ _).trans ((rY (l:=l) (Nat.lt_of_succ_lt_succ h)).cons x)
def vL {f:Nat->V}:∀ {l:List Nat}{i:Nat},(l.map f).eraseIdx i=(l.eraseIdx i).map f
 | [],_=>rfl
 |x::l,0=>rfl
 |x::l,i+1=>congrArg (f x::·) vL
def CI {i:Nat}{y:V}(s:Sep O H)(r:aO (pt a (wp xs)) (pt a (wp (xs.eraseIdx i))) O Γ')(hy:xs[i]? =some y)(hl:xs.length<=10000)(h:∀ H',Sep Γ' H'->Q y H'):AD .pop a xs [wf i] H Q:=by
 unfold AD;exact .inl ⟨_,rfl,by omega,hl,y,by rw[sn];exact hy,h _ (s.put r rfl)⟩
section
variable {h Ol c:Addr}{m:Int}{is:List Nat}{cs:List Int}{L:List Mb}{M:List Mm}
def D9 (hk:2<=k)(hm:m<=1099510000000)(hl:is.length<=300)(z:Sep (hand h m::pt Ol (wp (is.map nV))::O) H)
  (q:∀ D (js:List Nat) H',js.Perm is->Sep (pt D (wp (js.map nV))::hand h (m+300)::pt Ol (wp (is.map nV))::O) H'->Q (v6 D) H'):aa tab R k 116 [v6 h,v6 Ol] H Q E:=by
 delta gA;right;rename_i A H1 z1 F H2 z2;refine⟨λμ U H=>∃ ls fs:List Nat,μ=ls.length/\(ls++fs).Perm is/\U=[some (v6 h),some (v6 Ol),some (v6 A),some (v6 F)]/\Sep (pt F (wp (fs.map nV))::pt A (wp (ls.map nV))::hand h (m+(fs.length:Int))::pt Ol (wp (is.map nV))::O) H,⟨_,is,[],rfl,by rw[append_nil],rfl,?_⟩,?_⟩
 .exact((aj (n:=m+((0:Nat):Int)) (z2.pull .k2) nofun).pull .k2).pull .k2
 rintro μ U H ⟨ls,fs,rfl,hp,rfl,zz⟩;have hlen:=hp.length_eq;rw[ci]at hlen;clear z z1 z2;right;rename_i B H3 z3;refine ue (Fw (z3.get .k2) z3.at) (by decide) (λe=>Sep.ne (z3.sub (Γ':=[pt B (wp []),pt A (wp (ls.map nV))]) (by ac_nf)) e.symm) ?_;cases ls with
 |nil=>
  refine ar rfl ?_;right;exact q F fs H3 hp ((aj (n:=m+300) (z3.pull .k3) (by rw[length_nil]at hlen;omega)).sub (by ac_nf))
 |cons l0 ls=>
  refine aL rfl ?_;refine⟨λU H=>∃ m',m'<(l0::ls).length/\_,λ_ _ h=>h,?_⟩;generalize el:(l0::ls)=l1 at hp hlen z3;have hl1:l1.length=ls.length+1:=by rw[<-el];rfl
  right;refine⟨F,_,rfl,z3.get .k1,?_⟩;right;refine⟨A,_,rfl,z3.get .k2,?_⟩;right;rw[ce];refine kU nofun (z3.pull .k3) nofun nofun nofun (λr H4 r0 r1 z4=>?_);obtain⟨r,rfl⟩:=sw r0;have hr:r<l1.length:=by omega
  refine⟨_,z4.get .k3,CI (y:=nV l1[r]) z4 .k3 (by rw[io,li hr];rfl) (by rw[ce];omega) (λH5 z5=>?_)⟩;right;refine⟨_,z5.get .k2,qP z5 .k2 (by rw[ce];omega) (λH6 z6=>?_)⟩;right;refine⟨ls.length,by omega,l1.eraseIdx r,fs++[l1[r]],by rw[List.length_eraseIdx_of_lt hr];omega,?_,rfl,?_⟩
  .refine List.Perm.trans ?_ hp;rw[<-le];refine(List.perm_append_comm (l₂:=[l1[r]])).trans ?_;exact(rY hr).append_right fs
  .rw[ci,ge,f8,<-vL];exact((((aj (n:=m+((fs.length+1:Nat):Int)) z6 nofun).pull .k1).drop.pull .k2).pull .k2)
def xo (ro:Ro K R)(hk:14<=k)(hm:m<=1099510000000)(hl:is.length<=300)(hi:∀ i ∈ is,i<M.length) (ok:∀ q ∈ M,lS q) (z:Sep (hand h m::aC R cs L c M::pt Ol (wp (is.map nV))::O) H)
  (q:∀ D H',Sep (pt D (wp ((cf M is).map wl))::hand h (m+600)::aC R cs L c (aQ M is)::pt Ol (wp (is.map nV))::O) H'->Q (v6 D) H'):aa tab R k 117 [v6 h,v6 c,v6 Ol] H Q E:=by
 delta dG;right;rename_i A H1 z1;refine⟨λμ U H=>∃ a:Nat,∃ A u5,μ=is.length-a/\U=[some (v6 h),some (v6 c),some (v6 Ol),some (v6 A),some (wf (a:Int)),u5]/\Sep (pt A (wp ((cf M (is.take a)).map wl))::hand h (m+2*((min a is.length:Nat):Int))::aC R cs L c (aQ M (is.take a))::pt Ol (wp (is.map nV))::O) H,⟨_,0,A,none,rfl,rfl,?_⟩,?_⟩
 .exact(aj (n:=m+2*((min 0 is.length:Nat):Int)) (z1.pull .k1) nofun).pull .k1
 rintro μ U H ⟨a,A,u5,rfl,rfl,zz⟩;clear z z1;right;rw[ce];refine ay (λg=>?_) (λg=>?_)
 .refine⟨λU H=>∃ m',m'<is.length-a/\_,λ_ _ h=>h,?_⟩;walk_at "gd";rename_i B H3 z3 r H4 r0 r1 z4;clear zz z3;rw[ce]at z4;obtain⟨v,e2,N,rfl,N0,N1⟩:=dE (xs:=[wf (is.length:Int),wf 5]) (P:=inR 1 300) (r:=r) r0 (by simpa using r1) (J8 (.mk nofun nofun) (.mk (by decide) (by decide)));refine aM (z4.get .k1) e2 ?_;right;refine kU nofun z4 nofun nofun nofun (λs H5 s0 s1 z5=>?_);clear z4;obtain⟨s,rfl⟩:=sw s0;right;refine ab jM z5 .k3 rfl rfl ?_;right;rename_i S H6 z6;clear z5;have ec:dQ (is.map nV) (some (a:Int)) (some ((a:Int)+(1+(s:Int))))=((is.drop a).take (1+s)).map nV:=by
   rw[show(a:Int)+(1+(s:Int))=((a+(1+s):Nat):Int) by omega,Cm (by rw[ce];omega),Nat.add_sub_cancel_left,<-map_drop,<-map_take]
  rw[ec]at z6;have ok2:=i4 (a:=is.take a) ok;refine EO ro nofun (by rw[db,jp];omega) (λi hh=>by rw[dA];exact hi i (mem_of_mem_drop (mem_of_mem_take hh))) ok2.2 (z6.sub (Γ':=aC R cs L c (aQ M (is.take a))::pt S (wp (((is.drop a).take (1+s)).map nV))::pt A (wp ((cf M (is.take a)).map wl))::hand h (m+2*((min a is.length:Nat):Int)+1+1)::pt Ol (wp (is.map nV))::O) (by ac_nf)) (λD H7 z7=>?_);clear z6;rw[<-qh,<-take_add]at z7;left;refine rm z7 (z7.get .k3) z7.at (by rw[ce,ce,ie,ie,db,db];omega) (λD2 H8 z8=>?_);rw[<-f8,<-vj,<-take_add]at z8;right;refine⟨is.length-(a+(1+s)),by omega,a+(1+s),D2,some (wf (1+(s:Int))),rfl,?_,?_⟩
  .rw[show(a:Int)+(1+(s:Int))=((a+(1+s):Nat):Int) by omega]
   rfl
  .have z9:Sep (hand h (m+2*((min a is.length:Nat):Int)+1+1)::pt D2 (wp ((cf M (is.take (a+(1+s)))).map wl))::aC R cs L c (aQ M (is.take (a+(1+s))))::pt Ol (wp (is.map nV))::O) H8:=z8.sub (by ac_nf);exact(aj (n:=m+2*((min (a+(1+s)) is.length:Nat):Int)) z9 nofun).pull .k1
 .right;rw[take_of_length_le nofun]at zz;exact q A H ((aj (n:=m+600) (zz.pull .k1) nofun).pull .k1)
def nh {i j:Nat}{w:Str}:∀ {a:List Nat}{b:List Str},a.length=b.length->gi i (a++[j]) (b++[w])=gi i a b++if j=i then[w] else[]
 | [],[],_=>by
  rw[nil_append,nil_append,gi,gi]
  split<;>rfl
 |x::a,y::b,e=>by
  have ih:=nh (i:=i) (j:=j) (w:=w) (Nat.succ.inj e);rw[cons_append,cons_append,gi,gi,ih]
  split
  .rfl
  .rfl
def JQ {Wl:Addr}{i:Nat}(hk:2<=k)(hl:is.length<=300)(hw:ws.length=is.length)(z:Sep (pt Ol (wp (is.map nV))::pt Wl (wp (ws.map wl))::O) H)
  (q:∀ D H',Sep (pt D (wp ((gi i is ws).map wl))::pt Ol (wp (is.map nV))::pt Wl (wp (ws.map wl))::O) H'->Q (v6 D) H'):aa tab R k 118 [v6 Ol,v6 Wl,wf (i:Int)] H Q E:=by
 delta mZ;right;rw[ce];refine DK (n:=is.length) (λj D ys H=>ys=(gi i (is.take j) (ws.take j)).map wl/\ys.length<=j/\Sep (pt D (wp ys)::pt Ol (wp (is.map nV))::pt Wl (wp (ws.map wl))::O) H) (λD hD=>⟨rfl,re _,z.new (o:=wp []) hD⟩) (λj D ys H hj ⟨e,ly,zz⟩=>?_) (λP ys H1 ⟨e,_,z1⟩=>?_)
 .have e1:(is.map nV)[j]? =some (nV is[j]):=by rw[io,li hj];rfl
  have e2:(ws.map wl)[j]? =some (wl (ws[j]'nofun)):=by rw[io,li nofun];rfl
  have e3:=nh (i:=i) (j:=is[j]) (w:=ws[j]'nofun) (a:=is.take j) (b:=ws.take j) (by rw[db,db];omega);rw[<-bj (li hj),<-bj (li nofun)]at e3;left;refine aM (zz.get .k1) (L9 e1) ?_;right
  by_cases g:is[j]=i
  .refine yv.t (by show((is[j]:Int) ==(i:Int))=true;rw[beq_iff_eq];omega) ?_;left;refine aM (zz.get .k2) (L9 e2) ?_;refine EB.mk zz.at nofun ⟨?_,by rw[ci,ge];omega,zz.set rfl⟩;rw[e3,if_pos g,f8,<-e]
   rfl
  .refine yv.f (by show((is[j]:Int) ==(i:Int))=false;rw[beq_eq_false_iff_ne];omega) (ys:=ys) ⟨?_,by omega,zz⟩;rw[e3,if_neg g,append_nil];exact e
 .rw[take_length,<-hw,take_length]at e;subst e;exact q P H1 z1
end
section
variable {cs:List Int}{L:List Mb}{c c1 c2 c3 C ML WL:Addr}{M M1 M2 M3:List Mm}{W:List Wm}
def w6 (ro:Ro K R)(hk:6<=k)(hK:j7 cs L M W)(n1:L.length<=4)(c60:cs.length<=60)(z:Sep (jc cs C ML L::mf WL W::aC R cs L c M::O) H)
  (h:∀ H',Sep (jc cs C ML L::mf WL W::aC R cs L c M::O) H'->Q (.bl true) H'):aa tab R k 115 [v6 c,v6 C,v6 ML,v6 WL] H Q E:=by
 have z1:Sep (pt C (wp (cs.map wf))::pt ML (wp (L.map bK))::mf WL W::aC R cs L c M::(L.map bp++O)) H:=Sep.mv (P:=[_,_]) (Δ:=L.map bp) (L:=[_,_]) (lR z);have z2:Sep (pt WL (wp (W.map gp))::pt C (wp (cs.map wf))::pt ML (wp (L.map bK))::aC R cs L c M::(W.map gh++(L.map bp++O))) H:=Sep.mv (P:=[_]) (Δ:=W.map gh) (L:=[_,_,_]) (Es (z1.pull .k2));have z3:Sep (di R c cs (sK cs.length "open") (L.map dh) (M.map du)::pt WL (wp (W.map gp))::pt C (wp (cs.map wf))::pt ML (wp (L.map bK))::(M.map (bY R)++(W.map gh++(L.map bp++O)))) H:=Sep.mv (P:=[_]) (Δ:=M.map (bY R)) (L:=[_,_,_]) (lx (z2.pull .k3));refine xj ro hk hK n1 c60 (z3.sub (by ac_nf)) (λH2 y=>h H2 ?_);have y3:Sep (di R c cs (sK cs.length "open") (L.map dh) (M.map du)::pt WL (wp (W.map gp))::pt C (wp (cs.map wf))::pt ML (wp (L.map bK))::(M.map (bY R)++(W.map gh++(L.map bp++O)))) H2:=y.sub (by ac_nf);have y2:Sep (pt WL (wp (W.map gp))::aC R cs L c M::pt C (wp (cs.map wf))::pt ML (wp (L.map bK))::(W.map gh++(L.map bp++O))) H2:=(kD (Sep.mv (P:=[_]) (Δ:=[_,_,_]) (L:=M.map (bY R)) y3)).pull .k1;have y1:Sep (mf WL W::aC R cs L c M::pt C (wp (cs.map wf))::pt ML (wp (L.map bK))::(L.map bp++O)) H2:=As (Sep.mv (P:=[_]) (Δ:=[_,_,_]) (L:=W.map gh) y2);exact sL (Sep.mv (P:=[]) (Δ:=[_,_]) (L:=_::_::L.map bp) y1)
variable {D:Ends}{E:St->XK}{u0 u1 u7 u8 u9 u10 u11 u13 u14:Option V}
def Jk (ro:Ro K R)(hk:14<=k)(n1:L.length<=4)(c60:cs.length<=60)(hK1:j7 cs L M1 W)(hK2:j7 cs L M2 W)(hK3:j7 cs L M3 W)(e12:M2.map bh=M1.map bh)(hQ:∀ H,D.rt (.bl true) H)
  (z:Sep (jc cs C ML L::mf WL W::aC R cs L c1 M1::aC R cs L c2 M2::aC R cs L c3 M3::O) H):wB (kF 14 lC.body) ⟨tab,R,aa tab R (k-1),true⟩ D E [u0,u1,some (v6 C),some (v6 ML),some (v6 c1),some (v6 c2),some (v6 c3),u7,u8,u9,u10,u11,some (v6 WL),u13,u14] H:=by
 right;rename_i T H1 z1;clear z;refine bT (xs:=[v6 c1,v6 c2,v6 c3]) (λj U H=>∃ u14,U=[u0,u1,some (v6 C),some (v6 ML),some (v6 c1),some (v6 c2),some (v6 c3),u7,u8,u9,u10,u11,some (v6 WL),u13,u14]/\Sep (pt T (wp [v6 c1,v6 c2,v6 c3])::jc cs C ML L::mf WL W::aC R cs L c1 M1::aC R cs L c2 M2::aC R cs L c3 M3::O) H) ⟨_,rfl,z1⟩ ?_ ?_ ?_
 .rintro j U H ⟨u,rfl,zz⟩;exact aS.of zz.at
 .rintro j x U H hx ⟨u,rfl,zz⟩;have hx3:∃ c M Δ,x=v6 c/\j7 cs L M W/\ae (aC R cs L c M) (aC R cs L c1 M1::aC R cs L c2 M2::aC R cs L c3 M3::pt T (wp [v6 c1,v6 c2,v6 c3])::O) Δ:=by
   match j,hx with
   |0,e=>exact⟨c1,M1,_,(Option.some.inj e).symm,hK1,.e⟩
   |1,e=>exact⟨c2,M2,_,(Option.some.inj e).symm,hK2,.k1⟩
   |2,e=>exact⟨c3,M3,_,(Option.some.inj e).symm,hK3,.k2⟩
  obtain⟨c,M,Δ,rfl,hK,p⟩:=hx3;right;have y0:Sep (jc cs C ML L::mf WL W::aC R cs L c1 M1::aC R cs L c2 M2::aC R cs L c3 M3::pt T (wp [v6 c1,v6 c2,v6 c3])::O) H:=zz.sub (by ac_nf);refine w6 ro nofun hK n1 c60 ((((y0.pull (.j2 p)).pull .k2).pull .k2)) (λH2 y=>?_);right;have y2:Sep (jc cs C ML L::mf WL W::aC R cs L c1 M1::aC R cs L c2 M2::aC R cs L c3 M3::pt T (wp [v6 c1,v6 c2,v6 c3])::O) H2:=Sep.push (.j2 p) (y.pull .k2);exact⟨_,rfl,y2.sub (by ac_nf)⟩
 .rintro U H ⟨u,rfl,zz⟩;clear z1;right;refine ab jM zz .k3 rfl rfl ?_;left;have lM:=λ{M:List Mm}(h:j7 cs L M W)=>(ce (f:=dh) (as:=L)▸h.fit.1:L.length=M.length)
  refine rC ro nofun c60 (by rw[<-lM hK1];exact n1) hK1.fit (zz.pull .k3) (λA1 H2 z2=>?_);right;have y1:Sep (aC R cs L c2 M2::pt A1 (wp ((fJ cs (L.map dh) M1 M1.length).map wf))::O) H2:=z2.sub (by ac_nf);refine ab jM y1 .e rfl rfl ?_;left;refine rC ro nofun c60 (by rw[<-lM hK2];exact n1) hK2.fit y1 (λA2 H3 z3=>?_);have e:fJ cs (L.map dh) M2 M2.length=fJ cs (L.map dh) M1 M1.length:=by rw[qi,e12,<-qi,<-lM hK1,<-lM hK2]
  rw[e]at z3;left;refine sZ (gQ (z3.get .k2) z3.at) (by decide) (λe=>Sep.ne (z3.pull .k2) e) ?_;right;exact hQ _
end
def GG {i:Nat}:(is.map nV).countP (λx=>cV x (wf (i:Int)))=is.count i:=by
 rw[List.countP_map];unfold List.count
 congr 1
 funext j
 show((j:Int) ==(i:Int))=(j ==i);rw[Bool.eq_iff_iff,beq_iff_eq,beq_iff_eq]
 omega
def D0:(is.map nV).all aJ=true:=all_eq_true.mpr λx hx=>by
 obtain⟨i,_,rfl⟩:=List.mem_map.mp hx
 rfl
def G2 {i:Nat}(q:Q (wf ((is.count i:Nat):Int)) H):AD .count a (is.map nV) [wf (i:Int)] H Q:=by
 unfold AD;exact⟨_,rfl,rfl,D0,by rw[GG];exact q⟩
section
variable {cs:List Int}{L:List Mb}{c c1 c2 c3 C ML WL Ol Mx Wo Ot:Addr}{B1 B2 B3:List Mm}{W:List Wm}{is js:List Nat}{D:Ends}{E:St->XK}{u0 u1 u7 u13 u14:Option V}
def AK {A B:List Mm}{a b:List Nat}(e:B.map bh=A.map bh)(h:∀ i,i<A.length->b.count i=a.count i):(aQ B b).map bh=(aQ A a).map bh:=by
 rw[og,og,e];exact Ag (by rw[ce];exact h)
def Kw (ro:Ro K R)(hk:14<=k)(n1:L.length<=4)(c60:cs.length<=60)(hl:is.length<=300)(hp:js.Perm is)(l1:B1.length=L.length)(e12:B2.map bh=B1.map bh)(e13:B3.map bh=B1.map bh)(ok3:∀ q ∈ B3,lS q) (hK:j7 cs L (aQ B1 is) W) (hQ:∀ H,D.rt (.bl true) H)
  (z:Sep (jc cs C ML L::mf WL W::aC R cs L c1 (aQ B1 is)::aC R cs L c2 (aQ B2 js)::aC R cs L c3 B3::pt Ol (wp (is.map nV))::pt Wo (wp ((cf B1 is).map wl))::pt Mx (wp (js.map nV))::pt Ot (wp ((cf B2 js).map wl))::O) H):wB (kF 13 lC.body) ⟨tab,R,aa tab R (k-1),true⟩ D E [u0,u1,some (v6 C),some (v6 ML),some (v6 c1),some (v6 c2),some (v6 c3),u7,some (v6 Ol),some (v6 Mx),some (v6 Wo),some (v6 Ot),some (v6 WL),u13,u14] H:=by
 have l2:B2.length=B1.length:=by have:=congrArg List.length e12;rwa [ce,ce]at this
 have l3:B3.length=B1.length:=by have:=congrArg List.length e13;rwa [ce,ce]at this
 have hlj:=hp.length_eq;have ej:(aQ B2 js).map bh=(aQ B1 is).map bh:=AK e12 (λi _=>hp.count_eq i);have zm:=lR z;right;rw[ce];clear zm;refine kj (λj U H=>∃ a u13,(∀ i,i<L.length->a.count i=if L.length<=i+j then is.count i else 0)/\U=[u0,u1,some (v6 C),some (v6 ML),some (v6 c1),some (v6 c2),some (v6 c3),u7,some (v6 Ol),some (v6 Mx),some (v6 Wo),some (v6 Ot),some (v6 WL),u13,u14]/\Sep (jc cs C ML L::mf WL W::aC R cs L c1 (aQ B1 is)::aC R cs L c2 (aQ B2 js)::aC R cs L c3 (aQ B3 a)::pt Ol (wp (is.map nV))::pt Wo (wp ((cf B1 is).map wl))::pt Mx (wp (js.map nV))::pt Ot (wp ((cf B2 js).map wl))::O) H) ⟨[],_,λi hi=>by rw[if_neg nofun];rfl,rfl,z⟩ ?_ ?_
 .rintro j U H hj ⟨a,u13,hc,rfl,zz⟩;have b1:B1[j]? =some B1[j]:=li nofun;obtain⟨q2,b2,en⟩:=uJ e12.symm b1;have eo:gi j js (cf B2 js)=gi j is (cf B1 is):=by rw[pe b1,pe b2,hp.count_eq,<-pC,en,pC]
  have s1:=lU (a:=is) b1;have s2:=lU (a:=js) b2;have en2:bh (vY (js.count j) q2)=bh (vY (is.count j) B1[j]):=by rw[pk,pk,en,hp.count_eq]
  generalize vY (js.count j) q2=p2 at s2 en2;generalize vY (is.count j) B1[j]=p1 at s1 en2;right;rw[show(0:Int)+(j:Int)=(j:Int) by omega];refine JQ (i:=j) nofun hl ie (zz.sub (Γ':=pt Ol (wp (is.map nV))::pt Wo (wp ((cf B1 is).map wl))::pt Mx (wp (js.map nV))::pt Ot (wp ((cf B2 js).map wl))::jc cs C ML L::mf WL W::aC R cs L c1 (aQ B1 is)::aC R cs L c2 (aQ B2 js)::aC R cs L c3 (aQ B3 a)::O) (by ac_nf)) (λD1 H1 z1=>?_);clear zz;right;refine JQ (i:=j) nofun nofun ie (z1.sub (Γ':=pt Mx (wp (js.map nV))::pt Ot (wp ((cf B2 js).map wl))::pt D1 (wp ((gi j is (cf B1 is)).map wl))::pt Ol (wp (is.map nV))::pt Wo (wp ((cf B1 is).map wl))::jc cs C ML L::mf WL W::aC R cs L c1 (aQ B1 is)::aC R cs L c2 (aQ B2 js)::aC R cs L c3 (aQ B3 a)::O) (by ac_nf)) (λD2 H2 z2=>?_);clear z1;rw[eo]at z2;left;refine ue (DQ (z2.get .k3) z2.at) (by decide) (λe=>Sep.ne (z2.pull .k3) e) ?_;refine ar rfl ?_;have z3:Sep (aC R cs L c3 (aQ B3 a)::jc cs C ML L::mf WL W::aC R cs L c1 (aQ B1 is)::aC R cs L c2 (aQ B2 js)::pt Ol (wp (is.map nV))::pt Wo (wp ((cf B1 is).map wl))::pt Mx (wp (js.map nV))::pt Ot (wp ((cf B2 js).map wl))::O) H2:=z2.sub (by ac_nf);clear z2;right;refine ab jM z3 .e rfl rfl ?_;have zm:=lR (z3.pull .k1);right;refine⟨Ol,_,rfl,z3.get (.j2 .k3),?_⟩;right;rw[ce,show(L.length:Int)-1-(j:Int)=((L.length-1-j:Nat):Int) by omega];refine⟨_,z3.get (.j2 .k3),G2 ?_⟩;have b3:(aQ B3 a)[L.length-1-j]? =some ((aQ B3 a)[L.length-1-j]'(by rw[dA];omega)):=li _;generalize (aQ B3 a)[L.length-1-j]'(by rw[dA];omega)=q3 at b3;left;refine GP (i:=L.length-1-j) (n:=is.count (L.length-1-j)) ro nofun b3 ((i4 ok3).2 q3 (cr b3)) z3 (λv H3 z4=>?_);clear z3 zm;rw[<-vq b3,<-qh]at z4;right;refine ab jM z4 .k3 rfl rfl ?_;left;refine si ro nofun s1 (z4.pull .k3) (λt t1 t2 H4 z5=>?_);clear z4;right;refine ab jM z5 (.j2 (.j2 (.t .k2))) rfl rfl ?_;left;refine si ro nofun s2 (z5.pull (.j2 (.j2 (.t .k2)))) (λt' t1' t2' H5 z6=>?_);clear z5;have f1:p2.at_=p1.at_:=(congrArg Mm.at_ en2:(bh p2).at_=(bh p1).at_);have f2:p2.x=p1.x:=(congrArg Mm.x en2:(bh p2).x=(bh p1).x);have f3:p2.cs=p1.cs:=(congrArg Mm.cs en2:(bh p2).cs=(bh p1).cs);rw[f1,f2,f3]at z6;left;refine ue (Fc (z6.get (.j2 .k2)) z6.at (yl (ns:=p1.x.ls) (by grind) (by grind)) (gQ (cs:=p1.cs) (by grind) (by grind))) (by decide) (λe=>Sep.ne (z6.pull (.j2 .k2)) e) ?_;refine ar rfl ?_;right;refine⟨a++sK (is.count (L.length-1-j)) (L.length-1-j),_,λi hi=>?_,rfl,z6.sub (by ac_nf)⟩;rw[List.count_append,hc i hi,List.count_replicate]
  by_cases g:L.length-1-j=i
  .subst g;rw[beq_self_eq_true,if_pos rfl,if_neg nofun,if_pos nofun,Nat.zero_add]
  .rw[if_neg (c:=(_ ==_)=true) (by rw[beq_iff_eq];exact g),Nat.add_zero]
   by_cases g2:L.length<=i+j
   .rw[if_pos g2,if_pos nofun]
   .rw[if_neg g2,if_neg nofun]
 .rintro U H ⟨a,u13,hc,rfl,zz⟩;have hc':∀ i,i<B1.length->a.count i=is.count i:=λi hi=>by rw[hc i nofun,if_pos nofun]
  exact Jk (k:=k) ro hk n1 c60 hK (hK.alt ej) (hK.alt (AK e13 hc')) ej hQ zz
end
section
variable {cs:List Int}{L:List Mb}{M:List Mm}{W:List Wm}
def j7.go {i:Nat}(hK:j7 cs L M W)(hi:i<L.length):∃ o q u,L[i]? =some o/\M[i]? =some q/\W[i]? =some u/\Br u=uY q/\q.rs=o.S.map (·.2)/\lS q/\stM M i=M.set i (nr q)/\Bw M i=(mS q.rs q.at_ q.x q.cs q.ws).w:=by
 obtain⟨o,q,u,eo,eq,eu,ews,ers,okq,_⟩:=hK.at hi;refine⟨o,q,u,eo,eq,eu,ews,ers,okq,?_,?_⟩
 .unfold stM;rw[eq]
 .unfold Bw;rw[eq]
end
section
variable {cs:List Int}{L:List Mb}{c c1 c2 c3 C ML WL Ol Mx Wo Ot:Addr}{B1 B2 B3:List Mm}{W:List Wm}{is js:List Nat}{D:Ends}{E:St->XK}{u0 u1 u7 u13 u14:Option V}
def Ly (ro:Ro K R)(hk:14<=k)(n1:L.length<=4)(c60:cs.length<=60)(hl:is.length<=300)(his:∀ i ∈ is,i<L.length) (hp:js.Perm is) (l1:B1.length=L.length) (e12:B2.map bh=B1.map bh) (e13:B3.map bh=B1.map bh) (ok3:∀ q ∈ B3,lS q) (okM:∀ m ∈ B1,0<=m.x.l/\m.cs.length=m.ws.length) (hK:j7 cs L B1 W) (hQ:∀ H,D.rt (.bl true) H)
  (z:Sep (jc cs C ML L::mf WL W::aC R cs L c1 (aQ B1 is)::aC R cs L c2 (aQ B2 js)::aC R cs L c3 B3::pt Ol (wp (is.map nV))::pt Wo (wp ((cf B1 is).map wl))::pt Mx (wp (js.map nV))::pt Ot (wp ((cf B2 js).map wl))::O) H):wB (kF 12 lC.body) ⟨tab,R,aa tab R (k-1),true⟩ D E [u0,u1,some (v6 C),some (v6 ML),some (v6 c1),some (v6 c2),some (v6 c3),u7,some (v6 Ol),some (v6 Mx),some (v6 Wo),some (v6 Ot),some (v6 WL),u13,u14] H:=by
 have z1:Sep (mf WL W::pt C (wp (cs.map wf))::pt ML (wp (L.map bK))::pt Ol (wp (is.map nV))::(L.map bp++(aC R cs L c1 (aQ B1 is)::aC R cs L c2 (aQ B2 js)::aC R cs L c3 B3::pt Wo (wp ((cf B1 is).map wl))::pt Mx (wp (js.map nV))::pt Ot (wp ((cf B2 js).map wl))::O))) H:=Sep.mv (P:=[]) (Δ:=[_,_,_]) (L:=[_]) (O:=_) (Sep.mv (P:=[_,_]) (Δ:=L.map bp) (L:=[_,_]) (O:=_) (lR (z.sub (Γ':=jc cs C ML L::pt Ol (wp (is.map nV))::mf WL W::aC R cs L c1 (aQ B1 is)::aC R cs L c2 (aQ B2 js)::aC R cs L c3 B3::pt Wo (wp ((cf B1 is).map wl))::pt Mx (wp (js.map nV))::pt Ot (wp ((cf B2 js).map wl))::O) (by ac_nf))));generalize eΔ:(aC R cs L c1 (aQ B1 is)::aC R cs L c2 (aQ B2 js)::aC R cs L c3 B3::pt Wo (wp ((cf B1 is).map wl))::pt Mx (wp (js.map nV))::pt Ot (wp ((cf B2 js).map wl))::O)=Δ at z1;have z2:Sep (pt WL (wp (W.map gp))::pt C (wp (cs.map wf))::pt ML (wp (L.map bK))::pt Ol (wp (is.map nV))::(W.map gh++(L.map bp++Δ))) H:=Sep.mv (P:=[_]) (Δ:=W.map gh) (L:=[_,_,_]) (Es z1);clear z z1;right;refine bT (xs:=is.map nV) (λj U H=>∃ W' u13,j7 cs L (aQ B1 (is.take j)) W'/\W'.map gp=W.map gp/\(∀ m ∈ aQ B1 (is.take j),0<=m.x.l/\m.cs.length=m.ws.length)/\U=[u0,u1,some (v6 C),some (v6 ML),some (v6 c1),some (v6 c2),some (v6 c3),u7,some (v6 Ol),some (v6 Mx),some (v6 Wo),some (v6 Ot),some (v6 WL),u13,u14]/\Sep (pt WL (wp (W.map gp))::pt C (wp (cs.map wf))::pt ML (wp (L.map bK))::pt Ol (wp (is.map nV))::(W'.map gh++(L.map bp++Δ))) H) ⟨W,_,hK,rfl,okM,rfl,z2⟩ ?_ ?_ ?_
 .rintro j U H ⟨W',u,_,_,_,rfl,zz⟩;exact aS.of (zz.get .k3)
 .rintro j x U H hy ⟨W',u13,hK',ew,okm,rfl,zz⟩;rw[io]at hy;obtain⟨i,ei,rfl⟩:=nw.mp hy;obtain⟨o,b,u,eo,eb,eu,ews,ers,okb,es,ed⟩:=hK'.go (his i (cr ei));obtain⟨hx,hl2⟩:=okm b (cr eb);have e1:u.at_=b.at_:=congrArg (·.1) ews;have e2:u.x=b.x:=congrArg (·.2.1) ews;have e3:u.cs=b.cs:=congrArg (·.2.2.1) ews;have e4:u.ws=b.ws:=congrArg (·.2.2.2) ews;have z3:=zz.pull (A:=gh u) (.j2 (.j2 (ax eu)));have z4:=z3.pull (A:=bp o) (.j2 (.j2 (.t (af (ax eo)))));have ht:=(yC z4).atT;have i1:=aF (i:=(i:Int)) nofun (by rw[sn];exact Em eo);have i2:lH (W.map gp) (i:Int)=some (v6 u.w):=aF (i:=(i:Int)) nofun (by rw[sn,<-ew];exact vS eu);right;refine aM (z4.get (by symm)) i1 ?_;right;refine dz ht rfl ?_;right;refine aM (z4.get (by symm)) i2 ?_;right;refine AL nofun (by rw[e1];exact okb.1) (by rw[e1,<-ers];exact okb.2.1) (by rw[e2];exact hx) (by rw[e3,e4];exact hl2) (by rw[<-ers];exact okb.2.2) (z4.sub (.cons .k1 (.cons .e .refl))) (λH2 z5=>?_);obtain⟨s1,s2⟩:=Hu ews ers;have eg:aQ B1 (is.take (j+1))=(aQ B1 (is.take j)).set i (nr b):=by rw[bj ei,iq,es]
  rw[<-ers]at z5 s1;right;refine⟨W'.set i (KP b.rs u),_,?_,?_,?_,rfl,?_⟩
  .rw[eg];exact hK'.set eb eu s1 rfl (AB okb) (pj hx).2
  .rw[dw (f:=gp) eu (y:=KP b.rs u) rfl,ew]
  .intro m hm;rw[eg]at hm;rcases mem_or_eq_of_mem_set hm with hm|rfl
   .exact okm m hm
   .exact⟨(pj hx).1,(pj hx).2.trans hl2⟩
  .have z6:=Sep.push (.j2 (.j2 (.t (af (ax eo))))) (z5.pull (A:=bp o) .k1);exact Sep.push (.j2 (.j2 (d7 eu))) z6
 .rintro U H ⟨W',u13,hK',ew,okm,rfl,zz⟩;rw[ce,take_length]at hK';rw[<-ew]at zz;subst eΔ;have y1:Sep (mf WL W'::pt C (wp (cs.map wf))::pt ML (wp (L.map bK))::pt Ol (wp (is.map nV))::(L.map bp++(aC R cs L c1 (aQ B1 is)::aC R cs L c2 (aQ B2 js)::aC R cs L c3 B3::pt Wo (wp ((cf B1 is).map wl))::pt Mx (wp (js.map nV))::pt Ot (wp ((cf B2 js).map wl))::O))) H:=As (Sep.mv (P:=[_]) (Δ:=[_,_,_]) (L:=W'.map gh) zz);have y2:Sep (pt C (wp (cs.map wf))::pt ML (wp (L.map bK))::mf WL W'::pt Ol (wp (is.map nV))::(L.map bp++(aC R cs L c1 (aQ B1 is)::aC R cs L c2 (aQ B2 js)::aC R cs L c3 B3::pt Wo (wp ((cf B1 is).map wl))::pt Mx (wp (js.map nV))::pt Ot (wp ((cf B2 js).map wl))::O))) H:=y1.sub (by ac_nf);have y3:Sep (jc cs C ML L::mf WL W'::pt Ol (wp (is.map nV))::aC R cs L c1 (aQ B1 is)::aC R cs L c2 (aQ B2 js)::aC R cs L c3 B3::pt Wo (wp ((cf B1 is).map wl))::pt Mx (wp (js.map nV))::pt Ot (wp ((cf B2 js).map wl))::O) H:=sL (Sep.mv (P:=[_,_]) (Δ:=[_,_]) (L:=L.map bp) y2);exact Kw (k:=k) ro hk n1 c60 hl hp l1 e12 e13 ok3 hK' hQ (y3.sub (by ac_nf))
end
def j7.start {cs:List Int}{B:List Mm}(ok:∀ q ∈ L,FD cs.length q) (eB:B.map bh=L.map (λq=>qo cs (mV q))) (eW:W.map Br=L.map (λq=>uY (qo cs (mV q)))):j7 cs L B W:=by
 have f1:∀ l:List Mm,l.map uY=(l.map bh).map uY:=λl=>by rw[List.map_map];rfl
 have f2:∀ l:List Mm,l.map (·.rs)=(l.map bh).map (·.rs):=λl=>by rw[List.map_map];rfl
 have hl:B.length=L.length:=by
  have:=congrArg List.length eB
  rwa [ce,ce]at this
 have be:∀ {n:Nat}{q:Mm},B[n]? =some q->∃ o,L[n]? =some o/\qo cs (mV o)=bh q:=λ{n q} h=>by
  have h2:(B.map bh)[n]? =(L.map (λq=>qo cs (mV q)))[n]? :=by rw[eB]
  rw[io,io,h]at h2;obtain⟨o,g1,g2⟩:=nw.mp h2.symm;exact⟨o,g1,g2⟩
 refine⟨?_,?_,λq hq=>?_,⟨by rw[ce];exact hl.symm,λi p q e1 e2=>?_⟩⟩
 .rw[eW,f1,eB,List.map_map]
  rfl
 .rw[f2,eB,List.map_map]
  rfl
 .obtain⟨n,hn⟩:=getElem?_of_mem hq;obtain⟨o,eo,e⟩:=be hn;obtain⟨_,_,oR,_⟩:=ok o (cr eo);have a1:(0:Int)=q.at_:=congrArg Mm.at_ e;have a2:o.S.map (·.2)=q.rs:=congrArg Mm.rs e;unfold lS;rw[<-a1,<-a2];exact⟨Int.le_refl _,by omega,oR⟩
 .obtain⟨o,eo,e⟩:=be e2;rw[io,eo]at e1;cases e1;obtain⟨⟨o0,o1,o2⟩,_⟩:=ok o (cr eo);have a1:(cs.drop o.i.toNat).take (o.j.toNat-o.i.toNat)=q.cs:=congrArg Mm.cs e;rw[<-a1,db,jp];show 0<=o.i/\o.j<=(cs.length:Int)/\o.i+_=o.j
  omega
section
variable {cs:List Int}{L:List Mb}{c c1 c2 c3 C ML WL Ol Mx Wo:Addr}{B1 B2 B3:List Mm}{is js:List Nat}{D:Ends}{E:St->XK}{u0 u1 u7 u11 u12 u13 u14:Option V}
def Eo (ro:Ro K R)(hk:14<=k)(n1:L.length<=4)(c60:cs.length<=60)(hl:is.length<=300)(his:∀ i ∈ is,i<L.length) (hp:js.Perm is) (ok:∀ q ∈ L,FD cs.length q) (eB:B1.map bh=L.map (λq=>qo cs (mV q))) (e12:B2.map bh=B1.map bh) (e13:B3.map bh=B1.map bh) (okM:∀ m ∈ B1,0<=m.x.l/\m.cs.length=m.ws.length) (hQ:∀ H,D.rt (.bl true) H)
  (z:Sep (aC R cs L c2 B2::jc cs C ML L::aC R cs L c1 (aQ B1 is)::aC R cs L c3 B3::pt Ol (wp (is.map nV))::pt Wo (wp ((cf B1 is).map wl))::pt Mx (wp (js.map nV))::O) H):wB (kF 10 lC.body) ⟨tab,R,aa tab R (k-1),true⟩ D E [u0,u1,some (v6 C),some (v6 ML),some (v6 c1),some (v6 c2),some (v6 c3),u7,some (v6 Ol),some (v6 Mx),some (v6 Wo),u11,u12,u13,u14] H:=by
 have l1:B1.length=L.length:=by have:=congrArg List.length eB;rwa [ce,ce]at this
 have l2:B2.length=B1.length:=by have:=congrArg List.length e12;rwa [ce,ce]at this
 have l3:B3.length=B1.length:=by have:=congrArg List.length e13;rwa [ce,ce]at this
 have hlj:=hp.length_eq;have ok2:∀ q ∈ B2,lS q:=((j7.start (W:=L.map λq=>⟨0,(qo cs (mV q)).at_,(qo cs (mV q)).x,(qo cs (mV q)).cs,(qo cs (mV q)).ws⟩) ok eB (by rw[List.map_map];rfl)).alt e12).ok;right;refine lr (xs:=js.map nV) (by rw[ce];omega) (λF ys H=>ys=(cf B2 (js.take ys.length)).map wl/\Sep (pt F (wp ys)::aC R cs L c2 (aQ B2 (js.take ys.length))::jc cs C ML L::aC R cs L c1 (aQ B1 is)::aC R cs L c3 B3::pt Ol (wp (is.map nV))::pt Wo (wp ((cf B1 is).map wl))::pt Mx (wp (js.map nV))::O) H) (λF ys H hI=>aS.of (hI.2.get (.j2 (.j2 .k3)))) (λF hF=>⟨rfl,z.new (o:=wp []) hF⟩) (λF ys y H hy hI=>?_) (λF ys H hys hI=>?_)
 .obtain⟨ey,zz⟩:=hI;rw[io]at hy;obtain⟨i,ei,rfl⟩:=nw.mp hy;have hj:=(tz.mp ei).1;have hi:i<L.length:=his i (hp.mem_iff.mp (cr ei));obtain⟨q,eq⟩:∃ q,(aQ B2 (js.take ys.length))[i]? =some q:=⟨_,li (by rw[dA];omega)⟩;have es:stM (aQ B2 (js.take ys.length)) i=(aQ B2 (js.take ys.length)).set i (nr q):=by unfold stM;rw[eq]
  have ed:Bw (aQ B2 (js.take ys.length)) i=(mS q.rs q.at_ q.x q.cs q.ws).w:=by unfold Bw;rw[eq]
  right;refine ab jM zz .k1 rfl rfl ?_;left;refine DN (i:=i) ro nofun eq ((i4 ok2).2 q (cr eq)) (zz.pull .k1) (λH2 z2=>?_);rw[<-es,<-iq,<-bj ei]at z2;refine pJ.mk (z2.get .k1) nofun ⟨?_,?_⟩
  .rw[ci,ge,bj ei,lY,ed,f8,<-ey]
   rfl
  .rw[ci,ge];exact(z2.pull .k1).set rfl
 .obtain⟨ey,zz⟩:=hI;rw[ce]at hys;rw[hys,take_length]at ey zz;subst ey;clear z;right;have y0:=lR (zz.pull (A:=jc cs C ML L) .k2);refine wk nofun n1 ok c60 y0 (λWL W H2 eW z2=>?_);have z3:=sL (C:=C) (ML:=ML) (cs:=cs) (L:=L) (Sep.mv (P:=[]) (Δ:=[_]) (L:=_::_::L.map bp) (As (Sep.mv (P:=[_]) (Δ:=[_,_]) (L:=W.map gh) z2)));have z4:Sep (jc cs C ML L::mf WL W::pt F (wp ((cf B2 js).map wl))::aC R cs L c2 (aQ B2 js)::aC R cs L c1 (aQ B1 is)::aC R cs L c3 B3::pt Ol (wp (is.map nV))::pt Wo (wp ((cf B1 is).map wl))::pt Mx (wp (js.map nV))::O) H2:=z3;have hK:j7 cs L B1 W:=.start ok eB eW;left;exact Ly (k:=k) ro hk n1 c60 hl his hp l1 e12 e13 (hK.alt e13).ok okM hK hQ (z4.sub (by ac_nf))
end
def Gp (ro:Ro K R)(hk:15<=k):∀ vs H Q E,ji K 63 vs H Q E->aa tab R k 119 vs H Q E:=by
 rintro vs H Q E ⟨a,sc,rfl,hS,h63,hQ⟩;delta lC;right;rw[<-ro.hK]at hS;refine HK nofun Sep.nil hS h63 (λh H1 hs1=>?_);walk_at "gd";rename_i q1 H3 hs3 r2 H4 r20 r21 hs4;obtain⟨v,e2,M,rfl,M0,M1⟩:=dE (xs:=[wf 24,wf 60]) (P:=inR 1 60) (r:=r2) r20 (by simpa using r21) (J8 (.mk (by decide) (by decide)) (.mk (by decide) (by decide)));refine aM (by grind) e2 ?_;right;refine ye (O:=[]) (m:=10) nofun (aj (hs4.sub (Γ':=hand h _::[]) (by ac_nf)) nofun) nofun M0 M1 (λC cs H5 c0 c1 hc z5=>?_);clear hs1 hs3 hs4;right;refine tB (O:=[]) (m:=400) nofun (aj (z5.sub (Γ':=hand h _::pt C (wp (cs.map wf))::[]) (by ac_nf)) nofun) nofun (by decide) (by decide) c0 nofun (λML L H8 n0 n1 ok hd z8=>?_);clear z5;right;have z9:Sep (hand h 2400::pt C (wp (cs.map wf))::pt ML (wp (L.map bK))::(L.map bp++[])) H8:=(aj (n:=2400) (z8.pull .k1) nofun).sub (by ac_nf);have za:Sep (jc cs C ML L::hand h 2400::[]) H8:=sL (Sep.mv (P:=[]) (Δ:=[_]) (L:=_::_::L.map bp) (O:=[]) z9);clear z8 z9;refine oY ro nofun n0 n1 ok hd c0 nofun hc za (λk1 B1 H9 eB zb=>?_);have okM:∀ m ∈ B1,0<=m.x.l/\m.cs.length=m.ws.length:=λm hm=>by
  obtain⟨n,hn⟩:=getElem?_of_mem hm;have:=KI ((lx zb).pull (.t (ax hn)));exact⟨this.1,this.2.1⟩
 right;refine oY ro nofun n0 n1 ok hd c0 nofun hc (zb.pull .k1) (λk2 B2 Ha e2 zc=>?_);right;refine oY ro nofun n0 n1 ok hd c0 nofun hc (zc.pull .k1) (λk3 B3 Hb e3 zd=>?_);clear za zb zc;walk_at "gd";rename_i r3 Hc r30 r31 ze r4 Hd r40 r41 zf T He zg;clear zd ze zf;generalize cV (wf r3) (wf 0)=b;refine km ?_;obtain⟨n,n3,en⟩:∃ n:Nat,n<=300/\lH [wf r4,wf 300] (b2i b)=some (wf (n:Int)):=by
  cases b with
  |false=>
   obtain⟨n,rfl⟩:=sw r40;exact⟨n,by omega,rfl⟩
  |true=>exact⟨300,re _,rfl⟩
 refine aM zg.at en ?_;have zh:Sep (hand h 2402::jc cs C ML L::aC R cs L k1 B1::aC R cs L k2 B2::aC R cs L k3 B3::[]) He:=(aj (n:=2402) (zg.pull .k1) nofun).sub (by ac_nf);clear zg;right;rw[sn];refine pW (n:=n) nofun (λF ys H=>∃ is:List Nat,ys=is.map nV/\(∀ i ∈ is,i<L.length)/\Sep (pt F (wp ys)::hand h (2402+((ys.length:Nat):Int))::jc cs C ML L::aC R cs L k1 B1::aC R cs L k2 B2::aC R cs L k3 B3::[]) H) (λF hF=>⟨[],rfl,λi hi=>absurd hi (by simp),(aj ((zh.new (o:=wp []) hF).pull .k1) (by show(2402:Int)<=2402+((0:Nat):Int);omega)).pull .k1⟩) (λF ys H hl hI=>?_) (λOl ys H hl hI=>?_)
 .obtain⟨is,rfl,his,zz⟩:=hI;have zm:=lR (zz.pull .k2);right;rw[ce];refine kU nofun (zz.pull .k1) nofun nofun nofun (λr H3 r0 r1 z3=>?_);obtain⟨i,rfl⟩:=sw r0;refine pJ.mk (z3.get .k1) nofun ⟨is++[i],by rw[f8];rfl,λj hj=>?_,?_⟩
  .rcases mem_append.mp hj with hj|hj
   .exact his j hj
   .rw[mem_singleton.mp hj]
    omega
  .have z4:=(z3.pull .k1).set (o':=wp (is.map nV++[nV i])) rfl;exact(aj (z4.pull .k1) (by rw[ci,ge];omega)).pull .k1
 obtain⟨is,rfl,his,zz⟩:=hI;rw[ce]at hl;clear zh;have e12:B2.map bh=B1.map bh:=e2.trans eB.symm;have e13:B3.map bh=B1.map bh:=e3.trans eB.symm;have ok1:∀ q ∈ B1,lS q:=(j7.start (W:=L.map λq=>⟨0,(qo cs (mV q)).at_,(qo cs (mV q)).x,(qo cs (mV q)).cs,(qo cs (mV q)).ws⟩) ok eB (by rw[List.map_map];rfl)).ok;have l1:B1.length=L.length:=by have:=congrArg List.length eB;rwa [ce,ce]at this
 right;refine D9 (m:=2702) nofun nofun nofun (aj (zz.pull .k1) (by rw[ce];omega)) (λMx js H6 hp z6=>?_);clear zz;right;cases b with
 |true=>
  refine aL rfl ?_;right;have z7:Sep (aC R cs L k1 B1::pt Ol (wp (is.map nV))::pt Mx (wp (js.map nV))::jc cs C ML L::aC R cs L k2 B2::aC R cs L k3 B3::[]) H6:=z6.sub (by ac_nf);refine ab jM z7 .e rfl rfl ?_;left;refine EO ro nofun nofun (λi hi=>by rw[l1];exact his i hi) ok1 z7 (λWo H7 z8=>?_);clear z6 z7;left;exact Eo (k:=k) ro nofun n1 nofun nofun his hp ok eB e12 e13 okM hQ (z8.sub (by ac_nf))
 |false=>
  refine ar rfl ?_;right;refine xo (m:=2702+300) (is:=is) ro nofun nofun nofun (λi hi=>by rw[l1];exact his i hi) ok1 (z6.sub (Γ':=hand h (2702+300)::aC R cs L k1 B1::pt Ol (wp (is.map nV))::pt Mx (wp (js.map nV))::jc cs C ML L::aC R cs L k2 B2::aC R cs L k3 B3::[]) (by ac_nf)) (λWo H7 z8=>?_);clear z6;left;exact Eo (k:=k) ro nofun n1 nofun nofun his hp ok eB e12 e13 okM hQ (z8.sub (by ac_nf))
def yL (ro:Ro K R):∀ vs H Q E,ji K 63 vs H Q E->aa tab R 15 119 vs H Q E:=Gp ro (re _)
end
def walk {l:W.OpenLaw}{q:Program}{loose:List Str}{XP:(Str->Option Value)->Heap->Prop}{YP:World->Heap->Prop}{d:DefRec}{K:Params->W.Frag}(hn:l.most=some 63)(hdf:d.params.defaults=[])
    (hY:∀ (w:World) (h:Heap),YP w h->(K w.params).In h)
    (F:∀ (w:World) (mg:NJ) (fa:Addr) (h:Heap),(K w.params).In h->h.Ns mainGlobals mg->mg d.name=some (.ref fa)->
      ∃ fd:FuncData,(∀ (s:Shared) (u:Value),BindsTo s fd ⟨[u],[]⟩ [("_law_script",u)])/\∀ base:Heap,(K w.params).In base->base.Ns mainGlobals mg->cZ l.prog w (K w.params) mg base (Bq l.prog w) 30 fa fd ["_law_script"] (ji (K w.params) 63)):
    W.WalkO q loose XP YP l.row.toRowW d [] (λf vs=>PySem.call f vs):=
  L2.DM (n:=63) (k:=30) (x:="_law_script") (CX:=λw=>Bq l.prog w) (sp:=λw=>ji (K w.params) 63) hn (by decide) hdf ⟨rfl,by decide,by decide⟩ hY F (λ_ _ a ns hl _ hS=>⟨a,ns,rfl,hS,hl,λ_=>rfl⟩) λ_ _ _ _ _ z=>Ax z
abbrev MN:List (Str×V):=[("BOUND",.int 1000000000),("MOST_ROWS",.int 24),("MOST_CELLS",.int 60),("MOST_MEMBERS",.int 4),("THINGS_OF_A_MEMBER",.int 4),("MOST_HOPPED",.int 24),("NAMES",.ref 220)]
def NB (p:Params):L3.CD (K0 p) tab LH MI MN=true:=by kernel_rfl
def Nd (p:Params):L3.mP (K0 p) tab LH 0 tab.fns=true:=by kernel_rfl
end My
open PySem PySem.W PyProof.Rows
set_option maxRecDepth 100000 in
set_option maxHeartbeats 0 in
theorem PySem.Challenge.cw_haulbell_k78_whole_two_orders_holds : PySem.Challenge.rw_haulbell_k78_whole_two_orders.Holds := by
  refine holds_law My.Jq fun said=>?_
  refine W.holds_open (loose:=My.A0) (N:=19868)
    (q:=My.sF My.pr)
    (Yf:=fun s=>My.K2.map s.heap.get?)
    (Ya:=fun w=>(My.K0 w.params).map fun p=>some p.2)
    (Xt:=fun s=>xlAt (My.sF My.pr) [] s&&recOk PySem.Challenge.rw_haulbell_k78_whole_two_orders.row.records s)
    (XP:=XL (My.sF My.pr) [])
    (YP:=InK My.K0) My.IY
    (InK.of (as:=My.K2) fun _=>by kernel_rfl) InK.keeps
    (fun s e=>xl_of s (Bool.and_eq_true_iff.mp e).1)
    XL.keeps (by rfl) (by rfl) (by rfl)
    (fun s e=>recFacts_of (Bool.and_eq_true_iff.mp e).2)
    (by rfl) (by assumption) (by decide+kernel)
    ⟨rfl,rfl,rfl,rfl,rfl,by decide+kernel⟩ ?hw ?hc
  case hw=>w_witness2
  refine My.walk (l:=PySem.Challenge.rw_haulbell_k78_whole_two_orders) rfl rfl (fun w h Y=>Y) ?F
  case F=>
    intro w mg fa h KX G hmg;exact L3.B9 KX G hmg (T:=My.tab) (fs:=My.LH) (cs:=My.MI) (gs:=My.MN) (d:=My.lC) (fl:=119) (k:=15) (My.NB _) (My.Nd _) (by kernel_rfl) rfl rfl rfl (My.yL ⟨rfl,by kernel_rfl,by kernel_rfl,by kernel_rfl,by kernel_rfl,by kernel_rfl,by kernel_rfl,⟨220,by kernel_rfl,L3.GI (by kernel_rfl)⟩⟩)
