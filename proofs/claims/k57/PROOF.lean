import PyProof.Rows.All
import Wide.All
import OpenK.AllK
import Wide.FinOn
import PySem.Challenge.RW_haulbell_k57_watched_is_a_machine
import Lean
import PyProof.EqAt
import PyProof.EqKinds
import PyProof.TupleCall
import PyProof.EnumStmt
import PyProof.NeKinds
import PyProof.ExcAttrAll.ValueError
import PyProof.ExcInit
import PyProof.StationsW
import PyProof.NsDelKeeps
import PyProof.InstStoreFacts
import PyProof.ZipIter
import PyProof.IsiBase
import PyProof.AttrMiss
import KE.KDictOf
import KE.KDictList
import PyProof.InstEq
import PyProof.Rows.Range3
import PyProof.EnumMake
import PyProof.StrWalks
import PyProof.DictWalks
import PyProof.Rows.StrWeight2
import PyProof.StrCalls2
import PyProof.Rows.StrFacts2
import KE.KEqDict
import KE.KTab
import KE.KTabLook
import KE.KIntText
import PyProof.SliceStr
import PyProof.StrOps2
import KE.LcSums
open PySem.W renaming behindTheImports→ac
open PySem renaming wpAny_bind→ad,wpAny_pure→am,wpAny_field→ap,wpAny_holding→bd,wpAny_truthy_bool→bi,starEach→bm,sizeLine→bn,wpAny_Call_Name_kw→bv
open List renaming length_map→ce,length_append→ci,mem_of_getElem?→cr,length_take→db,mem_cons_of_mem→dl,map_append→dL,length_singleton→f8,size_toArray→ge,mem_append_right→ii,getElem?_map→im,length_drop→io,append_assoc→jp,getElem?_eq_getElem→li,mem_cons_self→lw,mem_cons→mo
open Bool renaming and_eq_true→nb
open Option renaming map_eq_some_iff→nl
open Nat renaming lt_of_lt_of_le→nw,le_of_ble_eq_true→ol,ne_of_lt→pc,le_refl→pi
open Int renaming toNat_natCast→re
open List renaming replicate→sn,getElem?_eq_some_iff→sw
open PySem.Heap renaming get?_push_of_some→sK,lt_size→tz,get?_push_size→ul
set_option linter.all false
set_option maxRecDepth 100000
set_option tactic.hygienic false
set_option Elab.async false
set_option compiler.extract_closed false
set_option hygiene false in
local macro_rules|`(0e0)=>`((model X.prog X.w))|`(0e1)=>`((by ac_nf))|`(0e2)=>`({ cls:=.ref C,data:=.fields #[.ref h.objs.size,.none,.none,.none,.bool false,.none] })|`(0e3)=>`((mS rs at_ x cs ws))|`(0e4)=>`((wp (ws.map v4)))|`(0e5)=>`((fQ X scope cl (xs++fr) s3 (upd H2 D (.lst [])) fp E))|`(0e6)=>`((.v 0))|`(0e7)=>`((model prog w))|`(0e8)=>`((.cons .e (.cons .k1 (.cons .k1 (.cons .k2 (.cons .k1 (.drop .refl)))))))|`(0e9)=>`((wp (cs.map v0)))|`(1e0)=>`((if fA (v0 (x.g n))=true then(if ah ws "put" x.t=true then .on x (cs.set x.t.toNat (x.g n)) else .no "put" x.t) else .nf n (x.g n)))|`(1e1)=>`((by decide))|`(1e2)=>`((wv (R.cad 18) dx [("deeds",ut l),("store",ut s),("boxes",ut b),("at",v0 at_),("entries",ut en)]))|`(1e3)=>`((cJ ow SP d p lv lg at_ x cs ws (fs.map aR) (pt SP (wp (S.map av))::pt pr (wp [ut m1,ut m])::cS R m1 l1 s1 b1 at_ (P.map av)::ar R s1 cs ws::ai R b1 x::bw R m l s b en at_ (P.map av)::ar R s cs ws::ai R b x::pt en (wp (es.map aR))::(es.map aH++(fs.map aH++cn R L S O)))))|`(1e4)=>`((wv (R.cad 16) dx [("deeds",ut l),("store",ut s),("boxes",ut b),("at",v0 at_)]))|`(1e5)=>`({ s with heap:=h' })|`(1e6)=>`((by symm))|`(1e7)=>`((wp (es.map aR)))|`(1e8)=>`((wp [ut SP,v0 at_,ut d,ut p,ut lv,ut lg]))|`(1e9)=>`((h.push { cls:=.type "tuple",data:=.seq rest.toArray }))|`(2e0)=>`((.v 1))|`(2e1)=>`((P.map av))|`(2e2)=>`({ cls:=.type "list",dict:=none,data:=.seq ([]:List Value).toArray })|`(2e3)=>`((s.heap.objs.size+1))|`(2e4)=>`((.ref C))|`(2e5)=>`((by simp))|`(2e6)=>`((by decide+kernel))|`(2e7)=>`((x ==("__debug__":Str)))|`(2e8)=>`((by grind))|`(2e9)=>`({ cls:=.type "dict",data:=.dict #[] })|`(3e0)=>`((wp [ut m1,ut m]))|`(3e1)=>`((∀ c o,c≠z->c≠TO->c≠i1->c≠i2->s.heap.get? c=some o->h'.get? c=some o))|`(3e2)=>`((S.map av))|`(3e3)=>`((if ah ws "look" x.h=true then bh x cs n (gt cs x.h) else .no "look" x.h))|`(3e4)=>`((ai R b ⟨h,t,l,w,s,m⟩))|`(3e5)=>`((wv (R.cad 17) dx [("store",ut s),("before",ut lb),("changes",ut lc)]))|`(3e6)=>`((.ref a))|`(3e7)=>`(((aw (n:=m+10) (z6.pull (A:=hand h _) 1e6) nofun).sub 0e1))|`(3e8)=>`({ cls:=.type "range",data:=.fields #[.int lo t,.int hi u,.int 1 v] })|`(3e9)=>`((.inl rfl))|`(4e0)=>`((by rw[ce];omega))|`(4e1)=>`((.i 1))|`(4e2)=>`((.ListComp elt [⟨tgt,iter,ifs,0⟩] scope pos))|`(4e3)=>`((.builtin "object.__class__"))|`(4e4)=>`((λe=>?_))|`(4e5)=>`((λD ys H=>(∃ ns,ys=ns.map v0/\aY ns)/\Sep (pt D (wp ys)::hand h (m+2+4*((ys.length:Nat):Int))::O) H))|`(4e6)=>`({ s with toks:=s.toks+1 })|`(4e7)=>`({ cls:=.type "traceback",dict:=none,data:=.fields ([head,.ref L,.none,rawInt L,.none]++(if pl.isEmpty then sn 6 Value.none else pl)).toArray })|`(4e8)=>`((.lst xs))|`(4e9)=>`((.v 2))|`(5e0)=>`({ s with heap:=h',toks:=t' })|`(5e1)=>`(((fs++ns).map aH++(es.map aH++cn R L S O)))|`(5e2)=>`((.exc C dx fs false))|`(5e3)=>`((.inr ⟨λn=>⟨(λz=>by cases z),(λz=>by cases z)⟩,by decide+kernel,by decide+kernel,.inr ⟨by decide+kernel,(λz=>by cases z)⟩⟩))|`(5e4)=>`((iN rs ws s0 c))|`(5e5)=>`((.ref s.heap.objs.size))|`(5e6)=>`((λh0=>?_))|`(5e7)=>`({ cls:=.type "list",data:=.seq its.toArray n })|`(5e8)=>`(⟨_,q,λx H1 q1=>⟨_,q1,λy H2 q2=>⟨_,q2,λz H3 q3=>?_⟩⟩⟩)|`(5e9)=>`((if fA (v0 (x.g b))=true then(if ah ws "put" x.t=true then .on x (cs.set x.t.toNat (x.g b)) else .no "put" x.t) else .nf b (x.g b)))
theorem My.kleA {a b k:Nat}(h:a<=k)(e:Nat.ble (b+1) a=true):b<=k-1:=Nat.le_sub_one_of_lt (nw (ol e) h)
theorem My.kleB {a b k:Nat}(h:a<=k)(e:Nat.ble b a=true):b<=k:=Nat.le_trans (ol e) h
set_option hygiene false
local macro_rules| `(tactic|sleep $n:num)=>`(tactic|((conv at h=>lhs;whnf);iterate $n (split at h;rotate_left;cases h)))
set_option hygiene true
local macro_rules|`(command|abbrev $i:declId $s:optDeclSig $v:declVal)=>`(command|noncomputable def $i:declId $s:optDeclSig $v:declVal)
local macro_rules|`(command|def $i:declId $b:bracketedBinder* :$t $v:declVal)=>`(command|theorem $i:declId $b:bracketedBinder* :$t $v:declVal)
local macro_rules|`(nofun)=>`(by first|exact My.kleA (by assumption) (by rfl)|exact My.kleB (by assumption) (by rfl)|lia|omega)
local macro_rules|`(tactic|omega)=>`(tactic|lia)
noncomputable abbrev My.pr:PySem.Program:=PySem.Challenge.rw_haulbell_k57_watched_is_a_machine.row.prog
open PySem PySem.W in
set_option maxHeartbeats 0 in
def My.K2:PySem.Challenge.rw_haulbell_k57_watched_is_a_machine.wellSaid=true:=by
  rewrite [Fast.te9446332074065402090]
  kernel_rfl
namespace L2
open PySem PySem.Spec
abbrev inClass (s:Stmt)(j:Nat):Stmt:=match s with
  | .ClassDef _ _ _ body _ _ _ _ _ _ _=>body.getD j (.Pass ⟨0,0,0,0⟩)
  |_=>.Pass ⟨0,0,0,0⟩
abbrev xb (s:Stmt):Arguments:=match s with
  | .FunctionDef _ a _ _ _ _ _ _ _ _=>a
  |_=>{ posonlyargs:=[],args:=[],vararg:=none,kwonlyargs:=[],kw_defaults:=[],kwarg:=none,defaults:=[] }
abbrev vU (s:Stmt):List Stmt:=match s with
  | .FunctionDef _ _ b _ _ _ _ _ _ _=>b
  |_=>[]
abbrev rz (s:Stmt):Scope:=match s with
  | .FunctionDef _ _ _ _ _ _ sc _ _ _=>sc
  |_=>{ kind:=.function,names:=[],isGenerator:=false,isCoroutine:=false }
end L2
namespace My
open PySem L2 PySem.W
abbrev top (i:Nat):Stmt:=PySem.Challenge.pw_haulbell_k57_watched_is_a_machine.main.body.getD i (.Pass ⟨0,0,0,0⟩)
abbrev tq (i j:Nat):Stmt:=inClass (top i) j
/-- the top's run on a tree -/
abbrev nB (tb:String->Option Builtin)(p:Program)(w:World)(m:Nat)(ann:Option Value):Nat->SharedT->Thread->Option SharedT
  |0,_,_=>none
  |n+1,s,t=>match through t with
    |true=>some s
    |false=>match stepOk m ann t with
      |false=>none
      |true=>match stepT (denote tb) p w s t with
        |some r=>nB tb p w m ann n r.1 r.2
        |none=>none
def wL {tb:String->Option Builtin}{p:Program}{w:World}{m:Nat}{ann:Option Value}:∀ {n:Nat}{s s':SharedT}{t:Thread},nB tb p w m ann n s t=some s'->topRun tb p w m ann n s.abs t=some s'.abs
  |0,_,_,_,h=>by cases h
  |n+1,s,s',t,h=>by
    unfold nB at h;unfold topRun;cases a:through t
    · rw[a]at h;dsimp only at h⊢
      cases b:stepOk m ann t
      · rw[b]at h;cases h
      · rw[b]at h;dsimp only at h⊢
        cases c:stepT (denote tb) p w s t with
        |none=>rw[c]at h;cases h
        |some r=>rw[c]at h;rw[stepT_spec c];exact wL h
    · rw[a]at h;cases h;rfl
abbrev Il:Nat->BT->List Obj->BT
  |_,t,[]=>t
  |n,t,o::os=>Il (n+1) (t.ins n o) os
abbrev BH (P:Params):BT:=Il 0 .nil (boot_heap P).objs.toList
abbrev La (P:Params)(os:OsState):SharedT:=⟨BH P,11,(boot_heap P).life,Array.mk [],boot_drawn,boot_toks,os⟩
def yA {p q:Program}{loose:List Str}{Xt:Shared->Bool}{α:Type}{Yf:Shared->α}{Ya:World->α}{N:Nat}(e:opening p=plainProg p.main.scope.names)(hN:Nat.ble 600 N=true)(f:∀ s,fenceModules? p s=some s)
    (h0:∀ P,absHeap (BH P) 11 (boot_heap P).life=boot_heap P) (h1:∀ P,((boot_heap P).isNs mainGlobals,(boot_heap P).objs.size,(boot_heap P).nsMap mainGlobals "__annotations__")=(true,11,some (.ref 6)))
    (run:∀ (w:World) (os:OsState),(nB treeTable p w 11 (some (.ref 6)) N (La w.params os) (topStub p)).map (λs=>(staticsOk (importedModules p.main.body) (boot_heap w.params) s.abs.heap&&namesBound p s.abs.heap&&gensDone s.abs&&laidKept (boot_heap w.params) s.abs.heap,
      openSeen q loose (importedModules p.main.body) Xt true s.abs,Yf s.abs))=some (true,openGood q loose,Ya w)):LeftO p q loose Xt Yf Ya N:=λw=>by
  obtain⟨⟨hp,gs,d,k,os⟩,e1,e2⟩:=nl.mp (boot_open e hN f w);obtain⟨rfl,rfl,rfl,rfl⟩:hp=boot_heap w.params/\gs=Array.mk []/\d=boot_drawn/\k=boot_toks:=by simpa using e2
  obtain⟨z1,z2,z3⟩:_/\_/\_:=by simpa only [Prod.mk.injEq] using h1 w.params
  obtain⟨s,r,l⟩:=nl.mp (run w os);obtain⟨l1,l2,l3⟩:_/\_/\_:=by simpa only [Prod.mk.injEq] using l
  have r1:=wL r;have a0:(La w.params os).abs=⟨boot_heap w.params,Array.mk [],boot_drawn,boot_toks,os⟩:=by
    show(⟨absHeap (BH w.params) 11 (boot_heap w.params).life,Array.mk [],boot_drawn,boot_toks,os⟩:Shared)=_;rw[h0]
  rw[a0]at r1;unfold openEnds;rw[e1];have t:topFrom treeTable p w N ⟨boot_heap w.params,Array.mk [],boot_drawn,boot_toks,os⟩=some s.abs:=by
    unfold topFrom;dsimp only;rw[z1,z2,z3,r1];show(match staticsOk (importedModules p.main.body) (boot_heap w.params) s.abs.heap&&namesBound p s.abs.heap&&gensDone s.abs&&laidKept (boot_heap w.params) s.abs.heap with|true=>some s.abs|false=>none)=some s.abs;rw[l1]
  show(topFrom treeTable p w N _).map _=_;rw[t];exact congrArg some (Prod.ext l2 l3)
abbrev K8:List Addr:=2::3::30::31::47::48::50::51::66::67::69::70::85::86::88::89::104::105::107::108::123::124::126::127::142::143::145::146::161::162::164::165::180::181::183::184::192::193::199::200::201::207::208::214::215::221::222::230::236::237::243::244::250::251::255::256::262::263::265::266::276::277::283::284::293::294::311::312::318::319::325::326::328::329::344::345::351::352::358::359::361::362::377::378::384::385::391::392::394::395::410::411::417::418::424::425::427::428::443::444::450::451::457::458::460::461::469::470::476::477::483::484::492::498::499::505::506::512::513::519::520::526::527::533::534::540::541::547::548::554::555::559::560::566::567::569::570::587::588::594::595::601::602::608::609::611::612::624::630::631::637::638::642::643::663::664::666::667::675::676::682::683::691::697::698::704::705::711::712::714::715::723::724::730::731::737::738::744::745::751::752::758::759::772::773::779::780::782::783::798::799::805::806::808::809::824::825::831::832::834::835::850::851::857::858::860::861::876::877::883::884::886::887::902::903::909::910::912::913::916::922::923::929::930::936::937::950::951::957::958::964::965::971::972::978::979::985::986::992::993::999::1000::1013::1014::1016::1017::1027::1028::1034::1035::1041::1042::1046::1047::1053::1054::1067::1068::1074::1075::1081::1082::1088::1089::1095::1096::1102::1103::1109::1110::1116::1117::1123::1124::1130::1131::1137::1138::1144::1145::1151::1152::1158::1159::1163::1164::1168::1169::1175::1176::1182::1183::1189::1190::1196::1197::1203::1204::1208::1209::[]
abbrev Ms:List Addr:=48::67::86::105::124::143::162::181::193::200::208::215::222::237::244::251::256::263::277::284::312::319::326::345::352::359::378::385::392::411::418::425::444::451::458::470::477::484::499::506::513::520::527::534::541::548::555::560::567::588::595::602::609::631::638::643::664::676::683::698::705::712::724::731::738::745::752::759::773::780::799::806::825::832::851::858::877::884::903::910::923::930::937::951::958::965::972::979::986::993::1000::1014::1028::1035::1042::1047::1054::1068::1075::1082::1089::1096::1103::1110::1117::1124::1131::1138::1145::1152::1159::1164::1169::1176::1183::1190::1197::1204::1209::[]
abbrev Nj:List Addr:=[31,51,70,89,108,127,146,165,184,266,294,329,362,395,428,461,570,612,667,715,783,809,835,861,887,913,1017]
abbrev runK (tb:String->Option Builtin)(p:Program)(w:World)(m:Nat)(ann:Option Value):Nat->SharedT->Thread->Option (SharedT×Thread)
  |0,s,t=>some (s,t)
  |n+1,s,t=>match through t with
    |true=>none
    |false=>match stepOk m ann t with
      |false=>none
      |true=>match stepT (denote tb) p w s t with
        |some r=>runK tb p w m ann n r.1 r.2
        |none=>none
def cQ {tb:String->Option Builtin}{p:Program}{w:World}{m:Nat}{ann:Option Value}{k:Nat}:∀ {n:Nat}{s:SharedT}{t:Thread}{r:SharedT×Thread},runK tb p w m ann n s t=some r->nB tb p w m ann (n+k) s t=nB tb p w m ann k r.1 r.2
  |0,s,t,r,h=>by
    rw[Nat.zero_add];cases h
    rfl
  |n+1,s,t,r,h=>by
    rw[Nat.succ_add];unfold runK at h;conv=>lhs;unfold nB
    cases a:through t
    · rw[a]at h;dsimp only at h⊢
      cases b:stepOk m ann t
      · rw[b]at h;cases h
      · rw[b]at h;dsimp only at h⊢
        cases c:stepT (denote tb) p w s t with
        |none=>rw[c]at h;cases h
        |some r=>rw[c]at h;exact cQ h
    · rw[a]at h;cases h
abbrev kT (x y:Str)(s:Stmt):Obj:=⟨.none,none,.func { name:=x,qualname:=y,params:=xb s,body:=.stmts (vU s),scope:=rz s,globals:=builtinsNs,closure:=[],defaults:=.none,kwdefaults:=.none },#[]⟩
abbrev bo (P:Params)(i:Nat):Obj:=(boot_heap P).objs.toList.getD i ⟨.none,none,.plain,#[]⟩
abbrev jZ (p:Program):Env:={ scope:=p.main.scope,locals:=mainNs,globals:=mainNs,cells:=[],code:=.ref 13,frame:=some 14 }
abbrev MT:Frame:=.ret (λx=>Sem.bind (match x with| .ok f=>Sem.pure f| .error e=>Sem.raise e) (λ_=>ret .none)) none false [] (.builtin "claim.caller" {}) default []
abbrev En (p:Program)(X:List Stmt):Sem Fin:=Sem.bind (Sem.onRaise (execs X (jZ p)) (leaving (jZ p))) (λa=>Sem.pure (Fin.done a))
abbrev j9 (p:Program)(X:List Stmt)(q:Pos):Thread:=⟨En p X,.body (ac p) (jZ p),q,[MT]⟩
def AG {tb:String->Option Builtin}{p:Program}(h:blockStart (ac p) (jZ p)=Sem.pure ()):denote tb (.body (ac p) (jZ p))=En p (ac p):=by
  show Sem.bind (blockStart (ac p) (jZ p)) (λ_=>En p (ac p))=_;rw[h]
  rfl
abbrev o0:Obj:=⟨.type "tuple",none,.seq #[] 0,#[]⟩
abbrev oN:Obj:=⟨.none,none,.fields #[],#[]⟩
abbrev oL:List Str->Nat->List Value
  | [],_=>[]
  |x::r,t=>.str x t::oL r (t+1)
abbrev oS (l:List Str)(t:Nat):Obj:=⟨.type "tuple",none,.seq (Array.mk (oL l t)) 0,#[]⟩
abbrev Lq (l:List (Int×Nat)):Array Value:=(l.flatMap λp=>[.int p.1 0,.int 0 0,.ref p.2]).toArray
abbrev Nm:List (Int×Nat):=[(1,20),(5,27),(7,40),(12,59),(19,78),(25,97),(31,116),(36,135),(41,154),(46,173),(53,192),(55,199),(59,207),(61,214),(63,221),(71,228),(100,276),(103,283),(106,290),(108,304),(122,337)]
abbrev M3:List (Int×Nat):=Nm++[(136,370),(150,403),(162,436),(179,469),(185,476),(188,483),(195,490),(253,580),(269,622),(299,675),(301,682),(303,689)]
abbrev M7:List (Int×Nat):=M3++[(322,723),(324,730),(326,737),(329,744),(332,751),(335,758),(342,765),(354,791),(365,817),(380,843),(397,869),(415,895),(433,922),(439,929)]
abbrev NJ:List (Int×Nat):=M7++[(441,936),(443,943),(491,1027),(497,1034),(513,1041),(521,1046),(529,1053),(537,1060),(539,1067),(548,1074),(559,1081),(577,1088),(592,1095),(595,1102),(599,1109),(613,1116),(621,1123),(632,1130),(655,1137),(684,1144),(702,1151),(707,1158),(709,1163),(718,1168),(731,1175),(733,1182),(737,1189),(744,1196),(751,1203)]
abbrev oI (l c a:Nat):Obj:=⟨.none,none,.fields #[.int l 0,.int c 0,.ref a],#[]⟩
abbrev oK (x:Str)(t l r:Nat):Obj:=⟨.type "code",none,.fields #[.str x t,.str x (t+1),.str "/claim/cut.py" (t+2),.int l 0,.int 0 0,.int 0 0,.int 0 0,.int 0 0,.ref r,.bool false,.int 181 0,.ref (r+1),.none,.none,.none,.none,.int (t+3:Nat) 0,.int l 0,.str "/claim/cut.py" (t+4)],#[]⟩
abbrev oC (x y:Str)(t l n r u:Nat):Obj:=⟨.type "code",none,.fields #[.str x t,.str y (t+1),.str "/claim/cut.py" (t+2),.int l 0,.int n 0,.int 0 0,.int 0 0,.int 3 0,.ref r,.bool true,.int 181 0,.ref (r+1),.none,.ref (r+2),.ref (r+3),.ref (r+4),.int u 0,.int l 0,.str "/claim/cut.py" (u+1)],#[]⟩
abbrev oF (x y:Str)(s:Stmt)(m:Str)(t c:Nat)(d:Value:=.none):Obj:=⟨.type "function",none,.func (fnOf x y (xb s) (vU s) (rz s) d .none .none (.str m t) none (.ref c) .none),#[]⟩
abbrev oR (a b:Nat)(m:Str)(t:Nat):Obj:=⟨.type "frame",none,.plain,#[some 3e6,some (.ref 3),some (.ref b),none,some (.str m t),none,some (.ref 0)]⟩
abbrev oX (x:Str)(b m:List Value)(n:Addr)(s:List Value)(r t u:Nat)(w:String):Obj:=⟨.type "type",none,.cls ⟨x,b,m,n,x,true,[],s,false,none,false⟩,#[some (.ref r),none,some (.str x t),some (.str x u),some (.builtin w),some (.bool true)]⟩
abbrev oU (a:Addr):Obj:=⟨.type "super",none,.fields #[.ref a,.ref a,.ref a],#[]⟩
abbrev oJ (a:Addr):Obj:=⟨.type "builtin_function_or_method",none,.fields #[.builtin "object.__init_subclass__",.ref a],#[]⟩
abbrev oP:Obj:=⟨.type "builtin_function_or_method",none,.fields #[.builtin "type.__prepare__",.type "type"],#[]⟩
abbrev oQ (a:Addr):Obj:=⟨.type "tuple",none,.seq #[.ref a] 0,#[]⟩
abbrev fG (x y:Str)(s:Stmt)(m:Str)(mt:Nat)(l:List Str)(t ln n a:Nat)(r:List Obj):List Obj:=o0::oN::oS l (t+3)::o0::kT x y s::oC x y t ln n a (t+3+l.length)::oF x y s m mt (a+5)::r
abbrev oW:List (Nat×Obj)->List Obj->List Obj
  | [],l=>l
  |x::r,l=>(oW r l).set x.1 x.2
abbrev eV (x:Str)(t:Tok)(v:Value)(P:Params):DictEntry:=⟨PyData.keyHash P x,.str x t,v⟩
abbrev eM (t:Nat)(m:Str)(u:Nat):Params->DictEntry:=eV "__module__" t (.str m u)
abbrev eQ (t:Nat)(m:Str)(u:Nat):Params->DictEntry:=eV "__qualname__" t (.str m u)
abbrev eF (t l u:Nat):Params->DictEntry:=eV "__firstlineno__" t (.int l u)
abbrev eS (t a:Nat):Params->DictEntry:=eV "__static_attributes__" t 3e6
abbrev eN (t:Nat):Params->DictEntry:=eV "__doc__" t .none
abbrev eR (x:Str)(t a:Nat):Params->DictEntry:=eV x t 3e6
abbrev oD (P:Params)(es:List (Params->DictEntry))(n:Nat):Obj:=⟨.type "dict",none,.dict (Array.mk (es.map λf=>f P)) n,#[]⟩
abbrev Nw (P:Params):List Obj:=
bo P 0::
bo P 1::
bo P 2::
bo P 3::
bo P 4::
bo P 5::
bo P 6::
bo P 7::
bo P 8::
bo P 9::
bo P 10::
o0::
oN::
oK "<module>" 182 1 11::
oR 13 3 "__main__" 164::[]
abbrev NC (x y:Str)(t l n r:Nat):Obj:=⟨.type "code",none,.fields #[.str x t,.str y (t+1),.str "/claim/cut.py" (t+2),.int l 0,.int n 0,.int 0 0,.int 0 0,.int 3 0,.ref r,.bool true,.int 181 0,.ref (r+1),.none,.none,.none,.ref (r+2),.int (t+3:Nat) 0,.int l 0,.str "/claim/cut.py" (t+4)],#[]⟩
abbrev oG (x b:String)(v:Value)(a t:Nat):Obj:=⟨.type "getset_descriptor",none,.fields #[.str (Str.ofString x) t,.ref a,.builtin b,v],#[]⟩
@[reducible]def Mt:Type:=Str×Str×List Str×Nat×Nat×List (Obj×Nat)
abbrev E9 (a t:Nat)(s:Stmt)(m:Str×Nat)(x y:Str)(l:List Str)(ln n:Nat)(d:Value):List Obj:=match l with
  | []=>o0::oN::kT x y s::NC x y t ln n a::oF x y s m.1 m.2 (a+3) d::[]
  |_=>o0::oN::oS l (t+3)::o0::kT x y s::oC x y t ln n a (t+3+l.length)::oF x y s m.1 m.2 (a+5) d::[]
abbrev M6 (a t:Nat)(s:Stmt)(m:Str×Nat)(q:Mt):List Obj:=match q.2.2.2.2.2 with
  | []=>E9 a t s m q.1 q.2.1 q.2.2.1 q.2.2.2.1 q.2.2.2.2.1 .none
  |d::_=>d.1::E9 (a+1) (t+d.2) s m q.1 q.2.1 q.2.2.1 q.2.2.2.1 q.2.2.2.2.1 3e6
abbrev Fm (q:Mt)(a:Nat):Nat:=match q.2.2.1 with
  | []=>a+5+q.2.2.2.2.2.length
  |_=>a+7+q.2.2.2.2.2.length
abbrev JS (q:Mt)(t:Nat):Nat:=match q.2.2.2.2.2 with
  | []=>t+6+q.2.2.1.length
  |d::_=>t+d.2+6+q.2.2.1.length
abbrev Ni (i:Nat)(m:Str×Nat):Nat->List Mt->Nat->Nat->(List Obj->Nat->Nat->List Obj)
  |_,[],_,_=>λr _ _=>r
  |j,q::l,a,t=>λr x y=>M6 a t (inClass (top i) j) m q++Ni i m (j+1) l (Fm q a) (JS q t) r x y
abbrev Nb:List Mt->Nat->Nat
  | [],a=>a
  |q::l,a=>Nb l (Fm q a)
abbrev Na:List Mt->Nat->Nat
  | [],a=>a
  |q::l,a=>Na l (JS q a)
abbrev M5:List Mt->Nat->Nat->List (Params->DictEntry)->List (Params->DictEntry)
  | [],_,_,r=>r
  |q::l,a,t,r=>eR q.1 (JS q t-1) (Fm q a-1)::M5 l (Fm q a) (JS q t) r
abbrev Nd:List Mt->Nat->List Value
  | [],_=>[]
  |q::l,a=>.int q.2.2.2.1 0::.int 4 0::.ref (Fm q a-2)::Nd l (Fm q a)
@[reducible]def It:Type:=(Params->List Obj)×List (Params->DictEntry)×List Value
abbrev iF (a t i:Nat)(m:Str×Nat)(x:Str)(l:List Str)(ln n:Nat)(d:List (Obj×Nat):=[]):It:=(λ_=>M6 a t (top i) m (x,x,l,ln,n,d),eR x (JS (x,x,l,ln,n,d) t-1) (Fm (x,x,l,ln,n,d) a-1)::[],.int ln 0::.int 0 0::.ref (Fm (x,x,l,ln,n,d) a-2)::[])
abbrev iR (o:Params->List Obj):It:=(o,[],[])
abbrev iE (x:Str)(t:Nat)(v:Value):It:=(λ_=>[],[eV x t v],[])
abbrev iC (a T i:Nat)(m:Str×Nat)(x:Str)(ln:Nat)(ms:List Mt)(st:List Str)(sub:List Value:=[]) (br:Nat:=0) (mro:List Value:=[]) (w:String:=""):It:=
  let b:=Nb ms (a+7)
  let s:=Na ms (T+12)
  let e:=s+st.length
  let h (z:List (Params->DictEntry)):=eF (T+11) ln (T+10)::M5 ms (a+7) (T+12) (eS e b::z)
  let o (y:List (Params->DictEntry)) (z k:Obj) (n:Nat) (r:List Obj) (P:Params):List Obj:=z::oP::oD P (eM (T+7) m.1 m.2::eQ (T+9) x (T+8)::h []) (4+ms.length)::o0::⟨.none,none,.fields (Array.mk (Nd ms (a+7))),#[]⟩::oK x (T+2) ln (a+3)::oR (a+5) (a+2) m.1 m.2::Ni i m 0 ms (a+7) (T+12) ((match st with| []=>o0|_=>oS st s)::oD P (eM (T+7) m.1 m.2::h y) n::k::r) 0 0
  match br with
  |0=>(o [eR "__dict__" (e+2) (b+3),eR "__weakref__" (e+4) (b+4),eN (e+5)] o0 ⟨.type "type",none,.cls ⟨x,[.type "object"],[.ref (b+2),.type "object"],b+1,x,true,[],sub,false,none,false⟩,#[none,none,some (.str x T),some (.str x (T+8)),some (.builtin "object.__new__"),some (.bool true)]⟩ 4 [oG "__dict__" "function.__dict__" (.builtin "function.__dict__#set") (b+2) (e+1),oG "__weakref__" "ExceptionGroup.__weakref__" .none (b+2) (e+3),oU (b+2),oJ (b+2)],eR x (e+7) (b+2)::[],.int ln 0::.int 0 0::.ref (a+5)::[])
  |_=>(o [eN (e+1)] (oQ br) (oX x [.ref br] (.ref (b+2)::.ref br::mro) (b+1) sub a T (T+8) w) 2 [oU (b+2),oJ (b+2)],eR x (e+3) (b+2)::[],.int ln 0::.int 0 0::.ref (a+5)::[])
abbrev JN (P:Params)(nm:Str)(nt n:Nat)(l:List It):List Obj:=bo P 0::bo P 1::bo P 2::oD P (eV "__name__" 165 (.str nm nt)::eN 166::eV "__package__" 167 .none::eV "__loader__" 168 (.builtin "__main__.__loader__#opaque")::eV "__spec__" 169 .none::eR "__annotations__" 170 6::eR "__builtins__" 171 4::eV "__file__" 173 (.str "/claim/cut.py" 172)::eV "__cached__" 174 .none::l.flatMap (·.2.1)) n::bo P 4::bo P 5::bo P 6::bo P 7::bo P 8::bo P 9::bo P 10::o0::⟨.none,none,.fields (Array.mk (l.flatMap (·.2.2))),#[]⟩::oK "<module>" 182 1 11::oR 13 3 "__main__" 164::l.flatMap (·.1 P)
abbrev NK:Str×Nat:=("__main__",164)
abbrev Fv:Str×Nat:=("haulbell.errors",194)
abbrev MU:Str×Nat:=("haulbell.wholes",422)
abbrev Lg:Str×Nat:=("haulbell.boxes",440)
abbrev Fl:Str×Nat:=("haulbell.deeds",545)
abbrev Lc:Str×Nat:=("haulbell.machine",795)
abbrev Nk:Str×Nat:=("haulbell.watched",940)
abbrev LP:Str×Nat:=("haulbell.hops",1069)
abbrev zg:Str×Nat:=("haulbell.longs",1131)
abbrev Ld:Str×Nat:=("haulbell.store",1385)
abbrev cj:Str×Nat:=("law_haulbell_k57_watched_is_a_machine",1523)
abbrev Ff (a T i:Nat)(m:Str×Nat)(x:Str)(ln:Nat)(ms:List Mt)(st:List Str)(sub:List Value:=[]):It:=iC a T i m x ln ms st sub 31 [.type "ValueError",.type "Exception",.type "BaseException",.type "object"] "ValueError.__new__"
abbrev yZ (a T i:Nat)(m:Str×Nat)(x:Str)(ln:Nat)(ms:List Mt)(st:List Str)(sub:List Value:=[]):It:=iC a T i m x ln ms st sub 294 [.type "object"] "object.__new__"
abbrev Nu (a T i:Nat)(m:Str×Nat)(x:Str)(ln:Nat)(ms:List Mt)(st:List Str)(sub:List Value:=[]):It:=iC a T i m x ln ms st sub 570 [.type "object"] "object.__new__"
abbrev Bq:List It:=
iF 15 187 0 NK "_wall" ["k"] 1 1::
iE "HaulError" 213 (.ref 31)::
iR (λP=>[⟨.type "tuple",none,.seq #[.type "ValueError"] 0,#[]⟩,oP,oD P [eM 203 "haulbell.errors" 194,eQ 205 "HaulError" 204,eF 207 5 206,eS 208 29] 4,o0,oN,oK "HaulError" 198 5 25,oR 27 24 "haulbell.errors" 194,o0,oD P [eM 203 "haulbell.errors" 194,eF 207 5 206,eS 208 29,eR "__weakref__" 210 32,eN 211] 3,oX "HaulError" [.type "ValueError"] [.ref 31,.type "ValueError",.type "Exception",.type "BaseException",.type "object"] 30 [.ref 51,.ref 70,.ref 89,.ref 108,.ref 127,.ref 146,.ref 165,.ref 184] 22 196 204 "ValueError.__new__",⟨.type "getset_descriptor",none,.fields #[.str "__weakref__" 209,.ref 31,.builtin "ExceptionGroup.__weakref__",.none],#[]⟩,oU 31,oJ 31])::
Ff 35 214 3 Fv "NoStore" 7 [("__init__","NoStore.__init__",["self","at"],9,2,[])] ["at"]::
Ff 54 239 4 Fv "NoLeave" 12 [("__init__","NoLeave.__init__",["self","low","behind","word"],14,4,[])] ["behind","low","word"]::
Ff 73 268 5 Fv "Stop" 19 [("__init__","Stop.__init__",["self","deed","cell"],21,3,[])] ["cell","deed"]::
Ff 92 295 6 Fv "NoFit" 25 [("__init__","NoFit.__init__",["self","box","number"],27,3,[])] ["box","number"]::
Ff 111 322 7 Fv "NoBox" 31 [("__init__","NoBox.__init__",["self","box"],33,2,[])] ["box"]::
Ff 130 347 8 Fv "NoDeed" 36 [("__init__","NoDeed.__init__",["self","word"],38,2,[])] ["word"]::
Ff 149 372 9 Fv "NoRows" 41 [("__init__","NoRows.__init__",["self","at"],43,2,[])] ["at"]::
Ff 168 397 10 Fv "NoPlace" 46 [("__init__","NoPlace.__init__",["self","at"],48,2,[])] ["at"]::
iE "BOUND" 425 (.int 1000000000 424)::
iF 187 426 13 MU "is_whole" ["thing"] 53 1::
iF 194 433 14 MU "is_content" ["thing"] 55 1::
iE "NAMES" 448 (.ref 201)::
iR (λ_=>[oS ["here","there","left","way","sign","met"] 442])::
iF 202 449 17 Lg "is_box" ["thing"] 59 1::
iF 209 456 18 Lg "is_number" ["thing"] 61 1::
iF 216 463 19 Lg "fits" ["box","thing"] 63 2::
iC 223 471 20 Lg "Boxes" 71 [("__init__","Boxes.__init__",["self","here","there","left","way","sign","met","handed","box","number"],73,7,[(⟨.type "tuple",none,.seq #[.int 0 483,.int 0 484,.int 0 485,.int 1 486,.int 0 487,.int 0 488] 0,#[]⟩,6)]),("holds","Boxes.holds",["self","box"],80,2,[]),("give","Boxes.give",["self","box","number"],85,3,[]),("told","Boxes.told",[],92,1,[]),("copied","Boxes.copied",["self","other"],95,1,[])] ["numbers"]::
iF 271 547 22 Fl "check_box" ["word","box"] 100 2::
iF 278 555 23 Fl "check_number" ["word","number"] 103 2::
iC 285 563 0 Fl "Deed" 106 [] [] [.ref 329,.ref 362,.ref 395,.ref 428,.ref 461,.ref 715,.ref 783,.ref 809,.ref 835,.ref 861,.ref 887,.ref 913]::
yZ 299 583 25 Fl "Set" 108 [("__init__","Set.__init__",["self","box","number"],110,3,[]),("step","Set.step",["self","boxes","store"],116,3,[]),("words","Set.words",["self"],120,1,[])] ["box","number"]::
yZ 332 626 26 Fl "Add" 122 [("__init__","Add.__init__",["self","box","number"],124,3,[]),("step","Add.step",["self","boxes","store"],130,3,[]),("words","Add.words",["self"],134,1,[])] ["box","number"]::[]
abbrev lD:List It:=
yZ 365 669 27 Fl "Take" 136 [("__init__","Take.__init__",["self","box","other"],138,3,[]),("step","Take.step",["self","boxes","store"],144,3,[]),("words","Take.words",["self"],148,1,[])] ["box","other"]::
yZ 398 712 28 Fl "Read" 150 [("__init__","Read.__init__",["self","box"],152,2,[]),("step","Read.step",["self","boxes","store"],156,3,[]),("words","Read.words",["self"],160,1,[])] ["box"]::
yZ 431 753 29 Fl "Write" 162 [("__init__","Write.__init__",["self","box"],164,2,[]),("step","Write.step",["self","boxes","store","number"],168,3,[]),("words","Write.words",["self"],175,1,[])] ["box"]::
iE "MOST_ROWS" 798 (.int 24 797)::
iF 464 799 32 Lc "check_rows" ["rows","at","thing"] 179 1::
iF 471 808 33 Lc "check_place" ["at","many"] 185 2::
iF 478 816 34 Lc "tried" ["deed","boxes","store","stop","refusal"] 188 3::
iC 485 827 35 Lc "Machine" 195 [("__init__","Machine.__init__",["self","rows","store","boxes","at"],197,5,[(⟨.type "tuple",none,.seq #[.int 0 839] 0,#[]⟩,1)]),("ended","Machine.ended",["self"],205,1,[]),("step_on","Machine.step_on",["self","store","by"],208,2,[]),("step","Machine.step",["self"],217,1,[]),("run","Machine.run",["self","most","steps"],220,2,[]),("why","Machine.why",["self","cause"],230,1,[]),("state","Machine.state",["self"],238,1,[]),("leaves","Machine.leaves",["self"],241,1,[]),("leave","Machine.leave",["self","low","behind","word"],244,4,[]),("rows","Machine.rows",[],247,1,[]),("copied","Machine.copied",["self"],250,1,[])] ["at","boxes","deeds","store"] [.ref 667]::
iC 575 942 37 Nk "Noted" 253 [("__init__","Noted.__init__",["self","store"],255,2,[]),("may","Noted.may",["self","deed","cell"],260,3,[]),("look","Noted.look",["self","cell"],263,2,[]),("put","Noted.put",["self","cell","content"],266,3,[])] ["before","changes","store"]::
Nu 617 999 38 Nk "Watched" 269 [("__init__","Watched.__init__",["self","rows","store","boxes","at"],271,5,[(⟨.type "tuple",none,.seq #[.int 0 1011] 0,#[]⟩,1)]),("step","Watched.step",["self","row","ahead","noted","word"],275,1,[]),("log","Watched.log",[],284,1,[]),("back","Watched.back",["self","many"],287,2,[]),("undo","Watched.undo",["self","entry"],290,2,[]),("copied","Watched.copied",["self","other"],293,1,[])] ["entries"]::
iE "MOST_HOPPED" 1072 (.int 24 1071)::
iF 670 1073 41 LP "is_many" ["thing"] 299 1::
iF 677 1080 42 LP "is_on" ["thing"] 301 1::
yZ 684 1087 43 LP "Hop" 303 [("__init__","Hop.__init__",["self","many","on"],305,3,[(⟨.type "tuple",none,.seq #[.none] 0,#[]⟩,0)]),("step","Hop.step",["self","boxes","store"],311,3,[]),("words","Hop.words",["self","told"],316,1,[])] ["many","on"]::[]
abbrev FG:List It:=
iF 718 1133 45 zg "more" ["boxes","box","by"] 322 3::
iF 725 1142 46 zg "go_by_way" ["boxes","box"] 324 2::
iF 732 1150 47 zg "less_left" ["boxes","by"] 326 2::
iF 739 1158 48 zg "ask_put" ["store","cell"] 329 2::
iF 746 1166 49 zg "haul" ["store","source","target","content"] 332 3::
iF 753 1176 50 zg "exchange" ["store","one","other","first","second"] 335 3::
yZ 760 1187 51 zg "Copy" 342 [("step","Copy.step",["self","boxes","store"],344,3,[]),("words","Copy.words",["self"],352,1,[])] []::
yZ 786 1219 52 zg "Fill" 354 [("step","Fill.step",["self","boxes","store"],356,3,[]),("words","Fill.words",["self"],363,1,[])] []::
yZ 812 1251 53 zg "Seek" 365 [("step","Seek.step",["self","boxes","store"],367,3,[]),("words","Seek.words",["self"],378,1,[])] []::
yZ 838 1283 54 zg "Match" 380 [("step","Match.step",["self","boxes","store","content"],382,3,[]),("words","Match.words",["self"],395,1,[])] []::
yZ 864 1316 55 zg "Shift" 397 [("step","Shift.step",["self","boxes","store","left","here","there"],399,3,[]),("words","Shift.words",["self"],413,1,[])] []::
yZ 890 1351 56 zg "Turn" 415 [("step","Turn.step",["self","boxes","store","left","here"],417,3,[]),("words","Turn.words",["self"],428,1,[])] []::
iE "MOST_CELLS" 1388 (.int 60 1387)::
iE "LEAVES" 1392 (.ref 916)::
iR (λ_=>[oS ["open","look","shut"] 1389])::
iF 917 1393 60 Ld "check_cells" ["cells","at","thing"] 433 1::
iF 924 1402 61 Ld "is_leave" ["word"] 439 1::[]
abbrev Kh:List It:=
iF 931 1409 62 Ld "is_within" ["low","behind","size"] 441 3::
iC 938 1418 63 Ld "Store" 443 [("__init__","Store.__init__",["self","cells"],445,2,[]),("size","Store.size",["self"],450,1,[]),("told","Store.told",["self"],453,1,[]),("leaves","Store.leaves",["self"],456,1,[]),("leave","Store.leave",["self","low","behind","word","cell"],459,4,[]),("may","Store.may",["self","deed","cell"],465,3,[]),("look","Store.look",["self","cell"],472,2,[]),("put","Store.put",["self","cell","content"],477,3,[]),("restore","Store.restore",["self","cell","content"],482,3,[]),("copied","Store.copied",["self","other"],485,1,[])] ["contents","permits"]::
iF 1022 1525 65 cj "_law_hand" ["_law_script","_law_cells_here","_law_fold","_law_cell"] 491 1::
iF 1029 1535 66 cj "_law_draw" ["_law_hand_here","_law_many","_law_rest","_law_cell","_law_one","_law_two"] 497 2::
iF 1036 1547 67 cj "_law_content" ["_law_hand_here","_law_way","_law_few"] 513 1::
iF 1043 1556 68 cj "_law_cells" [] 521 2::
iF 1048 1562 69 cj "_law_leaves" ["_law_hand_here","_law_many","_law_leaves_here","_law_k","_law_word","_law_low","_law_cell"] 529 2::
iF 1055 1575 70 cj "_law_whole" ["_law_thing"] 537 1::
iF 1062 1582 71 cj "_law_spot" ["_law_hand_here","_law_many","_law_way"] 539 2::
iF 1069 1591 72 cj "_law_six" ["_law_hand_here","_law_cells_here","_law_many","_law_way","_law_left","_law_sign","_law_here","_law_there"] 548 2::
iF 1076 1605 73 cj "_law_spec" ["_law_hand_here","_law_size","_law_way","_law_names","_law_box","_law_pick"] 559 2::
iF 1083 1617 74 cj "_law_deed" ["_law_spec_here","_law_word"] 577 1::
iF 1090 1625 75 cj "_law_long" ["_law_word","_law_made"] 592 1::
iF 1097 1633 76 cj "_law_let" ["_law_leaves_here","_law_deed_here","_law_cell"] 595 3::
iF 1104 1642 77 cj "_law_reach" ["_law_spec_here","_law_boxes_here","_law_here","_law_there","_law_left","_law_word","_law_far","_law_found"] 599 2::
iF 1111 1656 78 cj "_law_fits" ["_law_box","_law_number"] 613 2::
iF 1118 1664 79 cj "_law_barred" ["_law_spec_here","_law_boxes_here","_law_leaves_here","_law_looks","_law_puts","_law_cell"] 621 3::
iF 1125 1676 80 cj "_law_step" ["_law_spec_here","_law_boxes_here","_law_cells_here","_law_leaves_here","_law_barred_here","_law_word","_law_number"] 632 4::
iF 1132 1689 81 cj "_law_moved" ["_law_word","_law_boxes_here","_law_cells_here","_law_here","_law_there","_law_left","_law_way","_law_size","_law_content_here"] 655 3::
iF 1139 1704 82 cj "_law_looked" ["_law_word","_law_boxes_here","_law_cells_here","_law_here","_law_there","_law_left","_law_way","_law_other"] 684 3::
iF 1146 1718 83 cj "_law_store" ["_law_cells_here","_law_leaves_here","_law_store_here","_law_cell"] 702 2::
iF 1153 1728 84 cj "_law_boxes" ["_law_six_here"] 707 1::
iF 1160 1735 85 cj "_law_own" [] 709 3::
iF 1165 1741 86 cj "_law_go" [] 718 1::
iF 1170 1747 87 cj "_law_state" ["_law_own_here"] 731 1::
iF 1177 1754 88 cj "_law_stands" ["_law_machine","_law_own_here"] 733 2::
iF 1184 1762 89 cj "_law_run" ["_law_own_here","_law_most","_law_done"] 737 2::
iF 1191 1771 90 cj "_law_why" ["_law_own_here","_law_told"] 744 1::
iF 1198 1779 91 cj "_law_leave" ["_law_hand_here","_law_pair","_law_own_here","_law_low","_law_behind","_law_word","_law_machine","_law_cell"] 751 3::[]
abbrev NA (P:Params):List Obj:=oW [(12,⟨.none,none,.fields (Lq Nm),#[]⟩),(294,⟨.type "type",none,.cls ⟨"Deed",[.type "object"],[.ref 294,.type "object"],293,"Deed",true,[],[.ref 329,.ref 362],false,none,false⟩,#[none,none,some (.str "Deed" 563),some (.str "Deed" 571),some (.builtin "object.__new__"),some (.bool true)]⟩)] (JN P "haulbell.deeds" 545 32 Bq)
abbrev NN (P:Params):List Obj:=oW [(12,⟨.none,none,.fields (Lq M3),#[]⟩),(294,⟨.type "type",none,.cls ⟨"Deed",[.type "object"],[.ref 294,.type "object"],293,"Deed",true,[],[.ref 329,.ref 362,.ref 395,.ref 428,.ref 461,.ref 715],false,none,false⟩,#[none,none,some (.str "Deed" 563),some (.str "Deed" 571),some (.builtin "object.__new__"),some (.bool true)]⟩)] (JN P "haulbell.hops" 1069 46 (Bq++lD))
abbrev NI (P:Params):List Obj:=oW [(12,⟨.none,none,.fields (Lq M7),#[]⟩)] (JN P "haulbell.store" 1385 62 (Bq++lD++FG))
abbrev Nx (P:Params):List Obj:=oW [(12,⟨.none,none,.fields (Lq NJ),#[]⟩)] (JN P "law_haulbell_k57_watched_is_a_machine" 1523 91 (Bq++lD++FG++Kh))
abbrev S0 (P:Params)(os:OsState):SharedT:=⟨Il 0 .nil (Nw P),15,(boot_heap P).life,Array.mk [],boot_drawn,187,os⟩
abbrev q0:Pos:=⟨0,0,0,0⟩
abbrev S1 (P:Params)(os:OsState):SharedT:=⟨Il 0 .nil (NA P),365,(boot_heap P).life,Array.mk [],boot_drawn,669,os⟩
abbrev q1:Pos:=⟨122,0,135,50⟩
abbrev S2 (P:Params)(os:OsState):SharedT:=⟨Il 0 .nil (NN P),718,(boot_heap P).life,Array.mk [],boot_drawn,1131,os⟩
abbrev q2:Pos:=⟨303,0,320,19⟩
abbrev S3 (P:Params)(os:OsState):SharedT:=⟨Il 0 .nil (NI P),931,(boot_heap P).life,Array.mk [],boot_drawn,1409,os⟩
abbrev q3:Pos:=⟨439,0,440,51⟩
abbrev S4 (P:Params)(os:OsState):SharedT:=⟨Il 0 .nil (Nx P),1205,(boot_heap P).life,Array.mk [],boot_drawn,1793,os⟩
abbrev q4:Pos:=⟨751,0,758,47⟩
abbrev NH (P:Params):List Obj:=JN P "law_haulbell_k57_watched_is_a_machine" 1523 92 (Bq++lD++FG++Kh++[iF 1205 1793 92 cj "law" [] 759 1])
abbrev K0 (P:Params):PySem.W.Frag:=K8.map λa=>(a,(NH P).getD a oN)
abbrev sG (p:Program):Program:=PySem.W.view p [92]
abbrev zA:List Str:="_wall"::"HaulError"::"NoStore"::"NoLeave"::"Stop"::"NoFit"::"NoBox"::"NoDeed"::"NoRows"::"NoPlace"::"BOUND"::"is_whole"::"is_content"::"NAMES"::"is_box"::"is_number"::"fits"::"Boxes"::"check_box"::"check_number"::"Deed"::"Set"::"Add"::"Take"::"Read"::"Write"::"MOST_ROWS"::"check_rows"::"check_place"::"tried"::"Machine"::"Noted"::"Watched"::"MOST_HOPPED"::"is_many"::"is_on"::"Hop"::"more"::"go_by_way"::"less_left"::"ask_put"::"haul"::"exchange"::"Copy"::"Fill"::"Seek"::"Match"::"Shift"::"Turn"::"MOST_CELLS"::"LEAVES"::"check_cells"::"is_leave"::"is_within"::"Store"::"_law_hand"::"_law_draw"::"_law_content"::"_law_cells"::"_law_leaves"::"_law_whole"::"_law_spot"::"_law_six"::"_law_spec"::"_law_deed"::"_law_long"::"_law_let"::"_law_reach"::"_law_fits"::"_law_barred"::"_law_step"::"_law_moved"::"_law_looked"::"_law_store"::"_law_boxes"::"_law_own"::"_law_go"::"_law_state"::"_law_stands"::"_law_run"::"_law_why"::"_law_leave"::[]
end My
open PySem PySem.W in
set_option maxHeartbeats 0 in
def My.HI (w:World)(os:OsState):My.runK treeTable My.pr w 11 (some (.ref 6)) 12 (My.La w.params os) (topStub My.pr)=some (My.S0 w.params os,⟨denote treeTable (.body (ac My.pr) (My.jZ My.pr)),.body (ac My.pr) (My.jZ My.pr),default,[My.MT]⟩):=by
  delta My.pr;rewrite[Fast.te2368527892694137696,Fast.te14364793385576792824]
  kernel_rfl
open PySem PySem.W in
set_option maxHeartbeats 0 in
def My.HS (w:World)(os:OsState)(B:List Stmt):My.runK treeTable My.pr w 11 (some (.ref 6)) 3624 (My.S0 w.params os) (My.j9 My.pr (((ac My.pr).drop 0).take 27++B) My.q0)=some (My.S1 w.params os,My.j9 My.pr B My.q1):=by
  delta My.pr;rewrite[Fast.te2368527892694137696,Fast.te14364793385576792824]
  kernel_rfl
open PySem PySem.W in
set_option maxHeartbeats 0 in
def My.Ij (w:World)(os:OsState)(B:List Stmt):My.runK treeTable My.pr w 11 (some (.ref 6)) 2716 (My.S1 w.params os) (My.j9 My.pr (((ac My.pr).drop 27).take 17++B) My.q1)=some (My.S2 w.params os,My.j9 My.pr B My.q2):=by
  delta My.pr;rewrite[Fast.te2368527892694137696,Fast.te14364793385576792824]
  kernel_rfl
open PySem PySem.W in
set_option maxHeartbeats 0 in
def My.HY (w:World)(os:OsState)(B:List Stmt):My.runK treeTable My.pr w 11 (some (.ref 6)) 1948 (My.S2 w.params os) (My.j9 My.pr (((ac My.pr).drop 44).take 18++B) My.q2)=some (My.S3 w.params os,My.j9 My.pr B My.q3):=by
  delta My.pr;rewrite[Fast.te2368527892694137696,Fast.te14364793385576792824]
  kernel_rfl
open PySem PySem.W in
set_option maxHeartbeats 0 in
def My.ID (w:World)(os:OsState)(B:List Stmt):My.runK treeTable My.pr w 11 (some (.ref 6)) 1410 (My.S3 w.params os) (My.j9 My.pr (((ac My.pr).drop 62).take 30++B) My.q3)=some (My.S4 w.params os,My.j9 My.pr B My.q4):=by
  delta My.pr;rewrite[Fast.te2368527892694137696,Fast.te14364793385576792824]
  kernel_rfl
open PySem PySem.W in
set_option maxHeartbeats 0 in
def My.JP:LeftO My.pr (My.sG My.pr) My.zA (λs=>xlAt (My.sG My.pr) [] s&&recOk PySem.Challenge.rw_haulbell_k57_watched_is_a_machine.row.records s) (λs=>My.K8.map s.heap.get?) (λw=>(My.K0 w.params).map λp=>some p.2) 19574:=by
  refine My.yA (by kernel_rfl) rfl (λ_=>by kernel_rfl) (λ_=>by kernel_rfl) (λ_=>by kernel_rfl) λw os=>?_
  have d:denote treeTable (.body (ac My.pr) (My.jZ My.pr))=My.En My.pr (ac My.pr):=My.AG (by kernel_rfl);have e:My.nB treeTable My.pr w 11 (some (.ref 6)) (12+(3624+(2716+(1948+(1410+(9864)))))) (My.La w.params os) (topStub My.pr)=My.nB treeTable My.pr w 11 (some (.ref 6)) 9864 (My.S4 w.params os) (My.j9 My.pr ((ac My.pr).drop 92) My.q4):=by
    rw[My.cQ (My.HI w os)];dsimp only;rw[d];show My.nB treeTable My.pr w 11 (some (.ref 6)) _ (My.S0 w.params os) (My.j9 My.pr ((ac My.pr).drop 0) My.q0)=_;rw[show(ac My.pr).drop 0=((ac My.pr).drop 0).take 27++(ac My.pr).drop 27 from by
      rw[show(ac My.pr).drop 27=((ac My.pr).drop 0).drop 27 by rw[List.drop_drop],List.take_append_drop],My.cQ (My.HS w os _)]
    rw[show(ac My.pr).drop 27=((ac My.pr).drop 27).take 17++(ac My.pr).drop 44 from by
      rw[show(ac My.pr).drop 44=((ac My.pr).drop 27).drop 17 by rw[List.drop_drop],List.take_append_drop],My.cQ (My.Ij w os _)]
    rw[show(ac My.pr).drop 44=((ac My.pr).drop 44).take 18++(ac My.pr).drop 62 from by
      rw[show(ac My.pr).drop 62=((ac My.pr).drop 44).drop 18 by rw[List.drop_drop],List.take_append_drop],My.cQ (My.HY w os _)]
    rw[show(ac My.pr).drop 62=((ac My.pr).drop 62).take 30++(ac My.pr).drop 92 from by
      rw[show(ac My.pr).drop 92=((ac My.pr).drop 62).drop 30 by rw[List.drop_drop],List.take_append_drop],My.cQ (My.ID w os _)]
  rw[show(19574:Nat)=12+(3624+(2716+(1948+(1410+(9864))))) from rfl,e]
  delta My.pr;rewrite[Fast.te4187177175401517315,Fast.te5923862056798008813,Fast.te2368527892694137696,Fast.te14364793385576792824]
  kernel_rfl
set_option Elab.async false
open List(mem_range filterMap_cons mem_cons_self mem_cons_of_mem mem_cons mem_append mem_append_left getElem?_set_self getElem?_set_ne mem_append_right size_toArray any_eq_false length_cons map_cons length_map append_nil nodup_cons of_mem_zip length_take getElem?_append_right getElem?_map take_sublist mem_of_getElem? length_append length_replicate length_drop length_set all_cons any_cons replicate_succ flatten_cons append_assoc foldl_cons length_singleton nil_append find?_cons length_nil forIn_cons forIn_nil getElem?_eq_getElem getElem_mem drop_zero take_length lookup_cons not_mem_nil length_zip set_comm all_eq_true length_eq_zero_iff length_range take_of_length_le getElem?_eq_none zip_cons_cons zip_append take_append_drop isEmpty_iff mem_singleton take_succ map_replicate map_append)
@[reducible]def NV:Type:=Option PySem.Value->PySem.Shared->Prop
@[reducible]def NW:Type:=Unit->PySem.Shared->Prop
@[reducible]def NX:Type:=PySem.Value->PySem.Shared->Prop
@[reducible]def NY:Type:=List (PySem.Addr×PySem.Obj)
@[reducible]def NZ:Type:=PySem.Str->Option PySem.Value
namespace L2
open PySem PySem.Spec PyProof.Rows
@[reducible]def Key:=Sum Int Str
abbrev pD:Key->Value->Bool
 | .inl k,v=>Value.isInt k v
 | .inr x,v=>Value.isStrOf x v
abbrev L9 (w:World):Key->Int
 | .inl k=>hashInt k
 | .inr x=>hashStr w x
def aS:∀ {k:Key}{v:Value},pD k v=true->(∃ i t,k=Sum.inl i/\v=Value.int i t)\/(∃ x t,k=Sum.inr x/\v=Value.str x t)
 | .inl i,v,h=>by
  obtain⟨t,e⟩:=Value.isInt_shape (k:=i) (v:=v) h;exact .inl ⟨i,t,rfl,e⟩
 | .inr x,v,h=>by
  obtain⟨t,e⟩:=Value.isStrOf_shape (x:=x) (v:=v) h;exact .inr ⟨x,t,rfl,e⟩
def xB (i:Int)(t:Tok):pD (.inl i) (.int i t)=true:=by simp[pD,Value.isInt]
def xV (x:Str)(t:Tok):pD (.inr x) (.str x t)=true:=by simp[pD,Value.isStrOf]
def FJ (a b:Int):decide ((Sum.inl a:Key)=Sum.inl b)=(a ==b):=by
 by_cases e:a=b
 .subst e;simp
 .have h:¬ (Sum.inl a:Key)=Sum.inl b:=λq=>e (Sum.inl.inj q)
  rw[decide_eq_false h];exact(beq_eq_false_iff_ne.mpr e).symm
def G6 (a b:Str):decide ((Sum.inr a:Key)=Sum.inr b)=decide (a=b):=by
 by_cases e:a=b
 .subst e;simp
 .have h:¬ (Sum.inr a:Key)=Sum.inr b:=λq=>e (Sum.inr.inj q)
  rw[decide_eq_false h,decide_eq_false e]
def Hx (a:Int)(b:Str):decide ((Sum.inl a:Key)=Sum.inr b)=false:=decide_eq_false (λq=>nomatch q)
def Ge (a:Str)(b:Int):decide ((Sum.inr a:Key)=Sum.inl b)=false:=decide_eq_false (λq=>nomatch q)
abbrev aF (prog:Program)(w:World):PySem.KeyKind prog w Key where
 is:=pD
 hash:=L9 w
 inj:=λv a b ha hb=>by
  rcases aS ha with⟨i,t,rfl,rfl⟩|⟨x,t,rfl,rfl⟩
  .rcases aS hb with⟨j,u,rfl,e⟩|⟨y,u,rfl,e⟩
   .injection e with e1 _;rw[e1]
   .exact nomatch e
  .rcases aS hb with⟨j,u,rfl,e⟩|⟨y,u,rfl,e⟩
   .exact nomatch e
   .injection e with e1 _;rw[e1]
 byValue:=λk v h=>by
  rcases aS h with⟨i,t,rfl,rfl⟩|⟨x,t,rfl,rfl⟩<;>rfl
 pyHash:=λhv h=>by
  rcases aS hv with⟨i,t,rfl,rfl⟩|⟨x,t,rfl,rfl⟩
  .exact wpAny_pyHash_int h
  .exact wpAny_pyHash_str h
 eqBool:=λhu hv h=>by
  rcases aS hu with⟨i,t,rfl,rfl⟩|⟨x,t,rfl,rfl⟩
  .rcases aS hv with⟨j,u,rfl,rfl⟩|⟨y,u,rfl,rfl⟩
   .rw[FJ]at h;exact wpAny_eqBool_int h
   .rw[Hx]at h;exact SeqAt.EqAt.int_str i t y u _ _ _ _ h
  .rcases aS hv with⟨j,u,rfl,rfl⟩|⟨y,u,rfl,rfl⟩
   .rw[Ge]at h;exact SeqAt.EqAt.str_int x t j u _ _ _ _ h
   .rw[G6]at h;exact wpAny_eqBool_str h
 «strs»:=λk x t v h=>by
  rcases aS h with⟨i,u,rfl,e⟩|⟨y,u,rfl,e⟩
  .exact nomatch e
  .injection e with e1 _
   subst e1;cases v<;>rfl
def sU (prog:Program)(w:World)(i:Int)(t:Tok):(aF prog w).is (.inl i) (.int i t)=true:=xB i t
def sZ (prog:Program)(w:World)(x:Str)(t:Tok):(aF prog w).is (.inr x) (.str x t)=true:=xV x t
inductive V where
 |non|bl (b:Bool)|int (i:Int)|str (x:Str)|byt (b:Array UInt8)|flt (b:UInt64)|ref (a:Addr)|ty (n:String)
 deriving DecidableEq
abbrev RelV:V->Value->Prop
 | .non,u=>u=Value.none
 | .bl b,u=>u=Value.bool b
 | .int i,u=>∃ t,u=Value.int i t
 | .str x,u=>∃ t,u=Value.str x t
 | .byt b,u=>∃ t,u=Value.bytes b t
 | .flt b,u=>∃ t,u=Value.float b t
 | .ref a,u=>u=Value.ref a
 | .ty n,u=>u=Value.type n
@[reducible]def Vals:List V->List Value->Prop:=Paired RelV
variable {xs:List V}{us:List Value}
def Vals.length (r:Vals xs us):xs.length=us.length:=Paired.length r
def Vals.get:∀ {xs:List V}{us:List Value}{i:Nat}{x:V},Vals xs us->xs[i]? =some x->∃ u,us[i]? =some u/\RelV x u
 |_,_,_,_,.nil,e=>by simp at e
 |_,_,0,_,.cons r _,e=>by simp at e;subst e;exact⟨_,rfl,r⟩
 |_,_,i+1,x,.cons _ t,e=>by
  obtain⟨u,h1,h2⟩:=Vals.get (i:=i) (x:=x) t (by simpa using e);exact⟨u,by simpa using h1,h2⟩
variable {u:Value}
def Vals.set {x:V}(r:RelV x u):∀ {xs:List V}{us:List Value}(i:Nat),Vals xs us->Vals (xs.set i x) (us.set i u)
 |_,_,_,.nil=>.nil
 |_,_,0,.cons _ t=>.cons r t
 |_,_,i+1,.cons q t=>.cons q (Vals.set r i t)
def Vals.append:∀ {xs ys:List V}{us ws:List Value},Vals xs us->Vals ys ws->Vals (xs++ys) (us++ws)
 |_,_,_,_,.nil,s=>s
 |_,_,_,_,.cons r t,s=>.cons r (Vals.append t s)
def Vals.take:∀ {xs:List V}{us:List Value}(n:Nat),Vals xs us->Vals (xs.take n) (us.take n)
 |_,_,0,_=>.nil
 |_,_,_+1,.nil=>.nil
 |_,_,n+1,.cons r t=>.cons r (Vals.take n t)
def Vals.drop:∀ {xs:List V}{us:List Value}(n:Nat),Vals xs us->Vals (xs.drop n) (us.drop n)
 |_,_,0,r=>r
 |_,_,_+1,.nil=>.nil
 |_,_,n+1,.cons _ t=>Vals.drop n t
abbrev dS:Option V->Option Value->Prop
 |some v,some u=>RelV v u
 |none,none=>True
 |_,_=>False
abbrev KV {κ:Type}:List (κ×V)->List (κ×Value)->Prop:=Paired λ(p:κ×V) (q:κ×Value)=>p.1=q.1/\RelV p.2 q.2
abbrev kV:Key->V
 | .inl i=>.int i
 | .inr x=>.str x
inductive HO where
  |lst (xs:List V)
  |tup (xs:List V)
  |dK (kvs:List (Key×V))|dT (kvs:List (List Key×V))
  |set (S:Int->Bool) (n:Nat)
  |ins (C dx:Addr) (fs:List (Str×V))
  |own (x:Addr)
  |exc (C:Addr) (dx:Option Addr) (fs:List (Str×V)) (fr:Bool)
  |xd (fs:List (Str×V))
  |met (f x:Addr)
  |rng (lo hi:Int)
  |nu (o:Obj) (u:HO)
  |tbl (ps:Array Value)
  |ext (φ:Heap->Prop)
@[reducible]def Hp:=Addr->Option HO
abbrev upd (H:Hp)(a:Addr)(o:HO):Hp:=λb=>if b=a then some o else H b
variable {H:Hp}{a:Addr}{o:HO}
def aL:upd H a o a=some o:=by unfold upd;rw[if_pos rfl]
variable {b:Addr}
def aj (h:b≠a):upd H a o b=H b:=by unfold upd;rw[if_neg h]
def Ed {u:HO}:upd (upd H a o) a u=upd H a u:=by
 funext b;unfold upd;split<;>rfl
def JE {u:HO}(h:H a=some o)(h':H b=some u)(d:o≠u):a≠b:=by
 intro e;subst e;rw[h]at h';exact d (Option.some.inj h')
def a9 (h:H a=some o)(h':H b=none):a≠b:=by
 intro e;subst e;rw[h]at h';cases h'
section
variable (P:Program) (w:World)
abbrev aQ (H:Hp)(h:Heap)(a:Addr):HO->Prop
 | .lst xs=>xs.length<=bn/\∃ (its:List Value) (n:Nat),Vals xs its/\h.get? a=some 5e7
 | .tup xs=>xs.length<=bn/\∃ its:List Value,Vals xs its/\IsTup h a its.toArray
 | .dK kvs=>kvs.length<=bn/\(a ==sysModules)=false/\∃ vs,KV kvs vs/\h.DictOf (aF P w) a vs
 | .dT kvs=>kvs.length<=bn/\(a ==sysModules)=false/\∃ xs:List (List Key×Addr×Value),
   Paired (λ(p:List Key×V) (q:List Key×Addr×Value)=>p.1=q.1/\H q.2.1=some (.tup (p.1.map kV))/\RelV p.2 q.2.2) kvs xs/\
   ∃ o es ep,h.get? a=some o/\o.ExactDict/\o.data=.dict es ep/\es.toList=xs.map (entryOfKey (tupleKind (aF P w)))/\(xs.map (·.1)).Nodup
 | .set S n=>h.SetOf (intKind P w) a S n
 | .ins C dx fs=>H dx=some (.own a)/\fs.length<=1000/\dx≠a/\h.get? a=some (W.instObj C dx)/\
   ∃ mA,h.Ns1 dx mA/\(∀ f,dS (fs.lookup f) (mA f))/\PySem.Within mA (fs.map (·.1))
 | .exc C dx fs fr=>(∃ vs,h.get? a=some { cls:=.ref C,dict:=dx,data:=.fields vs }/\vs.size=6/\(fr=true->vs[1]? =some Value.none)/\vs[2]? =some Value.none)/\
   ((dx=none/\fs=[])\/∃ d,dx=some d/\H d=some (.own a)/\fs.length<=1000/\d≠a/\∃ mA,h.Ns1 d mA/\(∀ f,dS (fs.lookup f) (mA f))/\PySem.Within mA (fs.map (·.1)))
 | .own _=>∃ o,h.get? a=some o
 | .xd fs=>∃ mA,h.Ns1 a mA/\∀ f,dS (fs.lookup f) (mA f)
 | .rng lo hi=>∃ t u v,h.get? a=some 3e8
 | .nu o u=>h.get? a=some o/\aQ H h a u
 | .tbl ps=>h.get? a=some { cls:=.none,data:=.fields ps }
 | .met f x=>h.get? a=some (W.methodObj (.ref f) (.ref x))
 | .ext φ=>φ h/\(∃ o,h.get? a=some o)/\∀ h1 h2:Heap,φ h1->(∀ o,h1.get? a=some o->h2.get? a=some o)->φ h2
abbrev iM (H:Hp)(h:Heap):Prop:=∀ a o,H a=some o->aQ P w H h a o
end
section
variable {P:Program}{w:World}{H H':Hp}{h h':Heap}{a:Addr}{o:HO}
def aQ.lt (x:aQ P w H h a o):a<h.objs.size:=by
 cases o with
 |lst xs=>obtain⟨_,_,_,_,e⟩:=x;exact tz e
 |tup xs=>obtain⟨_,_,_,p⟩:=x;exact p.lt
 |dK kvs=>obtain⟨_,_,_,_,o,_,_,e,_⟩:=x;exact tz e
 |dT kvs=>obtain⟨_,_,_,_,o,_,_,e,_⟩:=x;exact tz e
 |set S n=>obtain⟨o,_,_,_,e,_⟩:=x;exact tz e
 |ins C dx fs=>obtain⟨_,_,_,e,_⟩:=x;exact tz e
 |exc C dx fs fr=>obtain⟨⟨_,e,_⟩,_⟩:=x;exact tz e
 |own y=>obtain⟨_,e⟩:=x;exact tz e
 |xd fs=>obtain⟨_,⟨_,_,_,e,_⟩,_⟩:=x;exact tz e
 |rng lo hi=>obtain⟨_,_,_,e⟩:=x;exact tz e
 |nu ob u=>obtain⟨e,_⟩:=x;exact tz e
 |tbl ps=>exact tz (show h.get? a=some _ from x)
 |met f y=>exact tz (show h.get? a=some _ from x)
 |ext φ=>obtain⟨_,⟨_,e⟩,_⟩:=x;exact tz e
def Paired.Gr {α β:Type}{F G:α->β->Prop}:∀ {l₁:List α}{l₂:List β},Paired F l₁ l₂->(∀ a b,F a b->G a b)->Paired G l₁ l₂
 |_,_,.nil,_=>.nil
 |_,_,.cons r t,f=>.cons (f _ _ r) (Paired.Gr t f)
def aQ.fL (x:aQ P w H h a o)(k:∀ b u,(b=a\/H b=some (.own a))->h.get? b=some u->h'.get? b=some u)
  (ho:∀ b,H b=some (.own a)->H' b=some (.own a)) (ht:∀ b xs,H b=some (.tup xs)->H' b=some (.tup xs)):aQ P w H' h' a o:=by
 induction o with
 |lst xs=>obtain⟨z,its,n,r,e⟩:=x;exact⟨z,its,n,r,k _ _ 3e9 e⟩
 |tup xs=>obtain⟨z,its,r,ob,e,c⟩:=x;exact⟨z,its,r,ob,k _ _ 3e9 e,c⟩
 |dK kvs=>obtain⟨z,y,vs,r,ob,es,ep,e,c⟩:=x;exact⟨z,y,vs,r,ob,es,ep,k _ _ 3e9 e,c⟩
 |dT kvs=>
  obtain⟨z,y,xs,r,ob,es,ep,e,c⟩:=x;exact⟨z,y,xs,Paired.Gr r λp q z=>⟨z.1,ht _ _ z.2.1,z.2.2⟩,ob,es,ep,k _ _ 3e9 e,c⟩
 |set S n=>obtain⟨ob,es,ep,t,e,c⟩:=x;exact⟨ob,es,ep,t,k _ _ 3e9 e,c⟩
 |ins C dx fs=>
  obtain⟨d,z,ne,e,mA,⟨od,es,ep,e2,c⟩,r⟩:=x;exact⟨ho _ d,z,ne,k _ _ 3e9 e,mA,⟨od,es,ep,k _ _ (.inr d) e2,c⟩,r⟩
 |exc C dx fs fr=>
  obtain⟨⟨vs,e,z⟩,q⟩:=x;refine⟨⟨vs,k _ _ 3e9 e,z⟩,?_⟩;rcases q with q|⟨d,ed,d1,z1,ne,mA,⟨od,es,ep,e2,c⟩,r⟩
  .exact .inl q
  .exact .inr ⟨d,ed,ho _ d1,z1,ne,mA,⟨od,es,ep,k _ _ (.inr d1) e2,c⟩,r⟩
 |own y=>obtain⟨ob,e⟩:=x;exact⟨ob,k _ _ 3e9 e⟩
 |xd fs=>obtain⟨mA,⟨od,es,ep,e,c⟩,r⟩:=x;exact⟨mA,⟨od,es,ep,k _ _ 3e9 e,c⟩,r⟩
 |rng lo hi=>obtain⟨t,u,v,e⟩:=x;exact⟨t,u,v,k _ _ 3e9 e⟩
 |nu ob u ih=>obtain⟨e,q⟩:=x;exact⟨k _ _ 3e9 e,ih q⟩
 |tbl ps=>
  have e:h.get? a=some { cls:=.none,data:=.fields ps }:=x;show h'.get? a=some { cls:=.none,data:=.fields ps };exact k a _ 3e9 e
 |met f y=>
  have e:h.get? a=some (W.methodObj (.ref f) (.ref y)):=x;show h'.get? a=some (W.methodObj (.ref f) (.ref y));exact k a _ 3e9 e
 |ext φ=>obtain⟨p,⟨o,e⟩,st⟩:=x;exact⟨st _ _ p λo q=>k _ _ 3e9 q,⟨o,k _ _ 3e9 e⟩,st⟩
def iM.lt (x:iM P w H h)(e:H a=some o):a<h.objs.size:=(x a o e).lt
def iM.fresh (x:iM P w H h)(e:h.objs.size<=a):H a=none:=by
 cases q:H a with
 |none=>rfl
 |some u=>exact absurd (nw (x.lt q) e) (Nat.lt_irrefl _)
def iM.kept (x:iM P w H h)(k:∀ b u,h.get? b=some u->h'.get? b=some u):iM P w H h':=λa o e=>
 (x a o e).fL (λb u _ q=>k b u q) (λ_ q=>q) λ_ _ q=>q
def iM.laid (x:iM P w H h)(k:∀ b u,h.get? b=some u->h'.get? b=some u) (hp:h.objs.size<=a) (new:aQ P w (upd H a o) h' a o):iM P w (upd H a o) h':=λb u e=>by
 have hn:=x.fresh hp
 by_cases hb:b=a
 .subst hb;rw[aL]at e;cases e;exact new
 .rw[aj hb]at e;exact(x b u e).fL (λc v _ q=>k c v q) (λc q=>by rw[aj (a9 q hn)];exact q) λc xs q=>by rw[aj (a9 q hn)];exact q
end
abbrev Rd (H:Hp)(a:Addr)(u:HO):Prop:=H a=some u\/∃ o,H a=some (.nu o u)
variable {P:Program}{w:World}{h:Heap}
def Rd.ok {u:HO}(r:Rd H a u)(x:iM P w H h):aQ P w H h a u:=by
 rcases r with r|⟨o,r⟩
 .exact x a u r
 .obtain⟨_,q⟩:=x a _ r;exact q
abbrev IS:Option HO->Prop
 |some (.lst _)=>True
 |some (.dK _)=>True
 |some (.dT _)=>True
 |some (.set _ _)=>True
 |some (.ins _ _ _)=>True
 |some (.exc _ _ _ fr)=>fr=true
 |some (.ext _)=>True
 |_=>False
abbrev Fix:HO->Prop
 | .nu _ _=>True
 | .exc _ _ _ fr=>fr=false
 |_=>False
def Fix.NP {u:HO}(f:Fix u):¬ IS (some u):=by
 cases u<;>first|exact f.elim|exact λz=>z.elim|exact λz=>Bool.noConfusion (z.symm.trans f)
section
variable {P:Program}{w:World}{H:Hp}{h h':Heap}{x e:Addr}{o':HO}
def iM.write (ok:iM P w H h)(mu:IS (H x))(he:e=x\/H e=some (.own x))(k:∀ b u,b≠e->h.get? b=some u->h'.get? b=some u) (heo:∃ u,h'.get? e=some u)
  (new:aQ P w (upd H x o') h' x o'):iM P w (upd H x o') h':=λb u q=>by
 have nown:∀ c y,H c=some (.own y)->c≠x:=λc y r z=>by subst z;rw[r]at mu;exact mu
 have ntup:∀ c xs,H c=some (.tup xs)->c≠x:=λc xs r z=>by subst z;rw[r]at mu;exact mu
 by_cases hb:b=x
 .subst hb;rw[aL]at q;cases q;exact new
 .rw[aj hb]at q
  by_cases hbe:b=e
  .have q':H b=some (.own x):=by
    rcases he with z|z
    .exact absurd (hbe.trans z) hb
    .rw[hbe];exact z
   rw[q]at q';cases q';obtain⟨v,hv⟩:=heo;exact⟨v,by rw[hbe];exact hv⟩
  .refine(ok b u q).fL (λc v hc r=>k c v ?_ r) (λc r=>by rw[aj (nown c b r)];exact r) λc xs r=>by rw[aj (ntup c xs r)];exact r
   rcases hc with rfl|hc
   .exact hbe
   .rintro rfl;rcases he with z|z
    .exact nown c b hc z
    .rw[hc]at z;cases z;exact hb rfl
end
structure Un (fs ex:List Addr) (H H':Hp) (h h':Heap):Prop where
 keep:∀ b o,h.get? b=some o->H b=none->b ∉ fs->b ∉ ex->h'.get? b=some o
 slot:∀ b o,h.get? b=some o->H b=none->b ∈ fs->b ∉ ex->∃ sl,h'.get? b=some { o with slots:=sl }
 free:∀ b o,h.get? b=some o->H b=none->b ∉ ex->H' b=none
 there:∀ b o,h.get? b=some o->b ∉ ex->∃ o',h'.get? b=some o'
 tups:∀ b xs,H b=some (.tup xs)->H' b=some (.tup xs)
 frzs:∀ b u,Fix u->H b=some u->H' b=some u
 tbls:∀ b ps,H b=some (.tbl ps)->∃ more,H' b=some (.tbl (ps++more))
section
variable {fs fs' ex ex':List Addr}{H H1 H2:Hp}{h h1 h2 h':Heap}{a x e:Addr}{o:HO}
def Un.any (u:Un fs ex H H1 h h1){ob:Obj}(q:h.get? b=some ob)(n:H b=none)(hx:b ∉ ex):∃ sl,h1.get? b=some { ob with slots:=sl }:=by
 by_cases hb:b ∈ fs
 .exact u.slot b ob q n hb hx
 .exact⟨ob.slots,u.keep b ob q n hb hx⟩
def Un.kept (k:∀ b u,h.get? b=some u->h'.get? b=some u):Un fs ex H H h h':=
 ⟨λb ob q _ _ _=>k b ob q,λb ob q _ _ _=>⟨ob.slots,k b ob q⟩,λ_ _ _ n _=>n,λb ob q _=>⟨ob,k b ob q⟩,λ_ _ q=>q,λ_ _ _ q=>q,λ_ ps q=>⟨#[],by rw[q];simp⟩⟩
def Un.refl:Un fs ex H H h h:=Un.kept λ_ _ q=>q
def Un.laid (k:∀ b u,h.get? b=some u->h'.get? b=some u) (hp:h.objs.size<=a) (hn:H a=none):Un fs ex H (upd H a o) h h' where
 keep:=λb u q _ _ _=>k b u q
 slot:=λb u q _ _ _=>⟨u.slots,k b u q⟩
 free:=λb u q n _=>by rw[aj (pc (nw (tz q) hp))];exact n
 there:=λb u q _=>⟨u,k b u q⟩
 tups:=λb xs q=>by rw[aj (a9 q hn)];exact q
 frzs:=λb u xs q=>by rw[aj (a9 q hn)];exact q
 tbls:=λb ps q=>⟨#[],by rw[aj (a9 q hn),q];simp⟩
def Un.write (mu:IS (H x))(he:e=x\/H e=some (.own x))(k:∀ b u,b≠e->h.get? b=some u->h'.get? b=some u) (heo:∃ u,h'.get? e=some u):Un fs ex H (upd H x o) h h':=by
 have hx:∀ b,H b=none->b≠x:=λb n z=>by subst z;rw[n]at mu;exact mu
 have hb:∀ b,H b=none->b≠e:=λb n z=>by
  subst z;rcases he with r|r
  .exact hx b n r
  .rw[n]at r;cases r
 have hm:∀ b u,H b=some u->¬ IS (some u)->b≠x:=λb u q nm z=>by subst z;rw[q]at mu;exact nm mu
 refine⟨λb u q n _ _=>k b u (hb b n) q,λb u q n _ _=>⟨u.slots,k b u (hb b n) q⟩,λb u q n _=>by rw[aj (hx b n)];exact n,λb u q _=>?_,
  λb xs q=>by rw[aj (hm b _ q λz=>z)];exact q,λb u xs q=>by rw[aj (hm b _ q xs.NP)];exact q,λb ps q=>⟨#[],by rw[aj (hm b _ q λz=>z),q];simp⟩⟩
 by_cases hbe:b=e
 .subst hbe;exact heo
 .exact⟨u,k b u hbe q⟩
end
abbrev Fq (h:Heap)(H:Hp):List Addr:=(List.range h.objs.size).filter λa=>(H a).isSome
abbrev pJ (h:Heap)(H:Hp):Heap:=W.hideAll h (Fq h H)
def xD (h:Heap)(H:Hp):(pJ h H).objs.size=h.objs.size:=W.hideAll_size _ _
def B4 {o:Obj}(e:h.get? b=some o)(n:H b=none):(pJ h H).get? b=some o:=
 W.hideAll_get _ e λhm=>by
  have q:(H b).isSome=true:=(List.mem_filter.mp hm).2;rw[n]at q;simp at q
def D9 {o:Obj}(e:(pJ h H).get? b=some o):h.get? b=some o/\H b=none:=by
 have e':h.get? b=some o:=W.of_hideAll (Fq h H) e;refine⟨e',?_⟩;cases q:H b with
 |none=>rfl
 |some x=>
  have hm:b ∈ Fq h H:=List.mem_filter.mpr ⟨mem_range.mpr (tz e'),by simp[q]⟩;have z:(pJ h H).get? b=none:=W.hideAll_none (Fq h H) hm;rw[z]at e;cases e
structure Mod (K:W.Frag) (mg:NZ) (base:Heap):Prop where
 kin:K.In base
 glob:base.Ns mainGlobals mg
 blt:∃ mb,base.Ns builtinsNs mb/\∀ x:Str,x≠"__name__"->mb x=bootBuiltins x
 nolimit:base.NoLimit
/-- the context:a def's body (or a comprehension's block) running. base:fixed through the whole law;s₀,H₀:the entry;outer:the frames whose slots others may change (a def's callers);stack:all frames that run;
  ex:iterators that were made ahead of the entry and are walked here (a comprehension's);fn:the names whose cells were made at the entry (a def:all;a comprehension's block:its own);calm:not within an except bg;pn:Y that every state bears;xe:what is wanted of an exception that leaves the code -/
structure Cx where
 prog:Program
 w:World
 K:W.Frag
 mg:Str->Option Value
 base:Heap
 A:Around
 N:List Str
 s₀:Shared
 H₀:Hp
 env:Env
 outer:List Env
 stack:List Env
 ex:List Addr
 fn:Str->Bool
 calm:Bool
 pn:List (Addr×Obj)
 xe:Value->Shared->Prop
abbrev qE (l:List Env):List Addr:=l.filterMap (·.frame)
noncomputable abbrev Cx.fs (X:Cx):List Addr:=qE X.outer
abbrev JH (sc:Scope)(x:Str):Prop:=sc.names.lookup x=some .local\/sc.names.lookup x=some .cell\/sc.names.lookup x=some .free
abbrev Loc (sc:Scope)(x:Str):Prop:=sc.names.lookup x=some .local\/sc.names.lookup x=some .cell
abbrev Look (env:Env)(h:Heap)(m:NZ)(x:Str)(u:Value):Prop:=
 (env.kindOf x=some .local/\m x=some u)\/((env.kindOf x=some .cell\/env.kindOf x=some .free)/\∃ c,env.cells.lookup x=some c/\h.IsCell c (some u))
structure Cx.Ok (X:Cx):Prop where
 mod:Mod X.K X.mg X.base
 kind:X.env.scope.kind=.function
 glob:X.env.globals=mainGlobals
 blt:X.env.builtins=builtinsNs
 above:X.s₀.heap.objs.size<=X.env.locals
 inj:∀ x y c,X.env.cells.lookup x=some c->X.env.cells.lookup y=some c->x=y
 has:∀ x,(X.env.kindOf x=some .cell\/X.env.kindOf x=some .free)->∃ c,X.env.cells.lookup x=some c
 cab:∀ x c,X.fn x=true->X.env.cells.lookup x=some c->X.s₀.heap.objs.size<=c
 hd:X.calm=true->X.A.handled=none
 frames:X.A.frames=some X.stack
 stk:X.stack=X.outer\/(X.stack=X.env::X.outer/\X.env.frame=some X.env.locals)
 exf:∀ b ∈ X.ex,b≠X.env.locals/\∀ x c,X.env.cells.lookup x=some c->c≠b
 bs:∀ b o,X.base.get? b=some o->X.s₀.heap.get? b=some o/\X.H₀ b=none
 bsz:X.base.objs.size<=X.s₀.heap.objs.size
 noex:∀ b o,X.base.get? b=some o->b ∉ X.ex
 exfs:∀ b ∈ X.ex,b ∉ X.fs
 j7:X.s₀.heap.FunFrames X.base X.outer
 frf:∀ b ∈ X.fs,X.H₀ b=none
structure Inv (X:Cx) (Y:NY) (U:List (Option V)) (H:Hp) (s:Shared):Prop where
 ok:X.Ok
 os:s.os=X.s₀.os
 bare:AllBare s.gens
 base:Un X.fs X.ex X.H₀ H X.s₀.heap s.heap
 loc:∃ m,s.heap.Ns X.env.locals m/\∀ (i:Nat) (x:Str) (v:V),X.N[i]? =some x->U[i]? =some (some v)->JH X.env.scope x->∃ u,RelV v u/\Look X.env s.heap m x u
 cell:∀ x c,X.env.cells.lookup x=some c->∃ v,s.heap.IsCell c v
 free:H X.env.locals=none
 freeC:∀ x c,X.env.cells.lookup x=some c->H c=none
 pin:∀ p ∈ X.pn++Y,s.heap.get? p.1=some p.2/\H p.1=none/\p.1≠X.env.locals/\p.1 ∉ X.fs/\∀ v,p.2.data≠.cell v
 hok:iM X.prog X.w H s.heap
 len:U.length=X.N.length
variable {x:Str}{g':Array GenState}{ch:List Addr}{i:Nat}{M:Model}{A:Around}{E:NX}{v:V}
section
variable {X:Cx}{Y:NY}{U:List (Option V)}{H H':Hp}{s:Shared}{h':Heap}
def Cx.Ok.LX (ok:X.Ok){o:Obj}(e:X.base.get? b=some o):b ∉ X.fs:=λhb=>by
 have:=(ok.j7.mem hb).1;rw[e]at this;cases this
def Inv.bs (I:Inv X Y U H s):∀ b o,X.base.get? b=some o->s.heap.get? b=some o/\H b=none:=λb o e=>
 ⟨I.base.keep b o (I.ok.bs b o e).1 (I.ok.bs b o e).2 (I.ok.LX e) (I.ok.noex b o e),I.base.free b o (I.ok.bs b o e).1 (I.ok.bs b o e).2 (I.ok.noex b o e)⟩
def Inv.bk (I:Inv X Y U H s):∀ b o,X.base.get? b=some o->s.heap.get? b=some o:=λb o e=>(I.bs b o e).1
def Inv.mod (I:Inv X Y U H s):Mod X.K X.mg X.base:=I.ok.mod
def Inv.cp (I:Inv X Y U H s):X.K.In s.heap:=I.ok.mod.kin.keeps I.bk
def Inv.lt (I:Inv X Y U H s):X.env.locals<s.heap.objs.size:=let⟨_,hn,_⟩:=I.loc;hn.lt
def Inv.sz (I:Inv X Y U H s):X.s₀.heap.objs.size<=s.heap.objs.size:=Nat.le_trans I.ok.above (Nat.le_of_lt I.lt)
def Inv.LV (I:Inv X Y U H s)(h:s.heap.objs.size<=a):a ∉ X.fs:=λhb=>by
 obtain⟨_,o,ho,_⟩:=I.ok.j7.mem hb;exact absurd (nw (tz ho) (Nat.le_trans I.sz h)) (Nat.lt_irrefl _)
def Inv.Br (I:Inv X Y U H s):∀ x c,X.env.cells.lookup x=some c->c≠X.env.locals:=λx c e z=>by
 obtain⟨v,o,ho,hd⟩:=I.cell x c e;obtain⟨m,⟨o',es,ep,ho',hd',_⟩,_⟩:=I.loc;rw[z,ho']at ho;cases ho;rw[hd']at hd;cases hd
def Inv.j7 (I:Inv X Y U H s):s.heap.FunFrames X.base X.outer:=by
 have all:∀ (l:List Env),(∀ b ∈ qE l,b ∈ X.fs)->X.s₀.heap.FunFrames X.base l->s.heap.FunFrames X.base l:=by
  intro l
  induction l with
  |nil=>intro _ _;trivial
  |cons env r ih=>
   intro hs hl;obtain⟨hk,⟨L,o,hf,hn,ho,hd⟩,hr⟩:=hl;have hL:L ∈ X.fs:=hs L (by unfold qE;rw[filterMap_cons,hf];exact lw);obtain⟨sl,e⟩:=I.base.slot L o ho (I.ok.frf L hL) hL λz=>I.ok.exfs L z hL
   exact⟨hk,⟨L,_,hf,hn,e,hd⟩,ih (λb hb=>hs b (by unfold qE;rw[filterMap_cons,hf];exact dl _ hb)) hr⟩
 exact all X.outer (λ_ hb=>hb) I.ok.j7
def Inv.stack (I:Inv X Y U H s):s.heap.FunFrames X.base X.stack:=by
 rcases I.ok.stk with e|⟨e,hf⟩
 .rw[e];exact I.j7
 .rw[e];obtain⟨m,hn,_⟩:=I.loc;refine .cons (by rw[I.ok.kind];decide) hf hn ?_ I.j7;exact Heap.get?_none_of_le (Nat.le_trans I.ok.bsz I.ok.above)
def Inv.jW (I:Inv X Y U H s):∀ b ∈ qE X.stack,b ∈ X.env.locals::X.fs:=λb hb=>by
 rcases I.ok.stk with e|⟨e,hf⟩
 .rw[e]at hb;exact dl _ hb
 .rw[e]at hb;unfold qE at hb;rw[filterMap_cons,hf]at hb;exact hb
def Inv.qT (I:Inv X Y U H s):∀ b ∈ qE X.stack,H b=none:=λb hb=>by
 rcases mo.mp (I.jW b hb) with e|hb
 .rw[e];exact I.free
 .obtain⟨_,o,ho,_⟩:=I.ok.j7.mem hb;exact I.base.free b o ho (I.ok.frf b hb) λz=>I.ok.exfs b z hb
def Inv.step {t':Nat}{d':Drawn}(I:Inv X Y U H s)
  (hch:∀ b ∈ ch,(b ∈ X.ex\/X.s₀.heap.objs.size<=b)/\b≠X.env.locals/\(∀ x c,X.env.cells.lookup x=some c->c≠b)/\∀ p ∈ X.pn++Y,p.1≠b)
  (keep:∀ b o,b≠X.env.locals->b ∉ X.fs->b ∉ ch->s.heap.get? b=some o->H b=none->h'.get? b=some o)
  (slot:∀ b o,b≠X.env.locals->b ∈ X.fs->b ∉ ch->s.heap.get? b=some o->H b=none->∃ sl,h'.get? b=some { o with slots:=sl }) (free:∀ b o,b ∉ ch->s.heap.get? b=some o->H b=none->H' b=none)
  (there:∀ b o,b ∉ ch->s.heap.get? b=some o->∃ o',h'.get? b=some o')
  (tups:∀ b xs,H b=some (.tup xs)->H' b=some (.tup xs)) (frzs:∀ b u,Fix u->H b=some u->H' b=some u) (tbls:∀ b ps,H b=some (.tbl ps)->∃ more,H' b=some (.tbl (ps++more)))
  (ns:∀ m,s.heap.Ns X.env.locals m->h'.Ns X.env.locals m) (hok:iM X.prog X.w H' h') (hg:AllBare g'):
  Inv X Y U H' { s with heap:=h',gens:=g',drawn:=d',toks:=t' }:=by
 have neL:∀ b o,X.s₀.heap.get? b=some o->b≠X.env.locals:=λb o e=>pc (nw (tz e) I.ok.above)
 have neC:∀ b o,X.s₀.heap.get? b=some o->b ∉ X.ex->b ∉ ch:=λb o e hx hb=>by
  rcases(hch b hb).1 with z|z
  .exact hx z
  .exact absurd (nw (tz e) z) (Nat.lt_irrefl _)
 have cellK:∀ x c,X.env.cells.lookup x=some c->∀ v,s.heap.IsCell c v->h'.IsCell c v:=λx c e v ⟨o,ho,hd⟩=>by
  have nch:c ∉ ch:=λz=>(hch c z).2.2.1 x c e rfl
  by_cases hc:c ∈ X.fs
  .obtain⟨sl,q⟩:=slot c o (I.Br x c e) hc nch ho (I.freeC x c e);exact⟨_,q,hd⟩
  .exact⟨o,keep c o (I.Br x c e) hc nch ho (I.freeC x c e),hd⟩
 refine⟨I.ok,I.os,hg,⟨λb o e n hb hx=>?_,λb o e n hb hx=>?_,λb o e n hx=>?_,λb o e hx=>?_,λb xs e=>tups b xs (I.base.tups b xs e),λb o xs e=>frzs b o xs (I.base.frzs b o xs e),λb ps e=>?_⟩,?_,λx c e=>?_,?_,λx c e=>?_,λp hp=>?_,hok,I.len⟩
 .exact keep b o (neL b o e) hb (neC b o e hx) (I.base.keep b o e n hb hx) (I.base.free b o e n hx)
 .obtain⟨sl,e1⟩:=I.base.slot b o e n hb hx;obtain⟨sl',e2⟩:=slot b _ (neL b o e) hb (neC b o e hx) e1 (I.base.free b o e n hx);exact⟨sl',e2⟩
 .obtain⟨o',e1⟩:=I.base.there b o e hx;exact free b o' (neC b o e hx) e1 (I.base.free b o e n hx)
 .obtain⟨o',e1⟩:=I.base.there b o e hx;exact there b o' (neC b o e hx) e1
 .obtain⟨m1,e1⟩:=I.base.tbls b ps e;obtain⟨m2,e2⟩:=tbls b _ e1;exact⟨m1++m2,by rw[e2,Array.append_assoc]⟩
 .obtain⟨m,hn,hl⟩:=I.loc;refine⟨m,ns m hn,λi x v e1 e2 e3=>?_⟩;obtain⟨u,r,l⟩:=hl i x v e1 e2 e3;refine⟨u,r,?_⟩;rcases l with l|⟨k,c,e,z⟩
  .exact .inl l
  .exact .inr ⟨k,c,e,cellK x c e _ z⟩
 .obtain⟨v,z⟩:=I.cell x c e;exact⟨v,cellK x c e v z⟩
 .obtain⟨m,⟨o,_,_,ho,_⟩,_⟩:=I.loc;exact free _ o (λz=>(hch _ z).2.1 rfl) ho I.free
 .obtain⟨v,o,ho,hd⟩:=I.cell x c e;exact free c o (λz=>(hch c z).2.2.1 x c e rfl) ho (I.freeC x c e)
 .obtain⟨e,n,ne,nf,d⟩:=I.pin p hp;have nch:p.1 ∉ ch:=λz=>(hch p.1 z).2.2.2 p hp rfl
  exact⟨keep p.1 p.2 ne nf nch e n,free p.1 p.2 nch e n,ne,nf,d⟩
def Inv.un {t':Nat}(I:Inv X Y U H s)(u:Un X.fs [] H H' s.heap h')(hok:iM X.prog X.w H' h'):Inv X Y U H' 5e0:=by
 obtain⟨m,⟨o,es,ep,ho,r⟩,_⟩:=id I.loc;obtain⟨sl,hL⟩:=u.any ho I.free 2e5;exact I.step (g':=s.gens) (d':=s.drawn) (ch:=[]) (λ_ z=>nomatch z) (λb o _ hb _ e n=>u.keep b o e n hb 2e5) (λb o _ hb _ e n=>u.slot b o e n hb 2e5) (λb o _ e n=>u.free b o e n 2e5) (λb o _ e=>u.there b o e 2e5) u.tups u.frzs u.tbls (λm' hm=>by
  obtain⟨o',es',ep',ho',r'⟩:=hm;rw[ho]at ho';cases ho';exact⟨_,es',ep',hL,r'⟩) hok I.bare
def Inv.call {t':Nat}{d':Drawn}(I:Inv X Y U H s)(u:Un (qE X.stack) ch H H' s.heap h')(hok:iM X.prog X.w H' h')(hg:AllBare g')
  (hch:∀ b ∈ ch,(b ∈ X.ex\/X.s₀.heap.objs.size<=b)/\b≠X.env.locals/\(∀ x c,X.env.cells.lookup x=some c->c≠b)/\∀ p ∈ X.pn++Y,p.1≠b):
  Inv X Y U H' { s with heap:=h',gens:=g',drawn:=d',toks:=t' }:=by
 obtain⟨m,⟨o,es,ep,ho,r⟩,_⟩:=id I.loc;obtain⟨sl,hL⟩:=u.any ho I.free λz=>(hch _ z).2.1 rfl
 exact I.step (ch:=ch) hch (λb o hL hb hc e n=>u.keep b o e n (λz=>(mo.mp (I.jW b z)).elim hL hb) hc) (λb o _ _ hc e n=>u.any e n hc) (λb o hc e n=>u.free b o e n hc) (λb o hc e=>u.there b o e hc) u.tups u.frzs u.tbls (λm' hm=>by
  obtain⟨o',es',ep',ho',r'⟩:=hm;rw[ho]at ho';cases ho';exact⟨_,es',ep',hL,r'⟩) hok hg
def Inv.turned {t':Nat}{it:Addr}(I:Inv X Y U H s)(k:∀ b o,b≠it->s.heap.get? b=some o->h'.get? b=some o) (hn:H it=none) (hL:it≠X.env.locals)
  (h1:it ∈ X.ex\/X.s₀.heap.objs.size<=it) (h2:∀ x c,X.env.cells.lookup x=some c->c≠it) (h3:∀ p ∈ X.pn++Y,p.1≠it):Inv X Y U H 5e0:=by
 have nit:∀ b u,H b=some u->b≠it:=λb u e z=>by rw[z,hn]at e;cases e
 refine I.step (g':=s.gens) (d':=s.drawn) (ch:=[it]) (λb hb=>?_) (λb o _ _ hc e _=>k b o (λz=>hc (by simp[z])) e) (λb o _ _ hc e _=>⟨o.slots,k b o (λz=>hc (by simp[z])) e⟩) (λ_ _ _ _ n=>n)
  (λb o hc e=>⟨o,k b o (λz=>hc (by simp[z])) e⟩) (λ_ _ e=>e) (λ_ _ _ e=>e) (λb ps e=>⟨#[],by rw[e];simp⟩) (λm hm=>?_) (λb u e=>?_) I.bare
 .have e:b=it:=by simpa using hb
  subst e;exact⟨h1,hL,h2,h3⟩
 .obtain⟨o,es,ep,ho,r⟩:=hm;exact⟨o,es,ep,k _ o (Ne.symm hL) ho,r⟩
 .refine(I.hok b u e).fL (λc v hc q=>k c v ?_ q) (λ_ q=>q) λ_ _ q=>q
  rcases hc with z|z
  .rw[z];exact nit b u e
  .exact nit c _ z
def Inv.tok (I:Inv X Y U H s)(t:Nat):Inv X Y U H { s with toks:=t }:=I.un (h':=s.heap) (t':=t) Un.refl I.hok
def Inv.kept {t':Nat}(I:Inv X Y U H s)(k:∀ b u,s.heap.get? b=some u->h'.get? b=some u):Inv X Y U H 5e0:=I.un (Un.kept k) (I.hok.kept k)
def Inv.laid {t':Nat}(I:Inv X Y U H s)(k:∀ b u,s.heap.get? b=some u->h'.get? b=some u) (hp:s.heap.objs.size<=a) (new:aQ X.prog X.w (upd H a o) h' a o):
  Inv X Y U (upd H a o) 5e0:=I.un (Un.laid k hp (I.hok.fresh hp)) (I.hok.laid k hp new)
def Inv.write {x e:Addr}{t':Nat}(I:Inv X Y U H s)(mu:IS (H x))(he:e=x\/H e=some (.own x))(k:∀ b u,b≠e->s.heap.get? b=some u->h'.get? b=some u) (heo:∃ u,h'.get? e=some u)
  (new:aQ X.prog X.w (upd H x o) h' x o):Inv X Y U (upd H x o) 5e0:=I.un (Un.write mu he k heo) (I.hok.write mu he k heo new)
def Inv.pH {pins':NY}(I:Inv X Y U H s)(h:∀ p ∈ pins',s.heap.get? p.1=some p.2/\H p.1=none/\p.1≠X.env.locals/\p.1 ∉ X.fs/\∀ v,p.2.data≠.cell v):Inv X pins' U H s:=
 ⟨I.ok,I.os,I.bare,I.base,I.loc,I.cell,I.free,I.freeC,λp hp=>(mem_append.mp hp).elim (λz=>I.pin p (mem_append_left _ z)) (h p),I.hok,I.len⟩
def mK {N:List Str}(hN:N.Nodup){j:Nat}(a:N[i]? =some x)(b:N[j]? =some x):i=j:=by
 obtain⟨h1,e1⟩:=sw.mp a;obtain⟨h2,e2⟩:=sw.mp b;exact(List.getElem_inj hN).mp (e1.trans e2.symm)
variable {Q:NW}
def oH (I:Inv X Y U H s)(hN:X.N.Nodup)(hi:X.N[i]? =some x)(hx:Loc X.env.scope x)(r:RelV v u)
  (h:∀ s',Inv X Y (U.set i (some v)) H s'->(∃ a,Heap.SameBut a s.heap s'.heap/\(a=X.env.locals\/X.env.cells.lookup x=some a))->Q () s') (hf:X.fn x=true\/X.env.scope.names.lookup x=some .local:=by first|exact .inl rfl|exact .inr rfl|assumption):wpAny M A (storeName X.env x u) Q E s:=by
 obtain⟨m,hn,hl⟩:=id I.loc;have hcls:(X.env.scope.kind ==.class||(X.env.scope.kind ==.module&&X.env.locals != X.env.globals))=false:=by rw[I.ok.kind];rfl
 have hiσ:i<U.length:=by rw[I.len];exact(sw.mp hi).1
 have Br:=I.Br;have tracked:∀ {a:Addr}{h':Heap},(∃ o,s.heap.get? a=some o/\H a=none)->Heap.SameBut a s.heap h'->iM X.prog X.w H h':=λ{a h'} ha hs b ob e=>by
  obtain⟨_,_,hfree⟩:=ha;refine(I.hok b ob e).fL (λc w' hc q=>(hs.2 c ?_).trans q) (λ_ q=>q) λ_ _ q=>q
  rintro rfl;rcases hc with rfl|hc
  .rw[hfree]at e;cases e
  .rw[hfree]at hc;cases hc
 rcases hx with hk|hk
 .refine wpAny_storeName_local hk hn (λh' hn' hs=>?_) hcls;obtain⟨oL,_,_,hoL,_⟩:=id hn;refine h _ ⟨I.ok,I.os,I.bare,⟨λb o e n hb hx=>?_,λb o e n hb hx=>?_,I.base.free,λb o e hx=>?_,I.base.tups,I.base.frzs,I.base.tbls⟩,⟨_,hn',λj y v' e1 e2 e3=>?_⟩,λy c e=>?_,I.free,I.freeC,λp hp=>?_,tracked ⟨oL,hoL,I.free⟩ hs,by simpa using I.len⟩ ⟨_,hs,.inl rfl⟩
  .exact(hs.2 b (pc (nw (tz e) I.ok.above))).trans (I.base.keep b o e n hb hx)
  .obtain⟨sl,e1⟩:=I.base.slot b o e n hb hx;exact⟨sl,(hs.2 b (pc (nw (tz e) I.ok.above))).trans e1⟩
  .obtain⟨o',e1⟩:=I.base.there b o e hx;exact⟨o',(hs.2 b (pc (nw (tz e) I.ok.above))).trans e1⟩
  .by_cases hj:j=i
   .subst hj;rw[hi]at e1;cases e1;rw[getElem?_set_self hiσ]at e2;cases e2;exact⟨u,r,.inl ⟨hk,by simp⟩⟩
   .rw[getElem?_set_ne (Ne.symm hj)]at e2;obtain⟨u',r',q⟩:=hl j y v' e1 e2 e3;refine⟨u',r',?_⟩;rcases q with⟨k,e⟩|⟨k,c,e,z⟩
    .refine .inl ⟨k,?_⟩;have:y≠x:=λe=>hj (mK hN e1 (e▸hi))
     simp[this,e]
    .exact .inr ⟨k,c,e,z.sameBut hs (Br y c e)⟩
  .obtain⟨w',z⟩:=I.cell y c e;exact⟨w',z.sameBut hs (Br y c e)⟩
  .obtain⟨e,n,ne,nf,d⟩:=I.pin p hp;exact⟨(hs.2 p.1 ne).trans e,n,ne,nf,d⟩
 .have hfn:X.fn x=true:=by
   rcases hf with z|z
   .exact z
   .rw[z]at hk;cases hk
  obtain⟨c,hc⟩:=I.ok.has x (.inl hk);obtain⟨w',z⟩:=I.cell x c hc;refine wpAny_storeName_cell I.ok.kind hk hc z (λh' hc' hs=>?_);obtain⟨oc,hoc,hocd⟩:=id z;refine h 1e5 ⟨I.ok,I.os,I.bare,⟨λb o e n hb hx=>?_,λb o e n hb hx=>?_,I.base.free,λb o e hx=>?_,I.base.tups,I.base.frzs,I.base.tbls⟩,⟨m,hn.sameBut hs (Ne.symm (Br x c hc)),λj y v' e1 e2 e3=>?_⟩,λy c' e=>?_,I.free,I.freeC,λp hp=>?_,tracked ⟨oc,hoc,I.freeC x c hc⟩ hs,by simpa using I.len⟩ ⟨c,hs,.inr hc⟩
  .exact(hs.2 b (pc (nw (tz e) (I.ok.cab x c hfn hc)))).trans (I.base.keep b o e n hb hx)
  .obtain⟨sl,e1⟩:=I.base.slot b o e n hb hx;exact⟨sl,(hs.2 b (pc (nw (tz e) (I.ok.cab x c hfn hc)))).trans e1⟩
  .obtain⟨o',e1⟩:=I.base.there b o e hx;exact⟨o',(hs.2 b (pc (nw (tz e) (I.ok.cab x c hfn hc)))).trans e1⟩
  .by_cases hj:j=i
   .subst hj;rw[hi]at e1;cases e1;rw[getElem?_set_self hiσ]at e2;cases e2;exact⟨u,r,.inr ⟨.inl hk,c,hc,hc'⟩⟩
   .rw[getElem?_set_ne (Ne.symm hj)]at e2;obtain⟨u',r',q⟩:=hl j y v' e1 e2 e3;refine⟨u',r',?_⟩;rcases q with q|⟨k,c',e,z'⟩
    .exact .inl q
    .refine .inr ⟨k,c',e,z'.sameBut hs ?_⟩;rintro rfl;exact hj (mK hN e1 (I.ok.inj _ _ _ e hc▸hi))
  .by_cases hcc:c'=c
   .subst hcc;exact⟨_,hc'⟩
   .obtain⟨w2,z2⟩:=I.cell y c' e;exact⟨w2,z2.sameBut hs hcc⟩
  .obtain⟨e,n,ne,nf,d⟩:=I.pin p hp;refine⟨(hs.2 p.1 ?_).trans e,n,ne,nf,d⟩;intro q;rw[q,hoc]at e;have q':oc=p.2:=Option.some.inj e;exact d w' (by rw[<-q'];exact hocd)
def bH (I:Inv X Y U H s)(hN:X.N.Nodup)(hi:X.N[i]? =some x)(hx:Loc X.env.scope x)(r:RelV v u)
  (h:∀ s',Inv X Y (U.set i (some v)) H s'->Q () s') (hf:X.fn x=true\/X.env.scope.names.lookup x=some .local:=by first|exact .inl rfl|exact .inr rfl|assumption):wpAny M A (storeName X.env x u) Q E s:=
 oH I hN hi hx r (λs' I' _=>h s' I') hf
def Inv.wt {s':Shared}(I:Inv X Y U H s)(ho:s'.os=s.os)(u:Un (qE X.stack) ch H H' s.heap s'.heap)(hok:iM X.prog X.w H' s'.heap)(hg:AllBare s'.gens)
  (hch:∀ b ∈ ch,(b ∈ X.ex\/X.s₀.heap.objs.size<=b)/\b≠X.env.locals/\(∀ x c,X.env.cells.lookup x=some c->c≠b)/\∀ p ∈ X.pn++Y,p.1≠b):Inv X Y U H' s':=by
 obtain⟨h',g',d',t',o'⟩:=s';have e:o'=s.os:=ho;subst e;exact I.call (g':=g') (t':=t') (d':=d') u hok hg hch
end
@[reducible]def XK:=Addr->Hp->Prop
@[reducible]def St:=List (Option V)
@[reducible]def VK:=V->Hp->Prop
@[reducible]def TE:=St->Hp->VK->Prop
@[reducible]def TT:=St->Hp->(Bool->Hp->Prop)->Prop
@[reducible]def TA:=St->Hp->(List V->Hp->Prop)->Prop
structure Ends where
 nx:St->Hp->Prop
 rt:VK
 bk:St->Hp->Prop:=λ_ _=>False
 ct:St->Hp->Prop:=λ_ _=>False
@[reducible]def TS:=Ends->St->Hp->Prop
abbrev EP (X:Cx)(Y:NY)(U:St)(Q:VK)(u:Value)(s':Shared):Prop:=∃ v H',Inv X Y U H' s'/\RelV v u/\Q v H'
abbrev TP (X:Cx)(Y:NY)(U:St)(Q:Bool->Hp->Prop)(b:Bool)(s':Shared):Prop:=∃ H',Inv X Y U H' s'/\Q b H'
abbrev AP (X:Cx)(Y:NY)(U:St)(Q:List V->Hp->Prop)(us:List Value)(s':Shared):Prop:=∃ vs H',Inv X Y U H' s'/\Vals vs us/\Q vs H'
set_option tactic.hygienic true in
abbrev SP (X:Cx)(Y:NY)(D:Ends)(f:Flow)(s':Shared):Prop:=
 match f with
 | .next=>∃ σ' H',Inv X Y σ' H' s'/\D.nx σ' H'
 | .brk=>∃ σ' H',Inv X Y σ' H' s'/\D.bk σ' H'
 | .cont=>∃ σ' H',Inv X Y σ' H' s'/\D.ct σ' H'
 | .ret u=>∃ v σ' H',Inv X Y σ' H' s'/\RelV v u/\D.rt v H'
abbrev PE (X:Cx)(e:Expr)(t:TE):Prop:=
 ∀ (Y:NY) (s:Shared) (U:St) (H:Hp) (Q:VK),Inv X Y U H s->t U H Q->wpAny 0e0 X.A (eval e X.env) (EP X Y U Q) X.xe s
abbrev PT (X:Cx)(e:Expr)(t:TT):Prop:=
 ∀ (Y:NY) (s:Shared) (U:St) (H:Hp) (Q:Bool->Hp->Prop),Inv X Y U H s->t U H Q->wpAny 0e0 X.A (isTrue e X.env (eval e X.env)) (TP X Y U Q) X.xe s
abbrev PW (X:Cx)(e:Expr)(t:TT):Prop:=
 ∀ (whole:Sem Value) (Y:NY) (s:Shared) (U:St) (H:Hp) (Q:Bool->Hp->Prop),Inv X Y U H s->t U H Q->wpAny 0e0 X.A (isTrue e X.env whole) (TP X Y U Q) X.xe s
variable {X:Cx}{e:Expr}
def PW.pt {t:TT}(h:PW X e t):PT X e t:=h _
abbrev PA (X:Cx)(es:List Expr)(t:TA):Prop:=
 ∀ (pos:Pos) (Y:NY) (s:Shared) (U:St) (H:Hp) (Q:List V->Hp->Prop),Inv X Y U H s->t U H Q->wpAny 0e0 X.A (spliced (backTo pos (bm es X.env))) (AP X Y U Q) X.xe s
abbrev PS (X:Cx)(st:Stmt)(t:TS):Prop:=
 ∀ (Y:NY) (s:Shared) (U:St) (H:Hp) (D:Ends),Inv X Y U H s->t D U H->wpAny 0e0 X.A (exec st X.env) (SP X Y D) X.xe s
abbrev Ds (X:Cx)(st:List Stmt)(t:TS):Prop:=
 ∀ (Y:NY) (s:Shared) (U:St) (H:Hp) (D:Ends),Inv X Y U H s->t D U H->wpAny 0e0 X.A (execs st X.env) (SP X Y D) X.xe s
variable {s:Shared}
def bW {α:Type}{t:Sem α}{Q Q':α->Shared->Prop}(h:wpAny M A t Q E s)(hQ:∀ a s,Q a s->Q' a s):wpAny M A t Q' E s:=wpAny_mono h hQ λ_ _ x=>x
variable {Y:NY}{U:St}
def cR {t:Sem Value}{Q:VK}{Q':NX}(h:wpAny M A t (EP X Y U Q) E s)(hQ:∀ u s v H,Inv X Y U H s->RelV v u->Q v H->Q' u s):wpAny M A t Q' E s:=bW h λu s ⟨v,H,I,r,q⟩=>hQ u s v H I r q
def uI {t:Sem (List Value)}{Q:List V->Hp->Prop}{Q':List Value->Shared->Prop}(h:wpAny M A t (AP X Y U Q) E s)(hQ:∀ us s vs H,Inv X Y U H s->Vals vs us->Q vs H->Q' us s):wpAny M A t Q' E s:=bW h λu s ⟨v,H,I,r,q⟩=>hQ u s v H I r q
variable {Q:NX}{c:Expr}
section
variable {X:Cx}
abbrev Mx (i:Nat):TE:=λU H Q=>∃ v,U[i]? =some (some v)/\Q v H
abbrev tC (v:V):TE:=λ_ H Q=>Q v H
def HB {pos:Pos}(hN:X.N[i]? =some x)(hv:JH X.env.scope x)(hd:2e7=false:=by decide) (hcd:(x ==("__classdict__":Str))=false:=by decide):PE X (.Name x pos) (Mx i):=by
 intro Y s U H Q I h;obtain⟨v,e,h⟩:=h;obtain⟨m,hn,hl⟩:=I.loc;obtain⟨u,r,l⟩:=hl i x v hN e hv;have fin:EP X Y U Q u s:=⟨v,H,I,r,h⟩;rcases l with⟨hk,hm⟩|⟨hk,c,hc,hcell⟩
 .exact wpAny_Name (wpAny_loadName_local I.ok.kind hk hn hm fin) hd
 .rcases hk with hk|hk
  .exact wpAny_Name (wpAny_loadName_cell I.ok.kind hk hc hcell fin) hd
  .exact wpAny_Name (wpAny_loadName_free I.ok.kind hk hc hcell fin hcd) hd
def F0 {i j pos}:PE X (.Constant (.int i) j pos) (tC (.int i)):=λ_ _ _ H _ I h=>wpAny_Constant_int ⟨.int i,H,I.tok _,⟨_,rfl⟩,h⟩
def KR {b j pos}:PE X (.Constant (.bool b) j pos) (tC (.bl b)):=λ_ _ _ H _ I h=>Constant_bool ⟨.bl b,H,I,rfl,h⟩
def Ga {j pos}:PE X (.Constant .none j pos) (tC .non):=λ_ _ _ H _ I h=>Constant_none ⟨.non,H,I,rfl,h⟩
def BN {x j pos}:PE X (.Constant (.str x) j pos) (tC (.str x)):=λ_ _ _ H _ I h=>Calls.Constant_str ⟨.str x,H,I.tok _,⟨_,rfl⟩,h⟩
abbrev Gl (X:Cx)(x:Str):Prop:=X.env.kindOf x=some .globalImplicit
def bM {pos:Pos}(I:Inv X Y U H s)(hg:Gl X x)(hm:X.mg x=some u)(h:Q u s)
  (hd:2e7=false:=by decide):wpAny 0e0 X.A (eval (.Name x pos) X.env) Q E s:=
 Calls.Name_function_global I.ok.kind hg (Calls.loadGlobal_global (by rw[I.ok.glob];exact I.mod.glob.keeps I.bk) hm h) hd
def cT {pos:Pos}(I:Inv X Y U H s)(hg:Gl X x)(hm:X.mg x=none)(hv:bootBuiltins x=some u)(h:Q u s)
  (hn:x≠"__name__":=by decide) (hd:2e7=false:=by decide):wpAny 0e0 X.A (eval (.Name x pos) X.env) Q E s:=by
 obtain⟨mb,h1,h2⟩:=I.mod.blt;exact Calls.Name_function_global I.ok.kind hg (Calls.loadGlobal_builtin (by rw[I.ok.glob];exact I.mod.glob.keeps I.bk) hm (by rw[I.ok.blt];exact h1.keeps I.bk) ((h2 x hn).trans hv) h) hd
def vS {pos:Pos}(hg:Gl X x)(hm:X.mg x=some u)(r:RelV v u)(hd:2e7=false:=by decide):PE X (.Name x pos) (tC v):=
 λ_ _ _ H _ I h=>bM I hg hm ⟨v,H,I,r,h⟩ hd
def Ez {pos:Pos}(hg:Gl X x)(hm:X.mg x=none)(hv:bootBuiltins x=some u)(r:RelV v u)(hn:x≠"__name__":=by decide) (hd:2e7=false:=by decide):PE X (.Name x pos) (tC v):=
 λ_ _ _ H _ I h=>cT I hg hm hv ⟨v,H,I,r,h⟩ hn hd
variable {a b:Expr}{ta tb:TE}{pos:Pos}
variable {tA tB':TT}{rest:List Expr}
abbrev LI (t u:TT):TT:=λU H Q=>t U H λc H1=>if c=true then u U H1 Q else Q false H1
abbrev ND (t u:TT):TT:=λU H Q=>t U H λc H1=>if c=true then Q true H1 else u U H1 Q
abbrev LH (t:TT):TT:=λU H Q=>t U H λc H1=>Q (!c) H1
def CY (ha:PT X a tA):PW X (.BoolOp .And [a] pos) tA:=by
 intro wh Y s U H Q I h;refine isTrue_and (bW (ha Y s U H Q I h) λc s1 e=>?_);cases c with
 |true=>exact isTrue_and_nil e
 |false=>exact e
def F6 (ha:PT X a tA):PW X (.BoolOp .Or [a] pos) tA:=by
 intro wh Y s U H Q I h;refine isTrue_or (bW (ha Y s U H Q I h) λc s1 e=>?_);cases c with
 |false=>exact isTrue_or_nil e
 |true=>exact e
def G4 (ha:PT X a tA)(hb:PW X (.BoolOp .And (b::rest) pos) tB'):PW X (.BoolOp .And (a::b::rest) pos) (LI tA tB'):=by
 intro wh Y s U H Q I h;refine isTrue_and (bW (ha Y s U H _ I h) λc s1 ⟨H1,I1,q1⟩=>?_);cases c with
 |true=>exact hb wh Y s1 U H1 Q I1 q1
 |false=>exact⟨H1,I1,q1⟩
def Jj (ha:PT X a tA)(hb:PW X (.BoolOp .Or (b::rest) pos) tB'):PW X (.BoolOp .Or (a::b::rest) pos) (ND tA tB'):=by
 intro wh Y s U H Q I h;refine isTrue_or (bW (ha Y s U H _ I h) λc s1 ⟨H1,I1,q1⟩=>?_);cases c with
 |true=>exact⟨H1,I1,q1⟩
 |false=>exact hb wh Y s1 U H1 Q I1 q1
def Im (ha:PT X a tA):PT X (.UnaryOp .Not a pos) (LH tA):=by
 intro Y s U H Q I h;exact isTrue_not (ha Y s U H (λc H1=>Q (!c) H1) I h)
abbrev JL (ta tb:TE):TE:=λU H Q=>ta U H λx H1=>∃ c,x=.bl c/\if c=true then tb U H1 Q else Q (.bl false) H1
abbrev LS (ta tb:TE):TE:=λU H Q=>ta U H λx H1=>∃ c,x=.bl c/\if c=true then Q (.bl true) H1 else tb U H1 Q
abbrev KD (ta:TE):TE:=λU H Q=>ta U H λx H1=>∃ c,x=.bl c/\Q (.bl (!c)) H1
def Bs {op}{t:TE}(h:PE X a t):PE X (.BoolOp op [a] pos) t:=λY s U H Q I hw=>BoolOp_one (h Y s U H Q I hw)
def FH (ha:PE X a ta)(hb:PE X (.BoolOp .And (b::rest) pos) tb):PE X (.BoolOp .And (a::b::rest) pos) (JL ta tb):=by
 intro Y s U H Q I h;refine BoolOp_and (cR (ha Y s U H _ I h) λv s1 x H1 I1 r1 q1=>?_);obtain⟨c,rfl,q1⟩:=q1;cases r1;refine bi ?_;cases c with
 |true=>exact hb Y s1 U H1 Q I1 q1
 |false=>exact⟨.bl false,H1,I1,rfl,q1⟩
def Kw (ha:PE X a ta)(hb:PE X (.BoolOp .Or (b::rest) pos) tb):PE X (.BoolOp .Or (a::b::rest) pos) (LS ta tb):=by
 intro Y s U H Q I h;refine BoolOp_or (cR (ha Y s U H _ I h) λv s1 x H1 I1 r1 q1=>?_);obtain⟨c,rfl,q1⟩:=q1;cases r1;refine bi ?_;cases c with
 |false=>exact hb Y s1 U H1 Q I1 q1
 |true=>exact⟨.bl true,H1,I1,rfl,q1⟩
def GH (ha:PE X a ta):PE X (.UnaryOp .Not a pos) (KD ta):=by
 intro Y s U H Q I h;refine UnaryOp_ (cR (ha Y s U H _ I h) λv s1 x H1 I1 r1 q1=>?_);obtain⟨c,rfl,q1⟩:=q1;cases r1;exact not_of (bi ⟨.bl (!c),H1,I1,rfl,q1⟩)
abbrev Ny (t:TT)(ta tb:TE):TE:=λU H Q=>t U H λc H1=>if c=true then ta U H1 Q else tb U H1 Q
def zQ (hc:PT X c tA)(ha:PE X a ta)(hb:PE X b tb):PE X (.IfExp c a b pos) (Ny tA ta tb):=by
 intro Y s U H Q I h;refine wpAny_IfExp (bW (hc Y s U H _ I h) λd s1 ⟨H1,I1,q1⟩=>?_);cases d with
 |true=>exact ha Y s1 U H1 Q I1 q1
 |false=>exact hb Y s1 U H1 Q I1 q1
end
abbrev bB (K:W.Frag)(H:Hp)(a:Addr)(xs:List V):Prop:=
 Rd H a 4e8\/
  ∃ (o:Obj) (its:Array Value) (n:Nat),K.lookup a=some o/\o.cls=.type "list"/\o.dict=none/\o.data=.seq its n/\its.size<=bn/\Vals xs its.toList
abbrev bP (K:W.Frag)(H:Hp)(a:Addr)(xs:List V):Prop:=
 Rd H a (.tup xs)\/
  ∃ (o:Obj) (its:Array Value) (n:Nat),K.lookup a=some o/\o.cls=.type "tuple"/\o.data=.seq its n/\its.size<=bn/\Vals xs its.toList
abbrev Gg:Value->Option V
 | .none=>some .non
 | .bool b=>some (.bl b)
 | .int i _=>some (.int i)
 | .str x _=>some (.str x)
 | .bytes b _=>some (.byt b)
 | .float b _=>some (.flt b)
 | .ref a=>some 3e6
 | .type n=>some (.ty n)
 |_=>none
def RelV.abs {x:V}(r:RelV x u):Gg u=some x:=by
 cases x with
 |non=>cases r;rfl
 |bl _=>cases r;rfl
 |int _=>obtain⟨t,rfl⟩:=r;rfl
 |str _=>obtain⟨t,rfl⟩:=r;rfl
 |byt _=>obtain⟨t,rfl⟩:=r;rfl
 |flt _=>obtain⟨t,rfl⟩:=r;rfl
 |ref _=>cases r;rfl
 |ty _=>cases r;rfl
def RelV.inj {x y:V}(r:RelV x u)(q:RelV y u):x=y:=Option.some.inj (r.abs.symm.trans q.abs)
def Vals.inj:∀ {xs ys:List V}{us:List Value},Vals xs us->Vals ys us->xs=ys
 |_,_,_,.nil,.nil=>rfl
 |_,_,_,.cons r t,.cons r' t'=>by rw[r.inj r',Vals.inj t t']
variable {K:W.Frag}
section
variable {X:Cx}{Y:NY}{U:St}{H:Hp}{s:Shared}{a:Addr}{xs ys:List V}
def bB.of (h:H a=some 4e8):bB K H a xs:=.inl (.inl h)
def bP.of (h:H a=some (.tup xs)):bP K H a xs:=.inl (.inl h)
def Inv.list (I:Inv X Y U H s)(h:bB X.K H a xs):∃ its:List Value,Vals xs its/\PlainL s.heap a its.toArray/\xs.length<=bn:=by
 rcases h with h|⟨o,its,n,hk,hc,hd,hs,hz,r⟩
 .obtain⟨z,its,n,r,e⟩:=h.ok I.hok;exact⟨its,r,⟨_,n,e,rfl,rfl,rfl⟩,z⟩
 .refine⟨its.toList,r,⟨o,n,I.cp a o hk,hc,hd,by simpa using hs⟩,?_⟩;have e:=r.length;simp only[Array.length_toList]at e
  omega
def Inv.tuple (I:Inv X Y U H s)(h:bP X.K H a xs):∃ its:List Value,Vals xs its/\IsTup s.heap a its.toArray/\xs.length<=bn:=by
 rcases h with h|⟨o,its,n,hk,hc,hs,hz,r⟩
 .obtain⟨z,its,r,p⟩:=h.ok I.hok;exact⟨its,r,p,z⟩
 .refine⟨its.toList,r,⟨o,I.cp a o hk,hc,n,by simpa using hs⟩,?_⟩;have e:=r.length;simp only[Array.length_toList]at e
  omega
def Inv.lW (I:Inv X Y U H s)(h:bB X.K H a xs)(h':bB X.K H a ys):xs=ys:=by
 obtain⟨its,r,⟨o,n,e,_,_,d⟩,_⟩:=I.list h;obtain⟨its',r',⟨o',n',e',_,_,d'⟩,_⟩:=I.list h';rw[e]at e';cases e';rw[d]at d'
 injection d' with d1 _
 have:its=its':=by simpa using congrArg Array.toList d1
 subst this;exact r.inj r'
def Inv.kC (I:Inv X Y U H s)(h:bP X.K H a xs)(h':bP X.K H a ys):xs=ys:=by
 obtain⟨its,r,⟨o,e,_,n,d⟩,_⟩:=I.tuple h;obtain⟨its',r',⟨o',e',_,n',d'⟩,_⟩:=I.tuple h';rw[e]at e';cases e';rw[d]at d'
 injection d' with d1 _
 have:its=its':=by simpa using congrArg Array.toList d1
 subst this;exact r.inj r'
end
section
variable {X:Cx}{Y:NY}{U:St}{H:Hp}{s:Shared}{E:NX}
end
section
variable {X:Cx}{st:Stmt}{rest:List Stmt}{t u:TS}{e:Expr}{te:TE}{pos:Pos}
abbrev Jq:TS:=λD U H=>D.nx U H
abbrev Ma (t u:TS):TS:=λD U H=>t { D with nx:=u D } U H
def Cy:Ds X [] Jq:=λ_ _ U H _ I h=>wpAny_execs_nil ⟨U,H,I,h⟩
set_option tactic.hygienic true in
def B7 (h1:PS X st t)(h2:Ds X rest u):Ds X (st::rest) (Ma t u):=by
 intro Y s U H D I h;refine wpAny_execs_cons (bW (h1 Y s U H { D with nx:=u D } I h) λf s1 q=>?_);cases f with
 |next=>
  obtain⟨σ',H',I',q⟩:=q;exact h2 Y s1 σ' H' D I' q
 |ret v=>exact q
 |brk=>exact q
 |cont=>exact q
def Inv.quiet (I:Inv X Y U H s):interactive X.env=false:=by simp[interactive,I.ok.kind]
abbrev Jk (te:TE):TS:=λD U H=>te U H λ_ H1=>D.nx U H1
def CO (he:PE X e te)(hs:swapsWith e none pos.line X.env=pure false:=by rfl):PS X (.Expr e pos) (Jk te):=by
 intro Y s U H D I h;exact wpAny_Expr_any (cR (he Y s U H _ I h) λv s1 x H1 I1 r1 q1=>⟨U,H1,I1,q1⟩) I.quiet hs
abbrev Mz (te:TE):TS:=λD U H=>te U H D.rt
def Hr (he:PE X e te):PS X (.Return (some e) pos) (Mz te):=by
 intro Y s U H D I h;exact wpAny_Return_some (cR (he Y s U H _ I h) λv s1 x H1 I1 r1 q1=>⟨x,U,H1,I1,r1,q1⟩)
abbrev ME (c:TT)(t u:TS):TS:=λD U H=>c U H λb H1=>if b=true then t D U H1 else u D U H1
def KN {a b:List Stmt}{tc:TT}(hc:PT X c tc)(ha:Ds X a t)(hb:Ds X b u):PS X (.If c a b pos) (ME tc t u):=by
 intro Y s U H D I h;refine wpAny_If (bW (hc Y s U H _ I h) λd s1 ⟨H1,I1,q1⟩=>?_);cases d with
 |true=>exact ha Y s1 U H1 D I1 q1
 |false=>exact hb Y s1 U H1 D I1 q1
end
@[reducible]def TG:=V->St->Hp->(St->Hp->Prop)->Prop
@[reducible]def DM:=List V->St->Hp->(St->Hp->Prop)->Prop
abbrev PG (X:Cx)(target:Expr)(t:TG):Prop:=
 ∀ (Y:NY) (s:Shared) (U:St) (H:Hp) (v:V) (u:Value) (Q:St->Hp->Prop),Inv X Y U H s->RelV v u->t v U H Q->
  wpAny 0e0 X.A (assign target X.env u) (λ_ s'=>∃ σ' H',Inv X Y σ' H' s'/\Q σ' H') X.xe s
abbrev HZ (X:Cx)(ts:List Expr)(t:DM):Prop:=
 ∀ (Y:NY) (s:Shared) (U:St) (H:Hp) (vs:List V) (us:List Value) (Q:St->Hp->Prop),Inv X Y U H s->Vals vs us->t vs U H Q->
  wpAny 0e0 X.A (assignInOrder ((assignEach ts X.env).map (·.2)) us) (λ_ s'=>∃ σ' H',Inv X Y σ' H' s'/\Q σ' H') X.xe s
@[reducible]def xJ:=V->V->V->Hp->(Hp->Prop)->Prop
abbrev Eh (X:Cx)(t:xJ):Prop:=
 ∀ (Y:NY) (s:Shared) (U:St) (H:Hp) (o i v:V) (ov iv u:Value) (Q:Hp->Prop),Inv X Y U H s->RelV o ov->RelV i iv->RelV v u->t o i v H Q->
  wpAny 0e0 X.A (setItem ov iv u) (λ_ s'=>∃ H',Inv X Y U H' s'/\Q H') X.xe s
@[reducible]def IL:=V->V->Hp->VK->Prop
abbrev JA (X:Cx)(op:Operator)(t:IL):Prop:=
 ∀ (Y:NY) (s:Shared) (U:St) (H:Hp) (x y:V) (v u:Value) (Q:VK),Inv X Y U H s->RelV x v->RelV y u->t x y H Q->
  wpAny 0e0 X.A (inplaceOp op v u) (EP X Y U Q) X.xe s
variable {es:List Expr}{k:Nat}{tg:Expr}{te:TE}{pos':Pos}{op:Operator}
section
variable {X:Cx}{pos:Pos}
abbrev ja (i:Nat):TG:=λv U H Q=>Q (U.set i (some v)) H
def jb (hN:X.N.Nodup)(hi:X.N[i]? =some x)(hx:Loc X.env.scope x)(hf:X.fn x=true\/X.env.scope.names.lookup x=some .local:=by first|exact .inl rfl|exact .inr rfl|assumption):PG X (.Name x pos) (ja i):=by
 intro Y s U H v u Q I r h;exact wpAny_assign_Name (bH I hN hi hx r (λs' I'=>⟨_,H,I',h⟩) hf)
abbrev LK:DM:=λvs U H Q=>vs=[]/\Q U H
abbrev Ji (t:TG)(u:DM):DM:=λvs U H Q=>∃ v r,vs=v::r/\t v U H λσ' H'=>u r σ' H' Q
def pN:HZ X [] LK:=by
 intro Y s U H vs us Q I r h;obtain⟨e,h⟩:=h;subst e;cases r;exact assignInOrder_nil ⟨U,H,I,h⟩
def jd {t:TG}{u:DM}(h1:PG X e t)(h2:HZ X es u)
  (hs:(assignEach (e::es) X.env).map (·.2)=assign e X.env::(assignEach es X.env).map (·.2):=by rfl):HZ X (e::es) (Ji t u):=by
 intro Y s U H vs us Q I r h;obtain⟨v,vr,e1,h⟩:=h;subst e1;cases r with
 |cons r rr=>
  rw[hs];refine assignInOrder_cons (bW (h1 Y s U H _ _ _ I r h) λ_ s1 ⟨σ1,H1,I1,q1⟩=>?_);exact h2 Y s1 σ1 H1 _ _ Q I1 rr q1
abbrev DO (K:W.Frag)(n:Nat)(t:DM):TG:=λv U H Q=>∃ a xs,v=.ref a/\bP K H a xs/\xs.length=n/\t xs U H Q
def qx {t:DM}{n:Nat}(hc:X.calm=true)(h:HZ X es t)
  (hn:(assignEach es X.env).length=n:=by rfl) (hst:(assignEach es X.env).findIdx? (·.1)=none:=by rfl):PG X (.Tuple es k pos) (DO X.K n t):=by
 intro Y s U H v u Q I r hw;obtain⟨a,xs,e1,hq,hl,hw⟩:=hw;subst e1;cases r;obtain⟨its,rv,ht,hz⟩:=I.tuple hq;refine assign_Tuple_tuple (I.ok.hd hc) ht (by simp[hn,<-hl,rv.length]) hst λh' hx=>?_
 have I1:Inv X Y U H 1e5:=I.kept (t':=s.toks) λb o e=>hx b o (pc (tz e)) e
 exact h Y _ U H xs _ Q I1 (by simpa using rv) hw
abbrev MA (to ti:TE)(t:xJ):TG:=λv U H Q=>to U H λo H1=>ti U H1 λi H2=>t o i v H2 λH3=>Q U H3
def IA {o i:Expr}{to ti:TE}{t:xJ}(ho:PE X o to)(hi:PE X i ti)(hs:Eh X t)
  (ha:∀ v,assign (.Subscript o i pos) X.env v=(do
   let ov <-holding [v] (eval o X.env)
   let iv <-holding [v,ov] (eval i X.env)
   standAt pos
   holding [v,ov,iv] (setItem ov iv v)
   release [v,ov,iv] []):=by intro _;rfl):PG X (.Subscript o i pos) (MA to ti t):=by
 intro Y s U H v u Q I r h;rw[ha];refine ad (bd (cR (ho Y s U H _ I h) λov s1 x H1 I1 r1 q1=>?_));refine ad (bd (cR (hi Y s1 U H1 _ I1 q1) λiv s2 y H2 I2 r2 q2=>?_));refine ad (wpAny_standAt (ad (bd (bW (hs Y s2 U H2 x y v ov iv u _ I2 r1 r2 r q2) λ_ s3 ⟨H3,I3,q3⟩=>?_))));exact wpAny_release ⟨U,H3,I3,q3⟩
abbrev JY (te:TE)(g:TG):TS:=λD U H=>te U H λx H1=>g x U H1 D.nx
def zj {g:TG}(he:PE X e te)(hg:PG X tg g)(hs:swapsWithSole [tg] e pos.line X.env=pure false:=by rfl) (hw:swappedStores [tg] e X.env=pure none:=by rfl)
  (h1:(assignEach [tg] X.env).map (·.2)=[assign tg X.env]:=by rfl):PS X (.Assign [tg] e pos) (JY te g):=by
 intro Y s U H D I h;refine wpAny_Assign_stores (cR (he Y s U H _ I h) λv s1 x H1 I1 r1 q1=>?_) hs hw;rw[h1];exact bW (hg Y s1 U H1 x v _ I1 r1 q1) λ_ s2 q=>q
def BU (hN:X.N.Nodup)(hi:X.N[i]? =some x)(hx:Loc X.env.scope x)(he:PE X e te)(hs:swapsWith e (some (.Name x pos')) pos.line X.env=pure false:=by rfl) (hf:X.fn x=true\/X.env.scope.names.lookup x=some .local:=by first|exact .inl rfl|exact .inr rfl|assumption):
  PS X (.Assign [.Name x pos'] e pos) (JY te (ja i)):=by
 intro Y s U H D I h;refine wpAny_Assign_Name (cR (he Y s U H _ I h) λv s1 y H1 I1 r1 q1=>?_) hs;exact bH I1 hN hi hx r1 (λs2 I2=>⟨_,H1,I2,q1⟩) hf
abbrev Lz (i:Nat)(te:TE)(ti:IL):TS:=λD U H=>∃ x,U[i]? =some (some x)/\te U H λy H1=>ti x y H1 λz H2=>D.nx (U.set i (some z)) H2
set_option tactic.hygienic true in
def F7 {ti:IL}(hN:X.N.Nodup)(hi:X.N[i]? =some x)(hx:Loc X.env.scope x)(he:PE X e te)(ho:JA X op ti)(hf:X.fn x=true\/X.env.scope.names.lookup x=some .local:=by first|exact .inl rfl|exact .inr rfl|assumption):
  PS X (.AugAssign (.Name x pos') op e pos) (Lz i te ti):=by
 intro Y s U H D I h;obtain⟨v,e1,h⟩:=h;obtain⟨m,hn,hl⟩:=I.loc;have GK:JH X.env.scope x:=by rcases hx with k|k;exact .inl k;exact .inr (.inl k)
 obtain⟨u,r,l⟩:=hl i x v hi e1 GK;refine wpAny_AugAssign_Name ?_;have go:wpAny 0e0 X.A (eval e X.env) (λw s₂=>wpAny 0e0 X.A (inplaceOp op u w) (λr s₃=>wpAny 0e0 X.A (storeName X.env x r) (λ_=>SP X Y D .next) X.xe s₃) X.xe s₂) X.xe s:=by
  refine cR (he Y s U H _ I h) λw s1 y H1 I1 r1 q1=>?_
  refine cR (ho Y s1 U H1 v y u w _ I1 r r1 q1) λz s2 zv H2 I2 r2 q2=>?_
  exact bH I2 hN hi hx r2 (λs3 I3=>⟨_,H2,I3,q2⟩) hf
 rcases l with⟨hk,hm⟩|⟨hk,c,hc,hcell⟩
 .exact wpAny_loadName_local I.ok.kind hk hn hm go
 .rcases hk with hk|hk
  .exact wpAny_loadName_cell I.ok.kind hk hc hcell go
  .rcases hx with k|k
   .have:X.env.scope.names.lookup x=some .free:=hk;rw[k]at this;cases this
   .have:X.env.scope.names.lookup x=some .free:=hk;rw[k]at this;cases this
abbrev JJ (to ti te:TE)(tget:V->V->Hp->VK->Prop)(tip:IL)(tset:xJ):TS:=λD U H=>to U H λo H1=>ti U H1 λi H2=>tget o i H2 λx H3=>te U H3 λy H4=>tip x y H4 λz H5=>tset o i z H5 λH6=>D.nx U H6
abbrev GF (X:Cx)(t:V->V->Hp->VK->Prop):Prop:=
 ∀ (Y:NY) (s:Shared) (U:St) (H:Hp) (o i:V) (ov iv:Value) (Q:VK),Inv X Y U H s->RelV o ov->RelV i iv->t o i H Q->
  wpAny 0e0 X.A (getItem ov iv) (EP X Y U Q) X.xe s
set_option tactic.hygienic true in
def Dk {o i:Expr}{to ti:TE}{tget:V->V->Hp->VK->Prop}{tip:IL}{tset:xJ}{tpos:Pos}(ho:PE X o to)(hi:PE X i ti)(hg:GF X tget)(he:PE X e te)(hp:JA X op tip)(hs:Eh X tset)
  (ha:∀ ov iv new,augStore i ov iv new=(do holding [new,ov,iv] (setItem ov iv new);release [new,ov,iv] [];pure .next):=by intros;rfl):PS X (.AugAssign (.Subscript o i tpos) op e pos) (JJ to ti te tget tip tset):=by
 intro Y s U H D I h;refine wpAny_AugAssign_SubscriptAny (cR (ho Y s U H _ I h) λov s1 x1 H1 I1 r1 q1=>?_) ha;refine cR (hi Y s1 U H1 _ I1 q1) λiv s2 x2 H2 I2 r2 q2=>?_
 refine cR (hg Y s2 U H2 x1 x2 ov iv _ I2 r1 r2 q2) λold s3 x3 H3 I3 r3 q3=>?_
 refine cR (he Y s3 U H3 _ I3 q3) λv s4 x4 H4 I4 r4 q4=>?_
 refine cR (hp Y s4 U H4 x3 x4 old v _ I4 r3 r4 q4) λnew s5 x5 H5 I5 r5 q5=>?_
 exact bW (hs Y s5 U H5 x1 x2 x5 ov iv new _ I5 r1 r2 r5 q5) λ_ s6 ⟨H6,I6,q6⟩=>⟨U,H6,I6,q6⟩
abbrev Ng (f:Int->Int->Int):IL:=λx y H Q=>∃ i j,x=.int i/\y=.int j/\Q (.int (f i j)) H
def F4:JA X .Add (Ng λi j=>i+j):=by
 intro Y s U H x y v u Q I r1 r2 h;obtain⟨i,j,e1,e2,q⟩:=h;subst e1;subst e2;obtain⟨t,rfl⟩:=r1;obtain⟨t',rfl⟩:=r2;exact iadd_int ⟨.int _,H,I.tok _,⟨_,rfl⟩,q⟩
def GY:JA X .Sub (Ng λi j=>i-j):=by
 intro Y s U H x y v u Q I r1 r2 h;obtain⟨i,j,e1,e2,q⟩:=h;subst e1;subst e2;obtain⟨t,rfl⟩:=r1;obtain⟨t',rfl⟩:=r2;exact isub_int ⟨.int _,H,I.tok _,⟨_,rfl⟩,q⟩
end
variable {body:List Stmt}
section
variable {X:Cx}{pos:Pos}
abbrev F3 (c:TT)(tb:TS):TS:=λD U H=>∃ W:Nat->St->Hp->Prop,(∃ m,W m U H)/\∀ m U H,W m U H->
 c U H λb H1=>if b=true then ∃ N:St->Hp->Prop,(∀ σ' H',N σ' H'->∃ m',m'<m/\W m' σ' H')/\tb { D with nx:=N,ct:=N,bk:=D.nx } U H1 else D.nx U H1
set_option tactic.hygienic true in
def BI {tc:TT}{tb:TS}(hp:PassesOwn 0e0 X.A X.env X.xe)(hc:PT X c tc)(hb:Ds X body tb):PS X (.While c body [] pos) (F3 tc tb):=by
 intro Y s U H D I h;obtain⟨W,⟨m0,w0⟩,turn⟩:=h;refine wpAny_While (codeAny_whileLoop (λn s'=>∃ σ' H',Inv X Y σ' H' s'/\W n σ' H') ?_ m0 ⟨U,H,I,w0⟩);rintro n s1 ⟨σ1,H1,I1,w1⟩;refine wpAny_passesOwn hp (bW (hc Y s1 σ1 H1 _ I1 (turn n σ1 H1 w1)) λb s2 ⟨H2,I2,q2⟩=>?_);cases b with
 |true=>
  obtain⟨N,hN,q2⟩:=q2;rw[if_pos rfl];refine wpAny_passesOwn hp (bW (hb Y s2 σ1 H2 _ I2 q2) λf s3 q3=>?_);cases f with
  |next=>
   obtain⟨σ3,H3,I3,n3⟩:=q3;obtain⟨m',hm,w3⟩:=hN σ3 H3 n3;exact⟨m',hm,σ3,H3,I3,w3⟩
  |cont=>
   obtain⟨σ3,H3,I3,n3⟩:=q3;obtain⟨m',hm,w3⟩:=hN σ3 H3 n3;exact⟨m',hm,σ3,H3,I3,w3⟩
  |brk=>exact q3
  |ret v=>exact q3
 |false=>
  rw[if_neg Bool.false_ne_true];exact wpAny_execs_nil ⟨σ1,H2,I2,q2⟩
end
structure It where
 go:Nat->Hp->Prop
 yld:Nat->Hp->V->Hp->Prop
 stop:Nat->Hp->Prop
abbrev jr (X:Cx)(Y:NY)(H:Hp)(b:Addr):Prop:=
 H b=none/\b≠X.env.locals/\b ∉ X.fs/\(b ∈ X.ex\/X.s₀.heap.objs.size<=b)/\(∀ x c,X.env.cells.lookup x=some c->c≠b)/\∀ p ∈ X.pn++Y,p.1≠b
def Inv.Ah {H':Hp}(I:Inv X Y U H s)(hb:s.heap.objs.size<=b)(hn:H' b=none):jr X Y H' b:=by
 refine⟨hn,Nat.ne_of_gt (nw I.lt hb),I.LV hb,.inr (Nat.le_trans I.sz hb),λx c e z=>?_,λp hp z=>?_⟩
 .obtain⟨v,q⟩:=I.cell x c e;exact absurd (nw q.lt (by rw[z];exact hb)) (Nat.lt_irrefl _)
 .exact absurd (nw (tz (I.pin p hp).1) (by rw[z];exact hb)) (Nat.lt_irrefl _)
noncomputable abbrev Calm (X:Cx):Prop:=X.calm=true
abbrev vO (X:Cx):Prop:=∃ e C dx fs,X.A.handled=some (.ref e)/\X.H₀ e=some 5e2
structure Turn (P:Program) (w:World) (K:W.Frag) (ok:Cx->Prop) (tg:Expr) (J:It) (fp:List Addr) (it:Addr) (tn:Nat->Heap->Prop):Prop where
 mem:it ∈ fp
 obj:∀ i h,tn i h->∀ b ∈ fp,∃ o,h.get? b=some o/\∀ v,o.data≠.cell v
 keep:∀ i h h',tn i h->(∀ b ∈ fp,∀ o,h.get? b=some o->h'.get? b=some o)->tn i h'
 item:∀ (X:Cx),X.prog=P->X.w=w->X.K=K->ok X->∀ (i:Nat) (Y:NY) (s:Shared) (U:St) (H:Hp) (E:NX),Inv X Y U H s->(∀ b ∈ fp,jr X Y H b)->tn i s.heap->J.go i H->
  wpAny (model P w) X.A (pyNext (.ref it)) (λr s1=>∃ u,r=some u/\
   wpAny (model P w) X.A (letOwnedTupleGo tg (.ref it) u) (λ_ s2=>∃ x H',Inv X Y U H' s2/\RelV x u/\J.yld i H x H'/\tn (i+1) s2.heap/\∀ b ∈ fp,H' b=none) E s1) E s
 done:∀ (X:Cx),X.prog=P->X.w=w->X.K=K->ok X->∀ (i:Nat) (Y:NY) (s:Shared) (U:St) (H:Hp) (E:NX),Inv X Y U H s->(∀ b ∈ fp,jr X Y H b)->tn i s.heap->J.stop i H->
  wpAny (model P w) X.A (pyNext (.ref it)) (λr s1=>r=none/\Inv X Y U H s1) E s
 self:∀ (A:Around) (i:Nat) (s:Shared) (Q:NX) (E:NX),tn i s.heap->Q (.ref it) s->wpAny (model P w) A (pyIter (.ref it)) Q E s
@[reducible]def TI:=St->Hp->(It->Hp->Prop)->Prop
abbrev Jw (ok:Cx->Prop)(X:Cx)(Y:NY)(U:St)(tg:Expr)(R:It->Hp->Prop)(itv:Value)(s2:Shared):Prop:=
 ∃ (it:Addr) (fp:List Addr) (tn:Nat->Heap->Prop) (J:It) (H':Hp),itv=.ref it/\Inv X Y U H' s2/\Turn X.prog X.w X.K ok tg J fp it tn/\tn 0 s2.heap/\(∀ b ∈ fp,jr X Y H' b)/\R J H'
abbrev Fp (ok:Cx->Prop)(X:Cx)(tg iter:Expr)(wi:TI):Prop:=
 ∀ (Y:NY) (s:Shared) (U:St) (H:Hp) (R:It->Hp->Prop),Inv X Y U H s->wi U H R->
  wpAny 0e0 X.A (eval iter X.env) (λv s1=>wpAny 0e0 X.A (pyIter v) (Jw ok X Y U tg R) X.xe s1) X.xe s
noncomputable abbrev LF (X:Cx)(Y:NY)(U:St)(tg:Expr)(R:It->Hp->Prop)(itv:Value)(s2:Shared):Prop:=Jw Calm X Y U tg R itv s2
noncomputable abbrev PI (X:Cx)(tg iter:Expr)(wi:TI):Prop:=Fp Calm X tg iter wi
def BO {it:Addr}{o:Obj}{n:String}{vs:Array Value}{Q:NW}(ho:s.heap.get? it=some o)(hc:o.cls=.type n)(hd:o.data=.fields vs)
  (hn:["enumerate","zip","dict_itemiterator","dict_reverseitemiterator","odict_iterator","itertools.zip_longest","itertools.pairwise"].contains n=false) (hQ:Q () s):wpAny M A (letOwnedTupleGo tg (.ref it) u) Q E s:=by
 unfold letOwnedTupleGo;cases tg<;>first
  |exact am hQ
  |(cases u<;>first
    |exact am hQ
    |(refine ad (wpAny_load ho ?_)
      rw[hc,hd];show wpAny M A (if(["enumerate","zip","dict_itemiterator","dict_reverseitemiterator","odict_iterator","itertools.zip_longest","itertools.pairwise"].contains n&&vs[0]? ==some (rawInt _))=true then _ else _) Q E s;rw[if_neg (by intro h;rw[hn,Bool.false_and]at h;cases h)];exact am hQ))
abbrev Ef (K:W.Frag)(a:Addr):It:=
 ⟨λi H=>∃ xs x,bB K H a xs/\xs[i]? =some x,λi H x H'=>H'=H/\∀ xs,bB K H a xs->xs[i]? =some x,λi H=>∃ xs,bB K H a xs/\xs.length<=i⟩
abbrev K4 (K:W.Frag)(a:Addr):It:=
 ⟨λi H=>∃ xs x,bP K H a xs/\xs[i]? =some x,λi H x H'=>H'=H/\∀ xs,bP K H a xs->xs[i]? =some x,λi H=>∃ xs,bP K H a xs/\xs.length<=i⟩
abbrev FC (lo:Int)(n:Nat):It:=⟨λi _=>i<n,λi H x H'=>H'=H/\x=.int (lo+i),λi _=>n<=i⟩
def xt (a it:Addr):Turn P w K Calm tg (Ef K a) [it] it (λi h=>h.IsListIter it a i) where
 mem:=by simp
 obj:=λi h st b hb=>by
  have e:b=it:=by simpa using hb
  subst e;obtain⟨o,e,c,d⟩:=st;exact⟨o,e,λv z=>by rw[d]at z;cases z⟩
 keep:=λi h h' st k=>st.at λo e=>k it 2e5 o e
 item:=by
  intro X hP hw hK hc i Y s U H E I hf st hg;subst hP hw hK;obtain⟨xs,x,hq,hx⟩:=hg;obtain⟨its,rv,p,hz⟩:=I.list hq;obtain⟨u,hu,ru⟩:=rv.get hx;obtain⟨f0,f1,f2,f3,f4,f5⟩:=hf it 2e5;refine wpAny_pyNext_list_item st p.isList (x:=u) (by simpa using hu) λh' st' sb=>?_
  have I1:Inv X Y U H 1e5:=I.turned (t':=s.toks) (λb o hb e=>(sb.2 b hb).trans e) f0 f1 f3 f4 f5;obtain⟨o,e,c,d⟩:=id st';exact⟨u,rfl,BO (s:=1e5) e c d 1e1 ⟨x,H,I1,ru,⟨rfl,λys hy=>by rw[I.lW hy hq];exact hx⟩,st',λb hb=>(hf b hb).1⟩⟩
 done:=by
  intro X hP hw hK hc i Y s U H E I hf st hg;subst hP hw hK;obtain⟨xs,hq,hx⟩:=hg;obtain⟨its,rv,p,hz⟩:=I.list hq;obtain⟨f0,f1,f2,f3,f4,f5⟩:=hf it 2e5;have hl:=rv.length;exact wpAny_pyNext_list_end (I.ok.hd hc) st p.isList (by simp;omega) λh' eb=>⟨rfl,I.turned (t':=s.toks) (λb o hb e=>eb b o hb e) f0 f1 f3 f4 f5⟩
 self:=λ_ _ _ _ _ st h=>wpAny_pyIter_listiter st h
def uc (a it:Addr):Turn P w K Calm tg (K4 K a) [it] it (λi h=>h.IsTupleIter it a i) where
 mem:=by simp
 obj:=λi h st b hb=>by
  have e:b=it:=by simpa using hb
  subst e;obtain⟨o,e,c,d⟩:=st;exact⟨o,e,λv z=>by rw[d]at z;cases z⟩
 keep:=λi h h' st k=>st.at λo e=>k it 2e5 o e
 item:=by
  intro X hP hw hK hc i Y s U H E I hf st hg;subst hP hw hK;obtain⟨xs,x,hq,hx⟩:=hg;obtain⟨its,rv,p,hz⟩:=I.tuple hq;obtain⟨u,hu,ru⟩:=rv.get hx;obtain⟨f0,f1,f2,f3,f4,f5⟩:=hf it 2e5;refine wpAny_pyNext_tuple_item st (show s.heap.IsTuple a its.toArray from p) (x:=u) (by simpa using hu) λh' st' sb=>?_
  have I1:Inv X Y U H 1e5:=I.turned (t':=s.toks) (λb o hb e=>(sb.2 b hb).trans e) f0 f1 f3 f4 f5;obtain⟨o,e,c,d⟩:=id st';exact⟨u,rfl,BO (s:=1e5) e c d 1e1 ⟨x,H,I1,ru,⟨rfl,λys hy=>by rw[I.kC hy hq];exact hx⟩,st',λb hb=>(hf b hb).1⟩⟩
 done:=by
  intro X hP hw hK hc i Y s U H E I hf st hg;subst hP hw hK;obtain⟨xs,hq,hx⟩:=hg;obtain⟨its,rv,p,hz⟩:=I.tuple hq;obtain⟨f0,f1,f2,f3,f4,f5⟩:=hf it 2e5;have hl:=rv.length;exact wpAny_pyNext_tuple_end (I.ok.hd hc) st (show s.heap.IsTuple a its.toArray from p) (by simp;omega) λh' eb=>⟨rfl,I.turned (t':=s.toks) (λb o hb e=>eb b o hb e) f0 f1 f3 f4 f5⟩
 self:=λ_ _ _ _ _ st h=>wpAny_pyIter_tupleiter st h
def uK (it:Addr)(lo:Int)(n:Nat):Turn P w K Calm tg (FC lo n) [it] it (λi h=>IsRangeIter h it (lo+(i:Nat)*1) ((n:Int)-(i:Nat)) 1) where
 mem:=by simp
 obj:=λi h st b hb=>by
  have e:b=it:=by simpa using hb
  subst e;exact⟨_,st,λv z=>by
   have z':Data.fields _=Data.cell v:=z;cases z'⟩
 keep:=λi h h' st k=>k it 2e5 _ st
 item:=by
  intro X hP hw hK hc i Y s U H E I hf st hg;subst hP hw hK;obtain⟨f0,f1,f2,f3,f4,f5⟩:=hf it 2e5;have W:=Walks.range (prog:=X.prog) (w:=X.w) (I.ok.hd hc) it lo 1 n;refine W.item i s _ _ hg st λv h' tk hv st' kk=>?_
  obtain⟨t,rfl⟩:=hv;have I1:Inv X Y U H { s with heap:=h',toks:=tk }:=I.turned (λb o hb e=>kk b o (by simpa using hb) e) f0 f1 f3 f4 f5;refine⟨_,rfl,BO (s:={ s with heap:=h',toks:=tk }) (n:="range_iterator") st' rfl rfl 1e1 ⟨.int (lo+i),H,I1,⟨t,?_⟩,⟨rfl,rfl⟩,st',λb hb=>(hf b hb).1⟩⟩;rw[Int.mul_one]
 done:=by
  intro X hP hw hK hc i Y s U H E I hf st hg;subst hP hw hK;obtain⟨f0,f1,f2,f3,f4,f5⟩:=hf it 2e5;exact wpAny_pyNext_range_end (I.ok.hd hc) st (by have:n<=i:=hg;omega) λh' eb=>⟨rfl,I.turned (t':=s.toks) (λb o hb e=>eb b o hb e) f0 f1 f3 f4 f5⟩
 self:=λ_ _ _ _ _ st h=>wpAny_pyIter_rangeiter st h
variable {pos:Pos}{fp:List Addr}
section
variable {X:Cx}{tg:Expr}
def sN {R:It->Hp->Prop}{lo hi:Int}{t u v:Tok}{tk:Nat}(I:Inv X Y U H s)(h1: -(2 ^ 62)<=lo)(h2:lo<2 ^ 62)(h3: -(2 ^ 62)<=hi)(h4:hi<2 ^ 62)
  (q:R (FC lo (hi-lo).toNat) H):wpAny 0e0 X.A (pyIter 5e5) (LF X Y U tg R) E { s with heap:=s.heap.push 3e8,toks:=tk }:=by
 refine wpAny_pyIter_range (IsRange.new ..) (small_one h1 h2 h3 h4) ?_;have I1:Inv X Y U H { s with heap:=s.heap.push 3e8,toks:=tk }:=I.kept λb o e=>sK _ e
 refine⟨(s.heap.push 3e8).objs.size,[(s.heap.push 3e8).objs.size],_,_,H,rfl,
  I1.kept (t':=tk) λb o e=>sK _ e,uK _ lo (hi-lo).toNat,?_,λb hb=>?_,q⟩
 .have e1:lo+((0:Nat):Int)*1=lo:=by simp
  have e2:(((hi-lo).toNat:Nat):Int)-((0:Nat):Int)=Builtin.Range.rangeSize lo hi 1:=by rw[rangeSize_one];split<;>omega
  show IsRangeIter _ _ (lo+((0:Nat):Int)*1) ((((hi-lo).toNat:Nat):Int)-((0:Nat):Int)) 1;rw[e1,e2];exact ul _ rfl
 .have e:b=(s.heap.push 3e8).objs.size:=by simpa using hb
  subst e;exact I1.Ah (pi _) (I1.hok.fresh (pi _))
abbrev Jd (ta:TA):TI:=λU H R=>ta U H λvs H1=>∃ j:Int,vs=[.int j]/\ -(2 ^ 62)<=j/\j<2 ^ 62/\R (FC 0 j.toNat) H1
abbrev K6 (ta:TA):TI:=λU H R=>ta U H λvs H1=>∃ i j:Int,vs=[.int i,.int j]/\(-(2 ^ 62)<=i/\i<2 ^ 62/\ -(2 ^ 62)<=j/\j<2 ^ 62)/\R (FC i (j-i).toNat) H1
def yC {a:Expr}{ta:TA}{p:Pos}(hg:Gl X "range") (hm:X.mg "range"=none) (ha:PA X [a] ta) (hs:bm [a] X.env=[(false,eval a X.env)]:=by rfl):PI X tg (.Call (.Name "range" p) [a] [] pos) (Jd ta):=by
 intro Y s U H R I h;refine Call_ (cT I hg hm boot_range (PyProof.Rows.callWith_type1 (uI (ha pos Y s U H _ I h) λus s1 vs H1 I1 r1 q1=>?_) hs rfl));obtain⟨j,e,q1,q2,q⟩:=q1;subst e;cases r1 with
 |cons r rr=>
  cases rr;obtain⟨t,rfl⟩:=r;exact call_range_1 (sN I1 nofun nofun q1 q2 (by simpa using q))
def xQ {a b:Expr}{ta:TA}{p:Pos}(hg:Gl X "range") (hm:X.mg "range"=none) (ha:PA X [a,b] ta) (hs:bm [a,b] X.env=[(false,eval a X.env),(false,eval b X.env)]:=by rfl) (hs2:bm [b] X.env=[(false,eval b X.env)]:=by rfl):
  PI X tg (.Call (.Name "range" p) [a,b] [] pos) (K6 ta):=by
 intro Y s U H R I h;refine Call_ (cT I hg hm boot_range (PyProof.Rows.callWith_type1 (uI (ha pos Y s U H _ I h) λus s1 vs H1 I1 r1 q1=>?_) (by rw[hs,hs2]) (by rw[hs2];rfl)));obtain⟨i,j,e,⟨q1,q2,q3,q4⟩,q⟩:=q1;subst e;cases r1 with
 |cons r rr=>
  cases rr with
  |cons r' rr=>
   cases rr;obtain⟨t,rfl⟩:=r;obtain⟨t',rfl⟩:=r';exact call_range_2 (sN I1 q1 q2 q3 q4 q)
abbrev Mw (wi:TI)(g:TG)(tb:TS):TS:=λD U H=>wi U H λJ H1=>∃ W:Nat->Nat->St->Hp->Prop,(∃ m,W 0 m U H1)/\∀ i m U H,W i m U H->
 (J.stop i H/\D.nx U H)\/(J.go i H/\∃ N:St->Hp->Prop,(∀ σ' H',N σ' H'->∃ m',m'<m/\W (i+1) m' σ' H')/\∀ x H',J.yld i H x H'->g x U H' λσ2 H2=>tb { D with nx:=N,ct:=N,bk:=D.nx } σ2 H2)
abbrev qP (fp:List Addr)(h:Heap):List (Addr×Obj):=fp.filterMap λb=>(h.get? b).map λo=>(b,o)
def cu {o:Obj}(hb:b ∈ fp)(e:h.get? b=some o):(b,o) ∈ qP fp h:=List.mem_filterMap.mpr ⟨b,hb,by rw[e];rfl⟩
def xP {p:Addr×Obj}(hp:p ∈ qP fp h):p.1 ∈ fp/\h.get? p.1=some p.2:=by
 obtain⟨b,hb,e⟩:=List.mem_filterMap.mp hp;cases q:h.get? b with
 |none=>rw[q]at e;cases e
 |some o=>
  rw[q]at e;have e':(b,o)=p:=Option.some.inj e;subst e';exact⟨hb,q⟩
def Inv.pinned (I:Inv X Y U H s)(hf:∀ b ∈ fp,jr X Y H b) (ho:∀ b ∈ fp,∃ o,s.heap.get? b=some o/\∀ v,o.data≠.cell v):Inv X (Y++qP fp s.heap) U H s:=
 I.pH λp hp=>(mem_append.mp hp).elim (λz=>I.pin p (ii _ z)) λz=>by
  obtain⟨hb,e⟩:=xP z;obtain⟨f0,f1,f2,_⟩:=hf p.1 hb;obtain⟨o,e',d⟩:=ho p.1 hb;rw[e]at e';cases e';exact⟨e,f0,f1,f2,d⟩
def Inv.gf {pl:NY}(I:Inv X (Y++pl) U H s):Inv X Y U H s:=I.pH λp hp=>I.pin p (ii _ (mem_append_left _ hp))
set_option tactic.hygienic true in
def GP {iter:Expr}{wi:TI}{g:TG}{tb:TS}(hp:PassesOwn 0e0 X.A X.env X.xe)(hc:X.calm=true)(hi:PI X tg iter wi)(hg:PG X tg g)(hb:Ds X body tb)
  (hs:∀ x,foldedSetIterable iter X.env x=pure x:=by intro _;rfl):PS X (.For tg iter body [] pos) (Mw wi g tb):=by
 intro Y s U H D I h;refine wpAny_For (bW (hi Y s U H _ I h) λv s1 h1=>bW h1 λitv s2 h2=>?_) hs;obtain⟨it,fp,tn,J,H2,e,I2,T,qW,f2,W,⟨m0,w0⟩,turn⟩:=h2;subst e;have stat:∀ {H':Hp},(∀ b ∈ fp,H' b=none)->∀ b ∈ fp,jr X Y H' b:=λhn b hb=>⟨hn b hb,(f2 b hb).2⟩
 refine codeAny_forLoop_any (λn s'=>∃ i σ' H',Inv X Y σ' H' s'/\tn i s'.heap/\(∀ b ∈ fp,H' b=none)/\W i n σ' H') ?_ m0 ⟨0,U,H2,I2,qW,λb hb=>(f2 b hb).1,w0⟩;rintro n s3 ⟨i,σ3,H3,I3,st3,fr3,w3⟩;rcases turn i n σ3 H3 w3 with⟨stop,qn⟩|⟨go,N,hN,step⟩
 .refine wpAny_passesOwn hp (bW (T.done X rfl rfl rfl hc i Y s3 σ3 H3 X.xe I3 (stat fr3) st3 stop) λr s4 ⟨hr,I4⟩=>?_);subst hr;exact wpAny_execs_nil ⟨σ3,H3,I4,qn⟩
 .refine wpAny_passesOwn hp (bW (T.item X rfl rfl rfl hc i Y s3 σ3 H3 X.xe I3 (stat fr3) st3 go) λr s4 ⟨u,hr,h4⟩=>?_);subst hr;refine wpAny_passesOwn hp (bW h4 λ_ s5 ⟨x,H5,I5,r5,y5,st5,fr5⟩=>?_);have I5':=I5.pinned (stat fr5) (T.obj _ _ st5);refine wpAny_passesOwn hp (bW (hg _ s5 σ3 H5 x u _ I5' r5 (step x H5 y5)) λ_ s6 ⟨σ6,H6,I6,q6⟩=>?_);refine wpAny_passesOwn hp (bW (hb _ s6 σ6 H6 _ I6 q6) λf s7 q7=>?_);have again:∀ {σ7:St}{H7:Hp},Inv X (Y++qP fp s5.heap) σ7 H7 s7->N σ7 H7->∃ m,m<n/\∃ i σ' H',Inv X Y σ' H' s7/\tn i s7.heap/\(∀ b ∈ fp,H' b=none)/\W i m σ' H':=λ{σ7 H7} I7 n7=>by
   obtain⟨m',hm,w7⟩:=hN σ7 H7 n7;refine⟨m',hm,i+1,σ7,H7,I7.gf,T.keep _ _ _ st5 λb hb o e=>(I7.pin (b,o) (ii _ (ii _ (cu hb e)))).1,λb hb=>?_,w7⟩;obtain⟨o,e,d⟩:=T.obj _ _ st5 b hb;exact(I7.pin (b,o) (ii _ (ii _ (cu hb e)))).2.1
  cases f with
  |next=>obtain⟨σ7,H7,I7,n7⟩:=q7;exact again I7 n7
  |cont=>obtain⟨σ7,H7,I7,n7⟩:=q7;exact again I7 n7
  |brk=>obtain⟨σ7,H7,I7,q7⟩:=q7;exact⟨σ7,H7,I7.gf,q7⟩
  |ret v=>obtain⟨x7,σ7,H7,I7,r7,q7⟩:=q7;exact⟨x7,σ7,H7,I7.gf,r7,q7⟩
end
@[reducible]def R2:=V->V->Hp->VK->Prop
abbrev cF (X:Cx)(f:Value->Value->Sem Value)(r:R2):Prop:=
 ∀ (Y:NY) (s:Shared) (U:St) (H:Hp) (x y:V) (v u:Value) (Q:VK),Inv X Y U H s->RelV x v->RelV y u->r x y H Q->
  wpAny 0e0 X.A (f v u) (EP X Y U Q) X.xe s
abbrev Lr (X:Cx)(f:Value->Sem Value)(r:V->Hp->VK->Prop):Prop:=
 ∀ (Y:NY) (s:Shared) (U:St) (H:Hp) (x:V) (v:Value) (Q:VK),Inv X Y U H s->RelV x v->r x H Q->
  wpAny 0e0 X.A (f v) (EP X Y U Q) X.xe s
abbrev d9 (X:Cx)(f:Value)(r:List V->Hp->VK->Prop):Prop:=
 ∀ (Y:NY) (s:Shared) (U:St) (H:Hp) (xs:List V) (us:List Value) (Q:VK),Inv X Y U H s->Vals xs us->r xs H Q->
  wpAny 0e0 X.A (call f us) (EP X Y U Q) X.xe s
abbrev Mg (X:Cx)(r:V->Hp->(Bool->Hp->Prop)->Prop):Prop:=
 ∀ (Y:NY) (s:Shared) (U:St) (H:Hp) (x:V) (v:Value) (Q:Bool->Hp->Prop),Inv X Y U H s->RelV x v->r x H Q->
  wpAny 0e0 X.A (truthy v) (TP X Y U Q) X.xe s
abbrev Lf (r:R2)(ta tb:TE):TE:=λU H Q=>ta U H λx H1=>tb U H1 λy H2=>r x y H2 Q
abbrev Nv (r:V->Hp->VK->Prop)(ta:TE):TE:=λU H Q=>ta U H λx H1=>r x H1 Q
abbrev rI (C:Int->Int->Prop)(g:Int->Int->V):R2:=λx y H Q=>∃ i j,x=.int i/\y=.int j/\C i j/\Q (g i j) H
abbrev CU (g:Int->Int->V):R2:=λx y H Q=>∃ i j,x=.int i/\y=.int j/\Q (g i j) H
abbrev rU (g:Int->V):V->Hp->VK->Prop:=λx H Q=>∃ i,x=.int i/\Q (g i) H
variable {f:Value->Value->Sem Value}{r:R2}{g:Int->Int->Int}
section
variable {X:Cx}{a b c:Expr}{ta tb tc:TE}{pos:Pos}
def FZ (ha:PE X a ta)(hb:PE X b tb){R:V->V->Hp->Prop}(I:Inv X Y U H s)
  (h:ta U H λx H1=>tb U H1 λy H2=>R x y H2)
  (hf:∀ v u s2 x y H2,Inv X Y U H2 s2->RelV x v->RelV y u->R x y H2->wpAny 0e0 X.A (f v u) Q X.xe s2):
  wpAny 0e0 X.A (eval a X.env) (λv s₁=>wpAny 0e0 X.A (eval b X.env) (λu s₂=>wpAny 0e0 X.A (f v u) Q X.xe s₂) X.xe s₁) X.xe s:=by
 refine cR (ha Y s U H _ I h) λv s1 x H1 I1 r1 q1=>?_
 refine cR (hb Y s1 U H1 _ I1 q1) λu s2 y H2 I2 r2 q2=>?_
 exact hf v u s2 x y H2 I2 r1 r2 q2
def KW (ho:cF X (binaryOp op) r)(ha:PE X a ta)(hb:PE X b tb):PE X (.BinOp a op b pos) (Lf r ta tb):=by
 intro Y s U H Q I h;exact wpAny_BinOp (FZ ha hb I h λv u s2 x y H2 I2 rx ry q=>ho Y s2 U H2 x y v u Q I2 rx ry q)
def JV {op:UnaryOp}{r:V->Hp->VK->Prop}(ho:Lr X (unaryOp op) r)(ha:PE X a ta):PE X (.UnaryOp op a pos) (Nv r ta):=by
 intro Y s U H Q I h;exact UnaryOp_ (cR (ha Y s U H _ I h) λv s1 x H1 I1 r1 q1=>ho Y s1 U H1 x v Q I1 r1 q1)
def Li {C:Int->Int->Prop}
  (rule:∀ (i j:Int) (t u:Tok) (s:Shared) (Q:NX) (E:NX),C i j->Q (.int (g i j) s.toks) 4e6->wpAny 0e0 X.A (f (.int i t) (.int j u)) Q E s):
  cF X f (rI C λi j=>.int (g i j)):=by
 intro Y s U H x y v u Q I rx ry h;obtain⟨i,j,rfl,rfl,hc,q⟩:=h;obtain⟨t,rfl⟩:=rx;obtain⟨t',rfl⟩:=ry;exact rule i j t t' s _ _ hc ⟨.int (g i j),H,I.tok _,⟨_,rfl⟩,q⟩
def Ku 
  (rule:∀ (i j:Int) (t u:Tok) (s:Shared) (Q:NX) (E:NX),Q (.int (g i j) s.toks) 4e6->wpAny 0e0 X.A (f (.int i t) (.int j u)) Q E s):
  cF X f (CU λi j=>.int (g i j)):=by
 intro Y s U H x y v u Q I rx ry h;obtain⟨i,j,rfl,rfl,q⟩:=h;obtain⟨t,rfl⟩:=rx;obtain⟨t',rfl⟩:=ry;exact rule i j t t' s _ _ ⟨.int (g i j),H,I.tok _,⟨_,rfl⟩,q⟩
def DG {g:Int->Int->Bool}
  (rule:∀ (i j:Int) (t u:Tok) (s:Shared) (Q:NX) (E:NX),Q (.bool (g i j)) s->wpAny 0e0 X.A (f (.int i t) (.int j u)) Q E s):
  cF X f (CU λi j=>.bl (g i j)):=by
 intro Y s U H x y v u Q I rx ry h;obtain⟨i,j,rfl,rfl,q⟩:=h;obtain⟨t,rfl⟩:=rx;obtain⟨t',rfl⟩:=ry;exact rule i j t t' s _ _ ⟨.bl (g i j),H,I,rfl,q⟩
abbrev Me (i j:Int):Prop:=0<j/\j<1073741824
abbrev Eg (i j:Int):Prop:=0<=j/\j<=1000000/\i.natAbs<2 ^ 64
abbrev sD (i j:Int):Prop:=(-(2 ^ 64)<i/\i<2 ^ 64)\/(-(2 ^ 64)<j/\j<2 ^ 64)
def sD.ok {i j:Int}(h:sD i j):IntMulOk i j:=by
 rcases h with⟨h1,h2⟩|⟨h1,h2⟩
 .exact .of_left (intBits_le_64 h1 h2)
 .exact .of_right (intBits_le_64 h1 h2)
def F5:cF X (binaryOp .Add) (CU λi j=>.int (i+j)):=Ku λ_ _ _ _ _ _ _ q=>add_int q
def Gk:cF X (binaryOp .Sub) (CU λi j=>.int (i-j)):=Ku λ_ _ _ _ _ _ _ q=>sub_int q
def Ie:cF X (binaryOp .Mult) (rI sD λi j=>.int (i*j)):=Li λ_ _ _ _ _ _ _ hc q=>mul_int q hc.ok
def DT:cF X (binaryOp .FloorDiv) (rI Me λi j=>.int (i / j)):=Li λi j _ _ _ _ _ hc q=>by
 have h1:(0:Int)<j:=hc.1;have h2:j<1073741824:=hc.2;exact floordiv_int nofun (by rw[Int.fdiv_eq_ediv_of_nonneg i nofun];exact q) (.inl (PyProof.noPylong_small nofun))
def II:cF X (binaryOp .Mod) (rI (λ_ j=>0<j) λi j=>.int (i % j)):=Li λi j _ _ _ _ _ hc q=>by
 have h1:(0:Int)<j:=hc;exact mod_int' nofun (by rw[Int.fmod_eq_emod_of_nonneg i nofun];exact q)
def Hv:cF X (binaryOp .Pow) (rI Eg λi j=>.int (i ^ j.toNat)):=Li λ_ _ _ _ _ _ _ hc q=>pow_int_small hc.1 hc.2.1 hc.2.2 q
def NR {f:Value->Sem Value}{g:Int->Int}
  (rule:∀ (i:Int) (t:Tok) (s:Shared) (Q:NX) (E:NX),Q (.int (g i) s.toks) 4e6->wpAny 0e0 X.A (f (.int i t)) Q E s):
  Lr X f (rU λi=>.int (g i)):=by
 intro Y s U H x v Q I rx h;obtain⟨i,rfl,q⟩:=h;obtain⟨t,rfl⟩:=rx;exact rule i t s _ _ ⟨.int (g i),H,I.tok _,⟨_,rfl⟩,q⟩
def GS:Lr X (unaryOp .USub) (rU λi=>.int (-i)):=NR λ_ _ _ _ _ q=>neg_int q
end
section
variable {X:Cx}{a b c:Expr}{ta tb tc:TE}{pos:Pos}
def Ap {Q:VK}{k k':Bool}(I:Inv X Y U H s)(q:Q (.bl k) H)(e:k=k'):EP X Y U Q (.bool k') s:=by
 subst e;exact⟨.bl k,H,I,rfl,q⟩
def Kr:cF X (compareOp .Lt) (CU λi j=>.bl (decide (i<j))):=DG λ_ _ _ _ _ _ _ q=>lt_int q
def Jr:cF X (compareOp .LtE) (CU λi j=>.bl (decide (i<=j))):=DG λ_ _ _ _ _ _ _ q=>le_int q
def IZ:cF X (compareOp .Gt) (CU λi j=>.bl (decide (j<i))):=DG λ_ _ _ _ _ _ _ q=>gt_int q
def Kf:cF X (compareOp .GtE) (CU λi j=>.bl (decide (j<=i))):=DG λ_ _ _ _ _ _ _ q=>ge_int q
def GR:cF X (compareOp .Is) (λx y H Q=>y=.non/\Q (.bl (decide (x=.non))) H):=by
 intro Y s U H x y v u Q I rx ry h;obtain⟨rfl,q⟩:=h;cases ry;refine is_none_gen (Ap I q ?_);cases x<;>first
  |(cases rx;rfl)
  |(obtain⟨t,rfl⟩:=rx;rfl)
def CD:cF X (compareOp .IsNot) (λx y H Q=>y=.non/\Q (.bl (!decide (x=.non))) H):=by
 intro Y s U H x y v u Q I rx ry h;obtain⟨rfl,q⟩:=h;cases ry;refine isnot_none_gen (Ap I q ?_);cases x<;>first
  |(cases rx;rfl)
  |(obtain⟨t,rfl⟩:=rx;rfl)
def CP {op:CmpOp}(ho:cF X (compareOp op) r)(ha:PE X a ta)(hb:PE X b tb)(hm:behindInMarks op b=false):PE X (.Compare a [op] [b] pos) (Lf r ta tb):=by
 intro Y s U H Q I h;exact wpAny_Compare1 (FZ ha hb I h λv u s2 x y H2 I2 rx ry q=>ho Y s2 U H2 x y v u Q I2 rx ry q) hm
abbrev B2 (t:TE):TT:=λU H Q=>t U H λx H'=>∃ k,x=.bl k/\Q k H'
def El {op:CmpOp}(ho:cF X (compareOp op) r)(ha:PE X a ta)(hb:PE X b tb)(hm:behindInMarks op b=false):PT X (.Compare a [op] [b] pos) (B2 (Lf r ta tb)):=by
 intro Y s U H Q I h;refine wpAny_isTrue_Compare1 (cR (ha Y s U H _ I h) λv s1 x H1 I1 r1 q1=>cR (hb Y s1 U H1 _ I1 q1) λu s2 y H2 I2 r2 q2=>
  bW (ho Y s2 U H2 x y v u _ I2 r1 r2 q2) λc s3 ⟨z,H3,I3,r3,k,e,q3⟩=>?_) hm
 subst e;cases r3;exact bi ⟨H3,I3,q3⟩
abbrev BF (r r':R2)(ta tb tc:TE):TE:=λU H Q=>ta U H λx H1=>tb U H1 λy H2=>r x y H2 λz H3=>∃ k,z=.bl k/\
 (if k=true then tc U H3 λw' H4=>r' y w' H4 Q else Q (.bl false) H3)
def zE {op op':CmpOp}{r':R2}(ho:cF X (compareOp op) r)(ho':cF X (compareOp op') r')(ha:PE X a ta)(hb:PE X b tb)(hc:PE X c tc)
  (hm:lastMarks [op,op'] [b,c]=false:=by with_unfolding_all rfl):PE X (.Compare a [op,op'] [b,c] pos) (BF r r' ta tb tc):=by
 intro Y s U H Q I h;refine Compare_chain (cR (ha Y s U H _ I h) λv s1 x H1 I1 r1 q1=>chain_link (cR (hb Y s1 U H1 _ I1 q1) λu s2 y H2 I2 r2 q2=>
  bW (ho Y s2 U H2 x y v u _ I2 r1 r2 q2) λd s3 ⟨z,H3,I3,r3,k,e,q3⟩=>?_)) hm
 subst e;cases r3;refine bi ?_;cases k with
 |false=>exact ite_ff ⟨.bl false,H3,I3,rfl,q3⟩
 |true=>exact ite_tt (chain_last (cR (hc Y s3 U H3 _ I3 q3) λw' s4 z' H4 I4 r4 q4=>ho' Y s4 U H4 y z' u w' Q I4 r2 r4 q4))
def zL {op op':CmpOp}{r':R2}(ho:cF X (compareOp op) r)(ho':cF X (compareOp op') r')(ha:PE X a ta)(hb:PE X b tb)(hc:PE X c tc)
  (hm:lastMarks [op,op'] [b,c]=false:=by with_unfolding_all rfl):PT X (.Compare a [op,op'] [b,c] pos) (B2 (BF r r' ta tb tc)):=by
 intro Y s U H Q I h;refine isTrue_chain (cR (ha Y s U H _ I h) λv s1 x H1 I1 r1 q1=>test_link (cR (hb Y s1 U H1 _ I1 q1) λu s2 y H2 I2 r2 q2=>
  bW (ho Y s2 U H2 x y v u _ I2 r1 r2 q2) λd s3 ⟨z,H3,I3,r3,k,e,q3⟩=>?_)) hm
 subst e;cases r3;refine bi ?_;cases k with
 |false=>
  obtain⟨k',e',q'⟩:=q3;cases e';exact ite_ff ⟨H3,I3,q'⟩
 |true=>
  refine ite_tt (test_last (cR (hc Y s3 U H3 _ I3 q3) λw' s4 z' H4 I4 r4 q4=>bW (ho' Y s4 U H4 y z' u w' _ I4 r2 r4 q4) λd' s5 ⟨z2,H5,I5,r5,k2,e2,q5⟩=>?_));subst e2;cases r5;exact bi ⟨H5,I5,q5⟩
abbrev Eb (K:W.Frag)(x:V)(H:Hp)(k:Bool):Prop:=
 match x with
 | .non=>k=false
 | .bl b=>k=b
 | .int i=>k=(i != 0)
 | .str y=>y.length<=bn/\k=((y.length:Int) != 0)
 | .byt y=>y.size<=bn/\k=((y.size:Int) != 0)
 | .ref p=>(∃ xs,bB K H p xs/\k= !xs.isEmpty)\/(∃ xs,bP K H p xs/\k= !xs.isEmpty)\/∃ kvs,H p=some (.dK kvs)/\k= !kvs.isEmpty
 |_=>False
def uW {κ:Type}{kvs:List (κ×V)}{vs:List (κ×Value)}(r:KV kvs vs):(!vs.isEmpty)= !kvs.isEmpty:=by
 cases r<;>rfl
def lU {its:List Value}(r:Vals xs its):(!its.toArray.isEmpty)= !xs.isEmpty:=by
 cases r<;>simp
def kr:(bn:Nat)<2 ^ 63:=by rw[sizeLine_eq];decide
def Gv:Mg X (λx H Q=>∃ k,Eb X.K x H k/\Q k H):=by
 intro Y s U H x v Q I rx h;obtain⟨k,e,q⟩:=h;have hl:=kr;have hs:bn=16777216:=sizeLine_eq;cases x with
 |non=>
  cases rx;have e':k=false:=e;subst e';exact truthy_none ⟨H,I,q⟩
 |bl b=>
  cases rx;have e':k=b:=e;subst e';exact bi ⟨H,I,q⟩
 |int i=>
  obtain⟨t,rfl⟩:=rx;have e':k=(i != 0):=e;subst e';exact PySem.P.truthy_int ⟨H,I,q⟩
 |str y=>
  obtain⟨t,rfl⟩:=rx;obtain⟨hy,e'⟩:y.length<=bn/\k=((y.length:Int) != 0):=e;subst e';exact PySem.P.truthy_str nofun ⟨H,I.tok _,q⟩
 |byt y=>
  obtain⟨t,rfl⟩:=rx;obtain⟨hy,e'⟩:y.size<=bn/\k=((y.size:Int) != 0):=e;subst e';exact W.truthy_bytes nofun ⟨H,I.tok _,q⟩
 |ref p=>
  cases rx;have e':(∃ xs,bB X.K H p xs/\k= !xs.isEmpty)\/(∃ xs,bP X.K H p xs/\k= !xs.isEmpty)\/∃ kvs,H p=some (.dK kvs)/\k= !kvs.isEmpty:=e;rcases e' with⟨xs,hx,e'⟩|⟨xs,hx,e'⟩|⟨kvs,hx,e'⟩
  .subst e';obtain⟨its,r,pl,hz⟩:=I.list hx;have hlen:=r.length;exact wpAny_truthy_list pl.isList (by simp only[ge];omega) ⟨H,I.tok _,by rw[lU r];exact q⟩
  .subst e';obtain⟨its,r,pl,hz⟩:=I.tuple hx;have hlen:=r.length;exact truthy_tuple pl (by simp only[ge];omega) ⟨H,I.tok _,by rw[lU r];exact q⟩
  .subst e';obtain⟨hz,hS,vs,r,m⟩:kvs.length<=bn/\(p ==sysModules)=false/\∃ vs,KV kvs vs/\s.heap.DictOf (aF X.prog X.w) p vs:=I.hok p _ hx;have hlen:kvs.length=vs.length:=Paired.length r;exact wpAny_truthy_dict hS m nofun ⟨H,I.tok _,by rw[uW r];exact q⟩
 |_=>exact(show False from e).elim
def zN (ha:PE X a ta)(he:∀ whole,isTrue a X.env whole=(do let v <-whole;standAt a.pos;holding [v] (truthy v))):
  PT X a (λU H Q=>ta U H λx H'=>∃ k,Eb X.K x H' k/\Q k H'):=by
 intro Y s U H Q I h;exact isTrue_plain (cR (ha Y s U H _ I h) λv s1 x H1 I1 r1 q1=>Gv Y s1 U H1 x v Q I1 r1 q1) (he _)
def vh:cF X (binaryOp .Add) (λx y H Q=>∃ i j,x=.str i/\y=.str j/\i.length+j.length<=bn/\Q (.str (i++j)) H):=by
 intro Y s U H x y v u Q I rx ry h;obtain⟨i,j,rfl,rfl,hz,q⟩:=h;obtain⟨t,rfl⟩:=rx;obtain⟨t',rfl⟩:=ry;exact add_str (λt' tk=>⟨.str (i++j),H,I.tok _,⟨_,rfl⟩,q⟩) hz
def vals1 {x:V}(r:Vals [x] us):∃ u,us=[u]/\RelV x u:=by
 cases r with
 |cons r1 r2=>cases r2;exact⟨_,rfl,r1⟩
def vals2 {x y:V}(r:Vals [x,y] us):∃ u w',us=[u,w']/\RelV x u/\RelV y w':=by
 cases r with
 |cons r1 r2=>
  cases r2 with
  |cons r3 r4=>cases r4;exact⟨_,_,rfl,r1,r3⟩
def yB (hc:X.calm=true):d9 X (.builtin "min") (λxs H Q=>∃ i j,xs=[.int i,.int j]/\Q (.int (if j<i then j else i)) H):=by
 intro Y s U H xs us Q I r h;obtain⟨i,j,rfl,q⟩:=h;obtain⟨u,w',rfl,⟨t,rfl⟩,⟨t',rfl⟩⟩:=vals2 r;refine min_two_ints (I.ok.hd hc) λh' tk k=>⟨_,H,I.kept k,?_,q⟩
 by_cases hj:j<i
 .rw[if_pos hj,if_pos hj];exact⟨_,rfl⟩
 .rw[if_neg hj,if_neg hj];exact⟨_,rfl⟩
def xK:d9 X (.type "int") (λxs H Q=>(∃ i,xs=[.int i]/\Q (.int i) H)\/∃ k,xs=[.bl k]/\Q (.int (if k then 1 else 0)) H):=by
 intro Y s U H xs us Q I r h;rcases h with⟨i,rfl,q⟩|⟨k,rfl,q⟩
 .obtain⟨u,rfl,t,rfl⟩:=vals1 r;exact call_int_int ⟨.int i,H,I,⟨_,rfl⟩,q⟩
 .obtain⟨u,rfl,r1⟩:=vals1 r;cases r1;exact call_int_bool ⟨.int (if k then 1 else 0),H,I.tok _,⟨_,rfl⟩,q⟩
def pP:d9 X (.type "str") (λxs H Q=>∃ i,xs=[.int i]/\i.natAbs.log2<1920/\Q (.str (toString i)) H):=by
 intro Y s U H xs us Q I r h;obtain⟨i,rfl,hz,q⟩:=h;obtain⟨u,rfl,t,rfl⟩:=vals1 r;exact PySem.P.str_of_int hz ⟨.str _,H,I.tok _,⟨_,rfl⟩,q⟩
abbrev JM (K:W.Frag)(x:V)(H:Hp)(n:Nat):Prop:=
 match x with
 | .str y=>y.length<=bn/\n=y.length
 | .byt y=>y.size<=bn/\n=y.size
 | .ref p=>(∃ xs,bB K H p xs/\n=xs.length)\/∃ xs,bP K H p xs/\n=xs.length
 |_=>False
def Az:d9 X (.builtin "len") (λxs H Q=>∃ x n,xs=[x]/\JM X.K x H n/\Q (.int n) H):=by
 intro Y s U H xs us Q I r h;obtain⟨x,n,rfl,e,q⟩:=h;obtain⟨u,rfl,rx⟩:=vals1 r;have hl:=kr;have hs:bn=16777216:=sizeLine_eq;cases x with
 |str y=>
  obtain⟨t,rfl⟩:=rx;obtain⟨hy,e'⟩:y.length<=bn/\n=y.length:=e;subst e';exact len_str nofun ⟨.int _,H,I.tok _,⟨_,rfl⟩,q⟩
 |byt y=>
  obtain⟨t,rfl⟩:=rx;obtain⟨hy,e'⟩:y.size<=bn/\n=y.size:=e;subst e';exact W.len_bytes nofun ⟨.int _,H,I.tok _,⟨_,rfl⟩,q⟩
 |ref p=>
  cases rx;have e':(∃ xs,bB X.K H p xs/\n=xs.length)\/∃ xs,bP X.K H p xs/\n=xs.length:=e;rcases e' with⟨xs,hx,e'⟩|⟨xs,hx,e'⟩
  .subst e';obtain⟨its,r',pl,hz⟩:=I.list hx;have hlen:=r'.length;exact Calls.call_len_list pl.isList (by simp only[ge];omega) ⟨.int xs.length,H,I.tok _,⟨_,by simp only[ge];rw[hlen]⟩,q⟩
  .subst e';obtain⟨its,r',pl,hz⟩:=I.tuple hx;have hlen:=r'.length;exact len_tuple pl (by simp only[ge];omega) ⟨.int xs.length,H,I.tok _,⟨_,by simp only[ge];rw[hlen]⟩,q⟩
 |_=>exact(show False from e).elim
end
structure uj (h:Heap) (x dx C:Addr) (mA:NZ):Prop where
 obj:h.get? x=some (W.instObj C dx)
 ns:h.Ns1 dx mA
 ne:dx≠x
variable {mA:NZ}
set_option tactic.hygienic true in
def j0 {dx:Addr}(n:h.Ns1 dx mA):∃ od,h.get? dx=some od/\∀ name,W.lookIn name od=some (mA name):=by
 obtain⟨o,es,ep,ho,hd,hk,_,hm⟩:=n;refine⟨o,ho,λname=>?_⟩;have e:=hm name;unfold nsFind findBy at e;rw[<-Array.find?_toList]at e;unfold W.lookIn;rw[hd];dsimp only
 split
 .rename_i y q;rw[q]at e;exact congrArg some e
 .rename_i q;rw[q]at e;have a:es.toList.any (·.refKey)=false:=by
   rw[any_eq_false];intro y hy;obtain⟨z,t,hkey⟩:=hk y (Array.mem_toList_iff.mp hy);simp[DictEntry.refKey,hkey]
  have a':¬ es.toList.any (·.refKey)=true:=by rw[a];exact Bool.false_ne_true
  rw[if_neg a'];exact congrArg some e
variable {C:Addr}
def uj.look {x dx:Addr}(I:uj h x dx C mA):∃ od,W.InstAt h x (W.instObj C dx) C (some od)/\∀ name,W.lookIn name od=some (mA name):=
 let⟨od,ho,hl⟩:=j0 I.ns
 ⟨od,⟨I.obj,rfl,rfl,ho⟩,hl⟩
variable {pl:Sem Bool}{kw:List (Str×Value)}
section
variable {prog:Program}{w:World}{A:Around}{E:NX}{s:Shared}{K:W.Frag}{x dx C f:Addr}{mA:NZ}{name:Str}{v:Value}
def get_map {expr:Bool}(X:K.In s.heap)(I:uj s.heap x dx C mA)(hg:W.plainGet K C name=true)(hh:W.hasDictIn K C=true)
  (ha:W.findIn K 2e4 name=some none) (hv:mA name=some v) (hv':W.handedIn v=true) (h:Q v 4e6):
  wpAny 0e7 A (getAttr (.ref x) name expr) Q E s:=by
 obtain⟨od,J,hl⟩:=I.look;exact W.get_value X J (W.plainGet_of hg).1 (W.findObj_own hh ha rfl (by rw[hl,hv])) hv' h
def zU {Q:Value×List Value->Shared->Prop}(X:K.In s.heap)(I:uj s.heap x dx C mA)(hg:W.plainGet K C name=true)
  (hf:W.findIn K 2e4 name=some (some (.ref f))) (ht:W.isFn K (.ref f)=true) (hv:mA name=none) (h:Q (.ref f,[.ref x]) s):
  wpAny 0e7 A (getMethod (.ref x) name pl) Q E s:=by
 obtain⟨od,J,hl⟩:=I.look;exact W.method_fn X J (W.plainGet_of hg).1 (W.plainGet_of hg).2 hf (beq_iff_eq.mp ht) (by show(W.lookIn name od).map (·.isSome)=some false;rw[hl,hv];rfl) h
def Cw {ns:List Str}{Q:NW}(X:K.In s.heap)(I:uj s.heap x dx C mA)
  (hs:W.findIn K 2e4 "__setattr__"=some (some (.builtin "object.__setattr__"))) (hp:W.plainOver K C=true) (ht:W.takerIn K C name=some none) (hh:W.hasDictIn K C=true)
  (hw:PySem.Within mA ns) (hsz:ns.length<=bn)
  (h:∀ h',uj h' x dx C (λy=>if y=name then some v else mA y)->Heap.SameBut dx s.heap h'->Q () { s with heap:=h',toks:=s.toks+2 }):
  wpAny 0e7 A (setAttr (.ref x) name v) Q E s:=by
 obtain⟨od,J,hl⟩:=I.look;refine W.set_plain X J hs (W.osa_open (s:=4e6) (r:=none) X J hp ht λb=>?_);obtain⟨cd,hc,hd'⟩:=W.any_some hh;have hx:s.heap.get? x=some ⟨.ref C,some dx,.plain,#[]⟩:=I.obj;refine ad (am (ad (ad (wpAny_loadPart hx (ad (W.Looks.here (s:=4e6) (W.looks_clsIn X hc) ?_))))));rw[hd'];refine am (a:=some dx) (ad (am (ad ?_)));refine wpAny_nsSet1 (s:=4e6) I.ns λh' hn2 hs2=>?_
 obtain⟨oD,esD,epD,hoD,hdD,hcD⟩:=hn2.count (PySem.Within.cons name v hw);refine ad (wpAny_lookBehind hoD (by rw[hdD];exact pastItsLine_dict (Nat.le_trans hcD (by rw[length_cons];omega))) ?_);exact am (h _ ⟨(hs2.2 _ (Ne.symm I.ne)).trans I.obj,hn2,I.ne⟩ hs2)
def Bj {R:Result->Shared->Prop}{vs:List Value}(X:K.In s.heap)(hm:W.makesIn K C=true)
  (hi:W.findIn K 2e4 "__init__"=some (some (.ref f))) (hf:W.typeIn K (.ref f)=some (.type "function"))
  (h:codeAny 0e7 (A.under (.builtin "type.__call__" ⟨.ref C::vs,kw⟩)) (.call (.ref f) ⟨.ref 2e3::vs,kw⟩) (W.InitBack 2e3 R)
   { s with heap:=(s.heap.push W.emptyDict).push (W.instObj C s.heap.objs.size) }):
  codeAny 0e7 A (.call 2e4 ⟨vs,kw⟩) R s:=by
 obtain⟨hh,g,d,t,os⟩:=s;exact W.make_core (W.makes_of X hm) (W.looks_findIn X hi) (λself=>W.bind_fn X self hf) 3e9 h
end
abbrev dv (f:Str)(v:V):List (Str×V)->List (Str×V)
 | []=>[(f,v)]
 |(g,x)::r=>if g=f then(g,v)::r else(g,x)::dv f v r
def gc (f g:Str)(v:V):∀ fs:List (Str×V),(dv f v fs).lookup g=if g=f then some v else fs.lookup g
 | []=>by
  show List.lookup g [(f,v)]=_
  by_cases h:g=f
  .have hb:(g ==f)=true:=beq_iff_eq.mpr h;simp only[List.lookup,hb,if_pos h]
  .have hb:(g ==f)=false:=beq_eq_false_iff_ne.mpr h;simp only[List.lookup,hb,if_neg h]
 |(k,x)::r=>by
  have ih:=gc f g v r;rw[show dv f v ((k,x)::r)=(if k=f then(k,v)::r else(k,x)::dv f v r) from rfl]
  by_cases hk:k=f
  .rw[if_pos hk]
   by_cases h:g=k
   .have hb:(g ==k)=true:=beq_iff_eq.mpr h;simp only[List.lookup,hb,if_pos (h.trans hk)]
   .have hb:(g ==k)=false:=beq_eq_false_iff_ne.mpr h;simp only[List.lookup,hb,if_neg (λe:g=f=>h (e.trans hk.symm))]
  .rw[if_neg hk]
   by_cases h:g=k
   .have hb:(g ==k)=true:=beq_iff_eq.mpr h;simp only[List.lookup,hb,if_neg (λe:g=f=>hk (h.symm.trans e))]
   .have hb:(g ==k)=false:=beq_eq_false_iff_ne.mpr h;simp only[List.lookup,hb];exact ih
def ef (f:Str)(v:V):∀ fs:List (Str×V),f ∈ (dv f v fs).map (·.1)/\∀ g,g ∈ fs.map (·.1)->g ∈ (dv f v fs).map (·.1)
 | []=>⟨by simp[dv],λg h=>by simp at h⟩
 |(k,x)::r=>by
  obtain⟨i1,i2⟩:=ef f v r;rw[show dv f v ((k,x)::r)=(if k=f then(k,v)::r else(k,x)::dv f v r) from rfl]
  by_cases hk:k=f
  .rw[if_pos hk];subst hk;exact⟨by simp,λg h=>by simpa using h⟩
  .rw[if_neg hk];refine⟨?_,λg h=>?_⟩
   .rw[map_cons];exact dl _ i1
   .rw[map_cons]at h⊢;rcases mo.mp h with e|e
    .exact mo.mpr (.inl e)
    .exact dl _ (i2 g e)
def gj (f:Str)(v:V):∀ fs:List (Str×V),(dv f v fs).length<=fs.length+1
 | []=>by simp[dv]
 |(k,x)::r=>by
  have ih:=gj f v r;rw[show dv f v ((k,x)::r)=(if k=f then(k,v)::r else(k,x)::dv f v r) from rfl]
  by_cases hk:k=f
  .rw[if_pos hk,length_cons,length_cons];omega
  .rw[if_neg hk,length_cons,length_cons];omega
def dS.some_of {o:Option Value}(r:dS (some v) o):∃ u,o=some u/\RelV v u:=by
 cases o with
 |none=>exact(show False from r).elim
 |some u=>exact⟨u,rfl,r⟩
def dS.none_of {o:Option Value}(r:dS none o):o=none:=by
 cases o with
 |none=>rfl
 |some u=>exact(show False from r).elim
def pd (r:RelV v u):W.handedIn u=true:=by
 cases v with
 |non=>cases(show u=Value.none from r);rfl
 |bl b=>cases(show u=Value.bool b from r);rfl
 |int i=>obtain⟨t,e⟩:=(show ∃ t,u=Value.int i t from r);cases e;rfl
 |str x=>obtain⟨t,e⟩:=(show ∃ t,u=Value.str x t from r);cases e;rfl
 |byt b=>obtain⟨t,e⟩:=(show ∃ t,u=Value.bytes b t from r);cases e;rfl
 |flt b=>obtain⟨t,e⟩:=(show ∃ t,u=Value.float b t from r);cases e;rfl
 |ref a=>cases(show u=Value.ref a from r);rfl
 |ty n=>cases(show u=Value.type n from r);rfl
section
variable {P:Program}{w:World}{H H':Hp}{h h':Heap}{a C dx:Addr}{fs fs':List (Str×V)}
def lR (hok:iM P w H h)(e:H a=some (.ins C dx fs)):∃ mA,uj h a dx C mA/\(∀ f,dS (fs.lookup f) (mA f))/\PySem.Within mA (fs.map (·.1))/\fs.length<=1000/\H dx=some (.own a):=by
 obtain⟨d,z,ne,ob,mA,n,r,q⟩:=(show aQ P w H h a (.ins C dx fs) from hok a _ e);exact⟨mA,⟨ob,n,ne⟩,r,q,z,d⟩
end
structure Dm (K:W.Frag) (C:Addr):Prop where
 pg:W.plainGet K C Str.empty=true
 hd:W.hasDictIn K C=true
 po:W.plainOver K C=true
 sa:W.findIn K 2e4 "__setattr__"=some (some (.builtin "object.__setattr__"))
def Dm.get (c:Dm K C)(f:Str):W.plainGet K C f=true:=c.pg
abbrev fX (K:W.Frag)(C:Addr)(f:Str):Prop:=W.findIn K 2e4 f=some none
def fX.Kj {f:Str}(n:fX K C f):W.takerIn K C f=some none:=by
 unfold W.takerIn;rw[show W.findIn K 2e4 f=some none from n]
 rfl
structure Meth (K:W.Frag) (C:Addr) (m:Str) (f:Addr):Prop where
 at_:W.findIn K 2e4 m=some (some (.ref f))
 fn:W.isFn K (.ref f)=true
 kp:W.keepIn K (.ref f)=true
section
variable {X:Cx}{Y:NY}{U:St}{H:Hp}{s:Shared}{a C dx:Addr}{fs:List (Str×V)}{f:Str}{v:V}{A:Around}{E:NX}
def vm {b:Bool}(I:Inv X Y U H s)(e:H a=some (.ins C dx fs))(c:Dm X.K C)(n:fX X.K C f)(l:fs.lookup f=some v)
  (h:∀ u s',Inv X Y U H s'->RelV v u->Q u s'):wpAny 0e0 A (getAttr 3e6 f b) Q E s:=by
 obtain⟨mA,O,r,_,_,_⟩:=lR I.hok e;obtain⟨u,hu,ru⟩:=dS.some_of (v:=v) (o:=mA f) (by rw[<-l];exact r f);exact get_map I.cp O (c.get f) c.hd n hu (pd ru) (h u _ (I.tok _) ru)
def vn {m:Str}{g:Addr}{Q:Value×List Value->Shared->Prop}(I:Inv X Y U H s)(e:H a=some (.ins C dx fs))(c:Dm X.K C)(k:Meth X.K C m g)(l:fs.lookup m=none)
  (h:Q (.ref g,[.ref a]) s):wpAny 0e0 A (getMethod 3e6 m pl) Q E s:=by
 obtain⟨mA,O,r,_,_,_⟩:=lR I.hok e;have hn:mA m=none:=dS.none_of (by rw[<-l];exact r m);exact zU I.cp O (c.get m) k.at_ k.fn hn h
def vk {y:V}{Q:NW}(I:Inv X Y U H s)(e:H a=some (.ins C dx fs))(c:Dm X.K C)(n:fX X.K C f)(hl:fs.length<1000)(ry:RelV y u)
  (h:∀ s',Inv X Y U (upd H a (.ins C dx (dv f y fs))) s'->Q () s'):wpAny 0e0 A (setAttr 3e6 f u) Q E s:=by
 obtain⟨mA,O,r,wi,_,ho⟩:=lR I.hok e;have hz:(fs.map (·.1)).length<=bn:=by rw[ce,sizeLine_eq];omega
 refine Cw I.cp O c.sa c.po n.Kj c.hd wi hz λh' O' sb=>h _ ?_
 have hd:∃ o,h'.get? dx=some o:=let⟨o,_,_,e',_⟩:=O'.ns;⟨o,e'⟩;refine I.write (x:=a) (e:=dx) (by rw[e];exact True.intro) (.inr ho) (λb q hb z=>(sb.2 b hb).trans z) hd ?_;refine⟨by rw[aj O.ne];exact ho,?_,O.ne,O'.obj,_,O'.ns,λg=>?_,λg hg=>?_⟩
 .have:=gj f y fs;omega
 .show dS ((dv f y fs).lookup g) (if g=f then some u else mA g);rw[gc]
  by_cases q:g=f
  .rw[if_pos q,if_pos q];exact ry
  .rw[if_neg q,if_neg q];exact r g
 .by_cases q:g=f
  .rw[q];exact(ef f y fs).1
  .refine(ef f y fs).2 g (wi g λz=>hg ?_);show(if g=f then some u else mA g)=none;rw[if_neg q];exact z
def Inv.made (I:Inv X Y U H s):Inv X Y U (upd (upd H s.heap.objs.size (.own 2e3)) 2e3 (.ins C s.heap.objs.size []))
  { s with heap:=(s.heap.push W.emptyDict).push (W.instObj C s.heap.objs.size) }:=by
 have e1:(s.heap.push W.emptyDict).get? s.heap.objs.size=some W.emptyDict:=ul s.heap rfl;have e2:((s.heap.push W.emptyDict).push (W.instObj C s.heap.objs.size)).get? 2e3=some (W.instObj C s.heap.objs.size):=by
  have:=ul (s.heap.push W.emptyDict) (o:=W.instObj C s.heap.objs.size) rfl
  rwa [Heap.size_push]at this
 have e3:(s.heap.push W.emptyDict).Ns s.heap.objs.size (λ_=>none):=⟨W.emptyDict,#[],_,e1,rfl,(λe he=>absurd he 2e5),λ_=>rfl⟩;have I1:=I.laid (a:=s.heap.objs.size) (o:=.own 2e3) (h':=s.heap.push W.emptyDict) (t':=s.toks) (λb u q=>sK _ q) (pi _) ⟨_,e1⟩;refine I1.laid (a:=s.heap.objs.size+1) (o:=.ins C s.heap.objs.size []) (t':=s.toks) (λb u q=>sK _ q) (Nat.le_of_eq (Heap.size_push _ _)) ?_;have ne:s.heap.objs.size≠s.heap.objs.size+1:=pc (Nat.lt_succ_self _);refine⟨by rw[aj ne,aL],Nat.zero_le _,ne,e2,λ_=>none,(Heap.Ns1.of_empty e3).at λo q=>sK _ q,λ_=>True.intro,λy hy=>absurd rfl hy⟩
def EB {prog:Program}{env:Env}(hb:attributeBase e f env (eval e env)=eval e env)
  (h:wpAny 0e7 A (eval e env) (λo s₁=>wpAny 0e7 A (getAttr o f true) Q E s₁) E s):wpAny 0e7 A (eval (.Attribute e f pos) env) Q E s:=
 Attribute_any_ h (by rw[arm_eval_Attribute,hb])
end
section
variable {X:Cx}{o e value:Expr}{f:Str}{pos pos' tpos:Pos}{ta tv:TE}
end
section
variable {X:Cx}{Y:NY}{U:St}{H:Hp}{s:Shared}{A:Around}{E:NX}{Q:NX}{c:Value}{b:Bool}
inductive ke (K:W.Frag) (H:Hp):V->Value->Prop where
 |non:ke K H .non (.type "NoneType")
 |bl (x:Bool):ke K H (.bl x) (.type "bool")
 |int (i:Int):ke K H (.int i) (.type "int")
 |str (x:Str):ke K H (.str x) (.type "str")
 |flt (x:UInt64):ke K H (.flt x) (.type "float")
 |lst {a:Addr}{xs:List V}(e:H a=some 4e8):ke K H 3e6 (.type "list")
 |nu {a:Addr}{o:Obj}{xs:List V}(e:H a=some (.nu o 4e8)):ke K H 3e6 (.type "list")
 |tup {a:Addr}{xs:List V}(e:H a=some (.tup xs)):ke K H 3e6 (.type "tuple")
 |dK {a:Addr}{kvs:List (Key×V)}(e:Rd H a (.dK kvs)):ke K H 3e6 (.type "dict")
 |dT {a:Addr}{kvs:List (List Key×V)}(e:H a=some (.dT kvs)):ke K H 3e6 (.type "dict")
 |ins {a C dx:Addr}{fs:List (Str×V)}(e:H a=some (.ins C dx fs)) (cl:Dm K C) (ha:W.findIn K 2e4 "__class__"=some (some 4e3))
   (hn:W.specialIn K 4e3 "__get__"=some (some (.builtin "getset_descriptor.__get__"))) (htk:W.takesIn K 4e3=some true)
   (hm:W.mroIn K C (.type "object")=some true):ke K H 3e6 2e4
def kc {x:V}{t:Value}(I:Inv X Y U H s)(rx:RelV x u)(ty:ke X.K H x t)(e:W.kitOne X.K t c=some b)(h:∀ tk,Q (.bool b) { s with toks:=tk }):
  wpAny 0e0 A (call (.builtin "isinstance") [u,c]) Q E s:=by
 cases ty with
 |non=>cases(show u=Value.none from rx);exact W.kia_one W.kitx_none I.cp True.intro e (λz=>nomatch z) h
 |bl y=>cases(show u=Value.bool y from rx);exact W.kia_one W.kitx_bool I.cp True.intro e (λz=>nomatch z) h
 |int i=>obtain⟨t,q⟩:=(show ∃ t,u=Value.int i t from rx);cases q;exact W.kia_one W.kitx_int I.cp True.intro e (λz=>nomatch z) h
 |str y=>obtain⟨t,q⟩:=(show ∃ t,u=Value.str y t from rx);cases q;exact W.kia_one W.kitx_str I.cp True.intro e (λz=>nomatch z) h
 |flt y=>obtain⟨t,q⟩:=(show ∃ t,u=Value.float y t from rx);cases q;exact W.kia_one W.kitx_float I.cp True.intro e (λz=>nomatch z) h
 | @lst a xs ea=>
  cases(show u=Value.ref a from rx);obtain⟨_,_,n,_,h1⟩:=(show aQ X.prog X.w H s.heap a 4e8 from I.hok a _ ea);exact W.kia_one W.kitx_list I.cp ⟨_,h1,rfl⟩ e (λz=>nomatch z) h
 | @nu a ob xs ea=>
  cases(show u=Value.ref a from rx);obtain⟨_,_,_,n,_,h1⟩:=(show aQ X.prog X.w H s.heap a (.nu ob 4e8) from I.hok a _ ea);exact W.kia_one W.kitx_list I.cp ⟨_,h1,rfl⟩ e (λz=>nomatch z) h
 | @tup a xs ea=>
  cases(show u=Value.ref a from rx);obtain⟨_,_,_,p⟩:=(show aQ X.prog X.w H s.heap a (.tup xs) from I.hok a _ ea);obtain⟨o,h1,h2,_⟩:=p;exact W.kia_one W.kitx_tuple I.cp ⟨o,h1,h2⟩ e (λz=>nomatch z) h
 | @dK a kvs ea=>
  cases(show u=Value.ref a from rx);obtain⟨_,_,vs,_,p⟩:=(show aQ X.prog X.w H s.heap a (.dK kvs) from ea.ok I.hok);obtain⟨o,es,ep,h1,h2,_⟩:=p;exact W.kia_one W.kitx_dict I.cp ⟨o,h1,h2.1⟩ e (λz=>nomatch z) h
 | @dT a kvs ea=>
  cases(show u=Value.ref a from rx);obtain⟨_,_,xs,_,o,es,ep,h1,h2,_⟩:=(show aQ X.prog X.w H s.heap a (.dT kvs) from I.hok a _ ea);exact W.kia_one W.kitx_dict I.cp ⟨o,h1,h2.1⟩ e (λz=>nomatch z) h
 | @ins a C dx fs ea cl ha hn htk hm=>
  cases(show u=Value.ref a from rx);obtain⟨mA,O,_⟩:=lR I.hok ea;obtain⟨od,J,_⟩:=O.look;exact W.kia_one (W.kitx_own (cl.get _) cl.hd ha hn htk hm) I.cp J e (λz=>nomatch z) h
end
abbrev xT (c:Bool)(h:Option Value)(H:Hp):Prop:=match c with
 |true=>h=none
 |false=>∃ e C dx fs,h=some (.ref e)/\H e=some 5e2
structure cg (k:Nat) (A:Around):Prop where
 dp:A.depth+3*k+5<recursionLimit
 un:A.units+16*k+200<cLine
def cg.mono {j:Nat}(r:cg k A)(h:j<=k):cg j A:=⟨by have:=r.dp;omega,by have:=r.un;omega⟩
def cg.deeper (r:cg (k+1) A)(env:Env):cg k (A.deeper env):=
 ⟨by have:=r.dp;show A.depth+1+3*k+5<_;omega,by have:=r.un;show A.units+3+16*k+200<_;omega⟩
def uX:(A.under (.builtin "type.__call__" ⟨.ref C::us,kw⟩)).depth=A.depth+1:=by
 first|rfl|simp[Around.under,Code.weight,Code.isCreation,Code.isGuard,Code.isCaller,Code.frames,Code.isFrame,guardIds]
def um:(A.under (.builtin "type.__call__" ⟨.ref C::us,kw⟩)).units=A.units+1:=by
 first|rfl|simp[Around.under,Code.cUnits,Code.frames,Code.isFrame]
def cg.make (r:cg (k+1) A)(C:Addr)(us:List Value)(kw:List (Str×Value)):cg k (A.under (.builtin "type.__call__" ⟨.ref C::us,kw⟩)):=
 ⟨by have:=r.dp;rw[uX];omega,by have:=r.un;rw[um];omega⟩
def cg.depth (r:cg k A):A.depth<recursionLimit:=by have:=r.dp;omega
abbrev Dp:TA:=λ_ H Q=>Q [] H
abbrev EV (ta:TE)(tr:TA):TA:=λU H Q=>ta U H λx H1=>tr U H1 λxs H2=>Q (x::xs) H2
section
variable {X:Cx}{e:Expr}{es:List Expr}{te:TE}{t:TA}{pos:Pos}
def fe:PA X [] Dp:=λ_ _ _ _ H Q I h=>Calls.spliced_nil ⟨[],H,I,.nil,h⟩
def DK (ha:PE X e te)(hr:PA X es t)(hs:bm (e::es) X.env=(false,eval e X.env)::bm es X.env:=by rfl):PA X (e::es) (EV te t):=by
 intro pos Y s U H Q I h;rw[hs];show wpAny _ _ (spliced ((false,eval e X.env)::backTo pos (bm es X.env))) _ _ s;refine Calls.spliced_cons (cR (ha Y s U H _ I h) λu s1 x H1 I1 r1 q1=>?_);exact uI (hr pos Y s1 U H1 _ I1 q1) λus s2 xs H2 I2 r2 q2=>⟨x::xs,H2,I2,.cons r1 r2,q2⟩
abbrev LW (t:TA):TE:=λU H Q=>t U H λxs H1=>xs.length<=bn/\∀ p,H1 p=none->Q (.ref p) (upd H1 p (.tup xs))
abbrev Mu (t:TA):TE:=λU H Q=>t U H λxs H1=>xs.length<=bn/\∀ p,H1 p=none->Q (.ref p) (upd H1 p 4e8)
def GV {x1} (h:PA X es t):PE X (.Tuple es x1 pos) (LW t):=by
 intro Y s U H Q I hq;refine wpAny_Tuple_spliced (bW (h pos Y s U H _ I hq) λus s1 ⟨xs,H1,I1,r,z,q⟩=>⟨by rw[<-r.length];exact z,?_⟩);have hf:H1 s1.heap.objs.size=none:=I1.hok.fresh (pi _);refine⟨.ref s1.heap.objs.size,upd H1 s1.heap.objs.size (.tup xs),I1.laid (t':=s1.toks) (λb u e=>sK _ e) (pi _) ?_,rfl,q _ hf⟩;exact⟨z,us,r,⟨_,ul _ rfl,rfl,_,rfl⟩⟩
def IB (h:PA X es t):PE X (.List es pos) (Mu t):=by
 intro Y s U H Q I hq;refine wpAny_List_spliced (bW (h pos Y s U H _ I hq) λus s1 ⟨xs,H1,I1,r,z,q⟩=>⟨by rw[<-r.length];exact z,?_⟩);have hf:H1 s1.heap.objs.size=none:=I1.hok.fresh (pi _);refine⟨.ref s1.heap.objs.size,upd H1 s1.heap.objs.size 4e8,I1.laid (t':=s1.toks) (λb u e=>sK _ e) (pi _) ?_,rfl,q _ hf⟩;exact⟨z,us,0,r,ul _ rfl⟩
end
@[reducible]def Sp:=List V->Hp->VK->XK->Prop
@[reducible]def vf:=List Env->Hp->Shared->XK->Value->Shared->Prop
structure tY (P:Program) (w:World) (K:W.Frag) (mg:NZ) (base:Heap) (A:Around) (outer:List Env) (s:Shared) (H:Hp):Prop where
 frames:A.frames=some outer
 mod:Mod K mg base
 bs:∀ b o,base.get? b=some o->s.heap.get? b=some o/\H b=none
 bsz:base.objs.size<=s.heap.objs.size
 j7:s.heap.FunFrames base outer
 frf:∀ b ∈ qE outer,H b=none
 hok:iM P w H s.heap
 bare:AllBare s.gens
abbrev CE (outer:List Env)(P:Program)(w:World)(H:Hp)(s:Shared)(Q:VK)(u:Value)(s':Shared):Prop:=
 ∃ v H',s'.os=s.os/\AllBare s'.gens/\Un (qE outer) [] H H' s.heap s'.heap/\iM P w H' s'.heap/\RelV v u/\Q v H'
abbrev CR (CX:vf)(outer:List Env)(P:Program)(w:World)(H:Hp)(s:Shared)(Q:VK)(E:XK)(r:Result)(s':Shared):Prop:=
 match r with
 | .ok (.ret u)=>CE outer P w H s Q u s'
 | .ok _=>False
 | .error e=>CX outer H s E e s'
structure dQ (c:Bool) (P:Program) (w:World) (K:W.Frag) (mg:NZ) (base:Heap) (CX:vf) (k:Nat) (f:Addr) (fd:FuncData) (ps:List Str) (sp:Sp):Prop where
 len:∀ vs H Q E,sp vs H Q E->vs.length=ps.length
 run:∀ (A:Around) (outer:List Env) (s:Shared) (H:Hp) (args:Args) (us:List Value) (vs:List V) (Q:VK) (E:XK),cg k A->xT c A.handled H->tY P w K mg base A outer s H->BindsTo s fd args (ps.zip us)->Vals vs us->sp vs H Q E->
  codeAny (model P w) A (.call (.ref f) args) (CR CX outer P w H s Q E) s
variable {mg:NZ}{base:Heap}{CX:vf}{fd:FuncData}{ps:List Str}
def dQ.imp {c:Bool}{f:Addr}{sp sp':Sp}(F:dQ c P w K mg base CX k f fd ps sp)
  (h:∀ vs H Q E,sp' vs H Q E->sp vs H Q E):dQ c P w K mg base CX k f fd ps sp':=
 ⟨λvs H Q E q=>F.len vs H Q E (h _ _ _ _ q),λA outer s H args us vs Q E hr hh he hb hv hs=>F.run A outer s H args us vs Q E hr hh he hb hv (h _ _ _ _ hs)⟩
variable {outer:List Env}
def tY.make (e:tY P w K mg base A outer s H)(C:Addr)(us:List Value)(kw:List (Str×Value)):
  tY P w K mg base (A.under (.builtin "type.__call__" ⟨.ref C::us,kw⟩)) outer s H:=⟨by first|exact e.frames|(simpa[Around.under,Code.envs,Code.isFrame,pushEnvs] using e.frames),e.mod,e.bs,e.bsz,e.j7,e.frf,e.hok,e.bare⟩
section
variable {X:Cx}{Y:NY}{U:St}{H:Hp}{s s':Shared}
def Inv.jZ (I:Inv X Y U H s):tY X.prog X.w X.K X.mg X.base X.A X.stack s H:=
 ⟨I.ok.frames,I.ok.mod,I.bs,Nat.le_trans I.ok.bsz I.sz,I.stack,I.qT,I.hok,I.bare⟩
def Inv.after {Q:VK}(I:Inv X Y U H s)(h:CE X.stack X.prog X.w H s Q u s'):EP X Y U Q u s':=by
 obtain⟨v,H',os,bare,un,hok,r,q⟩:=h;obtain⟨hh,g,d,t,os'⟩:=s';obtain rfl:os'=s.os:=os;exact⟨v,H',I.call (h':=hh) (g':=g) (d':=d) (t':=t) (ch:=[]) un hok bare (λb z=>absurd z 2e5),r,q⟩
end
abbrev AM (sp:Sp)(dvs:List V)(E:St->XK)(t:TA):TE:=λU H Q=>t U H λvs H1=>sp (vs++dvs) H1 Q (E U)
abbrev Fx (C:Addr)(sp:Sp)(dvs:List V)(E:St->XK)(t:TA):TE:=λU H Q=>t U H λvs H1=>∀ x dx,H1 x=none->H1 dx=none->dx≠x->
 sp (.ref x::(vs++dvs)) (upd (upd H1 dx (.own x)) x (.ins C dx [])) (λv H2=>v=.non/\Q (.ref x) H2) (E U)
abbrev Binds (K:W.Frag)(fd:FuncData)(ps:List Str)(ds:List Value):Prop:=
 ∀ (s:Shared) (us:List Value),K.In s.heap->(us++ds).length=ps.length->BindsTo s fd ⟨us,[]⟩ (ps.zip (us++ds))
def Binds.all (h:∀ us:List Value,us.length=ps.length->bindArgs fd ⟨us,[]⟩=pure (ps.zip us)):Binds K fd ps []:=λs us _ hl=>by
 rw[append_nil]at hl⊢;exact .of_eq (h us hl)
abbrev Passes (CX:vf)(X:Cx)(E:St->XK):Prop:=∀ (Y:NY) (U:St) (H:Hp) (s:Shared) (e:Value) (s':Shared),Inv X Y U H s->CX X.stack H s (E U) e s'->X.xe e s'
variable {vs:List V}
section
variable {c:Bool}{X:Cx}{CX:vf}{k:Nat}{f C:Addr}{fd:FuncData}{ps:List Str}{sp:Sp}{dvs:List V}{ds:List Value}{E:St->XK}{x m:Str}{p pos apos:Pos}{e o:Expr}{es:List Expr}{ta:TE}{t:TA}
set_option tactic.hygienic true in
def mM {Q:VK}(F:dQ c X.prog X.w X.K X.mg X.base CX k f fd ps sp)(hh:∀ {Y:NY}{U:St}{H:Hp}{s:Shared}{vs:List V}{Q:VK}{E:XK},Inv X Y U H s->sp vs H Q E->xT c X.A.handled H) (hr:cg k X.A) (hb:Binds X.K fd ps ds) (hd:Vals dvs ds) (hx:Passes CX X E)
  (I:Inv X Y U H s) (r:Vals vs us) (h:sp (vs++dvs) H Q (E U)):wpAny 0e0 X.A (call (.ref f) us) (EP X Y U Q) X.xe s:=by
 have r2:Vals (vs++dvs) (us++ds):=r.append hd;have hl:(us++ds).length=ps.length:=by rw[<-r2.length];exact F.len _ _ _ _ h
 refine wpAny_call (codeAny_mono (F.run X.A X.stack s H ⟨us,[]⟩ (us++ds) (vs++dvs) Q (E U) hr (hh I h) I.jZ (hb s us I.cp hl) r2 h) λr s' hq=>?_);cases r with
 |error e=>exact hx Y U H s e s' I hq
 |ok fl=>
  cases fl with
  |ret u=>exact I.after hq
  |next=>exact False.elim hq
  |brk=>exact False.elim hq
  |cont=>exact False.elim hq
def Ec (F:dQ c X.prog X.w X.K X.mg X.base CX k f fd ps sp)(hh:∀ {Y:NY}{U:St}{H:Hp}{s:Shared}{vs:List V}{Q:VK}{E:XK},Inv X Y U H s->sp vs H Q E->xT c X.A.handled H) (hr:cg k X.A) (hg:Gl X x) (hm:X.mg x=some (.ref f)) (hk:W.keepIn X.K (.ref f)=true) (hb:Binds X.K fd ps ds) (hd:Vals dvs ds) (hx:Passes CX X E)
  (ha:PA X (e::es) t) (hdb:2e7=false:=by decide) (he:bm (e::es) X.env=(false,eval e X.env)::bm es X.env:=by rfl) (hpl:(backTo pos (bm es X.env)).any (·.1)=false:=by rfl):
  PE X (.Call (.Name x p) (e::es) [] pos) (AM sp dvs E t):=by
 intro Y s U H Q I h;refine bv (bM I hg hm ?_ hdb);refine W.callWith_K (h₀:=X.base) I.ok.mod.kin hk (uI (ha pos Y s U H _ I h) λus s1 vs H1 I1 r q=>⟨I1.cp,?_⟩) he hpl;exact mM F hh hr hb hd hx I1 r q
def Bu (F:dQ c X.prog X.w X.K X.mg X.base CX k f fd ps sp)(hh:∀ {Y:NY}{U:St}{H:Hp}{s:Shared}{vs:List V}{Q:VK}{E:XK},Inv X Y U H s->sp vs H Q E->xT c X.A.handled H) (hr:cg k X.A) (hg:Gl X x) (hm:X.mg x=some (.ref f)) (hk:W.keepIn X.K (.ref f)=true) (hb:Binds X.K fd ps ds) (hd:Vals dvs ds) (hx:Passes CX X E)
  (hdb:2e7=false:=by decide):PE X (.Call (.Name x p) [] [] pos) (AM sp dvs E Dp):=by
 intro Y s U H Q I h;refine bv (bM I hg hm ?_ hdb);exact W.callWith_K0 I.cp hk (mM (us:=[]) F hh hr hb hd hx I .nil h)
structure Mk (K:W.Frag) (C f:Addr):Prop where
 makes:W.makesIn K C=true
 init:W.findIn K 2e4 "__init__"=some (some (.ref f))
 fn:W.isFn K (.ref f)=true
 kp:W.keepIn K 2e4=true
set_option tactic.hygienic true in
def sA {Q:VK}(M:Mk X.K C f)(F:dQ c X.prog X.w X.K X.mg X.base CX k f fd ps sp)(hh:∀ {Y:NY}{U:St}{H:Hp}{s:Shared}{vs:List V}{Q:VK}{E:XK},Inv X Y U H s->sp vs H Q E->xT c X.A.handled H) (hr:cg (k+1) X.A) (hb:Binds X.K fd ps ds) (hd:Vals dvs ds)
  (hx:Passes CX X E) (I:Inv X Y U H s) (r:Vals vs us)
  (h:∀ x dx,H x=none->H dx=none->dx≠x->sp (.ref x::(vs++dvs)) (upd (upd H dx (.own x)) x (.ins C dx [])) (λv H2=>v=.non/\Q (.ref x) H2) (E U)):
  wpAny 0e0 X.A (call 2e4 us) (EP X Y U Q) X.xe s:=by
 have hq:=h 2e3 s.heap.objs.size (I.hok.fresh (Nat.le_succ _)) (I.hok.fresh (pi _)) (pc (Nat.lt_succ_self _));have I2:=Inv.made (C:=C) I;have r2:Vals (V.ref 2e3::(vs++dvs)) (Value.ref 2e3::(us++ds)):=.cons rfl (r.append hd);have hl:(Value.ref 2e3::us++ds).length=ps.length:=by
  have e:=r2.length;rw[F.len _ _ _ _ hq]at e;exact e.symm
 refine wpAny_call (Bj (f:=f) I.cp M.makes M.init (beq_iff_eq.mp M.fn) (codeAny_mono (F.run _ X.stack _ _ ⟨Value.ref 2e3::us,[]⟩ (Value.ref 2e3::(us++ds)) _ _ (E U) (hr.make C us []) (hh I2 hq)
  (I2.jZ.make C us []) (hb _ (Value.ref 2e3::us) I2.cp hl) r2 hq) λr s' hq'=>?_))
 cases r with
 |error e=>exact hx Y U _ _ e s' I2 hq'
 |ok fl=>
  cases fl with
  |ret u=>
   obtain⟨v,H',I3,rv,ev,q3⟩:=I2.after hq';subst ev;exact⟨rv,⟨V.ref 2e3,H',I3,rfl,q3⟩⟩
  |next=>exact False.elim hq'
  |brk=>exact False.elim hq'
  |cont=>exact False.elim hq'
def EA (M:Mk X.K C f)(F:dQ c X.prog X.w X.K X.mg X.base CX k f fd ps sp)(hh:∀ {Y:NY}{U:St}{H:Hp}{s:Shared}{vs:List V}{Q:VK}{E:XK},Inv X Y U H s->sp vs H Q E->xT c X.A.handled H) (hr:cg (k+1) X.A) (hg:Gl X x) (hm:X.mg x=some 2e4) (hb:Binds X.K fd ps ds) (hd:Vals dvs ds) (hx:Passes CX X E)
  (ha:PA X (e::es) t) (hdb:2e7=false:=by decide) (he:bm (e::es) X.env=(false,eval e X.env)::bm es X.env:=by rfl) (hpl:(backTo pos (bm es X.env)).any (·.1)=false:=by rfl):
  PE X (.Call (.Name x p) (e::es) [] pos) (Fx C sp dvs E t):=by
 intro Y s U H Q I h;refine bv (bM I hg hm ?_ hdb);refine W.callWith_K (h₀:=X.base) I.ok.mod.kin M.kp (uI (ha pos Y s U H _ I h) λus s1 vs H1 I1 r q=>⟨I1.cp,?_⟩) he hpl;exact sA M F hh hr hb hd hx I1 r q
def Cf (M:Mk X.K C f)(F:dQ c X.prog X.w X.K X.mg X.base CX k f fd ps sp)(hh:∀ {Y:NY}{U:St}{H:Hp}{s:Shared}{vs:List V}{Q:VK}{E:XK},Inv X Y U H s->sp vs H Q E->xT c X.A.handled H) (hr:cg (k+1) X.A) (hg:Gl X x) (hm:X.mg x=some 2e4) (hb:Binds X.K fd ps ds) (hd:Vals dvs ds) (hx:Passes CX X E)
  (hdb:2e7=false:=by decide):PE X (.Call (.Name x p) [] [] pos) (Fx C sp dvs E Dp):=by
 intro Y s U H Q I h;refine bv (bM I hg hm ?_ hdb);exact W.callWith_K0 I.cp M.kp (sA (us:=[]) M F hh hr hb hd hx I .nil h)
end
section
variable {X:Cx}{CX:vf}{k:Nat}{f C:Addr}{fd:FuncData}{ps ks:List Str}{sp:Sp}{E:St->XK}{x m:Str}{p pos apos kpos:Pos}{e o:Expr}{es:List Expr}{kws:List Keyword}{te ta:TE}{t tk:TA}{nm:Option Str}
variable {g:List Value->List Value->List Value}{gV:List V->List V->List V}
end
structure lS (N P:List Str) (sc:Scope):Prop where
 kind:sc.kind=.function
 co:sc.isCoroutine=false
 gen:sc.isGenerator=false
 nd:N.Nodup
 pre:N.take P.length=P
 par:∀ x ∈ P,sc.names.lookup x=some .local\/sc.names.lookup x=some .cell
 nofree:∀ y ∈ sc.names,y.2≠.free
def n8 {kindOf:Str->Option NameKind}{x:Str}:∀ {binds:List (Str×Value)}{m:NZ},(∀ v,(x,v) ∉ binds)->bindL kindOf binds m x=m x
 | [],_,_=>rfl
 |(n,v)::r,m,h=>by
  unfold bindL;rw[n8 λw hw=>h w (dl _ hw)]
  split
  .have:x≠n:=by rintro rfl;exact h v lw
   simp[this]
  .rfl
def oZ {kindOf:Str->Option NameKind}{x:Str}:∀ {binds:List (Str×Value)}{m:NZ},(∀ v,(x,v) ∉ binds)->bindC kindOf binds m x=m x
 | [],_,_=>rfl
 |(n,v)::r,m,h=>by
  unfold bindC;rw[oZ λw hw=>h w (dl _ hw)]
  split
  .rfl
  .have:x≠n:=by rintro rfl;exact h v lw
   simp[this]
def pj {kindOf:Str->Option NameKind}{x:Str}{v:Value}:∀ {P:List Str}{vs:List Value}{i:Nat}{m:NZ},P.Nodup->P[i]? =some x->vs[i]? =some v->kindOf x=some .local->
  bindL kindOf (P.zip vs) m x=some v
 | [],_,_,_,_,h,_,_=>by simp at h
 |_::_,[],_,_,_,_,h,_=>by simp at h
 |p::P,w::vs,0,m,nd,h1,h2,hk=>by
  simp at h1 h2;subst h1;subst h2;show bindL kindOf ((p,w)::P.zip vs) m p=_;unfold bindL;rw[n8 λv hv=>(nodup_cons.mp nd).1 (of_mem_zip hv).1,if_pos hk];simp
 |p::P,w::vs,i+1,m,nd,h1,h2,hk=>by
  show bindL kindOf ((p,w)::P.zip vs) m x=_;unfold bindL;exact pj (i:=i) (nodup_cons.mp nd).2 (by simpa using h1) (by simpa using h2) hk
def oA {kindOf:Str->Option NameKind}{x:Str}{v:Value}:∀ {P:List Str}{vs:List Value}{i:Nat}{m:NZ},P.Nodup->P[i]? =some x->vs[i]? =some v->kindOf x≠some .local->
  bindC kindOf (P.zip vs) m x=some v
 | [],_,_,_,_,h,_,_=>by simp at h
 |_::_,[],_,_,_,_,h,_=>by simp at h
 |p::P,w::vs,0,m,nd,h1,h2,hk=>by
  simp at h1 h2;subst h1;subst h2;show bindC kindOf ((p,w)::P.zip vs) m p=_;unfold bindC;rw[oZ λv hv=>(nodup_cons.mp nd).1 (of_mem_zip hv).1,if_neg hk];simp
 |p::P,w::vs,i+1,m,nd,h1,h2,hk=>by
  show bindC kindOf ((p,w)::P.zip vs) m x=_;unfold bindC;exact oA (i:=i) (nodup_cons.mp nd).2 (by simpa using h1) (by simpa using h2) hk
abbrev start (N:List Str)(vs:List V):St:=vs.map some++sn (N.length-vs.length) none
abbrev xR (c:Bool)(CX:vf)(P:Program)(w:World)(K:W.Frag)(mg:NZ)(base:Heap)(N:List Str)(qual:Str)(scope:Scope)(f:Addr)(cd:Value)(A:Around)(outer:List Env)(s:Shared)(H:Hp)(E:XK):Cx where
 prog:=P
 w:=w
 K:=K
 mg:=mg
 base:=base
 A:=A.deeper (envOfC qual scope s.heap.objs.size f cd)
 N:=N
 s₀:=s
 H₀:=H
 env:=envOfC qual scope s.heap.objs.size f cd
 outer:=outer
 stack:=envOfC qual scope s.heap.objs.size f cd::outer
 ex:=[]
 calm:=c
 fn:=λ_=>true
 pn:=[]
 xe:=λe s'=>wpAny (model P w) (A.deeper (envOfC qual scope s.heap.objs.size f cd)) (leaving (envOfC qual scope s.heap.objs.size f cd) e) (λ_ s''=>CX outer H s E e s'') (λe' s''=>CX outer H s E e' s'') s'
def rE {sc:Scope}{n:Nat}(h:sc.names.lookup x=some .cell):∃ c,(cellsFrom n sc.names []).lookup x=some c:=by
 have q:=W.cellsFrom_some sc.names n [] (.inl h);exact Option.isSome_iff_exists.mp q
variable {scope:Scope}
def xN {c:Bool}{N:List Str}{qual:Str}{f:Addr}{cd:Value}{s1:Shared}{E:XK}
  (S:lS N ps scope) (hd:c=true->A.handled=none) (e0:tY P w K mg base A outer s H) (hl:vs.length=ps.length) (r:Vals vs us)
  (x:InCallC s s.heap.objs.size (bindL (envOfC qual scope s.heap.objs.size f cd).kindOf (ps.zip us) λ_=>none) (cellsFrom 2e3 scope.names []) (bindC (envOfC qual scope s.heap.objs.size f cd).kindOf (ps.zip us) λ_=>none) s1):
  Inv (xR c CX P w K mg base N qual scope f cd A outer s H E) [] (start N vs) H s1:=by
 have hpl:ps.length<=N.length:=by have:=congrArg List.length S.pre;rw[db]at this;omega
 obtain⟨h1,tk,rfl,hk⟩:=x.done;have noA:∀ b:Addr,b ∉ (xR c CX P w K mg base N qual scope f cd A outer s H E).ex:=λb z=>absurd (show b ∈ ([]:List Addr) from z) 2e5
 refine⟨⟨e0.mod,S.kind,rfl,rfl,pi _,λy z c h1 h2=>?_,λy hy=>?_,λy c _ h=>?_,hd,Around.frames_deeper e0.frames,.inr ⟨rfl,rfl⟩,λb z=>absurd z (noA b),e0.bs,e0.bsz,λb _ _=>noA b,λb z=>absurd z (noA b),e0.j7,e0.frf⟩,
  rfl,e0.bare,Un.kept hk,⟨_,x.toInCall.ns,λi y v h1 h2 h3=>?_⟩,λy c h=>⟨_,x.cell y c h⟩,e0.hok.fresh (pi _),λy c h=>?_,λp hp=>absurd (show p ∈ ([]:NY) from hp) 2e5,e0.hok.kept hk,?_⟩
 .exact name_of_addr x.apart (PySem.mem_of_lookup h1) (PySem.mem_of_lookup h2)
 .have hy:scope.names.lookup y=some .cell\/scope.names.lookup y=some .free:=hy;rcases hy with hy|hy
  .exact rE hy
  .exact absurd rfl (S.nofree _ (PySem.mem_of_lookup hy))
 .exact Nat.le_of_lt (x.above y c (PySem.mem_of_lookup h))
 .have hi:i<vs.length:=by
   unfold start at h2
   by_cases hi:i<vs.length
   .exact hi
   .rw[getElem?_append_right (by simpa using hi)]at h2;rw[List.getElem?_replicate]at h2
    split at h2<;>cases h2
  have ha:vs[i]? =some v:=by
   unfold start at h2;rw[List.getElem?_append_left (by simpa using hi),im]at h2;cases e:vs[i]? with
   |none=>rw[e]at h2;cases h2
   |some a=>rw[e]at h2;cases h2;rfl
  obtain⟨u,hu,rv⟩:=r.get ha;have hp:ps[i]? =some y:=by
   rw[<-S.pre,List.getElem?_take_of_lt nofun];exact h1
  have ndP:ps.Nodup:=by rw[<-S.pre];exact S.nd.sublist (take_sublist _ _)
  refine⟨u,rv,?_⟩;rcases S.par y (cr hp) with k|k
  .exact .inl ⟨k,pj ndP hp hu k⟩
  .obtain⟨c,e⟩:=rE (n:=s.heap.objs.size+1) k;refine .inr ⟨.inl k,c,e,?_⟩;have q:=x.cell y c e;rw[oA ndP hp hu (by show scope.names.lookup y≠_;rw[k];decide)]at q;exact q
 .exact e0.hok.fresh (Nat.le_of_lt (x.above y c (PySem.mem_of_lookup h)))
 .unfold start;show _=N.length;rw[ci,ce,length_replicate]
  omega
set_option tactic.hygienic true in
def JR {c:Bool}{f:Addr}{name qual:Str}{params:Arguments}{dV kV doc pm cdv ct oc:Value}{an od:Option Addr}
  {osl:Array (Option Value)}{N:List Str}{sp:Sp}(lk:K.lookup f=some ⟨oc,od,.func (W.fnOf name qual params body scope dV kV doc pm an cdv ct),osl⟩) (hcd:W.codeIn K cdv qual=true) (S:lS N ps scope)
  (len:∀ vs H Q E,sp vs H Q E->vs.length=ps.length)
  (hbody:∀ (A:Around) (outer:List Env) (s:Shared) (H:Hp) (vs:List V) (Q:VK) (E:XK),cg k (A.deeper (envOfC qual scope s.heap.objs.size f cdv))->xT c A.handled H->sp vs H Q E->
   ∃ t,Ds (xR c CX P w K mg base N qual scope f cdv A outer s H E) body t/\t { nx:=λ_ H'=>Q .non H',rt:=Q } (start N vs) H):
  dQ c P w K mg base CX (k+1) f (W.fnOf name qual params body scope dV kV doc pm an cdv ct) ps sp:=by
 refine⟨len,λA outer s H args us vs Q E hr hh e0 hb r hsp=>?_⟩;have hl:=len _ _ _ _ hsp;have KX:K.In s.heap:=e0.mod.kin.keeps λb o e=>(e0.bs b o e).1
 have lim:s.heap.NoLimit:=e0.mod.nolimit.keeps λb o e=>(e0.bs b o e).1
 have hkind:∀ y ∈ ps.zip us,scope.names.lookup y.1=some .local\/(scope.names.lookup y.1=some .cell/\((cellsFrom 2e3 scope.names []).lookup y.1).isSome=true):=λ⟨n,v⟩ hy=>by
  rcases S.par n (of_mem_zip hy).1 with q|q
  .exact .inl q
  .exact .inr ⟨q,W.cellsFrom_some _ _ _ (.inl q)⟩
 refine codeAny_call_function hr.depth (KX _ _ lk) rfl S.co S.gen rfl (W.codeRec_of KX hcd) (hb _ _ _ _ ?_);refine wpAny_newFunctionEnv_cells S.kind hkind λenv he s1 x=>?_
 subst he;refine⟨lim.keeps x.toInCall.keep,codeAny_func ?_⟩;obtain⟨t,ht,hq⟩:=hbody A outer s H vs Q E (hr.deeper _) hh hsp;have I:Inv (xR c CX P w K mg base N qual scope f cdv A outer s H E) [] (start N vs) H s1:=xN S (λz=>by subst z;exact hh) e0 hl r x;refine wpAny_mono (ht [] s1 (start N vs) H _ I hq) (λfl s' hs=>?_) λe s' hs=>hs
 have fin:∀ {σ':St}{H':Hp}{v:V}{u:Value},Inv (xR c CX P w K mg base N qual scope f cdv A outer s H E) [] σ' H' s'->RelV v u->Q v H'->CE outer P w H s Q u s':=
  λ{σ' H' v u} J rv q=>⟨v,H',J.os,J.bare,J.base,J.hok,rv,q⟩
 cases fl with
 |ret u=>
  obtain⟨v,σ',H',J,rv,q⟩:=hs;exact fin J rv q
 |next=>
  obtain⟨σ',H',J,q⟩:=hs;exact fin (v:=V.non) (u:=Value.none) J rfl q
 |brk=>
  obtain⟨_,_,_,q⟩:=hs;exact False.elim q
 |cont=>
  obtain⟨_,_,_,q⟩:=hs;exact False.elim q
section
variable {X:Cx}{x:Str}{p pos:Pos}{e:Expr}{es:List Expr}{t:TA}{id T:String}{r:List V->Hp->VK->Prop}
abbrev MS (r:List V->Hp->VK->Prop)(t:TA):TE:=λU H Q=>t U H λvs H1=>r vs H1 Q
def rp (hc:d9 X (.builtin id) r)(hg:Gl X x)(hm:X.mg x=none)(hv:bootBuiltins x=some (.builtin id))(ha:PA X (e::es) t)(hn:x≠"__name__":=by decide) (hdb:2e7=false:=by decide)
  (he:bm (e::es) X.env=(false,eval e X.env)::bm es X.env:=by rfl) (hpl:(backTo pos (bm es X.env)).any (·.1)=false:=by rfl):PE X (.Call (.Name x p) (e::es) [] pos) (MS r t):=by
 intro Y s U H Q I h;refine bv (cT I hg hm hv ?_ hn hdb);exact PyProof.Rows.callWith_builtin1 (uI (ha pos Y s U H _ I h) λus s1 vs H1 I1 r1 q1=>hc Y s1 U H1 vs us Q I1 r1 q1) he hpl
def xp (hc:d9 X (.type T) r)(hg:Gl X x)(hm:X.mg x=none)(hv:bootBuiltins x=some (.type T))(ha:PA X (e::es) t)(hn:x≠"__name__":=by decide) (hdb:2e7=false:=by decide)
  (he:bm (e::es) X.env=(false,eval e X.env)::bm es X.env:=by rfl) (hpl:(backTo pos (bm es X.env)).any (·.1)=false:=by rfl):PE X (.Call (.Name x p) (e::es) [] pos) (MS r t):=by
 intro Y s U H Q I h;refine bv (cT I hg hm hv ?_ hn hdb);exact PyProof.Rows.callWith_type1 (uI (ha pos Y s U H _ I h) λus s1 vs H1 I1 r1 q1=>hc Y s1 U H1 vs us Q I1 r1 q1) he hpl
end
end L2
namespace HT
open PySem PyProof.Rows
section
open PySem.SeqAt
open PySem.AutoSeq1 (wpAny_loadPart')
open PySem.MeetsSeq PySem.MeetsSeq2 PySem.MeetsSeq3
end
section
variable {prog:Program}{w:World}{A:Around}{E:NX}{s:Shared}
abbrev tF (n d:Nat):Option Int->Nat
 |none=>d
 |some v=>if v<0 then(v+(n:Int)).toNat else min v.toNat n
end
end HT
namespace L2
open PySem PySem.Spec PyProof.Rows
@[reducible]def TO:=St->Hp->(Option Int->Hp->Prop)->Prop
abbrev PO (X:Cx)(e:Option Expr)(t:TO):Prop:=
 ∀ (Y:NY) (s:Shared) (U:St) (H:Hp) (Q:Option Int->Hp->Prop),Inv X Y U H s->t U H Q->
  wpAny 0e0 X.A (evalPart e X.env) (λu s'=>∃ o H',Inv X Y U H' s'/\IsPart u o/\Q o H') X.xe s
abbrev CL:TO:=λ_ H Q=>Q none H
abbrev JU (t:TE):TO:=λU H Q=>t U H λx H1=>∃ i,x=.int i/\Q (some i) H1
section
variable {X:Cx}{e:Expr}{te:TE}{lo hi:Option Expr}{tl th:TO}{pos p2:Pos}
def D3:PO X none CL:=by
 intro Y s U H Q I h;rw[evalPart_none];exact am ⟨none,H,I,.none,h⟩
def Dt (h:PE X e te):PO X (some e) (JU te):=by
 intro Y s U H Q I hw;rw[evalPart_some];refine cR (h Y s U H _ I hw) λu s1 x H1 I1 r1 q1=>?_
 obtain⟨i,rfl,q⟩:=q1;obtain⟨t,rfl⟩:=r1;exact⟨some i,H1,I1,.int i t,q⟩
abbrev Ls (X:Cx)(r:V->Option Int->Option Int->Hp->VK->Prop):Prop:=
 ∀ (Y:NY) (s:Shared) (U:St) (H:Hp) (x:V) (v vl vu:Value) (lo hi:Option Int) (sl:Addr) (Q:VK),Inv X Y U H s->RelV x v->s.heap.IsSliceOf sl vl vu .none->IsPart vl lo->IsPart vu hi->r x lo hi H Q->
  ∃ T id,typeLookup (.type T) "__getitem__"=pure (some (.builtin id))/\s.TypeIs v T/\wpAny 0e0 X.A (getItem v (.ref sl)) (EP X Y U Q) X.xe s
abbrev NB (r:V->Option Int->Option Int->Hp->VK->Prop)(te:TE)(tl th:TO):TE:=λU H Q=>te U H λx H1=>tl U H1 λl H2=>th U H2 λu H3=>r x l u H3 Q
def zG {r:V->Option Int->Option Int->Hp->VK->Prop}(hr:Ls X r)(he:PE X e te)(hl:PO X lo tl)(hu:PO X hi th):PE X (.Subscript e (.Slice lo hi none p2) pos) (NB r te tl th):=by
 intro Y s U H Q I h;refine Subscript_ (cR (he Y s U H _ I h) λv s1 x H1 I1 r1 q1=>?_);refine wpAny_Slice (bW (hl Y s1 U H1 _ I1 q1) λvl s2 ⟨l,H2,I2,pl,q2⟩=>bW (hu Y s2 U H2 _ I2 q2) λvu s3 ⟨u,H3,I3,pu,q3⟩=>?_);rw[evalPart_none];refine am ?_;have I4:Inv X Y U H3 { s3 with heap:=s3.heap.push { cls:=.type "slice",data:=.fields #[vl,vu,.none] } }:=I3.kept (t':=s3.toks) λb ob q=>sK _ q
 obtain⟨T,id,hT,ht,hg⟩:=hr Y { s3 with heap:=s3.heap.push { cls:=.type "slice",data:=.fields #[vl,vu,.none] } } U H3 x v vl vu l u s3.heap.objs.size Q I4 r1 (Heap.IsSliceOf.new ..) pl pu q3;show wpAny 0e0 X.A (subscriptTail e (.Slice lo hi none p2) v (.ref s3.heap.objs.size)) (EP X Y U Q) X.xe { s3 with heap:=s3.heap.push { cls:=.type "slice",data:=.fields #[vl,vu,.none] } };exact tail_any (ops:=[.ref s3.heap.objs.size,v]) ht hT hg (by with_unfolding_all rfl)
abbrev sM (xs:List V)(lo hi:Option Int):List V:=(xs.drop (HT.tF xs.length 0 lo)).take (HT.tF xs.length xs.length hi-HT.tF xs.length 0 lo)
def tL (xs:List V)(lo hi:Option Int):(sM xs lo hi).length<=xs.length:=by
 unfold sM;rw[db,io]
 omega
end
abbrev y0 (n:Nat)(i:Int):Option Nat:=if 0<=i then(if i<n then some i.toNat else none) else if -(n:Int)<=i then some (i+n).toNat else none
variable {α:Type}
abbrev oa (xs:List α)(i:Int):Option α:=(y0 xs.length i).bind λj=>xs[j]?
variable {n:Nat}
def vV {i:Int}{j:Nat}(h:y0 n i=some j):seqIndex? i n=some j/\j<n/\ -(n:Int)<=i/\i<n:=by
 unfold y0 at h
 by_cases h0:0<=i
 .rw[if_pos h0]at h
  by_cases h1:i<n
  .rw[if_pos h1]at h;have e:i.toNat=j:=Option.some.inj h;exact⟨by rw[seqIndex_of h0 h1,e],by omega,by omega,h1⟩
  .rw[if_neg h1]at h;cases h
 .rw[if_neg h0]at h
  by_cases h1: -(n:Int)<=i
  .rw[if_pos h1]at h;have e:(i+n).toNat=j:=Option.some.inj h;exact⟨by rw[seqIndex_neg nofun h1,e],by omega,h1,by omega⟩
  .rw[if_neg h1]at h;cases h
def aW {xs:List α}{i:Int}{v:α}(h:oa xs i=some v):∃ j,seqIndex? i xs.length=some j/\xs[j]? =some v/\j<xs.length/\ -(xs.length:Int)<=i/\i<xs.length:=by
 unfold oa at h;cases e:y0 xs.length i with
 |none=>rw[e]at h;cases h
 |some j=>
  rw[e]at h;obtain⟨h1,h2,h3,h4⟩:=vV e;exact⟨j,h1,h,h2,h3,h4⟩
def pK {xs:List α}{j:Nat}{v:α}(h:xs[j]? =some v):oa xs (j:Int)=some v:=by
 have hj:j<xs.length:=(sw.mp h).1;have e:y0 xs.length (j:Int)=some j:=by
  unfold y0;rw[if_pos nofun,if_pos nofun];simp
 unfold oa;rw[e];exact h
abbrev wY (b:Expr):Prop:=∀ o i,subscripted b false o i=operate [o,i] (getItem o i)
abbrev K1 (X:Cx)(r:R2):Prop:=
 ∀ (value slice:Expr) (Y:NY) (s:Shared) (U:St) (H:Hp) (x y:V) (v u:Value) (Q:VK),Inv X Y U H s->RelV x v->RelV y u->r x y H Q->
  subscripted slice false v u=operate [v,u] (getItem v u)->wpAny 0e0 X.A (subscriptTail value slice v u) (EP X Y U Q) X.xe s
abbrev KI (X:Cx)(id:String)(r:V->List V->Hp->VK->Prop):Prop:=
 ∀ (Y:NY) (s:Shared) (U:St) (H:Hp) (x:V) (xs:List V) (v:Value) (us:List Value) (Q:VK),Inv X Y U H s->RelV x v->Vals xs us->r x xs H Q->
  wpAny 0e0 X.A (call (.builtin id) (v::us)) (EP X Y U Q) X.xe s
variable {Y:NY}{U:St}{H:Hp}{s:Shared}{y:V}{u:Value}
section
variable {X:Cx}{a b:Expr}{ta tb:TE}{pos:Pos}
def Ke {r:R2}(hr:K1 X r)(ha:PE X a ta)(hb:PE X b tb)(hs:wY b):PE X (.Subscript a b pos) (Lf r ta tb):=by
 intro Y s U H Q I h;exact Subscript_ (FZ ha hb I h λv u s2 x y H2 I2 rx ry q=>hr a b Y s2 U H2 x y v u Q I2 rx ry q (hs _ _))
abbrev LG (K:W.Frag):R2:=λx y H Q=>∃ p xs i v,x=.ref p/\y=.int i/\bB K H p xs/\oa xs i=some v/\Q v H
abbrev MD (K:W.Frag):R2:=λx y H Q=>∃ p xs i v,x=.ref p/\y=.int i/\bP K H p xs/\oa xs i=some v/\Q v H
def EC:K1 X (LG X.K):=by
 intro value slice Y s U H x y v u Q I rx ry h hs;obtain⟨p,xs,i,z,rfl,rfl,hq,he,q⟩:=h;cases rx;obtain⟨t,rfl⟩:=ry;obtain⟨its,r,pl,hz⟩:=I.list hq;obtain⟨j,h1,h2,h3,h4,h5⟩:=aW he;obtain⟨w,ew,rw'⟩:=r.get h2;have hl:=r.length;have hn:=kr;have fin:EP X Y U Q w s:=⟨z,H,I,rw',q⟩
 by_cases h0:0<=i
 .have hj:i.toNat=j:=by
   rw[seqIndex_of h0 h5]at h1;exact Option.some.inj h1
  exact item_listR pl.isList h0 nofun (by rw[hj];simpa using ew) fin hs
 .have hj:(i+(its.toArray.size:Int)).toNat=j:=by
   rw[seqIndex_neg nofun h4]at h1;rw[ge,<-hl];exact Option.some.inj h1
  exact subscriptTail_builtinR (x:=w) pl.isList.typeIs slot_list_getitem.lookup
   (wpAny_getItem_list_neg (Q:=λr s'=>r=w/\EP X Y U Q r s') pl.isList nofun (by rw[ge]<;>omega) nofun (by rw[hj];simpa using ew) ⟨rfl,fin⟩) hs
def Iq:K1 X (MD X.K):=by
 intro value slice Y s U H x y v u Q I rx ry h hs;obtain⟨p,xs,i,z,rfl,rfl,hq,he,q⟩:=h;cases rx;obtain⟨t,rfl⟩:=ry;obtain⟨its,r,pl,hz⟩:=I.tuple hq;obtain⟨j,h1,h2,h3,h4,h5⟩:=aW he;obtain⟨w,ew,rw'⟩:=r.get h2;have hl:=r.length;have hn:=kr;have fin:EP X Y U Q w s:=⟨z,H,I,rw',q⟩;exact subscriptTail_builtinR (x:=w) pl.typeIs slot_tuple_getitem.lookup
  (getItem_tuple (j:=j) (Q:=λr s'=>r=w/\EP X Y U Q r s') pl nofun nofun (by rw[ge,<-hl];exact h1) (by simpa using ew) ⟨rfl,fin⟩) hs
def vd (its:List Value)(n j:Nat)(u:Value):Obj.mapSeq (·.setIfInBounds j u) 5e7={ cls:=.type "list",data:=.seq (its.set j u).toArray n }:=by
 simp[Obj.mapSeq]
def Inv.lst {Y:NY}{U:St}{H:Hp}{s:Shared}{p:Addr}{xs:List V}(I:Inv X Y U H s)(h:H p=some 4e8):
  ∃ (its:List Value) (n:Nat),Vals xs its/\s.heap.get? p=some 5e7/\xs.length<=bn:=by
 obtain⟨z,its,n,r,e⟩:=I.hok p _ h;exact⟨its,n,r,e,z⟩
def Inv.G9 {p:Addr}{xs ys:List V}{its its':List Value}{n':Nat}{f:Obj->Obj}(I:Inv X Y U H s)(h:H p=some 4e8)
  (ho:s.heap.get? p=some 5e7) (hf:f 5e7={ cls:=.type "list",data:=.seq its'.toArray n' }) (r:Vals ys its') (hz:ys.length<=bn) (t:Nat):
  Inv X Y U (upd H p (.lst ys)) { s with heap:=s.heap.update p f,toks:=t }:=by
 have e:(s.heap.update p f).get? p=some { cls:=.type "list",data:=.seq its'.toArray n' }:=by
  rw[Heap.get?_update_self f ho (by rw[hf]<;>rfl),hf]
 refine I.write (x:=p) (e:=p) (by rw[h];trivial) 3e9 (λb u hb q=>(Heap.get?_update_other _ _ (Ne.symm hb)).trans q) ⟨_,e⟩ ?_;exact⟨hz,its',n',r,e⟩
abbrev JC:V->V->V->Hp->(Hp->Prop)->Prop:=λo i v H Q=>∃ p xs k j,o=.ref p/\i=.int k/\H p=some 4e8/\y0 xs.length k=some j/\Q (upd H p (.lst (xs.set j v)))
def set_list:Eh X JC:=by
 intro Y s U H o i v ov iv u Q I ro ri rv h;obtain⟨p,xs,k,j,rfl,rfl,hp,hj,q⟩:=h;cases ro;obtain⟨t,rfl⟩:=ri;obtain⟨its,n,r,ho,hz⟩:=I.lst hp;obtain⟨h1,h2,h3,h4⟩:=vV hj;have hl:=r.length;have hn:=kr;have I':Inv X Y U (upd H p (.lst (xs.set j v))) { s with heap:=s.heap.update p (Obj.mapSeq (·.setIfInBounds j u)) }:=
  I.G9 hp ho (vd its n j u) (r.set rv j) (by rw[length_set];exact hz) s.toks
 by_cases h0:0<=k
 .have hk:k.toNat=j:=by
   rw[seqIndex_of h0 h4]at h1;exact Option.some.inj h1
  exact W.ki_setAt ho h0 nofun (by rw[ge,<-hl];exact h4) (by rw[hk];exact⟨_,I',q⟩)
 .have hk:(k+(its.toArray.size:Int)).toNat=j:=by
   rw[seqIndex_neg nofun h3]at h1;rw[ge,<-hl];exact Option.some.inj h1
  exact W.ki_setBack ho nofun (by rw[ge,<-hl];exact h3) nofun (by rw[hk];exact⟨_,I',q⟩)
def qo (lo hi:Option Int)(n:Nat):(sliceBounds lo hi none n).1=((HT.tF n 0 lo:Nat):Int)/\(sliceBounds lo hi none n).2.1=((HT.tF n n hi:Nat):Int)/\(sliceBounds lo hi none n).2.2=1:=by
 refine⟨?_,?_,rfl⟩
 .cases lo with
  |none=>simp[sliceBounds,HT.tF]
  |some i=>
   simp only[sliceBounds,HT.tF,Option.getD_none,show(1:Int)>0 by decide,if_true]
   by_cases h:i<0
   .simp only[h,if_true]<;>omega
   .simp only[h,if_false]<;>omega
 .cases hi with
  |none=>simp[sliceBounds,HT.tF]
  |some i=>
   simp only[sliceBounds,HT.tF,Option.getD_none,show(1:Int)>0 by decide,if_true]
   by_cases h:i<0
   .simp only[h,if_true]<;>omega
   .simp only[h,if_false]<;>omega
def nI (its:List Value)(lo hi:Option Int):slicePick its.toArray lo hi none=((its.drop (HT.tF its.length 0 lo)).take (HT.tF its.length its.length hi-HT.tF its.length 0 lo)).toArray:=by
 obtain⟨h1,h2,h3⟩:=qo lo hi its.toArray.size;unfold slicePick;rw[h1,h2,h3];simp only[sliceRange_one,pick_run,ge]<;>rfl
abbrev LB (K:W.Frag):V->Option Int->Option Int->Hp->VK->Prop:=λx lo hi H Q=>∃ a xs,x=.ref a/\bB K H a xs/\∀ p,H p=none->Q (.ref p) (upd H p (.lst (sM xs lo hi)))
def CC:Ls X (LB X.K):=by
 intro Y s U H x v vl vu lo hi sl Q I rx hs pl pu h;obtain⟨a,xs,rfl,hx,q⟩:=h;cases rx;obtain⟨its,r,ht,hz⟩:=I.list hx;have hlen:=r.length;refine⟨"list",_,slot_list_getitem.lookup,ht.isList.typeIs,?_⟩;refine wpAny_getItem_list_slice ht.isList hs pl pu .none 2e5 ?_ (by rw[ge]<;>omega);rw[nI,<-hlen];refine⟨.ref s.heap.objs.size,_,I.laid (t':=s.toks) (o:=.lst (sM xs lo hi)) (λb ob q=>sK _ q) (pi _) ?_,rfl,q _ (I.hok.fresh (pi _))⟩;exact⟨Nat.le_trans (tL xs lo hi) hz,_,0,(r.drop (HT.tF xs.length 0 lo)).take (HT.tF xs.length xs.length hi-HT.tF xs.length 0 lo),ul _ rfl⟩
abbrev aI:V->Bool
 | .non=>true
 | .bl _=>true
 | .int _=>true
 | .str _=>true
 |_=>false
abbrev dD:V->V->Bool
 | .non,.non=>true
 | .bl a,.bl b=>a ==b
 | .bl a,.int b=>(if a then 1 else 0) ==b
 | .int a,.bl b=>a ==(if b then 1 else 0)
 | .int a,.int b=>a ==b
 | .str a,.str b=>a ==b
 |_,_=>false
def B1 {A:Around}{x:V}{v:Value}(ry:RelV y u)(rx:RelV x v)(fy:aI y=true)(fx:aI x=true):SeqAt.EqAt A s u v (dD y x):=by
 cases y with
 |non=>
  cases ry;cases x with
  |non=>cases rx;exact SeqAt.EqAt.same _
  |bl b=>cases rx;exact SeqAt.EqAt.none_bool b
  |int b=>obtain⟨t,rfl⟩:=rx;exact SeqAt.EqAt.none_int b t
  |str b=>obtain⟨t,rfl⟩:=rx;exact SeqAt.EqAt.none_str b t
  |_=>exact absurd (show false=true from fx) Bool.false_ne_true
 |bl a=>
  cases ry;cases x with
  |non=>cases rx;exact SeqAt.EqAt.bool_none a
  |bl b=>cases rx;exact SeqAt.EqAt.bool_bool a b
  |int b=>obtain⟨t,rfl⟩:=rx;exact SeqAt.EqAt.bool_int a b t
  |str b=>obtain⟨t,rfl⟩:=rx;exact SeqAt.EqAt.bool_str a b t
  |_=>exact absurd (show false=true from fx) Bool.false_ne_true
 |int a=>
  obtain⟨t',rfl⟩:=ry;cases x with
  |non=>cases rx;exact SeqAt.EqAt.int_none a t'
  |bl b=>cases rx;exact SeqAt.EqAt.int_bool a t' b
  |int b=>obtain⟨t,rfl⟩:=rx;exact SeqAt.EqAt.int_int a t' b t
  |str b=>obtain⟨t,rfl⟩:=rx;exact SeqAt.EqAt.int_str a t' b t
  |_=>exact absurd (show false=true from fx) Bool.false_ne_true
 |str a=>
  obtain⟨t',rfl⟩:=ry;cases x with
  |non=>cases rx;exact SeqAt.EqAt.str_none a t'
  |bl b=>cases rx;exact SeqAt.EqAt.str_bool a t' b
  |int b=>obtain⟨t,rfl⟩:=rx;exact SeqAt.EqAt.str_int a t' b t
  |str b=>obtain⟨t,rfl⟩:=rx;exact SeqAt.EqAt.str_str a t' b t
  |_=>exact absurd (show false=true from fx) Bool.false_ne_true
 |_=>exact absurd (show false=true from fy) Bool.false_ne_true
abbrev Di (x:V)(u:Value):Bool:=match u with
 | .none=>dD .non x
 | .bool b=>dD (.bl b) x
 | .int i _=>dD (.int i) x
 | .str z _=>dD (.str z) x
 |_=>false
def AE {x:V}(r:RelV y u)(f:aI y=true):Di x u=dD y x:=by
 cases y with
 |non=>cases r;rfl
 |bl b=>cases r;rfl
 |int i=>obtain⟨t,rfl⟩:=r;rfl
 |str z=>obtain⟨t,rfl⟩:=r;rfl
 |_=>exact absurd (show false=true from f) Bool.false_ne_true
def qj {x:V}:∀ {xs:List V}{us:List Value},Vals xs us->xs.all aI=true->us.any (Di x)=xs.any λy=>dD y x
 |_,_,.nil,_=>rfl
 |y::xs,u::us,.cons r t,f=>by
  rw[all_cons,nb]at f;rw[any_cons,any_cons,AE r f.1,qj t f.2]
def mF {A:Around}{s:Shared}{x:V}{v:Value}(rx:RelV x v)(fx:aI x=true):∀ {xs:List V}{us:List Value},Vals xs us->xs.all aI=true->∀ u ∈ us,SeqAt.EqAt A s u v (Di x u)
 |_,_,.nil,_=>λu hu=>by cases hu
 |y::xs,u::us,.cons r t,f=>λu' hu=>by
  rw[all_cons,nb]at f;rcases mo.mp hu with rfl|hu
  .rw[AE r f.1];exact B1 r rx f.1 fx
  .exact mF rx fx t f.2 u' hu
abbrev IK (x:V)(xs:List V):Bool:=xs.any λy=>dD y x
abbrev NS (K:W.Frag)(neg:Bool):R2:=λx y H Q=>∃ p xs,y=.ref p/\(bB K H p xs\/bP K H p xs)/\aI x=true/\xs.all aI=true/\Q (.bl (if neg then !IK x xs else IK x xs)) H
def xW:cF X (compareOp .In) (NS X.K false):=by
 intro Y s U H x y v u Q I rx ry h;obtain⟨p,xs,rfl,hq,fx,fs,q⟩:=h;cases ry;rcases hq with hq|hq
 .obtain⟨its,r,pl,hz⟩:=I.list hq;refine SeqAt.in_listAt (Di x) pl.isList (λw hw=>mF rx fx r fs w (by simpa using hw)) ⟨.bl _,H,I,rfl,?_⟩;rw[show its.toArray.any (Di x)=its.any (Di x) by simp,qj r fs];exact q
 .obtain⟨its,r,pl,hz⟩:=I.tuple hq;refine SeqAt.in_tupleAt (Di x) pl (λw hw=>mF rx fx r fs w (by simpa using hw)) ⟨.bl _,H,I,rfl,?_⟩;rw[show its.toArray.any (Di x)=its.any (Di x) by simp,qj r fs];exact q
def pW:d9 X (.type "list") (λxs H Q=>∃ p ys,xs=[.ref p]/\(bB X.K H p ys\/bP X.K H p ys)/\∀ l,H l=none->Q (.ref l) (upd H l (.lst ys))):=by
 intro Y s U H xs us Q I r h;obtain⟨p,ys,rfl,hq,q⟩:=h;obtain⟨u,rfl,rx⟩:=vals1 r;cases rx;have fin:∀ (its:List Value),Vals ys its->ys.length<=bn->∀ (h':Heap) (c':Nat),(∀ b o',s.heap.get? b=some o'->h'.get? b=some o')->
   h'.get? s.heap.objs.size=some { cls:=.type "list",dict:=none,data:=.seq its.toArray c',slots:=#[] }->EP X Y U Q 5e5 1e5:=λits r' hz h' c' kp e=>
  ⟨.ref s.heap.objs.size,_,I.laid (t':=s.toks) kp (pi _) (show aQ X.prog X.w _ h' _ (.lst ys) from⟨hz,its,c',r',e⟩),rfl,q _ (I.hok.fresh (pi _))⟩
 rcases hq with hq|hq
 .obtain⟨its,r',pl,hz⟩:=I.list hq;have hlen:=r'.length;obtain⟨o,ho,hc,n,hd⟩:=pl.isList;exact call_list_seq p 3e9 ho hc hd (λh' c' kp e=>fin its r' hz h' c' kp e) (by simp only[ge]<;>omega)
 .obtain⟨its,r',pl,hz⟩:=I.tuple hq;have hlen:=r'.length;obtain⟨o,ho,hc,n,hd⟩:=pl;exact call_list_seq p (.inr rfl) ho hc hd (λh' c' kp e=>fin its r' hz h' c' kp e) (by simp only[ge]<;>omega)
def nz:d9 X (.type "tuple") (λxs H Q=>∃ p ys,xs=[.ref p]/\((bB X.K H p ys/\∀ l,H l=none->Q (.ref l) (upd H l (.tup ys)))\/(bP X.K H p ys/\Q (.ref p) H))):=by
 intro Y s U H xs us Q I r h;obtain⟨p,ys,rfl,h⟩:=h;obtain⟨u,rfl,rx⟩:=vals1 r;cases rx;rcases h with⟨hq,q⟩|⟨hq,q⟩
 .obtain⟨its,r',pl,hz⟩:=I.list hq;have hlen:=r'.length;refine call_tuple_list pl.isList (λh' kp=>?_) (by simp only[ge]<;>omega);have I1:Inv X Y U H 1e5:=I.kept (t':=s.toks) kp;have I2:Inv X Y U (upd H h'.objs.size (.tup ys)) { s with heap:=h'.push { cls:=.type "tuple",data:=.seq its.toArray } }:=
   I1.laid (t':=s.toks) (λb o e=>sK _ e) (pi _) (show aQ X.prog X.w _ _ _ (.tup ys) from⟨hz,its,r',IsTup.new _ _⟩)
  exact⟨.ref h'.objs.size,_,I2,rfl,q _ (I1.hok.fresh (pi _))⟩
 .obtain⟨its,r',pl,hz⟩:=I.tuple hq;exact call_tuple_same pl ⟨.ref p,H,I,rfl,q⟩
abbrev MC (K:W.Frag)(T:String)(x:V)(H:Hp):Prop:=match x with
 | .str _=>T="str"
 | .int _=>T="int"
 | .ref p=>(T="list"/\∃ xs,bB K H p xs)\/(T="tuple"/\∃ o,K.lookup p=some o/\o.cls=.type "tuple"/\o.dict=none)\/
   (T="dict"/\((∃ kvs,H p=some (.dK kvs))\/∃ kvs,H p=some (.dT kvs)))\/(T="set"/\∃ S n,H p=some (.set S n))
 |_=>False
def uA {T:String}{x:V}{v:Value}(I:Inv X Y U H s)(r:RelV x v)(ty:MC X.K T x H):
  s.TypeIs v T/\∀ a,v=.ref a->∃ ob,s.heap.get? a=some ob/\ob.dict=none:=by
 cases x with
 |str z=>
  obtain⟨t,rfl⟩:=r;cases(show T="str" from ty);exact⟨typeIs_str s z t,λ_ e=>nomatch e⟩
 |int i=>
  obtain⟨t,rfl⟩:=r;cases(show T="int" from ty);exact⟨typeIs_int s i t,λ_ e=>nomatch e⟩
 |ref p=>
  cases r;rcases ty with⟨rfl,xs,hq⟩|⟨rfl,o,hk,hc,hd⟩|⟨rfl,hk⟩|⟨rfl,S,n,hk⟩
  .obtain⟨its,_,pl,_⟩:=I.list hq;refine⟨pl.isList.typeIs,λa e=>?_⟩;cases e;obtain⟨o,n,e,c,hd,_⟩:=pl;exact⟨o,e,hd⟩
  .refine⟨⟨o,I.cp p o hk,hc⟩,λa e=>?_⟩;cases e;exact⟨o,I.cp _ o hk,hd⟩
  .have z:∃ o,s.heap.get? p=some o/\o.ExactDict:=by
    rcases hk with⟨kvs,hk⟩|⟨kvs,hk⟩
    .obtain⟨_,_,_,_,o,_,_,e,ex,_⟩:=I.hok p _ hk;exact⟨o,e,ex⟩
    .obtain⟨_,_,_,_,o,_,_,e,ex,_⟩:=I.hok p _ hk;exact⟨o,e,ex⟩
   obtain⟨o,e,ex⟩:=z;refine⟨⟨o,e,ex.1⟩,λa e2=>?_⟩;cases e2;exact⟨o,e,ex.2.1⟩
  .obtain⟨o,_,_,_,e,ex,_⟩:=I.hok p _ hk;refine⟨⟨o,e,ex.1⟩,λa e2=>?_⟩;cases e2;exact⟨o,e,ex.2.1⟩
 |_=>exact False.elim ty
abbrev MN (K:W.Frag)(T:String)(r:V->List V->Hp->VK->Prop)(to:TE):TE:=λU H Q=>to U H λx H1=>MC K T x H1/\r x [] H1 Q
abbrev NF (K:W.Frag)(T:String)(r:V->List V->Hp->VK->Prop)(to:TE)(t:TA):TE:=λU H Q=>to U H λx H1=>MC K T x H1/\t U H1 λxs H2=>r x xs H2 Q
variable {o e:Expr}{es:List Expr}{to:TE}{t:TA}{name:Str}{apos cpos:Pos}{T id:String}{r:V->List V->Hp->VK->Prop}
def Gq (pa:PlainAttrs T)(slot:Slot T name id)(hty:typeOf (.builtin id)=pure (.type "method_descriptor")) (hm:KI X id r) (ho:PE X o to)
  (hbase:attributeBase o name X.env (eval o X.env)=eval o X.env:=by rfl) (hline:(apos.endLine ==cpos.line)=true:=by rfl):PE X (.Call (.Attribute o name apos) [] [] cpos) (MN X.K T r to):=by
 intro Y s U H Q I h;refine wpAny_Call_method0_late hbase hline (bW (ho Y s U H _ I h) λv s1 ⟨x,H1,I1,r1,ty,q1⟩=>?_);obtain⟨h1,h2⟩:=uA I1 r1 ty;exact⟨T,id,pa,slot,hty,h1,h2,Calls.callWith_builtin rfl (PySem.evalArgs_none (hm Y s1 U H1 x [] v [] Q I1 r1 .nil q1))⟩
def Fb (pa:PlainAttrs T)(slot:Slot T name id)(hty:typeOf (.builtin id)=pure (.type "method_descriptor")) (hm:KI X id r) (ho:PE X o to) (ha:PA X (e::es) t)
  (hbase:attributeBase o name X.env (eval o X.env)=eval o X.env:=by rfl)
  (hfew:((backTo cpos (bm (e::es) X.env)).all (λx=>!x.1)&&(backToKw cpos (keywordEach [] X.env)).all (λx=>x.1.isSome)
   &&decide ((e::es).length+([]:List Keyword).length+(if([]:List Keyword).isEmpty then 0 else 1)<30))=true:=by rfl)
  (hline:(apos.endLine ==cpos.line)=true:=by rfl) (hs:bm (e::es) X.env=(false,eval e X.env)::bm es X.env:=by rfl) (hplain:(backTo cpos (bm es X.env)).any (·.1)=false:=by rfl):
  PE X (.Call (.Attribute o name apos) (e::es) [] cpos) (NF X.K T r to t):=by
 intro Y s U H Q I h;refine wpAny_Call_method_late hbase hfew hline rfl (bW (ho Y s U H _ I h) λv s1 ⟨x,H1,I1,r1,ty,q1⟩=>?_);obtain⟨h1,h2⟩:=uA I1 r1 ty;refine⟨T,id,pa,slot,hty,h1,h2,?_⟩;have hA:=ha cpos Y s1 U H1 _ I1 q1;rw[hs]at hA⊢;refine Calls.callWith_builtin (by show(false||(backTo cpos (bm es X.env)).any (·.1))=false;rw[hplain]<;>rfl) (Calls.evalArgs_plain ?_);exact bW hA λus s2 ⟨vs,H2,I2,r2,q2⟩=>hm Y s2 U H2 x vs v us Q I2 r1 r2 q2
/- xs.append(e),list.index on a module's tuple .. are KI facts of 06m -/
end
abbrev M4 (X:Cx)(id:String)(r:V->List V->Hp->VK->Prop):Prop:=
 ∀ (Y:NY) (s:Shared) (U:St) (H:Hp) (x:V) (xs:List V) (v:Value) (us:List Value) (Q:VK),Inv X Y U H s->RelV x v->Vals xs us->r x xs H Q->
  wpAny 0e0 X.A (call (.builtin id) (v::us)) (EP X Y U Q) X.xe s
def Vals.one:∀ {x:V}{us:List Value},Vals [x] us->∃ u,us=[u]/\RelV x u
 |_,_,.cons r .nil=>⟨_,rfl,r⟩
def Vals.zero:∀ {us:List Value},Vals [] us->us=[]
 |_,.nil=>rfl
def Vals.eraseIdx:∀ {xs:List V}{us:List Value}(i:Nat),Vals xs us->Vals (xs.eraseIdx i) (us.eraseIdx i)
 |_,_,_,.nil=>.nil
 |_,_,0,.cons _ t=>t
 |_,_,i+1,.cons r t=>.cons r (Vals.eraseIdx i t)
variable {us:List Value}
def Vals.reverse {xs:List V}(h:Vals xs us):Vals xs.reverse us.reverse:=by
 induction h with
 |nil=>exact .nil
 |cons r t ih=>rw[List.reverse_cons,List.reverse_cons];exact Vals.append ih (.cons r .nil)
def Vals.rep {xs:List V}(h:Vals xs us):∀ k:Nat,Vals (sn k xs).flatten (sn k us).flatten
 |0=>.nil
 |k+1=>by
  rw[replicate_succ,replicate_succ,flatten_cons,flatten_cons];exact Vals.append h (Vals.rep h k)
def foldl_rep (its:List Value):∀ (k:Nat) (acc:List Value),
  List.foldl (λx1 x2=>x1++x2) acc.toArray (sn k its.toArray)=(acc++(sn k its).flatten).toArray
 |0,acc=>by simp
 |k+1,acc=>by
  have e:acc.toArray++its.toArray=(acc++its).toArray:=by simp
  have e2:(acc++its)++(sn k its).flatten=acc++(sn (k+1) its).flatten:=by
   rw[replicate_succ,flatten_cons,jp]
  rw[<-e2,<-foldl_rep its k (acc++its),<-e,replicate_succ,foldl_cons]
section
variable {X:Cx}{Y:NY}{U:St}{H:Hp}{s:Shared}{l b:Addr}{xs ys zs:List V}
def Inv.KZ {its its':List Value}{f:Array Value->Array Value}{t':Nat}(I:Inv X Y U H s)(hH:H l=some 4e8)
  (e:s.heap.get? l=some 5e7) (hf:f its.toArray=its'.toArray) (hv:Vals ys its') (hz:ys.length<=bn):
  Inv X Y U (upd H l (.lst ys)) { s with heap:=s.heap.update l (Obj.mapSeq f),toks:=t' }:=by
 have q:=PySem.IsL.update e f;rw[hf]at q;refine I.write (x:=l) (e:=l) (by rw[hH];exact trivial) 3e9 (λb' u hb hu=>(Heap.get?_update_other s.heap (Obj.mapSeq f) (Ne.symm hb)).trans hu) ⟨_,q⟩ ?_;exact⟨hz,its',_,hv,q⟩
def Inv.Jt {its:List Value}{t':Nat}(I:Inv X Y U H s)(hv:Vals ys its)(hz:ys.length<=bn):
  Inv X Y U (upd H s.heap.objs.size (.lst ys)) { s with heap:=s.heap.push { cls:=.type "list",data:=.seq its.toArray },toks:=t' }:=
 I.laid (λ_ _ q=>sK _ q) (pi _) ⟨hz,its,0,hv,ul _ rfl⟩
def Inv.fresh (I:Inv X Y U H s):H s.heap.objs.size=none:=I.hok.fresh (pi _)
def Inv.sQ (I:Inv X Y U H s)(hH:H l=some 4e8):xs.length<=bn/\∃ (its:List Value) (n:Nat),Vals xs its/\xs.length=its.length/\s.heap.get? l=some 5e7:=by
 obtain⟨z,its,n,r,e⟩:=I.hok l _ hH;exact⟨z,its,n,r,r.length,e⟩
def rl (h:n<=bn):Builtin.List.listTooLong n=false:=by
 unfold Builtin.List.listTooLong;exact decide_eq_false nofun
end
section
variable {X:Cx}
abbrev Dl:V->List V->Hp->VK->Prop:=λx vs H Q=>∃ l xs y,x=.ref l/\vs=[y]/\H l=some 4e8/\xs.length<bn/\Q .non (upd H l (.lst (xs++[y])))
def kj:M4 X "list.append" Dl:=by
 intro Y s U H x vs v us Q I rx rv h;obtain⟨l,xs,y,rfl,rfl,hH,hz,q⟩:=h;cases rx;obtain⟨u,rfl,ru⟩:=rv.one;obtain⟨z,its,n,r,hl,e⟩:=I.sQ hH;refine call_meets F.slot_list_append ⟨_,e,rfl⟩ F.entry_list_append (F.args_list_append_2 _ _) (PySem.list_append l its.toArray n u (by rw[ge];omega)) ⟨e,?_⟩;refine⟨.non,_,I.KZ (its':=its++[u]) hH e 2e5 (r.append (.cons ru .nil)) ?_,rfl,q⟩;rw[ci,f8]
 omega
abbrev Df:V->List V->Hp->VK->Prop:=λx vs H Q=>∃ l b xs zs,x=.ref l/\vs=[.ref b]/\H l=some 4e8/\H b=some (.lst zs)/\xs.length+zs.length<=bn/\Q .non (upd H l (.lst (xs++zs)))
def yH:M4 X "list.extend" Df:=by
 intro Y s U H x vs v us Q I rx rv h;obtain⟨l,b,xs,zs,rfl,rfl,hH,hB,hz,q⟩:=h;cases rx;obtain⟨u,rfl,ru⟩:=rv.one;cases ru;obtain⟨z,its,n,r,hl,e⟩:=I.sQ hH;obtain⟨z2,lD,n2,r2,hl2,e2⟩:=I.sQ hB;have hsz:its.toArray.size+lD.toArray.size<=bn:=by rw[ge,ge];omega
 have hlong:¬ (!its.toArray.isEmpty&&Builtin.List.listTooLong (its.toArray.size+lD.toArray.size))=true:=by
  rw[rl hsz,Bool.and_false];exact Bool.false_ne_true
 refine call_meets F.slot_list_extend ⟨_,e,rfl⟩ F.entry_list_extend (F.args_list_extend_2 _ _)
  (AutoSeq1.list_extend_list_list_0 l its.toArray n b lD.toArray n2 hlong (by rw[ge];omega) nofun) ⟨e,e2,?_⟩
 refine⟨.non,_,I.KZ (its':=its++lD) hH e 2e5 (r.append r2) ?_,rfl,q⟩;rw[ci]
 omega
abbrev LD:R2:=λx y H Q=>∃ l b xs zs,x=.ref l/\y=.ref b/\H l=some 4e8/\H b=some (.lst zs)/\xs.length+zs.length<=bn/\∀ p,H p=none->Q (.ref p) (upd H p (.lst (xs++zs)))
def Ik:cF X (binaryOp .Add) LD:=by
 intro Y s U H x y v u Q I rx ry h;obtain⟨l,b,xs,zs,rfl,rfl,hH,hB,hz,q⟩:=h;cases rx;cases ry;obtain⟨z,its,n,r,hl,e⟩:=I.sQ hH;obtain⟨z2,lD,n2,r2,hl2,e2⟩:=I.sQ hB;refine PySem.P.add_list e e2 ?_ (by rw[ge,ge];omega);have ea:its.toArray++lD.toArray=(its++lD).toArray:=by simp
 rw[ea];exact⟨.ref _,_,I.Jt (t':=s.toks) (r.append r2) (by rw[ci];omega),rfl,q _ I.fresh⟩
abbrev LZ:R2:=λx y H Q=>∃ l k xs,x=.ref l/\y=.int k/\H l=some 4e8/\ -(2 ^ 63)<=k/\k<2 ^ 63/\xs.length*k.toNat<=bn/\
 ∀ p,H p=none->Q (.ref p) (upd H p (.lst (sn k.toNat xs).flatten))
def len_rep (xs:List α)(k:Nat):(sn k xs).flatten.length=k*xs.length:=by
 induction k with
 |zero=>simp
 |succ k ih=>rw[replicate_succ,flatten_cons,ci,ih,Nat.succ_mul,Nat.add_comm]
def FX:cF X (binaryOp .Mult) LZ:=by
 intro Y s U H x y v u Q I rx ry h;obtain⟨l,k,xs,rfl,rfl,hH,h1,h2,hz,q⟩:=h;cases rx;obtain⟨t,rfl⟩:=ry;obtain⟨z,its,n,r,hl,e⟩:=I.sQ hH;have hlen:its.toArray.size*k.toNat<=bn:=by rw[ge,<-hl];exact hz
 have hcap:¬ its.toArray.size*k.toNat>(2 ^ 63-1) / 8:=by
  have:(bn:Nat)<=(2 ^ 63-1) / 8:=by decide
  omega
 have hfit:¬ (!Builtin.List.listFitsIndex k)=true:=by
  rw[fitsIndex_both h1 h2];exact Bool.false_ne_true
 have hlong:¬ Builtin.List.listTooLong (its.toArray.size*k.toNat)=true:=by
  rw[rl hlen];exact Bool.false_ne_true
 have hnew:List.foldl (λx1 x2=>x1++x2) #[] (sn (if its.toArray.isEmpty=true then 0 else k.toNat) its.toArray)=(sn k.toNat its).flatten.toArray:=by
  have f0:∀ m:Nat,List.foldl (λx1 x2=>x1++x2) #[] (sn m its.toArray)=(sn m its).flatten.toArray:=λm=>by
   have:=foldl_rep its m [];rw[nil_append]at this;exact this
  rw[f0];cases its with
  |nil=>simp
  |cons a r'=>rw[if_neg 2e5]
 refine wpAny_binaryOp_repeat_ref (T:="list") (U:="int") 1e1 ⟨_,e,rfl⟩ (λs'=>typeIs_int s' k t) noFill_list_mul F.fills_int_mul F.slot_int_rmul repeat_list F.slot_int_index.lookup
  (call_meets F.slot_int_rmul (typeIs_int s k t) F.entry_int_rmul (F.args_int_rmul_2 _ _) (int___rmul___int_list k t l its.toArray n)
   ⟨e,rfl,⟨_,e,rfl⟩,call_meets F.slot_list_mul ⟨_,e,rfl⟩ F.entry_list_mul (F.args_list_mul_2 _ _) (AutoListH.list___mul___list_int_3 l its.toArray n k t hfit hcap hlong) ⟨e,?_⟩⟩)
 rw[hnew];exact⟨.ref _,_,I.Jt (t':=s.toks) (r.rep k.toNat) (by rw[len_rep,Nat.mul_comm];exact hz),rfl,q _ I.fresh⟩
end
section
variable {prog:Program}{w:World}{A:Around}{E:NX}{s:Shared}
set_option maxRecDepth 100000 in
end
section
variable {X:Cx}
end
variable {o:Option V}
section
variable {κ:Type} [DecidableEq κ]
abbrev g8 (kvs:List (κ×V))(k:κ):Option V:=(kvs.find? λkv=>decide (kv.1=k)).map (·.2)
abbrev putK (kvs:List (κ×V))(k:κ)(v:V):List (κ×V):=
 if(kvs.any λkv=>decide (kv.1=k))=true then kvs.map (λkv=>if kv.1=k then(kv.1,v) else kv) else kvs++[(k,v)]
def mN {p:κ×V}{r:List (κ×V)}{k:κ}(e:p.1=k):g8 (p::r) k=some p.2:=by simp[g8,find?_cons,e]
def mV {p:κ×V}{r:List (κ×V)}{k:κ}(e:¬ p.1=k):g8 (p::r) k=g8 r k:=by simp[g8,find?_cons,e]
def sW (k:κ):∀ kvs:List (κ×V),(kvs.any λkv=>decide (kv.1=k))=(g8 kvs k).isSome
 | []=>rfl
 |p::r=>by
  rw[any_cons]
  by_cases e:p.1=k
  .simp only[mN e,decide_eq_true e,Bool.true_or,Option.isSome_some]
  .rw[mV e,decide_eq_false e,Bool.false_or];exact sW k r
def fM (kvs:List (κ×V))(k:κ)(v:V):(putK kvs k v).length<=kvs.length+1:=by
 unfold putK
 split
 .rw[ce];omega
 .rw[ci,length_cons,length_nil];omega
def dS.xl {u:Option Value}(r:dS o u):o.isSome=u.isSome:=by
 cases o with
 |none=>cases u with
  |none=>rfl
  |some _=>exact(show False from r).elim
 |some _=>cases u with
  |none=>exact(show False from r).elim
  |some _=>rfl
def KV.val {kvs:List (κ×V)}{vs:List (κ×Value)}(r:KV kvs vs)(k:κ):dS (g8 kvs k) (valueAt vs k):=by
 unfold KV at r
 induction r with
 |nil=>exact True.intro
 | @cons p q ps qs h t ih=>
  obtain⟨h1,h2⟩:=h
  by_cases e:p.1=k
  .have e':q.1=k:=h1.symm.trans e;have b:valueAt (q::qs) k=some q.2:=by simp[valueAt,find?_cons,e']
   rw[mN e,b];exact h2
  .have e':¬ q.1=k:=λz=>e (h1.trans z)
   have b:valueAt (q::qs) k=valueAt qs k:=by simp[valueAt,find?_cons,e']
   rw[mV e,b];exact ih
def KV.any {kvs:List (κ×V)}{vs:List (κ×Value)}(r:KV kvs vs)(k:κ):(kvs.any λkv=>decide (kv.1=k))=vs.any λkv=>decide (kv.1=k):=by
 unfold KV at r
 induction r with
 |nil=>rfl
 |cons h t ih=>rw[any_cons,any_cons,ih,h.1]
def KV.GU {kvs:List (κ×V)}{vs:List (κ×Value)}(r:KV kvs vs)(k:κ)(ry:RelV y u):
  KV (kvs.map λkv=>if kv.1=k then(kv.1,y) else kv) (vs.map λkv=>if kv.1=k then(kv.1,u) else kv):=by
 unfold KV at r⊢
 induction r with
 |nil=>exact .nil
 | @cons p q ps qs h t ih=>
  rw[map_cons,map_cons];refine .cons ?_ ih;obtain⟨h1,h2⟩:=h
  by_cases e:p.1=k
  .rw[if_pos e,if_pos (h1.symm.trans e)];exact⟨h1,ry⟩
  .rw[if_neg e,if_neg (λz=>e (h1.trans z))];exact⟨h1,h2⟩
def KV.put {kvs:List (κ×V)}{vs:List (κ×Value)}(r:KV kvs vs)(k:κ)(ry:RelV y u):KV (putK kvs k y) (stored vs k u):=by
 unfold putK stored;rw[r.any k]
 by_cases e:(vs.any λkv=>decide (kv.1=k))=true
 .rw[if_pos e,if_pos e];exact r.GU k ry
 .rw[if_neg e,if_neg e];exact Paired.snoc r ⟨rfl,ry⟩
def KV.length {kvs:List (κ×V)}{vs:List (κ×Value)}(r:KV kvs vs):kvs.length=vs.length:=Paired.length r
end
variable {P:Program}{w:World}
def oy {k:Key}(r:RelV (kV k) u):(aF P w).is k u=true:=by
 cases k with
 |inl i=>obtain⟨t,e⟩:=(show ∃ t,u=Value.int i t from r);subst e;exact sU P w i t
 |inr x=>obtain⟨t,e⟩:=(show ∃ t,u=Value.str x t from r);subst e;exact sZ P w x t
def pF {P:Program}{w:World}:∀ {ks:List Key}{us:List Value},Vals (ks.map kV) us->ItemsAre (aF P w) ks us
 | [],_,r=>by rw[List.map_nil]at r;cases r;exact .nil
 |k::ks,_,r=>by
  rw[map_cons]at r;cases r with
  |cons h t=>exact .cons (oy h) (pF t)
@[reducible]def KT (H:Hp):List (List Key×V)->List (List Key×Addr×Value)->Prop:=Paired λp q=>p.1=q.1/\H q.2.1=some (.tup (p.1.map kV))/\RelV p.2 q.2.2
variable {xs:List (List Key×Addr×Value)}{kvs:List (List Key×V)}
def KT.val (r:KT H kvs xs)(k:List Key):dS (g8 kvs k) ((atKey xs k).map (·.2)):=by
 induction r with
 |nil=>exact True.intro
 | @cons p q ps qs h t ih=>
  obtain⟨h1,_,h2⟩:=h
  by_cases e:p.1=k
  .have e':q.1=k:=h1.symm.trans e;have b:atKey (q::qs) k=some q.2:=by simp[atKey,find?_cons,e']
   rw[mN e,b];exact h2
  .have e':¬ q.1=k:=λz=>e (h1.trans z)
   have b:atKey (q::qs) k=atKey qs k:=by simp[atKey,find?_cons,e']
   rw[mV e,b];exact ih
def KT.GU (r:KT H kvs xs)(k:List Key)(ry:RelV y u):
  KT H (kvs.map λkv=>if kv.1=k then(kv.1,y) else kv) (xs.map (putAt k u)):=by
 induction r with
 |nil=>exact .nil
 | @cons p q ps qs h t ih=>
  rw[map_cons,map_cons];refine .cons ?_ ih;obtain⟨h1,h2,h3⟩:=h;unfold putAt
  by_cases e:p.1=k
  .rw[if_pos e,if_pos (h1.symm.trans e)];exact⟨h1,h2,ry⟩
  .rw[if_neg e,if_neg (λz=>e (h1.trans z))];exact⟨h1,h2,h3⟩
def KT.put (r:KT H kvs xs)(k:List Key){b:Addr}(hb:H b=some (.tup (k.map kV)))(ry:RelV y u):
  KT H (putK kvs k y) (storedH xs k b u):=by
 have e:(kvs.any λkv=>decide (kv.1=k))=(atKey xs k).isSome:=by
  rw[sW,(r.val k).xl,Option.isSome_map]
 unfold putK storedH;rw[e]
 by_cases q:(atKey xs k).isSome=true
 .rw[if_pos q,if_pos q];exact r.GU k ry
 .rw[if_neg q,if_neg q];exact Paired.snoc r ⟨rfl,hb,ry⟩
variable {H':Hp}
def KT.keeps (r:KT H kvs xs)(ht:∀ b ys,H b=some (.tup ys)->H' b=some (.tup ys)):KT H' kvs xs:=
 Paired.Gr r λ_ _ z=>⟨z.1,ht _ _ z.2.1,z.2.2⟩
section
variable {P:Program}{w:World}{H:Hp}{h:Heap}{a:Addr}
def Fh {u:HO}(ok:iM P w H h)(e:Rd H a u):aQ P w H h a u:=e.ok ok
def pA {kvs:List (Key×V)}(ok:iM P w H h)(e:Rd H a (.dK kvs)):kvs.length<=bn/\(a ==sysModules)=false/\∃ vs,KV kvs vs/\h.DictOf (aF P w) a vs:=
 show aQ P w H h a (.dK kvs) from Fh ok e
def vx {kvs:List (Key×V)}(ok:iM P w H h)(e:H a=some (.dK kvs)):kvs.length<=bn/\(a ==sysModules)=false/\∃ vs,KV kvs vs/\h.DictOf (aF P w) a vs:=pA ok (.inl e)
def uH {ks:List Key}(ok:iM P w H h)(e:H a=some (.tup (ks.map kV))):(tupleKind (aF P w)).is h ks a:=by
 obtain⟨_,its,r,o,h1,h2,n,h3⟩:=(show aQ P w H h a (.tup (ks.map kV)) from ok a _ e);exact⟨o,its.toArray,n,h1,h2,h3,by simpa using pF r⟩
def zK (ok:iM P w H h)(e:Rd H a (.dT kvs)):kvs.length<=bn/\(a ==sysModules)=false/\
  ∃ xs,KT H kvs xs/\h.DictOfH (tupleKind (aF P w)) a xs:=by
 obtain⟨z,y,xs,r,o,es,ep,h1,h2,h3,h4,h5⟩:=(show aQ P w H h a (.dT kvs) from Fh ok e);refine⟨z,y,xs,r,o,es,ep,h1,h2,h3,h4,λx hx=>?_,h5⟩;have all:∀ {l:List (List Key×V)}{m:List (List Key×Addr×Value)},KT H l m->∀ x ∈ m,(tupleKind (aF P w)).is h x.1 x.2.1:=by
  intro l m q
  induction q with
  |nil=>intro x hx;exact nomatch hx
  | @cons p q ps qs hq t ih=>
   intro x hx;rcases mo.mp hx with e|hx
   .subst e;exact uH ok (by rw[<-hq.1];exact hq.2.1)
   .exact ih x hx
 exact all r x hx
def Km (ok:iM P w H h)(e:H a=some (.dT kvs)):kvs.length<=bn/\(a ==sysModules)=false/\
  ∃ xs,KT H kvs xs/\h.DictOfH (tupleKind (aF P w)) a xs:=zK ok (.inl e)
end
abbrev GC (H:Hp)(a:Addr)(y:V)(r:Option V):Prop:=
 (∃ kvs k,Rd H a (.dK kvs)/\y=kV k/\r=g8 kvs k)\/∃ kvs k b,Rd H a (.dT kvs)/\y=.ref b/\H b=some (.tup (k.map kV))/\r=g8 kvs k
abbrev JK (H:Hp)(a:Addr)(y v:V)(H':Hp):Prop:=
 (∃ kvs k,H a=some (.dK kvs)/\y=kV k/\kvs.length<bn/\H'=upd H a (.dK (putK kvs k v)))\/
 ∃ kvs k b,H a=some (.dT kvs)/\y=.ref b/\H b=some (.tup (k.map kV))/\kvs.length<bn/\H'=upd H a (.dT (putK kvs k v))
section
variable {X:Cx}{Y:NY}{U:St}{H:Hp}{s:Shared}{a:Addr}{y v:V}{u r:Value}{o:Option V}{A:Around}{E:NX}
def Inv.big (I:Inv X Y U H s):sysModules<s.heap.objs.size:=by
 have h:mainGlobals<s.heap.objs.size:=(I.mod.glob.keeps I.bk).lt;exact Nat.lt_trans 1e1 h
def xF {Q:NX}(hu:A.units+1<cLine)(I:Inv X Y U H s)(g:GC H a y (some v))(ry:RelV y u)(h:∀ w' s',Inv X Y U H s'->RelV v w'->Q w' s'):
  wpAny 0e0 A (getItem 3e6 u) Q E s:=by
 rcases g with⟨kvs,k,e,ey,l⟩|⟨kvs,k,b,e,ey,eb,l⟩
 .subst ey;obtain⟨z,hd,vs,rel,dd⟩:=pA I.hok e;obtain⟨w',hw,rw'⟩:=dS.some_of (v:=v) (o:=valueAt vs k) (by rw[l];exact rel.val k);exact wpAny_getItem_of (oy ry) dd.mapOf hw (h w' _ (I.tok _) rw')
 .subst ey;cases(show u=Value.ref b from ry);obtain⟨z,hd,xs,rel,dd⟩:=zK I.hok e;obtain⟨w',hw,rw'⟩:=dS.some_of (v:=v) (o:=(atKey xs k).map (·.2)) (by rw[l];exact rel.val k);obtain⟨p,hp,hp2⟩:=nl.mp hw;refine wpAny_getItem_heap (tupleKind_room_in1 hu) (uH I.hok eb) dd hp ?_;rw[hp2];exact h w' _ (I.tok _) rw'
def qk {h':Heap}{t':Nat}{ob:HO}(I:Inv X Y U H s)(mu:IS (H a))(hs:Heap.SameBut a s.heap h')(he:∃ q,h'.get? a=some q) (new:aQ X.prog X.w (upd H a ob) h' a ob):
  Inv X Y U (upd H a ob) 5e0:=
 I.write (x:=a) (e:=a) mu 3e9 (λb q hb z=>(hs.2 b hb).trans z) he new
def ud {h':Heap}{kvs:List (Key×V)}{vs:List (Key×Value)}(z:kvs.length<=bn)(hd:(a ==sysModules)=false)(rel:KV kvs vs)(dd:h'.DictOf (aF P w) a vs):
  aQ P w H' h' a (.dK kvs):=⟨z,hd,vs,rel,dd⟩
def xx {Q:NW}(hu:A.units+1<cLine)(I:Inv X Y U H s)(g:JK H a y v H')(ry:RelV y u)(rv:RelV v r)(h:∀ s',Inv X Y U H' s'->Q () s'):
  wpAny 0e0 A (setItem 3e6 u r) Q E s:=by
 rcases g with⟨kvs,k,e,ey,l,eH⟩|⟨kvs,k,b,e,ey,eb,l,eH⟩
 .subst ey eH;obtain⟨z,hd,vs,rel,dd⟩:=vx I.hok e;have hz:vs.length<=bn:=by rw[<-rel.length];exact z
  have hl:(putK kvs k v).length<=bn:=by have:=fM kvs k v;omega
  refine wpAny_setItem_pairs (hsz:=hz) (oy ry) dd λh' dd' hs=>h _ ?_
  have he:∃ q,h'.get? a=some q:=let⟨q,_,_,hq,_⟩:=dd';⟨q,hq⟩;exact qk I (by rw[e];exact True.intro) hs he (ud hl hd (rel.put k rv) dd')
 .subst ey eH;cases(show u=Value.ref b from ry);obtain⟨z,hd,xs,rel,dd⟩:=Km I.hok e;have hz:xs.length<=bn:=by rw[<-Paired.length rel];exact z
  have hl:(putK kvs k v).length<=bn:=by have:=fM kvs k v;omega
  refine wpAny_setItem_heap (hsz:=hz) (tupleKind_room_in1 hu) (uH I.hok eb) dd λh' dd' hs=>h _ ?_
  obtain⟨q,es,ep,hq,h2,h3,h4,_,h5⟩:=dd';refine qk I (by rw[e];exact True.intro) hs ⟨q,hq⟩ ⟨hl,hd,_,(rel.put k eb rv).keeps λc ys ec=>?_,q,es,ep,hq,h2,h3,h4,h5⟩;rw[aj (JE ec e (λz=>nomatch z))];exact ec
end
section
variable {X:Cx}{Y:NY}{U:St}{H:Hp}{s:Shared}{a:Addr}{kvs:List (Key×V)}{k:Key}{u:Value}{A:Around}{E:NX}
end
def rH {X:Cx}{a:Addr}(I:Inv X Y U H s)(g:GC H a y o):s.TypeIs 3e6 "dict":=by
 rcases g with⟨kvs,k,e,_,_⟩|⟨kvs,k,b,e,_,_,_⟩
 .obtain⟨_,_,vs,_,dd⟩:=pA I.hok e;exact dd.typeIs
 .obtain⟨_,_,xs,_,dd⟩:=zK I.hok e;exact dd.typeIs
section
variable {X:Cx}{o i e value:Expr}{pos pos' tpos:Pos}{td ty tv:TE}
end
def zM (h:Heap)(hb:sysModules<h.objs.size):aQ P w H (h.push 2e9) h.objs.size (.dK []):=
 ⟨Nat.zero_le _,beq_eq_false_iff_ne.mpr (Ne.symm (pc hb)),[],.nil,Heap.DictOf.new h⟩
section
variable {X:Cx}{pos:Pos}
end
section
variable {X:Cx}{Y:NY}{U:St}{H:Hp}{s:Shared}{a:Addr}{y d:V}{u r:Value}{o:Option V}{A:Around}{E:NX}
end
section
variable {X:Cx}{o e f:Expr}{apos cpos:Pos}{td ty tx:TE}
end
section
variable {X:Cx}{Y:NY}{U:St}{H:Hp}{s:Shared}{a:Addr}{kvs:List (Key×V)}{A:Around}{E:NX}
end
section
variable {X:Cx}{Y:NY}{U:St}{H:Hp}{s:Shared}{a:Addr}{y:V}{u:Value}{A:Around}{E:NX}
end
end L2
namespace Att
open PySem PySem.W PySem.Calls PyProof.Rows
variable {P:Params}
def lA {h:Heap}:∀ (ns:List Int) (vs:List Value),WellAll P h vs (ns.map WData.int)->IntsAre vs ns:=by
 intro ns
 induction ns with
 |nil=>
  intro vs w;rw[List.map_nil]at w;cases w;exact .nil
 |cons n ns ih=>
  intro vs w;rw[map_cons]at w;cases w with
  |cons a b=>
   cases a;exact .cons _ _ (ih _ b)
variable {l:OpenLaw}
def yV {n:Nat}(hn:l.most=some n){h:Heap}{args:List WData}{vals:List Value}
  (hpre:l.row.toRowW.claim.pre args=true) (hwl:WellAll P h vals args):
  ∃ a vs ns,vals=[Value.ref a]/\args=[WData.list (ns.map WData.int)]/\h.get? a=some { cls:=.type "list",data:=.seq vs.toArray }/\IntsAre vs ns/\ns.length<=n:=by
 have hsh:WShape.hasAll [] args [.list .int]=true:=(pre_splitW hpre).1;have hc:l.pre.holds [] { args:=args }=true:=(pre_splitW hpre).2;obtain⟨d,r,rfl,h1,h2⟩:=hasAllW_cons hsh;obtain rfl:=hasAllW_nil h2;obtain⟨xs,rfl,h3⟩:=hasW_list h1;obtain⟨ns,rfl⟩:=items_int h3;have hlen:ns.length<=n:=by
  unfold OpenLaw.pre at hc;have h4:(WTm.not (.lt (.lit (.int (n:Int))) (.len (.arg 0)))).holds [] { args:=[.list (ns.map .int)] }=true:=by
   have h4:=(holds_andW hc).1;rw[hn]at h4;exact h4
  have h5:=condW_of h4 (w_not (w_lt w_lit (w_len_list (w_arg rfl))));rw[ce]at h5;refine Nat.le_of_not_lt λq=>?_
  have q':(n:Int)<((ns.length:Nat):Int):=by omega
  first
   |(rw[decide_eq_true q']at h5;exact absurd h5 1e1)
   |(simp at h5;omega)
 cases hwl with
 |cons w1 w2=>
  cases w2;cases w1 with
  |list ho hall=>exact⟨_,_,ns,rfl,rfl,ho,lA ns _ hall,hlen⟩
def yw (l:OpenLaw)(args:List WData):l.row.toRowW.claim.post args (.bool true) args=true:=
 postW_of (r:=l.row.toRowW) (X:=(true ==true))
  (show WShape.has [] (.bool true) .bool=true by first|rfl|decide|simp[WShape.has,WShape.arms,WShape.armsAll])
  (show(WTm.eq .res (.lit (.bool true))).value [] { args:=args,res:=some (.bool true),after:=args }=some (.bool (true ==true)) from w_eq_bool (w_res rfl) w_lit) rfl
def rZ {n:Nat}{q:Program}{loose:List Str}{XP:(Str->Option Value)->Heap->Prop}{YP:World->Heap->Prop}{d:DefRec}
  (hn:l.most=some n) (hdf:d.params.defaults=[])
  (call:∀ (w:World) (s₀ s₁:Shared) (mg mb:NZ) (fa:Addr) (o:Obj) (pm cd doc:Value) (a:Addr) (vs:List Value) (ns:List Int),
   Ground q loose [] XP w s₀ mg mb s₁.heap->YP w s₁.heap->
   s₁.heap.get? fa=some o->o.data=.func (docDef d.name d.params d.body d.scope pm cd doc)->s₁.heap.CodeRec cd d.name->mg d.name=some (.ref fa)->
   s₁.heap.get? a=some { cls:=.type "list",data:=.seq vs.toArray }->IntsAre vs ns->ns.length<=n->s₁.gens=#[]->
   codeAny (model l.prog w) callerA (.call (.ref fa) ⟨[.ref a],[]⟩) (λr s'=>r=.ok (.ret (.bool true))/\OldK s₁.heap s'.heap/\s'.os=s₁.os/\AllBare s'.gens) s₁):
  WalkO q loose XP YP l.row.toRowW d [] (λf vs=>PySem.call f vs):=by
 intro w s₀ s₁ mg mb G Y fa o pm cd doc dV kV ho hd hcd hD hmg hg args vals as hpre hlay hrd hwl hlo;obtain rfl:dV=.none:=Dflts.none hD hdf;obtain rfl:kV=.none:=Dflts.noKw hD;obtain⟨a,vs,ns,rfl,rfl,hobj,hints,hlen⟩:=yV hn hpre hwl;refine enter_call (codeAny_mono (call w s₀ s₁ mg mb fa o pm cd doc a vs ns G Y ho (fd_plain hd) hcd hmg hobj hints hlen hg) λr s' hq=>?_);obtain⟨rfl,h2,h3,h4⟩:=hq;exact⟨.inl ⟨.bool true,.bool true,[],rfl,λ_=>rfl,.bool true,yw l _,λ_=>⟨List.Pairwise.nil,λ_ hm=>(nomatch hm)⟩⟩,h2,h3,h4⟩
section
variable {prog:Program}{w:World}{A:Around}{E:NX}{s:Shared}{K:Frag}
end
end Att
namespace L2
open PySem PySem.Spec PyProof.Rows
def oO:∀ {vs:List Value}{ns:List Int},IntsAre vs ns->Vals (ns.map V.int) vs
 |_,_,.nil=>.nil
 |_,_,.cons n t h=>.cons ⟨t,rfl⟩ (oO h)
abbrev Iy (H:Hp):Prop:=∀ b,H b=none\/∃ o xs,H b=some (.nu o 4e8)
set_option tactic.hygienic true in
def A0 {P:Program}{w:World}{K:W.Frag}{mg mb:NZ}{CX:vf}{k:Nat}{fa a:Addr}{fd:FuncData}{x:Str}{sp:Sp}{s₁:Shared}{vs:List Value}{ns:List Int}
  (KX:K.In s₁.heap) (hns:s₁.heap.Ns mainGlobals mg) (hb:s₁.heap.Ns builtinsNs mb) (hbb:∀ x:Str,x≠"__name__"->mb x=bootBuiltins x) (hlim:s₁.heap.NoLimit) (hg:s₁.gens=#[])
  (ha:s₁.heap.get? a=some { cls:=.type "list",data:=.seq vs.toArray }) (hi:IntsAre vs ns) (hl:ns.length<=bn) (hr:cg k callerA)
  (F:∀ base:Heap,K.In base->base.Ns mainGlobals mg->dQ true P w K mg base CX k fa fd [x] sp) (hbind:∀ (s:Shared) (u:Value),BindsTo s fd ⟨[u],[]⟩ [(x,u)])
  (hsp:∀ H:Hp,Iy H->bB K H a (ns.map V.int)->sp [.ref a] H (λv _=>v=.bl true) λ_ _=>False)
  (hCX:∀ H e s',CX [] H s₁ (λ_ _=>False) e s'->False):
  codeAny (model P w) callerA (.call (.ref fa) ⟨[.ref a],[]⟩) (λr s'=>r=.ok (.ret (.bool true))/\OldK s₁.heap s'.heap/\s'.os=s₁.os/\AllBare s'.gens) s₁:=by
 have rv:=oO hi;have lenV:=hi.length;have core:∀ H:Hp,Iy H->bB K H a (ns.map V.int)->iM P w H s₁.heap->(∀ b,H b≠none->b=a)->(H a≠none->K.lookup a=none)->
   codeAny (model P w) callerA (.call (.ref fa) ⟨[.ref a],[]⟩) (λr s'=>r=.ok (.ret (.bool true))/\OldK s₁.heap s'.heap/\s'.os=s₁.os/\AllBare s'.gens) s₁:=by
  intro H hO hS hok hA hK;have base_of:∀ {b:Addr}{o:Obj},s₁.heap.get? b=some o->H b=none->(pJ s₁.heap H).get? b=some o:=λe n=>B4 e n
  have noA:∀ {b:Addr}{o:Obj}{es:Array DictEntry}{ep:Nat},s₁.heap.get? b=some o->o.data=.dict es ep->H b=none:=λ{b o es ep} e d=>by
   cases q:H b with
   |none=>rfl
   |some u=>
    have e':b=a:=hA b (by rw[q];simp);subst e';rw[ha]at e;cases e;have d':Data.seq vs.toArray _=Data.dict es ep:=d;cases d'
  have nsK:∀ {b:Addr}{m:NZ},s₁.heap.Ns b m->(pJ s₁.heap H).Ns b m:=λ{b m} ⟨o,es,ep,e,d,r⟩=>⟨o,es,ep,base_of e (noA e d),d,r⟩
  have hKb:K.In (pJ s₁.heap H):=λb o e=>base_of (KX b o e) (by
   cases q:H b with
   |none=>rfl
   |some u=>
    have e':b=a:=hA b (by rw[q];simp);subst e';rw[hK (by rw[q];simp)]at e;cases e)
  have hM:Mod K mg (pJ s₁.heap H):=⟨hKb,nsK hns,⟨mb,nsK hb,hbb⟩,let⟨mc,h1,h2⟩:=hlim;⟨mc,nsK h1,h2⟩⟩;have e0:tY P w K mg (pJ s₁.heap H) callerA [] s₁ H:=⟨rfl,hM,λb o e=>D9 e,Nat.le_of_eq (xD _ _),trivial,λb hb=>absurd (show b ∈ ([]:List Addr) from hb) 2e5,hok,.of_eq hg⟩;refine codeAny_mono ((F _ hKb (nsK hns)).run callerA [] s₁ H ⟨[.ref a],[]⟩ [.ref a] [.ref a] _ _ hr rfl e0 (hbind s₁ 3e6) (.cons rfl .nil) (hsp H hO hS)) λr s' h=>?_
  cases r with
  |error e=>exact(hCX H e s' h).elim
  |ok fl=>
   cases fl with
   |next=>exact False.elim h
   |brk=>exact False.elim h
   |cont=>exact False.elim h
   |ret u=>
    obtain⟨v,H',os,bare,un,hok',r',q⟩:=h;have q':v=.bl true:=q;subst q';obtain rfl:u=Value.bool true:=r';refine⟨rfl,OldK.of_keep λb o e=>?_,os,bare⟩;cases q:H b with
    |none=>exact un.keep b o e q (by intro z;exact absurd (show b ∈ ([]:List Addr) from z) 2e5) 2e5
    |some u=>
     rcases hO b with z|⟨ob,xs,z⟩
     .rw[q]at z;cases z
     .have z2:=un.frzs b (.nu ob _) True.intro z;obtain⟨e1,_⟩:=hok b _ z;obtain⟨e2,_⟩:=hok' b _ z2;rw[e]at e1;cases e1;exact e2
 cases hk:K.lookup a with
 |some o=>
  have e:=KX a o hk;rw[ha]at e;cases e;refine core (λ_=>none) (λ_=>.inl rfl) (.inr ⟨_,vs.toArray,_,hk,rfl,rfl,rfl,by rw[ge,lenV];exact hl,by simpa using rv⟩) (λb u z=>by have z':(none:Option HO)=some u:=z;cases z') (λb z=>absurd rfl z) λz=>absurd rfl z
 |none=>
  refine core (λb=>if b=a then some (.nu { cls:=.type "list",data:=.seq vs.toArray } (.lst (ns.map V.int))) else none) (λb=>?_) (.inl (.inr ⟨{ cls:=.type "list",data:=.seq vs.toArray },if_pos rfl⟩)) (λb u z=>?_) (λb z=>?_) λ_=>hk
  .by_cases hb:b=a
   .exact .inr ⟨_,_,if_pos hb⟩
   .exact .inl (if_neg hb)
  .by_cases hb:b=a
   .have z':=(if_pos hb).symm.trans z;cases z';subst hb;exact⟨ha,by rw[ce];exact hl,vs,_,rv,ha⟩
   .have z':=(if_neg hb).symm.trans z;cases z'
  .by_cases hb:b=a
   .exact hb
   .exact absurd (if_neg hb) z
def DF {l:W.OpenLaw}{n k:Nat}{q:Program}{loose:List Str}{XP:(Str->Option Value)->Heap->Prop}{YP:World->Heap->Prop}{d:DefRec}{K:Params->W.Frag}{CX:World->vf}{sp:World->Sp}{x:Str}
  (hn:l.most=some n) (hn2:n<=bn) (hdf:d.params.defaults=[]) (hr:cg k callerA)
  (hY:∀ (w:World) (h:Heap),YP w h->(K w.params).In h)
  (F:∀ (w:World) (mg:NZ) (fa:Addr) (h:Heap),(K w.params).In h->h.Ns mainGlobals mg->mg d.name=some (.ref fa)->
   ∃ fd:FuncData,(∀ (s:Shared) (u:Value),BindsTo s fd ⟨[u],[]⟩ [(x,u)])/\
    ∀ base:Heap,(K w.params).In base->base.Ns mainGlobals mg->dQ true l.prog w (K w.params) mg base (CX w) k fa fd [x] (sp w))
  (hsp:∀ (w:World) (H:Hp) (a:Addr) (ns:List Int),ns.length<=n->Iy H->bB (K w.params) H a (ns.map V.int)->sp w [.ref a] H (λv _=>v=.bl true) λ_ _=>False)
  (hCX:∀ (w:World) (H:Hp) (s:Shared) (e:Value) (s':Shared),CX w [] H s (λ_ _=>False) e s'->False):
  W.WalkO q loose XP YP l.row.toRowW d [] (λf vs=>PySem.call f vs):=by
 refine Att.rZ hn hdf λw s₀ s₁ mg mb fa o pm cd doc a vs ns G Y ho hd hcd hmg hobj hints hlen hg=>?_
 have KX:=hY w _ Y;obtain⟨fd,hb,hF⟩:=F w mg fa _ KX G.T.g hmg;exact A0 KX G.T.g G.T.b G.T.builtins G.T.nolimit hg hobj hints (Nat.le_trans hlen hn2) hr hF hb (λH hO hS=>hsp w H a ns hlen hO hS) λH e s'=>hCX w H s₁ e s'
section
variable {P:Program}{w:World}{K:W.Frag}{mg:NZ}{base:Heap}
end
def eC {n:Nat}(h:n<=1000):n<bn:=Nat.lt_of_le_of_lt h 1e1
section
variable {X:Cx}
end
end L2
namespace L2
open PySem PySem.Spec PySem.W PyProof.Rows PySem.Builtin PySem.Builtin.ObjectAttr
variable {rs:List Addr}
section
variable {prog:Program}{w:World}{A:Around}{E:NX}{s:Shared}{K:W.Frag}{x C:Addr}{ox od:Obj}{name:Str}{expr:Bool}{v:Value}{Q:NX}
def sJ:builtinKind "BaseException.__getattribute__"=some .slot:=by decide+kernel
def oj:splitId "BaseException.__getattribute__"=some ("BaseException","__getattribute__"):=by decide+kernel
def DV (X:K.In s.heap)(I:W.InstAt s.heap x ox C (some od))(hga:W.findIn K 2e4 "__getattribute__"=some (some (.builtin "BaseException.__getattribute__"))) (hgn:W.findIn K 2e4 "__getattr__"=some none)
  (hb:W.mroIn K C (.type "BaseException")=some true) (hf:W.findObj K C (some od) name=some (.value v)) (hh:W.handedIn v=true) (h:Q v 4e6):
  wpAny 0e7 A (getAttr (.ref x) name expr) Q E s:=by
 obtain⟨hp,g,d,t,os⟩:=s;have L0:=I.type (M:=model prog w);have L1:=looks_findIn (M:=model prog w) X hga;have L2':=looks_findIn (M:=model prog w) X hgn;have L3:=looks_find (M:=model prog w) X I hf;have L4:Looks 0e7 hp (isInstance (.ref x) (.type "BaseException")) true:=I.type.andThen (looks_mroIn X hb);unfold getAttr getAttrBy;refine ad (wpAny_mkText (bd (ad (L0.at (ad (L1.at ?_))))));have e1:(Value.builtin "BaseException.__getattribute__" ==Value.builtin "object.__getattribute__")=false:=by decide+kernel
 dsimp only;rw[e1,Bool.and_false];show wpAny _ _ (getAttrByItsOwn _ _ _ _ _ _) _ _ _;unfold getAttrByItsOwn hookBefore;refine ad (L2'.at ?_);refine ad (wpAny_attempt (bd ?_));have e2:(expr&&onTheHeap (Value.builtin "BaseException.__getattribute__"))=false:=by cases expr<;>rfl
 unfold callGetattribute;rw[e2];show wpAny _ _ (boundAndCalled _ _ _) _ _ _;unfold boundAndCalled;rw[PySem.F.attr_ValueError.ga.bind];refine ad (am (wpAny_call (codeAny_call_builtin PySem.F.attr_ValueError.ga.plain PySem.F.entry_bexc_ga ?_)));refine @check_slot 0e7 _ _ _ "BaseException.__getattribute__" "BaseException" "__getattribute__" (.ref x) [.str name t] [] _ sJ oj L4 (PySem.F.args_bexc_ga (.ref x) (.str name t)) ?_;unfold Builtin.«object.__getattribute__»;refine ad (am (ad (am (ad (L0.at (ad (L3.at ?_)))))));refine am ?_;show wpAny _ _ (handedOut v) _ _ _;rw[handedOut_of hh];exact am h
abbrev Ab:Value->Bool
 | .ref _=>true
 |_=>false
abbrev cC:List Value:=[.type "ValueError",.type "Exception",.type "BaseException",.type "object"]
abbrev eT (l:List Value):Bool:=l.dropWhile Ab ==cC
def e9:∀ {l:List Value},eT l=true->∃ rs:List Addr,l=rs.map Value.ref++cC
 | [],e=>by cases e
 |c::r,e=>by
  by_cases h:Ab c=true
  .have e':eT r=true:=by
    unfold eT at e⊢;rw[List.dropWhile_cons_of_pos h]at e;exact e
   obtain⟨rs,q⟩:=e9 e';cases c with
   |ref a=>exact⟨a::rs,by rw[q];rfl⟩
   |_=>cases h
  .unfold eT at e;rw[List.dropWhile_cons_of_neg h]at e;exact⟨[],beq_iff_eq.mp e⟩
def nj (self:Value):∀ rs:List Addr,refuseLoop self "__setattr__" (rs.map Value.ref++cC)=pure ()
 | []=>PySem.F.store_ValueError.passes self
 |a::r=>by rw[map_cons,List.cons_append,refuseLoop_ref];exact nj self r
structure dw (K:W.Frag) (C:Addr):Prop where
 mt:W.typeIn K 2e4=some (.type "type")
 ov:(W.clsIn K C).any (λcd=>eT cd.mro)=true
 hd:W.hasDictIn K C=true
 ga:W.findIn K 2e4 "__getattribute__"=some (some (.builtin "BaseException.__getattribute__"))
 gn:W.findIn K 2e4 "__getattr__"=some none
 sa:W.findIn K 2e4 "__setattr__"=some (some (.builtin "object.__setattr__"))
def dw.mro (c:dw K C):∃ (cd:ClassData) (rs:List Addr),W.clsIn K C=some cd/\cd.mro=rs.map Value.ref++cC:=by
 obtain⟨cd,h1,h2⟩:=W.any_some c.ov;obtain⟨rs,h3⟩:=e9 h2;exact⟨cd,rs,h1,h3⟩
def rV (h:cC.contains v=true):(rs.map Value.ref++cC).contains v=true:=by
 rw[List.contains_eq_mem,decide_eq_true_eq]at h⊢;exact ii _ h
def vN:(rs.map Value.ref++cC).isEmpty=false:=by cases rs<;>rfl
def dw.sub (c:dw K C)(h:cC.contains v=true):W.mroIn K C v=some true:=by
 obtain⟨cd,rs,h1,h2⟩:=c.mro;unfold W.mroIn;rw[h1,Option.bind_some,h2,if_neg (by rw[vN];decide),rV h]
variable {R:Result->Shared->Prop}
def rX {tk:Tok}{odo:Option Obj}(X:K.In s.heap)(I:W.InstAt s.heap x ox C odo)(c:dw K C)(ht:W.findIn K 2e4 name=some none)
  (h:wpAny 0e7 A.in1 (storeInOwnDict (.ref x) 2e4 (.str name tk) name v false)
   (λfin s'=>match fin with| .done f=>R (.ok f) s'| .again c'=>c'.quiet=true/\codeAny 0e7 A c' R s') (λe s'=>R (.error e) s') s):
  codeAny 0e7 A (.call (.builtin "object.__setattr__") ⟨[.ref x,.str name tk,v],[]⟩) R s:=by
 have SF:=PySem.F.store_object;obtain⟨cd,rs,hc,hm⟩:=c.mro;have sub:Looks 0e7 s.heap (isInstance (.ref x) (.type "object")) true:=I.type.andThen (looks_mroIn X (c.sub 2e6));refine codeAny_call_builtin SF.slot.plain SF.entry (@check_slot 0e7 _ _ s "object.__setattr__" "object" "__setattr__" (.ref x) [.str name tk,v] [] _ SF.kind SF.split sub (SF.args (.ref x) (.str name tk) v) ?_);have hl:Looks 0e7 s.heap (mroOf 2e4) cd.mro:=(looks_clsIn X hc).andThen .now;rw[osa_eq,refuse_eq];refine ad (ad (I.type.here (ad (hl.here ?_))));rw[hm,nj];refine am (ad (I.type.here (ad ((looks_findIn X ht).here (ad (am ?_))))));exact h
end
variable {Q:NX}{u:Value}
section
variable {X:Cx}{Y:NY}{U:St}{H:Hp}{s:Shared}{a C dx:Addr}{fs:List (Str×V)}{f:Str}{v:V}{A:Around}{E:NX}{fr:Bool}
def xY {b:Bool}(I:Inv X Y U H s)(e:H a=some (.exc C (some dx) fs fr))(c:dw X.K C)(n:fX X.K C f)(l:fs.lookup f=some v)
  (h:∀ u s',Inv X Y U H s'->RelV v u->Q u s'):wpAny 0e0 A (getAttr 3e6 f b) Q E s:=by
 obtain⟨⟨vs,ho,_⟩,z⟩:=I.hok a _ e;rcases z with⟨z,_⟩|⟨d,ed,_,_,_,mA,hn,r,_⟩
 .cases z
 cases ed;obtain⟨u,hu,ru⟩:=dS.some_of (v:=v) (o:=mA f) (by rw[<-l];exact r f);obtain⟨od,hod,hl⟩:=j0 hn;refine DV (ox:={ cls:=.ref C,dict:=some dx,data:=.fields vs }) (od:=od) I.cp ⟨ho,rfl,rfl,hod⟩ c.ga c.gn (c.sub 2e6) (W.findObj_own c.hd n rfl (by rw[hl,hu])) (pd ru) (h u _ (I.tok _) ru)
def uB {y:V}{Q:NW}(I:Inv X Y U H s)(e:H a=some (.exc C (some dx) fs true))(c:dw X.K C)(n:fX X.K C f)(hl:fs.length<1000)(ry:RelV y u)
  (h:∀ s',Inv X Y U (upd H a (.exc C (some dx) (dv f y fs) true)) s'->Q () s'):wpAny 0e0 A (setAttr 3e6 f u) Q E s:=by
 obtain⟨⟨vs,ho,zz⟩,z⟩:=id (I.hok a _ e);rcases z with⟨z,_⟩|⟨d,ed,hown,_,hne,mA,hn,r,wi⟩
 .cases z
 cases ed;obtain⟨od,hod,hlk⟩:=j0 hn;have hz:(fs.map (·.1)).length<=bn:=by rw[ce,sizeLine_eq];omega
 have J:W.InstAt s.heap a { cls:=.ref C,dict:=some dx,data:=.fields vs } C (some od):=⟨ho,rfl,rfl,hod⟩;refine W.set_plain I.cp J c.sa (rX (s:=4e6) I.cp J c n ?_);obtain⟨cd,hc,hd'⟩:=W.any_some c.hd;refine ad (am (ad (ad (wpAny_loadPart ho (ad (W.Looks.here (s:=4e6) (W.looks_clsIn I.cp hc) ?_))))));rw[hd'];refine am (a:=some dx) (ad (am (ad ?_)));refine wpAny_nsSet1 (s:=4e6) hn λh' hn2 hs2=>?_
 obtain⟨oD,esD,epD,hoD,hdD,hcD⟩:=hn2.count (PySem.Within.cons f u wi);refine ad (wpAny_lookBehind hoD (by rw[hdD];exact pastItsLine_dict (Nat.le_trans hcD (by rw[length_cons];omega))) ?_);refine am (h _ ?_);refine I.write (x:=a) (e:=dx) (by rw[e];exact rfl) (.inr hown) (λb q hb z=>(hs2.2 b hb).trans z) ⟨oD,hoD⟩ ?_;refine⟨⟨vs,(hs2.2 _ (Ne.symm hne)).trans ho,zz⟩,.inr ⟨dx,rfl,by rw[aj hne];exact hown,?_,hne,_,hn2,λg=>?_,λg hg=>?_⟩⟩
 .have:=gj f y fs;omega
 .show dS ((dv f y fs).lookup g) (if g=f then some u else mA g);rw[gc]
  by_cases q:g=f
  .rw[if_pos q,if_pos q];exact ry
  .rw[if_neg q,if_neg q];exact r g
 .by_cases q:g=f
  .rw[q];exact(ef f y fs).1
  .refine(ef f y fs).2 g (wi g λz=>hg ?_);show(if g=f then some u else mA g)=none;rw[if_neg q];exact z
def ua {y:V}{Q:NW}(I:Inv X Y U H s)(e:H a=some (.exc C none fs true))(c:dw X.K C)(n:fX X.K C f)(ry:RelV y u)
  (h:∀ d s',H d=none->Inv X Y U (upd (upd H d (.own a)) a (.exc C (some d) [(f,y)] true)) s'->Q () s'):wpAny 0e0 A (setAttr 3e6 f u) Q E s:=by
 obtain⟨⟨vs,ho,zz⟩,z⟩:=id (I.hok a _ e);have hfs:fs=[]:=by
  rcases z with⟨_,z⟩|⟨d,ed,_⟩
  .exact z
  .cases ed
 subst hfs;have J:W.InstAt s.heap a { cls:=.ref C,dict:=none,data:=.fields vs } C none:=⟨ho,rfl,rfl,True.intro⟩;refine W.set_plain I.cp J c.sa (rX (s:=4e6) I.cp J c n ?_);obtain⟨cd,hc,hd'⟩:=W.any_some c.hd;refine ad (am (ad (ad (wpAny_loadPart ho (ad (W.Looks.here (s:=4e6) (W.looks_clsIn I.cp hc) ?_))))));rw[hd'];have hlt:=tz ho;have hxs:a≠s.heap.objs.size:=pc hlt;have ho1:(s.heap.push 2e9).get? a=some { cls:=.ref C,dict:=none,data:=.fields vs }:=sK _ ho;refine ad (wpAny_alloc' ?_);refine ad (wpAny_update' ho1 ?_);refine am ?_;have hgd:((s.heap.push 2e9).update a λo=>{ o with dict:=some s.heap.objs.size }).get? s.heap.objs.size=some 2e9:=
  (Heap.get?_update_ne _ _ _ _ hxs.symm).trans (Heap.get?_push_at rfl rfl)
 have hga:((s.heap.push 2e9).update a λo=>{ o with dict:=some s.heap.objs.size }).get? a=some { cls:=.ref C,dict:=some s.heap.objs.size,data:=.fields vs }:=
  Heap.get?_update_self _ ho1 rfl
 have hnd:((s.heap.push 2e9).update a λo=>{ o with dict:=some s.heap.objs.size }).Ns s.heap.objs.size (λ_=>none):=
  ⟨_,#[],_,hgd,rfl,λe he=>absurd he 2e5,λ_=>rfl⟩
 show wpAny _ _ (storeInDict s.heap.objs.size (.str f _) f u) _ _ _;unfold storeInDict newKeyGuard;refine ad (am (ad (wpAny_nsSet1 (Heap.Ns1.of_empty hnd) λh' hn2 hs2=>?_)));obtain⟨oD,esD,epD,hoD,hdD,hcD⟩:=hn2.count (PySem.Within.cons f u PySem.Within.nil);refine ad (wpAny_lookBehind hoD (by rw[hdD];exact pastItsLine_dict (Nat.le_trans hcD (by rw[length_cons,length_nil,sizeLine_eq];omega))) ?_);have hd0:H s.heap.objs.size=none:=I.hok.fresh (pi _);refine am (h s.heap.objs.size _ hd0 ?_);have e':upd H s.heap.objs.size (.own a) a=some (.exc C none [] true):=by rw[aj hxs];exact e
 have I1:Inv X Y U (upd H s.heap.objs.size (.own a)) { s with heap:=s.heap.push 2e9,toks:=s.toks+1 }:=
  I.laid (a:=s.heap.objs.size) (o:=.own a) (t':=s.toks+1) (λb u q=>sK _ q) (pi _) ⟨_,ul s.heap rfl⟩
 have I2:=I1.write (x:=a) (e:=a) (o:=.exc C (some s.heap.objs.size) [] true) (t':=s.toks+1) (h':=(s.heap.push 2e9).update a λo=>{ o with dict:=some s.heap.objs.size })
  (by rw[e'];exact rfl) 3e9 (λb q hb z=>(Heap.get?_update_ne _ _ _ _ hb).trans z) ⟨_,hga⟩
  ⟨⟨vs,hga,zz⟩,.inr ⟨_,rfl,by rw[aj hxs.symm,aL],Nat.zero_le _,hxs.symm,_,Heap.Ns1.of_empty hnd,λ_=>True.intro,λy hy=>absurd rfl hy⟩⟩
 have ga':h'.get? a=some { cls:=.ref C,dict:=some s.heap.objs.size,data:=.fields vs }:=(hs2.2 a hxs).trans hga;have I3:=I2.write (x:=a) (e:=s.heap.objs.size) (o:=.exc C (some s.heap.objs.size) [(f,y)] true) (t':=s.toks+1+1) (h':=h') (by rw[aL];exact rfl) (.inr (by rw[aj hxs.symm,aL]))
  (λb q hb z=>(hs2.2 b hb).trans z) ⟨oD,hoD⟩
  ⟨⟨vs,ga',zz⟩,.inr ⟨_,rfl,by rw[aj hxs.symm,aj hxs.symm,aL],by show 1<=1000;decide,hxs.symm,_,hn2,λg=>?_,λg hg=>?_⟩⟩
 .rw[Ed]at I3;exact I3
 .show dS (List.lookup g [(f,y)]) (if g=f then some u else none)
  by_cases q:g=f
  .have hb:(g ==f)=true:=beq_iff_eq.mpr q;simp only[List.lookup,hb,if_pos q];exact ry
  .have hb:(g ==f)=false:=beq_eq_false_iff_ne.mpr q;simp only[List.lookup,hb,if_neg q];exact True.intro
 .by_cases q:g=f
  .rw[q];simp
  .exact absurd (show(if g=f then some u else none)=none by rw[if_neg q]) hg
end
section
variable {X:Cx}{Y:NY}{U:St}{H:Hp}{s:Shared}{a C:Addr}{dx:Option Addr}{fs:List (Str×V)}{f:Str}{v:V}{A:Around}{E:NX}{fr:Bool}
def Inv.fields {vs':Array Value}{h':Heap}{t':Nat}(I:Inv X Y U H s)(e:H a=some (.exc C dx fs fr))(hs:vs'.size=6)(h1:(fr=true->vs'[1]? =some Value.none)/\vs'[2]? =some Value.none)
  (ha:h'.get? a=some { cls:=.ref C,dict:=dx,data:=.fields vs' }) (k:∀ b u,b≠a->s.heap.get? b=some u->h'.get? b=some u):Inv X Y U H 5e0:=by
 have na:∀ {b:Addr},H b=none->b≠a:=λn z=>by rw[z,e]at n;cases n
 refine I.step (g':=s.gens) (d':=s.drawn) (ch:=[]) (λ_ z=>nomatch z) (λb o _ _ _ q n=>k b o (na n) q) (λb o _ _ _ q n=>⟨o.slots,k b o (na n) q⟩) (λ_ _ _ _ n=>n) (λb o _ q=>?_) (λ_ _ q=>q) (λ_ _ _ q=>q) (λb ps q=>⟨#[],by rw[q];simp⟩) (λm hm=>?_) (λb u hb=>?_) I.bare
 .by_cases hb:b=a
  .rw[hb];exact⟨_,ha⟩
  .exact⟨o,k b o hb q⟩
 .obtain⟨o,es,ep,ho,r⟩:=hm;exact⟨o,es,ep,k _ o (na I.free) ho,r⟩
 .by_cases hba:b=a
  .subst hba;rw[e]at hb;cases hb;obtain⟨_,z⟩:=id (I.hok b _ e);refine⟨⟨vs',ha,hs,h1⟩,?_⟩;rcases z with z|⟨d,ed,d1,z1,ne,mA,⟨od,es,ep,e2,c⟩,r⟩
   .exact .inl z
   .exact .inr ⟨d,ed,d1,z1,ne,mA,⟨od,es,ep,k _ _ ne e2,c⟩,r⟩
  .refine(I.hok b u hb).fL (λc v hc q=>k c v ?_ q) (λ_ q=>q) λ_ _ q=>q
   rcases hc with z|z
   .rw[z];exact hba
   .intro y;rw[y,e]at z;cases z
set_option tactic.hygienic true in
def l6 {R:Result->Shared->Prop}(I:Inv X Y U H s)(e:H a=some (.exc C dx fs fr))(c:dw X.K C)
  (h:∀ s',Inv X Y U H s'->R (.ok (.ret .none)) s'):codeAny 0e0 A (.call (.builtin "ValueError.__init__") ⟨[.ref a,u],[]⟩) R s:=by
 have F:=PySem.F.excCall_ValueError;obtain⟨⟨vs,ho,hsz,h1⟩,z⟩:=id (I.hok a _ e);have L4:Looks 0e0 s.heap (isInstance 3e6 (.type "ValueError")) true:=(show Looks 0e0 s.heap (typeOf 3e6) 2e4 from(Looks.ld ho).andThen .now).andThen (looks_mroIn I.cp (c.sub 2e6));refine codeAny_call_builtin F.init.plain F.initEntry ?_;simp only[checkBuiltinCall,F.initKind,F.initSplit,F.initRow];refine ad (L4.here ?_);simp only[Bool.not_true,Bool.false_eq_true,if_false];have hshort:("ValueError" != "*")=true:=by decide
 have h0:∃ a0,vs[0]? =some a0:=⟨_,Array.getElem?_eq_getElem nofun⟩;obtain⟨a0,h0⟩:=h0;obtain⟨hp,g,d,t,os⟩:=s;unfold Bind.checkArgs;have hn:Looks 0e0 hp (typeOf 3e6) 2e4:=(Looks.ld ho).andThen .now;obtain⟨cd,rs,hcl,_⟩:=c.mro;obtain⟨oc,od,sl,hC⟩:∃ oc od sl,hp.get? C=some ⟨oc,od,.cls cd,sl⟩:=by
  unfold W.clsIn at hcl
  split at hcl
  .rename_i ho';cases hcl;exact⟨_,_,_,I.cp _ _ ho'⟩
  .cases hcl
 repeat(first|with_reducible refine wpAny_load hC ?_|wp_step)
 rw[h0];have ho1:(hp.push { cls:=.type "tuple",data:=.seq #[u] }).get? a=some { cls:=.ref C,dict:=dx,data:=.fields vs }:=sK _ ho;have hq:=Heap.get?_update_self (Obj.mapFields (·.setIfInBounds 0 (.ref hp.objs.size))) ho1 (Obj.isFreed_of_fields (Obj.data_mapFields rfl _));have fin:R (.ok (.ret Value.none)) ⟨(hp.push { cls:=.type "tuple",data:=.seq #[u] }).update a (Obj.mapFields (·.setIfInBounds 0 (.ref hp.objs.size))),g,d,t,os⟩:=by
  refine h _ (I.fields (vs':=vs.setIfInBounds 0 (.ref hp.objs.size)) (t':=t) e (by simpa using hsz) ⟨λz=>?_,?_⟩ hq λb q hb z'=>?_)
  .rw[Array.getElem?_setIfInBounds_ne 1e1];exact h1.1 z
  .rw[Array.getElem?_setIfInBounds_ne 1e1];exact h1.2
  .exact(Heap.get?_update_ne _ _ _ _ hb).trans (sK _ z')
 refine am (ad (wpAny_setField ho1 rfl nofun ?_));cases a0<;>first|exact am (am fin)|exact wpAny_letGo (am fin)
def ux (I:Inv X Y U H s)(e:H a=some (.exc C dx fs fr))(c:dw X.K C)
  (h:∀ s',Inv X Y U H s'->Q .none s'):wpAny 0e0 A (call (.builtin "ValueError.__init__") [.ref a,u]) Q E s:=wpAny_call (l6 I e c h)
end
abbrev cE (K:W.Frag)(C:Addr):Bool:=match K.lookup C with
 |some ⟨_,_,.cls cd,sl⟩=>!cd.abstract&& !cd.hasDel&&(sl.toList[4]?).join ==some (.builtin "ValueError.__new__")&&eT cd.mro&&cd.mro.contains 2e4&&
   W.specialIn K 2e4 "__call__" ==some (some (.builtin "type.__call__"))&&W.instIn K 2e4 (.type "type") ==some true
 |_=>false
structure zw (M:Model) (h:Heap) (C:Addr):Prop where
 obj:∃ oc od cd sl,h.get? C=some ⟨oc,od,.cls cd,sl⟩/\cd.abstract=false/\cd.hasDel=false/\cd.mro.isEmpty=false
 made:W.Looks M h (Bind.madeBy 2e4) (some "ValueError.__new__")
 base:W.Looks M h (Bind.staticBase 2e4) 2e4
 self:W.Looks M h (isSubtype 2e4 2e4) true
 top:W.Looks M h (isSubtype 2e4 (.type "ValueError")) true
 no1:W.Looks M h (isSubtype 2e4 (.type "AttributeError")) false
 no2:W.Looks M h (isSubtype 2e4 (.type "NameError")) false
 call:W.Looks M h (specialOf 2e4 "__call__") (some (.builtin "type.__call__"))
 typ:W.Looks M h (isInstance 2e4 (.type "type")) true
def vK {n:String}(h:cC.contains (.type n)=false):(rs.map Value.ref++cC).contains (.type n)=false:=by
 induction rs with
 |nil=>exact h
 |cons a r ih=>rw[map_cons,List.cons_append,List.contains_cons,ih];rfl
set_option tactic.hygienic true in
def nX {K:W.Frag}{M:Model}{h:Heap}(X:K.In h){C:Addr}(e:cE K C=true):zw M h C:=by
 unfold cE at e
 split at e
 .rename_i oc od cd sl ho;simp only[nb,Bool.not_eq_true',beq_iff_eq]at e;obtain⟨⟨⟨⟨⟨⟨e1,e2⟩,e3⟩,e4⟩,e5⟩,e7⟩,e8⟩:=e;obtain⟨rs,em⟩:=e9 e4;have hc:W.clsIn K C=some cd:=by unfold W.clsIn;rw[ho]
  have hm:Looks M h (mroOf 2e4) cd.mro:=(looks_clsIn X hc).andThen .now;have ne:cd.mro.isEmpty=false:=by rw[em];exact vN
  obtain⟨c,l,hl⟩:∃ c l,cd.mro=c::l:=by
   cases q:cd.mro with
   |nil=>rw[q]at ne;cases ne
   |cons c l=>exact⟨c,l,rfl⟩
  have made:Looks M h (Bind.madeBy 2e4) (some "ValueError.__new__"):=by
   intro A Q E s k q;unfold Bind.madeBy;refine ad (hm A _ E s k ?_);rw[hl,forIn_cons];refine ad (ad (ad (ad (wpAny_loadPart (k _ _ (X _ _ ho)) (am ?_)))));dsimp only;rw[<-Array.getElem?_toList,e3];exact am (am (am q))
  have mro:∀ {v b},cd.mro.contains v=b->W.mroIn K C v=some b:=λ{v b} q=>by
   unfold W.mroIn;rw[hc,Option.bind_some,if_neg (by rw[ne];decide),q]
  refine⟨⟨oc,od,cd,sl,X _ _ ho,e1,e2,ne⟩,made,?_,looks_mroIn X (mro e5),looks_mroIn X (mro (by rw[em];exact rV 2e6)),looks_mroIn X (mro (by rw[em];exact vK 2e6)),looks_mroIn X (mro (by rw[em];exact vK 2e6)),looks_specialIn X e7,looks_instIn X e8⟩;intro A Q E s k q;unfold Bind.staticBase;refine ad (hm A _ E s k ?_);rw[hl,forIn_cons];exact ad (ad (ad (made A _ E s k (am (am (am q))))))
 .cases e
variable {rest:List Value}
section
variable {prog:Program}{w:World}{A:Around}{K:W.Frag}{C:Addr}{R:Result->Shared->Prop}{h:Heap}{g:Array GenState}{d:Drawn}{t:Nat}{os:OsState}
def E7 (Y:zw 0e7 h C)(hz:rest.length<=bn)
  (hq:R (.ok (.ret (.ref (h.objs.size+1)))) ⟨1e9.push 0e2,g,d,t,os⟩):
  codeAny 0e7 A (.call (.builtin "ValueError.__new__") ⟨.ref C::rest,[]⟩) R ⟨h,g,d,t,os⟩:=by
 obtain⟨⟨oc,od,cd,sl,hC,e1,e2,e4⟩,made,base,self,top,no1,no2,call,typ⟩:=Y;have F:=PySem.F.excBase_ValueError;have here:Looks 0e7 h (Bind.madeHere "BaseException.__new__" 2e4) ():=base.andThen (made.andThen (Looks.of_pure (by simp only[Option.map_some,F.canon,bne_self_eq_false,Bool.false_eq_true,if_false])));refine codeAny_call_builtin_code (Code.quiet_builtin _ F.quiet) ?_;simp only[checkBuiltinCall,F.newKind,F.newSplit,F.newRow]
 repeat(first|simp only[bne_self_eq_false,Bool.false_eq_true,if_false]|lk)
 refine codeAny_builtinAt F.entry ?_;unfold Builtin.«BaseException.__new__»;refine PySem.wpAt_bind ?_;show PySem.wpAt _ _ _ (stack >>= _) _ _ _;refine PySem.wpAt_bind (PySem.wpAt_stack λp below=>PySem.wpAt_of_wpAny ?_);have hends:=F.ends
 wp_walk
 refine PySem.wpAt_of_wpAny ?_;rw[F.owner]
 repeat(first|simp only[Bool.not_true,Bool.false_eq_true,if_false]|lk)
 rw[if_neg (show ¬ (rest.toArray.size>bn) by rw[ge];omega)];unfold newObjAsIs;refine ad (wpAny_alloc (am (ad ?_)));show wpAny _ _ (newObjAsIs _ _ _) _ _ _;unfold newObjAsIs classHasDel;refine ad (wpAny_alloc (ad (ad (wpAny_load (sK _ (sK _ hC)) (am ?_)))));rw[e2];refine am (am ?_);show R _ _;rw[Heap.size_push];exact hq
def Ih {fI:Addr}(X:K.In h)(hz:rest.length<=bn)(hm:cE K C=true)(hi:W.findIn K 2e4 "__init__"=some (some (.ref fI))) (hf:W.typeIn K (.ref fI)=some (.type "function"))
  (hq:codeAny 0e7 (A.under (.builtin "type.__call__" ⟨.ref C::rest,[]⟩)) (.call (.ref fI) ⟨.ref (h.objs.size+1)::rest,[]⟩) (InitBack (h.objs.size+1) R)
   ⟨1e9.push 0e2,g,d,t,os⟩):
  codeAny 0e7 A (.call 2e4 ⟨rest,[]⟩) R ⟨h,g,d,t,os⟩:=by
 have Y:=nX (M:=model prog w) X hm;have Y':=Y;obtain⟨⟨oc,od,cd,sl,hC,e1,e2,e4⟩,made,base,self,top,no1,no2,call,typ⟩:=Y;refine codeAny_of_tree ?_;show wpAny _ _ (callAny 2e4 _) _ _ _;refine nd_load hC ?_;show wpAny _ _ (callAny.viaDunder 2e4 _) _ _ _;unfold callAny.viaDunder;refine ad (call.at ?_);dsimp only;rw[tc_bind];refine ad (am (ad (am ?_)));refine am (a:=Fin.again (.call (.builtin "type.__call__") ⟨.ref C::rest,[]⟩)) (And.intro rfl ?_);refine codeAny_call_builtin_at (Code.quiet_builtin _ 2e6) entry_typeCall (check_slot tc_kind tc_split typ (tc_args _ _ _) ?_);unfold Builtin.«type.__call__»;have hmr:Looks 0e7 h (mroOf 2e4) cd.mro:=((Looks.ld (part:=none) hC).andThen .now).andThen .now
 repeat(first|simp only[e4,Bool.false_eq_true,if_false]|with_reducible refine wpAny_call ?_|lk)
 refine E7 Y' hz ?_;have k:∀ b o,h.get? b=some o->(1e9.push 0e2).get? b=some o:=λb o e=>sK _ (sK _ e)
 have hx:(1e9.push 0e2).get? (h.objs.size+1)=some 0e2:=by heap_get
 have t1:Looks 0e7 (1e9.push 0e2) (typeOf (.ref (h.objs.size+1))) 2e4:=(Looks.ld hx).andThen .now;have s1:=self.keeps k;have i1:=(looks_findIn (M:=model prog w) X hi).keeps k;have b1:=(bind_fn (M:=model prog w) X (.ref (h.objs.size+1)) hf).keeps k;unfold isInstance callSpecial? specialOf
 repeat(first|with_reducible refine wpAny_call ?_|lk)
 refine codeAny_mono hq λr s' z=>?_
 rcases r with e|(v|_|_|_)<;>first|exact z|exact z.elim|skip
 obtain⟨rfl,z⟩:=z;exact am (am z)
def Ct (X:K.In h)(hz:rest.length<=bn)(hm:cE K C=true)(hi:W.findIn K 2e4 "__init__"=some (some (.builtin "ValueError.__init__")))
  (hq:codeAny 0e7 (A.under (.builtin "type.__call__" ⟨.ref C::rest,[]⟩)) (.call (.builtin "ValueError.__init__") ⟨.ref (h.objs.size+1)::rest,[]⟩) (InitBack (h.objs.size+1) R)
   ⟨1e9.push 0e2,g,d,t,os⟩):
  codeAny 0e7 A (.call 2e4 ⟨rest,[]⟩) R ⟨h,g,d,t,os⟩:=by
 have Y:=nX (M:=model prog w) X hm;have Y':=Y;obtain⟨⟨oc,od,cd,sl,hC,e1,e2,e4⟩,made,base,self,top,no1,no2,call,typ⟩:=Y;refine codeAny_of_tree ?_;show wpAny _ _ (callAny 2e4 _) _ _ _;refine nd_load hC ?_;show wpAny _ _ (callAny.viaDunder 2e4 _) _ _ _;unfold callAny.viaDunder;refine ad (call.at ?_);dsimp only;rw[tc_bind];refine ad (am (ad (am ?_)));refine am (a:=Fin.again (.call (.builtin "type.__call__") ⟨.ref C::rest,[]⟩)) (And.intro rfl ?_);refine codeAny_call_builtin_at (Code.quiet_builtin _ 2e6) entry_typeCall (check_slot tc_kind tc_split typ (tc_args _ _ _) ?_);unfold Builtin.«type.__call__»;have hmr:Looks 0e7 h (mroOf 2e4) cd.mro:=((Looks.ld (part:=none) hC).andThen .now).andThen .now
 repeat(first|simp only[e4,Bool.false_eq_true,if_false]|with_reducible refine wpAny_call ?_|lk)
 refine E7 Y' hz ?_;have k:∀ b o,h.get? b=some o->(1e9.push 0e2).get? b=some o:=λb o e=>sK _ (sK _ e)
 have hx:(1e9.push 0e2).get? (h.objs.size+1)=some 0e2:=by heap_get
 have t1:Looks 0e7 (1e9.push 0e2) (typeOf (.ref (h.objs.size+1))) 2e4:=(Looks.ld hx).andThen .now;have s1:=self.keeps k;have i1:=(looks_findIn (M:=model prog w) X hi).keeps k;have b1:Looks 0e7 (1e9.push 0e2) (bindSpecial (.builtin "ValueError.__init__") (.ref (h.objs.size+1))) (.builtin "ValueError.__init__",[.ref (h.objs.size+1)]):=Looks.of_pure (PySem.F.excCall_ValueError.init.bind _);unfold isInstance callSpecial? specialOf
 repeat(first|with_reducible refine wpAny_call ?_|lk)
 refine codeAny_mono hq λr s' z=>?_
 rcases r with e|(v|_|_|_)<;>first|exact z|exact z.elim|skip
 obtain⟨rfl,z⟩:=z;exact am (am z)
end
end L2
namespace L2
open PySem PySem.Spec PySem.W PyProof.Rows
abbrev cb (e:Addr)(h h':Heap):Prop:=∀ oe vs,h.get? e=some oe->oe.data=.fields vs->∃ vs',h'.get? e=some { oe with data:=.fields vs' }/\vs'.size=vs.size/\vs'[2]? =vs[2]?
abbrev HN (as:List Addr)(h h':Heap):Prop:=∀ b o,b ∉ as->h.get? b=some o->h'.get? b=some o
abbrev xG (h:Heap)(e T:Addr)(fl:Value):Prop:=∃ oe vs oT ts,h.get? e=some oe/\oe.data=.fields vs/\vs[1]? =some (.ref T)/\T≠e/\h.get? T=some oT/\oT.data=.fields ts/\ts[3]? =some fl
def cb.trans {e:Addr}{h h1 h2:Heap}(a:cb e h h1)(b:cb e h1 h2):cb e h h2:=λoe vs x y=>by
 obtain⟨vs1,x1,z1⟩:=a oe vs x y;obtain⟨vs2,x2,z2⟩:=b _ vs1 x1 rfl;exact⟨vs2,x2,z2.1.trans z1.1,z2.2.trans z1.2⟩
def cb.same {e:Addr}{h h':Heap}(k:h'.get? e=h.get? e):cb e h h':=λoe vs x y=>⟨vs,by rw[k,x,<-y],rfl,rfl⟩
variable {Q:NW}
section
variable {M:Model}{A:Around}{E:NX}{s:Shared}{base:Heap}{env:Env}{outer:List Env}{L e:Addr}
def oM {oe:Obj}{vs:Array Value}{head:Value}{hadNext:Bool}(hfr:A.frames=some (env::outer))(hl:s.heap.FunFrames base (env::outer))(hf:env.frame=some L)
  (he:s.heap.get? e=some oe) (hd:oe.data=.fields vs) (hsz:1<vs.size)
  (q:∀ h' T,s.heap.objs.size<=T->xG h' e T (rawInt L)->cb e s.heap h'->(∀ b o,b≠e->s.heap.get? b=some o->∃ sl,h'.get? b=some { o with slots:=sl })->HN (e::qE (env::outer)) s.heap h'->Q () 1e5):
  wpAny M A (do let a <-frameOf env;let pl <-entryPlaceOf L hadNext;let b <-EntryCells.newEntry head a .none (rawInt L) .none pl;setField (.ref e) 1 b) Q E s:=by
 have hne:e ∉ qE (env::outer):=λhm=>by
  obtain⟨_,o,ho,hnf⟩:=hl.mem hm;rw[he]at ho;cases ho;exact hnf vs hd
 refine ad (wpAny_frameOf_fun hfr hl hf λh1 s1=>ad (wpAny_entryPlaceOf λpl hpl=>?_));unfold EntryCells.newEntry newFields;refine ad (wpAny_newObj_type ?_ (hpl.sizeOk5 _ _ _ _ _));have e1:h1.get? e=some oe:=(s1.2.1 e hne).trans he;have e2:=sK (h:=h1) 4e7 e1;have hTe:h1.objs.size≠e:=Nat.ne_of_gt (tz e1);have d3:=Obj.data_mapFields hd (·.setIfInBounds 1 (Value.ref h1.objs.size));have e3:=Heap.get?_update_self (Obj.mapFields (·.setIfInBounds 1 (Value.ref h1.objs.size))) e2 (Obj.isFreed_of_fields d3);have t3:=(Heap.get?_update_other (h1.push 4e7)
  (Obj.mapFields (·.setIfInBounds 1 (Value.ref h1.objs.size))) (Ne.symm hTe)).trans (ul h1 rfl)
 have keep:∀ b o,b≠e->h1.get? b=some o->((h1.push 4e7).update e (Obj.mapFields (·.setIfInBounds 1 (Value.ref h1.objs.size)))).get? b=some o:=
  λb o hb hq=>(Heap.get?_update_other _ _ (Ne.symm hb)).trans (sK _ hq)
 refine wpAny_setField e2 hd hsz (q _ h1.objs.size ?_ ?_ ?_ (λb o hb ho=>?_) λb o hb ho=>?_)
 .rw[s1.1];exact pi _
 .refine⟨_,_,_,_,e3,d3,by simp[hsz],hTe,t3,rfl,?_⟩
  first|(simp;done)|(rcases hpl with rfl|⟨_,_,_,_,_,_,_,rfl⟩<;>simp)
 .intro oe' vs' x y;rw[he]at x;cases x;rw[hd]at y;cases y;refine⟨vs.setIfInBounds 1 (.ref h1.objs.size),?_,by simp,Array.getElem?_setIfInBounds_ne 1e1⟩;rw[e3];obtain⟨c0,d0,dt,sl0⟩:=oe;cases hd
  rfl
 .obtain⟨sl,z⟩:=s1.2.2 b o ho;exact⟨sl,keep b _ hb z⟩
 .exact keep b o (λz=>hb (by rw[z];exact lw)) ((s1.2.1 b λz=>hb (dl _ z)).trans ho)
abbrev Ce (n₀:Nat)(ps:NY)(H:Hp)(h:Heap)(e:Addr):Prop:=(∃ oe vs,h.get? e=some oe/\oe.data=.fields vs/\vs[1]? =some Value.none)\/∃ T,n₀<=T/\H T=none/\(∀ p ∈ ps,p.1≠T)/\∃ fl,xG h e T fl
def DH {n₀:Nat}{ps:NY}{H:Hp}(hfr:A.frames=some (env::outer))(hl:s.heap.FunFrames base (env::outer))(hf:env.frame=some L)(sf:(∃ oe vs,s.heap.get? e=some oe/\oe.data=.fields vs/\vs[1]? =some Value.none)\/∃ T,n₀<=T/\H T=none/\(∀ p ∈ ps,p.1≠T)/\∃ fl,(fl ==rawInt L)=false/\xG s.heap e T fl) (h0:n₀<=s.heap.objs.size) (hps:∀ p ∈ ps,p.1<s.heap.objs.size)
  (q:∀ h' T T0,s.heap.objs.size<=T->n₀<=T0->(H T0=none\/s.heap.objs.size<=T0)->(∀ p ∈ ps,p.1≠T0)->(∀ o,s.heap.get? T0=some o->∃ ts,o.data=.fields ts)->xG h' e T (rawInt L)->cb e s.heap h'->h'.FunFrames base (env::outer)->(∀ b o,b≠e->b≠T0->s.heap.get? b=some o->∃ sl,h'.get? b=some { o with slots:=sl })->HN (e::T0::qE (env::outer)) s.heap h'->(∀ b o,s.heap.get? b=some o->∃ o',h'.get? b=some o')->Q () 1e5):
  wpAny M A (noteFrame (.ref e) env) Q E s:=by
 have fun_of:∀ {h':Heap}{as:List Addr},(∀ b ∈ as,∀ o,s.heap.get? b=some o->∃ vs,o.data=.fields vs)->(∀ b o,b ∉ as->s.heap.get? b=some o->∃ sl,h'.get? b=some { o with slots:=sl })->h'.FunFrames base (env::outer):=
  λ{h' as} ha k=>hl.of_keeps λb o ho hnf=>by
   by_cases hb:b ∈ as
   .obtain⟨vs,z⟩:=ha b hb o ho;exact absurd z (hnf vs)
   .obtain⟨sl,z⟩:=k b o hb ho;exact⟨_,z,rfl⟩
 unfold noteFrame;simp only[hf];rcases sf with⟨oe,vs,he,hd,h1⟩|⟨T0,hT0,hH0,hp0,fl,hfl,oe,vs,oT,ts,he,hd,h1,hTe,hT,hdT,h3⟩
 .skip
  refine ad (ap he hd h1 ?_);rw[if_neg 1e1];refine oM hfr hl hf he hd (Array.getElem?_eq_some_iff.mp h1).1 λh' T hT st fo sl sy=>?_
  refine q h' T s.heap.objs.size hT h0 (.inr (pi _)) (λp hp=>pc (hps p hp)) (λo z=>absurd (tz z) (Nat.lt_irrefl _)) st fo ?_ (λb o hb _ ho=>sl b o hb ho) (λb o hb ho=>sy b o (λz=>hb ?_) ho) λb o ho=>?_
  .refine fun_of (as:=[e]) (λb hb o ho=>?_) λb o hb ho=>sl b o (by simpa using hb) ho
   obtain rfl:b=e:=by simpa using hb
   rw[he]at ho;cases ho;exact⟨vs,hd⟩
  .rcases mo.mp z with z|z
   .exact mo.mpr (.inl z)
   .exact dl _ (dl _ z)
  .by_cases hb:b=e
   .subst hb;rw[he]at ho;cases ho;obtain⟨vs',z,_⟩:=fo _ _ he hd;exact⟨_,z⟩
   .obtain⟨sl',z⟩:=sl b o hb ho;exact⟨_,z⟩
 .refine ad (ap he hd h1 ?_);rw[if_pos (show(Value.ref T0 != Value.none)=true from by simp)];refine ad (ap hT hdT h3 ?_);rw[if_neg (by rw[hfl];exact Bool.false_ne_true)];refine ad (wpAny_setField hT hdT (Array.getElem?_eq_some_iff.mp h3).1 ?_);have other:∀ b,b≠T0->(s.heap.update T0 (Obj.mapFields (·.setIfInBounds 3 Value.none))).get? b=s.heap.get? b:=λb hb=>Heap.get?_update_other _ _ (Ne.symm hb)
  have self':=Heap.get?_update_self (Obj.mapFields (·.setIfInBounds 3 Value.none)) hT (Obj.isFreed_of_fields (Obj.data_mapFields hdT _));have rec':∀ b o,s.heap.get? b=some o->(∀ vs,o.data≠.fields vs)->b≠T0:=λb o hb hnf z=>by
   rw[z,hT]at hb;cases hb;exact hnf ts hdT
  refine oM (base:=base) hfr (hl.of_keeps λb o hb hnf=>⟨o,(other b (rec' b o hb hnf)).trans hb,rfl⟩) hf ((other e (Ne.symm hTe)).trans he) hd (Array.getElem?_eq_some_iff.mp h1).1 λh' T hTn st fo sl sy=>?_
  have hTn':s.heap.objs.size<=T:=by
   have z:(s.heap.update T0 (Obj.mapFields (·.setIfInBounds 3 Value.none))).objs.size<=T:=hTn
   rwa [Heap.size_after_update]at z
  refine q h' T T0 hTn' hT0 (.inl hH0) hp0 (λo z=>by rw[hT]at z;cases z;exact⟨ts,hdT⟩) st (cb.trans (cb.same (other e (Ne.symm hTe))) fo) ?_ (λb o hb hb0 ho=>sl b o hb ((other b hb0).trans ho)) (λb o hb ho=>?_) λb o ho=>?_
  .refine fun_of (as:=[e,T0]) (λb hb o ho=>?_) λb o hb ho=>sl b o (λz=>hb (by simp[z])) ((other b λz=>hb (by simp[z])).trans ho)
   rcases mo.mp hb with hb|hb
   .subst hb;rw[he]at ho;cases ho;exact⟨vs,hd⟩
   .obtain rfl:b=T0:=by simpa using hb
    rw[hT]at ho;cases ho;exact⟨ts,hdT⟩
  .have n1:b≠e:=λz=>hb (by simp[z])
   have n2:b≠T0:=λz=>hb (by simp[z])
   refine sy b o (λz=>hb ?_) ((other b n2).trans ho);rcases mo.mp z with z|z
   .exact mo.mpr (.inl z)
   .exact dl _ (dl _ z)
  .by_cases hb:b=e
   .subst hb;obtain⟨vs',z,_⟩:=fo _ _ ((other b (Ne.symm hTe)).trans he) hd;exact⟨_,z⟩
   .by_cases hb0:b=T0
    .subst hb0;obtain⟨sl',z⟩:=sl b _ hb self';exact⟨_,z⟩
    .obtain⟨sl',z⟩:=sl b o hb ((other b hb0).trans ho);exact⟨_,z⟩
def wQ {T:Addr}{fl:Value}(st:xG s.heap e T fl)
  (q:∀ h',xG h' e T .none->(∀ b,b≠T->h'.get? b=s.heap.get? b)->(∃ o,s.heap.get? T=some o)->(∃ o,h'.get? T=some o)->(∃ oT ts,h'.get? T=some oT/\oT.data=.fields ts)->Q () 1e5):wpAny M A (setFlight (.ref e) none) Q E s:=by
 obtain⟨oe,vs,oT,ts,he,hd,h1,hTe,hT,hdT,h3⟩:=st;have hz:3<ts.size:=(Array.getElem?_eq_some_iff.mp h3).1;have other:∀ b,b≠T->(s.heap.update T (Obj.mapFields (·.setIfInBounds 3 ((none:Option Addr).elim Value.none λf=>rawInt f)))).get? b=s.heap.get? b:=λb hb=>Heap.get?_update_other _ _ (Ne.symm hb)
 have self':=Heap.get?_update_self (Obj.mapFields (·.setIfInBounds 3 ((none:Option Addr).elim Value.none λf=>rawInt f))) hT (Obj.isFreed_of_fields (Obj.data_mapFields hdT _));unfold setFlight;refine ad (ap he hd h1 ?_);rw[if_pos (show(Value.ref T != Value.none)=true from by simp)];refine wpAny_setField hT hdT hz (q _ ⟨oe,vs,_,_,(other e (Ne.symm hTe)).trans he,hd,h1,hTe,self',Obj.data_mapFields hdT _,by simp[hz]⟩ other ⟨_,hT⟩ ⟨_,self'⟩ ⟨_,_,self',Obj.data_mapFields hdT _⟩)
end
variable {A:Around}
section
variable {X:Cx}{U:St}{H:Hp}{s:Shared}{e C:Addr}{dx:Option Addr}{fs:List (Str×V)}{h':Heap}
def Inv.uD {Y:NY}(I:Inv X Y U H s):Inv X [] U H s:=I.pH λ_ z=>absurd z 2e5
def Inv.noted {T0:Addr}{as:List Addr}(I:Inv X [] U H s)(hpn:∀ p ∈ X.pn,p.1≠T0) (he:H e=some 5e2) (has:as=qE X.stack)
  (hT:X.s₀.heap.objs.size<=T0) (hT0:H T0=none\/s.heap.objs.size<=T0) (hTd:∀ o,s.heap.get? T0=some o->∃ ts,o.data=.fields ts)
  (fo:cb e s.heap h') (sl:∀ b o,b≠e->b≠T0->s.heap.get? b=some o->∃ sl,h'.get? b=some { o with slots:=sl }) (sy:HN (e::T0::as) s.heap h') (th:∀ b o,s.heap.get? b=some o->∃ o',h'.get? b=some o'):
  Inv X [] U H 1e5:=by
 subst has;obtain⟨⟨vs,ho,hsz,_,h2⟩,z⟩:=id (I.hok e _ he);have hH0:H T0=none:=by
  rcases hT0 with z|z
  .exact z
  .exact I.hok.fresh z
 have nT:∀ {b:Addr}{o:Obj},s.heap.get? b=some o->(∀ vs,o.data≠.fields vs)->b≠T0:=λ{b o} hb hn z=>by
  subst z;obtain⟨ts,q⟩:=hTd _ hb;exact hn ts q
 have fL:∀ b o,H b=none->b≠T0->b ∉ qE X.stack->s.heap.get? b=some o->h'.get? b=some o:=λb o hb h0 hf hq=>sy b o (λm=>by
  rcases mo.mp m with m|m
  .rw[m,he]at hb;cases hb
  .rcases mo.mp m with m|m
   .exact h0 m
   .exact hf m) hq
 have Fq:∀ a u,H a=some u->a≠e->∀ o,s.heap.get? a=some o->h'.get? a=some o:=λa u ha ne o hq=>sy a o (λm=>by
  rcases mo.mp m with m|m
  .exact ne m
  .rcases mo.mp m with m|m
   .rw[m,hH0]at ha;cases ha
   .rw[I.qT a m]at ha;cases ha) hq
 refine I.step (g':=s.gens) (t':=s.toks) (d':=s.drawn) (ch:=[T0]) (h':=h') (λb hb=>?_) (λb o hL hfs hch hq hn=>?_) (λb o hL hfs hch hq hn=>?_) (λb o _ _ hn=>hn) (λb o _ hq=>th b o hq) (λ_ _ q=>q) (λ_ _ _ q=>q) (λb ps q=>⟨#[],by rw[q];simp⟩) (λm hm=>?_) (λa u ha=>?_) I.bare
 .obtain rfl:b=T0:=by simpa using hb
  refine⟨.inr hT,?_,λx c hc z=>?_,λp hp=>hpn p (by simpa using hp)⟩
  .obtain⟨m,⟨o,es,ep,ho',hd,_⟩,_⟩:=I.loc;intro z;exact nT ho' (λvs q=>by rw[hd]at q;cases q) z.symm
  .obtain⟨v,o,ho',hd⟩:=I.cell x c hc;exact nT ho' (λvs q=>by rw[hd]at q;cases q) z
 .refine fL b o hn (by simpa using hch) (λm=>?_) hq;rcases mo.mp (I.jW b m) with z|z
  .exact hL z
  .exact hfs z
 .exact sl b o (λz=>by rw[z,he]at hn;cases hn) (by simpa using hch) hq
 .obtain⟨o,es,ep,ho',hd,r⟩:=hm;have n1:X.env.locals≠e:=λz=>by have:=I.free;rw[z,he]at this;cases this
  obtain⟨sl',q⟩:=sl _ o n1 (nT ho' λvs q=>by rw[hd]at q;cases q) ho';exact⟨_,es,ep,q,hd,r⟩
 .by_cases hae:a=e
  .subst hae;rw[he]at ha;cases ha;obtain⟨vs',q,hz,hz2⟩:=fo _ vs ho rfl;refine⟨⟨vs',q,hz.trans hsz,(λy=>by cases y),hz2.trans h2⟩,?_⟩;rcases z with z|⟨d,ed,d1,z1,ne,mA,⟨od,es,ep,e2,c⟩,r⟩
   .exact .inl z
   .exact .inr ⟨d,ed,d1,z1,ne,mA,⟨od,es,ep,Fq d _ d1 ne _ e2,c⟩,r⟩
  .refine(I.hok a u ha).fL (λb o hb hq=>?_) (λ_ q=>q) λ_ _ q=>q
   rcases hb with hb|hb
   .subst hb;exact Fq b u ha hae o hq
   .refine Fq b _ hb (λz=>?_) o hq;rw[z,he]at hb;cases hb
abbrev zP (P:Program)(w:World):vf:=λouter H s E u s'=>∃ (e:Addr) (H':Hp) (C:Addr) (dx:Option Addr) (fs:List (Str×V)) (T:Addr),u=.ref e/\s'.os=s.os/\AllBare s'.gens/\Un (qE outer) [] H H' s.heap s'.heap/\iM P w H' s'.heap/\
 H' e=some 5e2/\s.heap.objs.size<=T/\H' T=none/\xG s'.heap e T .none/\E e H'
abbrev Hy (X:Cx)(E:St->XK):Prop:=∀ (U:St) (H:Hp) (s:Shared) (e C:Addr) (dx:Option Addr) (fs:List (Str×V)),Inv X [] U H s->Ce X.s₀.heap.objs.size X.pn H s.heap e->H e=some 5e2->E U e H->X.xe (.ref e) s
def gZ {E:St->XK}(x:Hy X E):Passes (zP X.prog X.w) X E:=by
 intro Y U H s u s' I h;obtain⟨e,H',C,dx,fs,T,rfl,os,bare,un,hok,he,hT,hT0,st,q⟩:=h;have J:Inv X [] U H' s':=Inv.wt (ch:=[]) I.uD os un hok bare (λb z=>absurd z 2e5);exact x U H' s' e C dx fs J (.inr ⟨T,Nat.le_trans I.sz hT,hT0,λp hp=>pc (nw (tz (I.pin p (mem_append_left _ hp)).1) hT),_,st⟩) he q
def p6 {x:Value}{e1 e2:Env}(h:e1.frame=e2.frame):noteFrame x e1=noteFrame x e2:=by
 unfold noteFrame PySem.frameOf;rw[h]
def Inv.BW {T:Addr}{oT:Obj}{ts:Array Value}(I:Inv X [] U H s)(hT:s.heap.get? T=some oT)(hd:oT.data=.fields ts):T≠X.env.locals/\∀ x c,X.env.cells.lookup x=some c->c≠T:=by
 refine⟨λz=>?_,λx c hc z=>?_⟩
 .obtain⟨m,⟨o,es,ep,ho',hd',_⟩,_⟩:=I.loc;rw[<-z,hT]at ho';cases ho';rw[hd]at hd';cases hd'
 .obtain⟨v,o,ho',hd'⟩:=I.cell x c hc;rw[z,hT]at ho';cases ho';rw[hd]at hd';cases hd'
def si {M:Model}{E':NX}{env e0:Env}{o0:List Env}{L:Addr}(I:Inv X [] U H s)(hs:X.stack=e0::o0)(hf0:e0.frame=some L)(hf:env.frame=some L)(sf:Ce X.s₀.heap.objs.size X.pn H s.heap e)(he:H e=some 5e2)
  (q:∀ h' T,Inv X [] U H 1e5->X.s₀.heap.objs.size<=T->H T=none->(∀ p ∈ X.pn,p.1≠T)->xG h' e T (rawInt L)->Q () 1e5):
  wpAny M X.A (noteFrame (.ref e) env) Q E' s:=by
 rw[p6 (e1:=env) (e2:=e0) (hf.trans hf0.symm)];have hl:s.heap.FunFrames X.base (e0::o0):=hs▸I.stack;have go:((∃ oe vs,s.heap.get? e=some oe/\oe.data=.fields vs/\vs[1]? =some Value.none)\/∃ T,X.s₀.heap.objs.size<=T/\H T=none/\(∀ p ∈ X.pn,p.1≠T)/\∃ fl,(fl ==rawInt L)=false/\xG s.heap e T fl)->wpAny M X.A (noteFrame (.ref e) e0) Q E' s:=λsf=>by
  refine DH (by rw[<-hs];exact I.ok.frames) hl hf0 sf I.sz (λp hp=>tz (I.pin p (mem_append_left _ hp)).1) λh1 T T0 hT hT0 hH0 hp0 hTd st fo fF sl sy th=>?_
  exact q h1 T (I.noted (T0:=T0) (as:=qE (e0::o0)) (h':=h1) hp0 he (by rw[hs]) hT0 hH0 hTd fo sl sy th) (Nat.le_trans I.sz hT) (I.hok.fresh hT) (λp hp=>pc (nw (tz (I.pin p (mem_append_left _ hp)).1) hT)) st
 rcases sf with sf|⟨T,hT,hH,hp,fl,st⟩
 .exact go (.inl sf)
 .cases hfl:(fl ==rawInt L) with
  |false=>exact go (.inr ⟨T,hT,hH,hp,fl,hfl,st⟩)
  |true=>
   obtain rfl:fl=rawInt L:=eq_of_beq hfl;obtain⟨oe,vs,oT,ts,he',hd,h1,hTe,hoT,hdT,h3⟩:=id st;exact wpAny_noteFrame_inFlight hf0 he' hd h1 hoT hdT h3 (q s.heap T I hT hH hp st)
def oq {M:Model}{E E':NX}{Q:Shared->Prop}(I:Inv X [] U H s)(hs:X.stack=X.env::X.outer)(hf:X.env.frame=some X.env.locals)(sf:Ce X.s₀.heap.objs.size X.pn H s.heap e)(he:H e=some 5e2)
  (q:∀ s' T,Inv X [] U H s'->s'.os=s.os->X.s₀.heap.objs.size<=T->H T=none->(∀ p ∈ X.pn,p.1≠T)->xG s'.heap e T .none->Q s'):
  wpAny M X.A (noteFrame (.ref e) X.env) (λ_ s1=>wpAny M X.A (setFlight (.ref e) none) (λ_ s2=>Q s2) E s1) E' s:=by
 refine si I hs hf hf sf he λh1 T I1 hT hHT hpT st=>?_
 obtain⟨_,_,oT,ts,_,_,_,_,hoT,hdT,_⟩:=id st;obtain⟨n1,n2⟩:=I1.BW hoT hdT;refine wQ (s:={ s with heap:=h1 }) st λh2 qW oth _ th2 rec2=>?_
 exact q _ T (Inv.turned (s:={ s with heap:=h1 }) (it:=T) (h':=h2) (t':=s.toks) I1 (λb o hb hq=>(oth b hb).trans hq) hHT n1 (.inr hT) n2 λp hp=>hpT p (by simpa using hp)) rfl hT hHT hpT qW
def yO {c:Bool}{P:Program}{w:World}{K:W.Frag}{mg:NZ}{base:Heap}{N:List Str}{qual:Str}{scope:Scope}{f:Addr}{cd:Value}{outer:List Env}{E:XK}:
  Hy (xR c (zP P w) P w K mg base N qual scope f cd A outer s H E) (λ_=>E):=by
 intro σ' H' s' e C dx fs I sf he q;show wpAny _ _ (do noteFrame (.ref e) _;setFlight (.ref e) none) _ _ s';refine ad (oq I rfl rfl sf he λs2 T J os hT hH _ st=>?_);exact⟨e,H',C,dx,fs,T,rfl,J.os,J.bare,J.base,J.hok,he,hT,hH,st,q⟩
end
structure Lb (K:W.Frag) (C f:Addr):Prop where
 mks:cE K C=true
 init:W.findIn K 2e4 "__init__"=some (some (.ref f))
 fn:W.isFn K (.ref f)=true
 kp:W.keepIn K 2e4=true
variable {us:List Value}{vs:List V}{pl:Sem Bool}
section
variable {X:Cx}{Y:NY}{U:St}{H:Hp}{s:Shared}{C f:Addr}
def Inv.EN (us:List Value)(I:Inv X Y U H s):Inv X Y U (upd H 2e3 (.exc C none [] true))
  { s with heap:=(s.heap.push { cls:=.type "tuple",data:=.seq us.toArray }).push { cls:=.ref C,data:=.fields #[.ref s.heap.objs.size,.none,.none,.none,.bool false,.none] } }:=by
 have I1:=I.kept (h':=s.heap.push { cls:=.type "tuple",data:=.seq us.toArray }) (t':=s.toks) λb u q=>sK _ q
 refine Inv.laid (s:={ s with heap:=s.heap.push { cls:=.type "tuple",data:=.seq us.toArray } }) (a:=s.heap.objs.size+1) (o:=.exc C none [] true) (t':=s.toks) I1 (λb u q=>sK _ q) (Nat.le_of_eq (Heap.size_push _ _)) ?_;refine⟨⟨#[.ref s.heap.objs.size,.none,.none,.none,.bool false,.none],?_,rfl,λ_=>rfl,rfl⟩,.inl ⟨rfl,rfl⟩⟩;have:=ul (s.heap.push { cls:=.type "tuple",data:=.seq us.toArray }) (o:={ cls:=.ref C,data:=.fields #[.ref s.heap.objs.size,.none,.none,.none,.bool false,.none] }) rfl
 rwa [Heap.size_push]at this
variable {c:Bool}{CX:vf}{k:Nat}{fd:FuncData}{ps:List Str}{sp:Sp}{dvs:List V}{ds:List Value}{E:St->XK}{x m:Str}{p pos apos:Pos}{e o:Expr}{es:List Expr}{ta:TE}{t:TA}
abbrev AO (C:Addr)(sp:Sp)(dvs:List V)(E:St->XK)(t:TA):TE:=λU H Q=>t U H λvs H1=>vs.length<=1000/\∀ x,H1 x=none->sp (.ref x::(vs++dvs)) (upd H1 x (.exc C none [] true)) (λv H2=>v=.non/\Q (.ref x) H2) (E U)
set_option tactic.hygienic true in
def pf {Q:VK}(M:Lb X.K C f)(F:dQ c X.prog X.w X.K X.mg X.base CX k f fd ps sp)(hh:∀ {Y:NY}{U:St}{H:Hp}{s:Shared}{vs:List V}{Q:VK}{E:XK},Inv X Y U H s->sp vs H Q E->xT c X.A.handled H) (hr:cg (k+1) X.A) (hb:Binds X.K fd ps ds) (hd:Vals dvs ds)
  (hx:Passes CX X E) (hz:us.length<=bn) (I:Inv X Y U H s) (r:Vals vs us)
  (h:∀ x,H x=none->sp (.ref x::(vs++dvs)) (upd H x (.exc C none [] true)) (λv H2=>v=.non/\Q (.ref x) H2) (E U)):
  wpAny 0e0 X.A (call 2e4 us) (EP X Y U Q) X.xe s:=by
 have hq:=h 2e3 (I.hok.fresh (Nat.le_succ _));have I2:=Inv.EN (C:=C) us I;have r2:Vals (V.ref 2e3::(vs++dvs)) (Value.ref 2e3::(us++ds)):=.cons rfl (r.append hd);have hl:(Value.ref 2e3::us++ds).length=ps.length:=by
  have e:=r2.length;rw[F.len _ _ _ _ hq]at e;exact e.symm
 obtain⟨hp,g,d,tk,os⟩:=s;refine wpAny_call (Ih (fI:=f) I.cp hz M.mks M.init (beq_iff_eq.mp M.fn) (codeAny_mono (F.run _ X.stack _ _ ⟨Value.ref (hp.objs.size+1)::us,[]⟩ (Value.ref (hp.objs.size+1)::(us++ds)) _ _ (E U) (hr.make C us []) (hh I2 hq)
  (I2.jZ.make C us []) (hb _ (Value.ref (hp.objs.size+1)::us) I2.cp hl) r2 hq) λr s' hq'=>?_))
 cases r with
 |error e=>exact hx Y U _ _ e s' I2 hq'
 |ok fl=>
  cases fl with
  |ret u=>
   obtain⟨v,H',J,rv,ev,q⟩:=I2.after hq';subst ev;obtain rfl:u=Value.none:=rv;exact⟨rfl,.ref _,H',J,rfl,q⟩
  |next=>exact False.elim hq'
  |brk=>exact False.elim hq'
  |cont=>exact False.elim hq'
def Be (M:Lb X.K C f)(F:dQ c X.prog X.w X.K X.mg X.base CX k f fd ps sp)(hh:∀ {Y:NY}{U:St}{H:Hp}{s:Shared}{vs:List V}{Q:VK}{E:XK},Inv X Y U H s->sp vs H Q E->xT c X.A.handled H) (hr:cg (k+1) X.A) (hg:Gl X x) (hm:X.mg x=some 2e4) (hb:Binds X.K fd ps ds) (hd:Vals dvs ds) (hx:Passes CX X E)
  (ha:PA X (e::es) t) (hdb:2e7=false:=by decide) (he:bm (e::es) X.env=(false,eval e X.env)::bm es X.env:=by rfl) (hpl:(backTo pos (bm es X.env)).any (·.1)=false:=by rfl):
  PE X (.Call (.Name x p) (e::es) [] pos) (AO C sp dvs E t):=by
 intro Y s U H Q I h;refine bv (bM I hg hm ?_ hdb);refine W.callWith_K (h₀:=X.base) I.ok.mod.kin M.kp (bW (ha pos Y s U H _ I h) λus s1 ⟨vs,H1,I1,r,z,q⟩=>⟨I1.cp,?_⟩) he hpl;exact pf M F hh hr hb hd hx (by rw[nil_append,<-r.length];exact Nat.le_of_lt (eC z)) I1 r q
structure GI (K:W.Frag) (C:Addr):Prop where
 mks:cE K C=true
 init:W.findIn K 2e4 "__init__"=some (some (.builtin "ValueError.__init__"))
 kp:W.keepIn K 2e4=true
 cls:dw K C
abbrev ED (C:Addr)(t:TA):TE:=λU H Q=>t U H λvs H1=>vs.length=1/\∀ x,H1 x=none->Q (.ref x) (upd H1 x (.exc C none [] true))
def ur {Q:VK}(M:GI X.K C)(I:Inv X Y U H s)(r:Vals vs us)(h1:vs.length=1)(h:∀ x,H x=none->Q (.ref x) (upd H x (.exc C none [] true))):
  wpAny 0e0 X.A (call 2e4 us) (EP X Y U Q) X.xe s:=by
 have hq:=h 2e3 (I.hok.fresh (Nat.le_succ _));have I2:=Inv.EN (C:=C) us I;obtain⟨u,rfl⟩:∃ u,us=[u]:=by
  have e:=r.length;rw[h1]at e
  match us,e with
  | [u],_=>exact⟨u,rfl⟩
 obtain⟨hh,g,d,tk,os⟩:=s;refine wpAny_call (Ct I.cp (by rw[sizeLine_eq];exact ol rfl) M.mks M.init (l6 (C:=C) (dx:=none) (fs:=[]) (fr:=true) I2 aL M.cls λs' J=>?_));exact⟨rfl,.ref _,_,J,rfl,hq⟩
def zR (M:GI X.K C)(hg:Gl X x)(hm:X.mg x=some 2e4)(ha:PA X (e::es) t)(hdb:2e7=false:=by decide) (he:bm (e::es) X.env=(false,eval e X.env)::bm es X.env:=by rfl) (hpl:(backTo pos (bm es X.env)).any (·.1)=false:=by rfl):
  PE X (.Call (.Name x p) (e::es) [] pos) (ED C t):=by
 intro Y s U H Q I h;refine bv (bM I hg hm ?_ hdb);refine W.callWith_K (h₀:=X.base) I.ok.mod.kin M.kp (bW (ha pos Y s U H _ I h) λus s1 ⟨vs,H1,I1,r,z,q⟩=>⟨I1.cp,?_⟩) he hpl;exact ur M I1 r z q
structure MZ (K:W.Frag) (B:Addr):Prop where
 ga:W.specialIn K (.ref B) "__getattribute__"=some (some (.builtin "type.__getattribute__"))
 rd:W.readsIn K B (.type "type")=true
 fi:W.findCls K (.ref B) (.type "type") "__init__"=some (.val (.builtin "ValueError.__init__"))
abbrev Mm (K:W.Frag)(t:TA):TE:=λU H Q=>t U H λvs H1=>∃ a C dx fs fr v,vs=[.ref a,v]/\H1 a=some (.exc C dx fs fr)/\dw K C/\Q .non H1
def GJ {B:Addr}{np:Pos}(b:MZ X.K B)(hg:Gl X x)(hm:X.mg x=some (.ref B))(ha:PA X (e::es) t)(hdb:2e7=false:=by decide)
  (hst:bm (e::es) X.env=(false,eval e X.env)::bm es X.env:=by rfl) (hpl:(backTo pos (bm es X.env)).any (·.1)=false:=by rfl)
  (ht:eval (.Call (.Attribute (.Name x np) "__init__" apos) (e::es) [] pos) X.env=(do
   let ov <-eval (.Name x np) X.env
   standAt apos.atName
   let(f,first) <-holding [ov] (getMethod ov "__init__" pl)
   callWith pos f first (backTo pos (bm (e::es) X.env)) (backToKw pos (keywordEach [] X.env))):=by rfl):
  PE X (.Call (.Attribute (.Name x np) "__init__" apos) (e::es) [] pos) (Mm X.K t):=by
 intro Y s U H Q I h;refine W.methodCall_KW (pl:=pl) (bM I hg hm ?_ hdb) ht;refine W.method_cls I.cp b.ga (W.cls_value I.cp b.rd b.fi 2e6 ?_);refine PyProof.Rows.callWith_builtin1 (bW (ha pos Y _ U H _ (I.tok _) h) λus s1 ⟨vs,H1,I1,r,a,C,dx,fs,fr,v,ev,ea,c,q⟩=>?_) hst hpl;subst ev;cases r with
 |cons r1 r2=>
  cases r2 with
  |cons r3 r4=>
   cases r4;cases r1;exact ux I1 ea c λs' J=>⟨.non,H1,J,rfl,q⟩
structure Nf (K:W.Frag) (C f:Addr):Prop where
 ga:W.specialIn K 2e4 "__getattribute__"=some (some (.builtin "type.__getattribute__"))
 rd:W.readsIn K C (.type "type")=true
 fi:W.findCls K 2e4 (.type "type") "__init__"=some (.val (.ref f))
 kp:W.keepIn K (.ref f)=true
def Hw {np:Pos}(b:Nf X.K C f)(F:dQ c X.prog X.w X.K X.mg X.base CX k f fd ps sp)(hh:∀ {Y:NY}{U:St}{H:Hp}{s:Shared}{vs:List V}{Q:VK}{E:XK},Inv X Y U H s->sp vs H Q E->xT c X.A.handled H) (hr:cg k X.A) (hg:Gl X x) (hm:X.mg x=some 2e4) (hb:Binds X.K fd ps ds) (hd:Vals dvs ds) (hx:Passes CX X E) (ha:PA X (e::es) t) (hdb:2e7=false)
  (hst:bm (e::es) X.env=(false,eval e X.env)::bm es X.env) (hpl:(backTo pos (bm es X.env)).any (·.1)=false)
  (ht:eval (.Call (.Attribute (.Name x np) "__init__" apos) (e::es) [] pos) X.env=(do
   let ov <-eval (.Name x np) X.env
   standAt apos.atName
   let(f,first) <-holding [ov] (getMethod ov "__init__" pl)
   callWith pos f first (backTo pos (bm (e::es) X.env)) (backToKw pos (keywordEach [] X.env)))):
  PE X (.Call (.Attribute (.Name x np) "__init__" apos) (e::es) [] pos) (AM sp dvs E t):=by
 intro Y s U H Q I h;refine W.methodCall_KW (pl:=pl) (bM I hg hm ?_ hdb) ht;refine W.method_cls I.cp b.ga (W.cls_value I.cp b.rd b.fi rfl ?_);refine W.callWith_K (h₀:=X.base) (first:=[]) I.ok.mod.kin b.kp (uI (ha pos Y _ U H _ (I.tok _) h) λus s1 vs H1 I1 r q=>⟨I1.cp,?_⟩) hst hpl;exact mM F hh hr hb hd hx I1 r q
end
section
open PySem.Builtin PySem.Builtin.ObjectAttr
variable {prog:Program}{w:World}{A:Around}{E:NX}{s:Shared}{K:W.Frag}{x C:Addr}{ox:Obj}{odo:Option Obj}
structure Ca (K:W.Frag) (C:Addr):Prop where
 ha:W.findIn K 2e4 "__class__"=some (some 4e3)
 hn:W.specialIn K 4e3 "__get__"=some (some (.builtin "getset_descriptor.__get__"))
 htk:W.takesIn K 4e3=some true
def Dw {Q:NV}(X:K.In s.heap)(I:W.InstAt s.heap x ox C odo)(c:dw K C)(z:Ca K C)(hfo:W.findObj K C odo "__class__"=some (.bind (.builtin "getset_descriptor.__get__") 4e3))
  (h:Q (some 2e4) 4e6):wpAny 0e7 A (getAttr? (.ref x) "__class__") Q E s:=by
 obtain⟨hp,g,d,t,os⟩:=s;have L0:=I.type (M:=model prog w);have L1:=looks_findIn (M:=model prog w) X c.ga;have L2':=looks_findIn (M:=model prog w) X c.gn;have L3:=looks_find (M:=model prog w) X I hfo;have L4:Looks 0e7 hp (isInstance (.ref x) (.type "BaseException")) true:=I.type.andThen (looks_mroIn X (c.sub 2e6));unfold getAttr? getAttrBy? getAttrBy;refine ad (wpAny_mkText (ad (wpAny_attempt (bd (ad (L0.at (ad (L1.at ?_))))))));have e1:(Value.builtin "BaseException.__getattribute__" ==Value.builtin "object.__getattribute__")=false:=by decide+kernel
 dsimp only;rw[e1,Bool.and_false];show wpAny _ _ (getAttrByItsOwn _ _ _ _ _ _) _ _ _;unfold getAttrByItsOwn hookBefore;refine ad (L2'.at ?_);refine ad (wpAny_attempt (bd ?_));unfold callGetattribute;show wpAny _ _ (boundAndCalled _ _ _) _ _ _;unfold boundAndCalled;rw[PySem.F.attr_ValueError.ga.bind];refine ad (am (wpAny_call (codeAny_call_builtin PySem.F.attr_ValueError.ga.plain PySem.F.entry_bexc_ga ?_)));refine @check_slot 0e7 _ _ _ "BaseException.__getattribute__" "BaseException" "__getattribute__" (.ref x) [.str "__class__" t] [] _ sJ oj L4 (PySem.F.args_bexc_ga (.ref x) (.str "__class__" t)) ?_;unfold Builtin.«object.__getattribute__»;refine ad (am (ad (am (ad (L0.at (ad (L3.at ?_)))))));show wpAny _ _ (holding [_] (call _ [_,.ref x,.ref C]) >>= ret) _ _ _;refine ad (bd (wpAny_call (class_get (s:=⟨hp,g,d,t+1,os⟩) (ox:=ox) (od:=odo) X I (c.sub 2e6) ?_)));refine am ?_;show wpAny _ _ (handedOut 2e4) _ _ _;exact handed_on rfl (am h)
def zq (c:dw K C)(z:Ca K C):W.findObj K C odo "__class__"=some (.bind (.builtin "getset_descriptor.__get__") 4e3):=by
 obtain⟨cd,hc,_⟩:=W.any_some c.hd;unfold W.findObj;rw[hc,Option.bind_some,z.ha,Option.bind_some];simp[z.hn,z.htk]
set_option tactic.hygienic true in
def zZ (c:dw K C)(z:Ca K C):W.KitX K (.ref x) 2e4 (λh=>W.InstAt h x ox C odo) where
 ty:=λ_ _ _ I=>I.type
 it:=λ_ _ X _=>by
  obtain⟨cdD,hcD,_⟩:=W.any_some c.hd;unfold W.clsIn at hcD
  split at hcD
  .rename_i c' d' cd' sl' ho;intro A' Q' E' s' k q;unfold isType loadHead;exact ad (wpAny_loadPart (k _ _ (X _ _ ho)) (am q))
  .cases hcD
 ne:=λh tp dd its n sl X htp=>by
  obtain⟨cdD,hcD,_⟩:=W.any_some c.hd;refine Bool.eq_false_iff.mpr λq=>?_
  have e:C=tp:=Value.ref.inj (beq_iff_eq.mp q);subst e;unfold W.clsIn at hcD
  split at hcD
  .rename_i c' d' cd' sl' ho;have z:=(X _ _ ho).symm.trans htp;cases z
  .cases hcD
 ca:=λX I k=>Dw X I c z (zq c z) k
end
section
variable {X:Cx}{Y:NY}{U:St}{H:Hp}{s:Shared}{a C:Addr}{dx:Option Addr}{fs:List (Str×V)}{fr:Bool}
def A5 (I:Inv X Y U H s)(e:H a=some (.exc C dx fs fr)):∃ ox odo,W.InstAt s.heap a ox C odo:=by
 obtain⟨⟨vs,ho,_⟩,z⟩:=id (I.hok a _ e);rcases z with⟨rfl,_⟩|⟨d,rfl,_,_,_,mA,⟨od,es,ep,hod,_⟩,_⟩
 .exact⟨_,none,ho,rfl,rfl,True.intro⟩
 .exact⟨_,some od,ho,rfl,rfl,hod⟩
def An {E:NX}{Q:NX}{cv:Value}{b:Bool}(I:Inv X Y U H s)(e:H a=some (.exc C dx fs fr))(c:dw X.K C)(z:Ca X.K C)(k:W.kitOne X.K 2e4 cv=some b)
  (h:∀ tk,Q (.bool b) { s with toks:=tk }):wpAny 0e0 A (call (.builtin "isinstance") [.ref a,cv]) Q E s:=by
 obtain⟨ox,odo,J⟩:=A5 I e;exact W.kia_one (zZ (ox:=ox) (odo:=odo) c z) I.cp J k (λz=>nomatch z) h
end
end L2
namespace L2
open PySem PySem.Spec PySem.W PyProof.Rows
variable {dx:Option Addr}
section
variable {X:Cx}{f:Str}{o value ex:Expr}{ta tv te:TE}{pos pos':Pos}{E:St->XK}
def uP {h:Heap}{a:Addr}{C:Addr}{vs:Array Value}{M:Model}(ho:h.get? a=some { cls:=.ref C,dict:=dx,data:=.fields vs }):W.Looks M h (isType 3e6) false:=by
 intro A Q E s k q;unfold isType loadHead;exact ad (wpAny_loadPart (k _ _ ho) (am q))
abbrev FY (K:W.Frag)(E:St->XK)(te:TE):TS:=λD U H=>te U H λv H1=>∃ a C dx fs,v=.ref a/\H1 a=some (.exc C dx fs true)/\dw K C/\E U a (upd H1 a 5e2)
def Bw (hx:Hy X E)(hc:X.calm=true)(he:PE X ex te):PS X (.Raise (some ex) none pos) (FY X.K E te):=by
 intro Y s U H D I h;rw[arm_exec_Raise];simp only[evalOpt,Option.map];refine ad (wpAny_standAt ?_);unfold raiseStmt;refine ad (ad (bW (he Y s U H _ I h) λu s1 ⟨y,H1,I1,ry,a,C,dx,fs,ey,ea,c,q⟩=>ad (wpAny_standAt (am ?_))));subst ey;obtain rfl:u=Value.ref a:=ry;obtain⟨⟨vs,ho,hsz,h1,h2⟩,z⟩:=id (I1.hok a _ ea);have h1':=h1 rfl;have hq:X.xe 3e6 s1:=by
  have J:Inv X [] U (upd H1 a 5e2) s1:=by
   have J1:=I1.uD.write (x:=a) (e:=a) (o:=.exc C dx fs false) (t':=s1.toks) (h':=s1.heap) (by rw[ea];exact rfl) 3e9 (λ_ _ _ q=>q) ⟨_,ho⟩ ?_
   .exact J1
   .refine⟨⟨vs,ho,hsz,(λy=>by cases y),h2⟩,?_⟩;rcases z with z|⟨d,ed,d1,z1,ne,r⟩
    .exact .inl z
    .exact .inr ⟨d,ed,by rw[aj ne];exact d1,z1,ne,r⟩
  exact hx U _ s1 a C dx fs J (.inl ⟨_,vs,ho,rfl,h1'⟩) aL q
 obtain⟨hp,g,d,tk,os⟩:=s1;have L0:Looks 0e0 hp (typeOf 3e6) 2e4:=(Looks.ld ho).andThen .now;have L1:Looks 0e0 hp (isType 3e6) false:=uP ho;have L2':Looks 0e0 hp (isInstance 3e6 (.type "BaseException")) true:=L0.andThen (looks_mroIn I1.cp (c.sub 2e6));have L5:Looks 0e0 hp (typeOf 2e4) (.type "type"):=looks_typeIn I1.cp c.mt;have tt:(Value.type "type" ==Value.type "type")=true:=by decide
 repeat(first|simp only[Bool.false_eq_true,if_false,if_true,tt]|lk)
 rw[h1'];refine am ?_;rw[if_neg 1e1];exact am (wpAny_raiseNew_none (I1.ok.hd hc) hq)
end
@[reducible]def Cx.bg (X:Cx) (e:Value):Cx:={ X with A:=X.A.mark (some e),calm:=false,xe:=λ_ _=>False }
variable {xe:NX}{ps:NY}{D:Ends}
section
variable {X:Cx}{Y:NY}{U:St}{H:Hp}{s:Shared}
def Cx.Ok.bg (ok:X.Ok)(e:Value):(X.bg e).Ok:=
 ⟨ok.mod,ok.kind,ok.glob,ok.blt,ok.above,ok.inj,ok.has,ok.cab,(λz=>by cases z),ok.frames,ok.stk,ok.exf,ok.bs,ok.bsz,ok.noex,ok.exfs,ok.j7,ok.frf⟩
def Inv.bg (I:Inv X Y U H s)(e:Value):Inv (X.bg e) Y U H s:=⟨I.ok.bg e,I.os,I.bare,I.base,I.loc,I.cell,I.free,I.freeC,I.pin,I.hok,I.len⟩
def Inv.lQ {e:Value}(ok:X.Ok)(I:Inv (X.bg e) Y U H s):Inv X Y U H s:=⟨ok,I.os,I.bare,I.base,I.loc,I.cell,I.free,I.freeC,I.pin,I.hok,I.len⟩
def gX {M:Model}{A:Around}{E:NX}{Q:NW}{i:Nat}{n:Str}{pos:Pos}(I:Inv X Y U H s)(hN:X.N.Nodup)(hi:X.N[i]? =some n)(hn:X.env.scope.names.lookup n=some .local)
  (h:∀ s',Inv X Y (U.set i none) H s'->Q () s'):wpAny M A (do bindName X.env n .none;unbindBehindTheSuite X.env n pos) Q E s:=by
 have hcls:(X.env.scope.kind ==.class||(X.env.scope.kind ==.module&&X.env.locals != X.env.globals))=false:=by rw[I.ok.kind];rfl
 refine ad (wpAny_bindName (bH I hN hi (.inl hn) (v:=.non) rfl (λs1 I1=>?_) (.inr hn)));obtain⟨m,hm,hl⟩:=I1.loc;unfold unbindBehindTheSuite;refine wpAny_onRaise ?_;unfold unbindName;refine ad (wpAny_point (ad ?_));unfold deleteName;have hk:X.env.kindOf n=some .local:=hn;have hiσ:i<U.length:=by rw[I.len];exact(sw.mp hi).1
 have hmn:(m n).isSome=true:=by
  obtain⟨u,_,l⟩:=hl i n .non hi (by rw[getElem?_set_self hiσ]) (.inl hn);rcases l with⟨_,q⟩|⟨q,_⟩
  .rw[q];rfl
  .rcases q with q|q<;>(rw[hk]at q;cases q)
 simp only[hk,hcls];rw[if_neg 1e1];refine ad (wpAny_nsDel_keeps hm λh2 v hn2 hs2=>?_);rw[hmn];simp only[if_true,Bool.not_true,Bool.false_eq_true,if_false];refine am (wpAny_point (h { s1 with heap:=h2 } ?_));obtain⟨oL,esL,epL,hoL,_⟩:=id hm;have Br:=I1.Br;refine⟨I1.ok,I1.os,I1.bare,⟨λb o e n hb hx=>?_,λb o e n hb hx=>?_,I1.base.free,λb o e hx=>?_,I1.base.tups,I1.base.frzs,I1.base.tbls⟩,⟨_,hn2,λj y v' e1 e2 e3=>?_⟩,λy c e=>?_,I1.free,I1.freeC,λp hp=>?_,λa u ha=>?_,by rw[length_set];exact I.len⟩
 .exact(hs2.2 b (pc (nw (tz e) I1.ok.above))).trans (I1.base.keep b o e n hb hx)
 .obtain⟨sl,q⟩:=I1.base.slot b o e n hb hx;exact⟨sl,(hs2.2 b (pc (nw (tz e) I1.ok.above))).trans q⟩
 .obtain⟨o',q⟩:=I1.base.there b o e hx;exact⟨o',(hs2.2 b (pc (nw (tz e) I1.ok.above))).trans q⟩
 .have hj:j≠i:=λz=>by rw[z,getElem?_set_self hiσ]at e2;cases e2
  rw[getElem?_set_ne (Ne.symm hj)]at e2;obtain⟨u,r,q⟩:=hl j y v' e1 (by rw[getElem?_set_ne (Ne.symm hj)];exact e2) e3;refine⟨u,r,?_⟩;rcases q with⟨k,e⟩|⟨k,c,e,z⟩
  .refine .inl ⟨k,?_⟩;have ny:y≠n:=λz=>hj (mK hN e1 (z▸hi))
   show(if y=n then v else m y)=some u;rw[if_neg ny];exact e
  .exact .inr ⟨k,c,e,z.sameBut hs2 (Br y c e)⟩
 .obtain⟨w',z⟩:=I1.cell y c e;exact⟨w',z.sameBut hs2 (Br y c e)⟩
 .obtain⟨e,n,ne,nf,d⟩:=I1.pin p hp;exact⟨(hs2.2 p.1 ne).trans e,n,ne,nf,d⟩
 .refine(I1.hok a u ha).fL (λb o hb hq=>(hs2.2 b ?_).trans hq) (λ_ q=>q) λ_ _ q=>q
  rintro rfl;rcases hb with hb|hb
  .rw[<-hb,I1.free]at ha;cases ha
  .rw[I1.free]at hb;cases hb
@[reducible]def Cx.iT (X:Cx) (Y:NY) (xe:NX):Cx:={ X with pn:=X.pn++Y,xe:=xe }
def Cx.Ok.iT (ok:X.Ok)(Y:NY)(xe:NX):(X.iT Y xe).Ok:=
 ⟨ok.mod,ok.kind,ok.glob,ok.blt,ok.above,ok.inj,ok.has,ok.cab,ok.hd,ok.frames,ok.stk,ok.exf,ok.bs,ok.bsz,ok.noex,ok.exfs,ok.j7,ok.frf⟩
def Inv.iT (I:Inv X Y U H s)(xe:NX):Inv (X.iT Y xe) [] U H s:=
 ⟨I.ok.iT Y xe,I.os,I.bare,I.base,I.loc,I.cell,I.free,I.freeC,λp hp=>I.pin p (by simpa using hp),I.hok,I.len⟩
def Inv.iJ (ok:X.Ok)(I:Inv (X.iT Y xe) ps U H s):Inv X Y U H s:=
 ⟨ok,I.os,I.bare,I.base,I.loc,I.cell,I.free,I.freeC,λp hp=>I.pin p (mem_append_left _ hp),I.hok,I.len⟩
set_option tactic.hygienic true in
def SP.iJ {f:Flow}(ok:X.Ok)(h:SP (X.iT Y xe) ps D f s):SP X Y D f s:=by
 cases f with
 |next=>obtain⟨σ',H',I,q⟩:=h;exact⟨σ',H',I.iJ ok,q⟩
 |brk=>obtain⟨σ',H',I,q⟩:=h;exact⟨σ',H',I.iJ ok,q⟩
 |cont=>obtain⟨σ',H',I,q⟩:=h;exact⟨σ',H',I.iJ ok,q⟩
 |ret u=>obtain⟨v,σ',H',I,r,q⟩:=h;exact⟨v,σ',H',I.iJ ok,r,q⟩
set_option tactic.hygienic true in
def GB {body:List Stmt}{h0:ExceptHandler}{hs:List ExceptHandler}{pos:Pos}{E':St->XK}(I:Inv X Y U H s)(hstk:X.stack=X.env::X.outer)(hfr:X.env.frame=some X.env.locals)
  (hb:∀ xe,Hy (X.iT Y xe) E'->PassesOwn 0e0 X.A X.env xe->wpAny 0e0 X.A (execs body X.env) (SP (X.iT Y xe) [] D) xe s)
  (hh:∀ (U:St) (H:Hp) (s:Shared) (e C:Addr) (dx:Option Addr) (fs:List (Str×V)) (T:Addr),Inv X Y U H s->H e=some 5e2->X.s₀.heap.objs.size<=T->H T=none->(∀ p ∈ X.pn++Y,p.1≠T)->xG s.heap e T .none->E' U e H->
   wpAny 0e0 X.A (handleBy (.ref e) X.env (h0::hs)) (SP X Y D) X.xe s):
  wpAny 0e0 X.A (exec (.Try body (h0::hs) [] [] pos) X.env) (SP X Y D) X.xe s:=by
 refine wpAny_Try_except (wpAny_mono (hb (λu s1=>wpAny 0e0 X.A (noteFrame u X.env) (λ_ s2=>wpAny 0e0 X.A (setFlight u none) (λ_ s3=>wpAny 0e0 X.A (handleBy u X.env (h0::hs)) (SP X Y D) X.xe s3) X.xe s2) X.xe s1) ?_ PassesOwn.looking) (λf s1 h1=>?_) λ_ _ z=>z)
 .intro σ' H' s' e C dx fs J sf he q;exact oq (X:=X.iT Y _) J hstk hfr sf he λs2 T J2 _ hT hH hp st=>hh σ' H' s2 e C dx fs T (J2.iJ I.ok) he hT hH hp st q
 .have h2:=SP.iJ I.ok h1;cases f with
  |next=>exact wpAny_execs_nil h2
  |brk=>exact h2
  |cont=>exact h2
  |ret u=>exact h2
set_option tactic.hygienic true in
def su {n x:Str}{np hpos:Pos}{b0:Stmt}{bg:List Stmt}{rest:List ExceptHandler}{i:Nat}{e C Ch T:Addr}{fs:List (Str×V)}{b:Bool}(I:Inv X Y U H s)(he:H e=some 5e2)
  (hT:X.s₀.heap.objs.size<=T) (hH:H T=none) (hp:∀ p ∈ X.pn++Y,p.1≠T) (st:xG s.heap e T .none) (c:dw X.K C) (ch:dw X.K Ch) (hsub:W.mroIn X.K C (.ref Ch)=some b) (hg:Gl X x) (hm:X.mg x=some (.ref Ch))
  (hN:X.N.Nodup) (hi:X.N[i]? =some n) (hn:X.env.scope.names.lookup n=some .local) (hdb:2e7=false)
  (yes:b=true->∀ s2,Inv (X.bg (.ref e)) Y (U.set i (some (.ref e))) H s2->wpAny 0e0 (X.A.mark (some (.ref e))) (execs (b0::bg) X.env)
   (SP (X.bg (.ref e)) Y { nx:=λσ' H'=>D.nx (σ'.set i none) H',rt:=D.rt,bk:=λσ' H'=>D.bk (σ'.set i none) H',ct:=λσ' H'=>D.ct (σ'.set i none) H' }) (λ_ _=>False) s2)
  (no:b=false->wpAny 0e0 X.A (handleBy (.ref e) X.env rest) (SP X Y D) X.xe s):
  wpAny 0e0 X.A (handleBy (.ref e) X.env (.ExceptHandler (some (.Name x np)) (some n) (b0::bg) hpos::rest)) (SP X Y D) X.xe s:=by
 have I':=I.bg (.ref e);refine wpAny_handleBy_cons (codeAny_handlers_test (bM (X:=X.bg (.ref e)) I' hg hm ?_ hdb)) (by intro q;cases q);obtain⟨⟨vs,ho,hsz,h1⟩,z⟩:=id (I.hok e _ he);have L0:Looks 0e0 s.heap (typeOf (.ref e)) 2e4:=(Looks.ld ho).andThen .now;have L1:Looks 0e0 s.heap (typeOf (.ref Ch)) (.type "type"):=looks_typeIn I.cp ch.mt;have L2':Looks 0e0 s.heap (isInstance (.ref Ch) (.type "tuple")) false:=L1.andThen (Looks.of_pure tc_notTuple);have L3:Looks 0e0 s.heap (isType (.ref Ch)) true:=by
  obtain⟨cd,rs,hcl,_⟩:=ch.mro;unfold W.clsIn at hcl
  split at hcl
  .rename_i ho';intro A' Q' E' s' k q;unfold isType loadHead;exact ad (wpAny_loadPart (k _ _ (I.cp _ _ ho')) (am q))
  .cases hcl
 have L4:Looks 0e0 s.heap (isSubtype (.ref Ch) (.type "BaseException")) true:=looks_mroIn I.cp (ch.sub 2e6);have L5:Looks 0e0 s.heap (isSubtype 2e4 (.ref Ch)) b:=looks_mroIn I.cp hsub;have L6:Looks 0e0 s.heap (isExcClass (.ref Ch)) true:=by
  unfold isExcClass;exact L3.andThen L4
 unfold excMatches;refine ad (L2'.here ?_);rw[if_neg 1e1];refine ad (am ?_);simp only[forIn_cons,forIn_nil];refine ad (ad (ad (L6.here ?_)));rw[if_neg 1e1];refine am ?_;refine am ?_;refine ad (L0.here ?_);refine ad (ad (ad (L5.here ?_)));cases b with
 |false=>
  rw[if_neg 1e1];refine am ?_;refine am ?_;refine am ?_;exact no rfl
 |true=>
  rw[if_pos rfl];refine am ?_;refine am ?_;refine am ?_;refine codeAny_handlers_suite_as (wQ st λh2 qW oth _ th2 _=>?_);have I2:Inv X Y U H { s with heap:=h2 }:=by
   refine Inv.turned (it:=T) (h':=h2) (t':=s.toks) I (λb o hb hq=>(oth b hb).trans hq) hH ?_ (.inr hT) (λy cc hc z=>?_) hp
   .intro z;obtain⟨m,⟨o,es,ep,ho',hd,_⟩,_⟩:=I.loc;obtain⟨_,_,oT,ts,_,_,_,_,hT2,hd2,_⟩:=st;rw[z,ho']at hT2;cases hT2;rw[hd]at hd2;cases hd2
   .obtain⟨v,o,ho',hd⟩:=I.cell y cc hc;obtain⟨_,_,oT,ts,_,_,_,_,hT2,hd2,_⟩:=st;rw[<-z,ho']at hT2;cases hT2;rw[hd]at hd2;cases hd2
  refine bH (X:=X.bg (.ref e)) (I2.bg (.ref e)) hN hi (.inl hn) (v:=.ref e) rfl (λs3 I3=>?_) (.inr hn);refine wpAny_mono (yes rfl s3 I3) (λf s4 h4=>?_) λ_ _ z=>z.elim
  cases f with
  |next=>
   obtain⟨σ',H',J,q⟩:=h4;exact gX (J.lQ I.ok) hN hi hn λs5 J5=>⟨_,H',J5,q⟩
  |brk=>
   obtain⟨σ',H',J,q⟩:=h4;exact gX (J.lQ I.ok) hN hi hn λs5 J5=>⟨_,H',J5,q⟩
  |cont=>
   obtain⟨σ',H',J,q⟩:=h4;exact gX (J.lQ I.ok) hN hi hn λs5 J5=>⟨_,H',J5,q⟩
  |ret u=>
   obtain⟨v,σ',H',J,r,q⟩:=h4;exact gX (J.lQ I.ok) hN hi hn λs5 J5=>⟨v,_,H',J5,r,q⟩
end
end L2
namespace L2
open PySem PySem.Spec PyProof.Rows
def GL:bootBuiltins "isinstance"=some (.builtin "isinstance"):=by decide+kernel
section
variable {X:Cx}
abbrev Ko (K:W.Frag):V->V->Hp->VK->Prop:=λx y H Q=>∃ p xs i v,x=.ref p/\y=.int i/\bB K H p xs/\0<=i/\xs[i.toNat]? =some v/\Q v H
def Ay:GF X (Ko X.K):=by
 intro Y s U H o i ov iv Q I ro ri h;obtain⟨p,xs,k,z,rfl,rfl,hq,h0,he,q⟩:=h;cases ro;obtain⟨t,rfl⟩:=ri;obtain⟨its,r,pl,hz⟩:=I.list hq;obtain⟨w,ew,rw'⟩:=r.get he;have hl:k.toNat<xs.length:=(sw.mp he).1;have hn:=kr;exact wpAny_getItem_list pl.isList h0 nofun (by simpa using ew) ⟨z,H,I,rw',q⟩
def lN {xs:List V}{us:List Value}(r:Vals xs us){j:Nat}(h:j<us.toArray.size):∃ x,xs[j]? =some x/\RelV x (us.toArray[j]):=by
 have hl:=r.length;have hj:j<us.length:=by simpa using h
 have e:xs[j]? =some xs[j]:=li nofun;obtain⟨u,h1,h2⟩:=r.get e;refine⟨_,e,?_⟩;rw[li hj]at h1;cases h1;simpa using h2
end
section
variable {U:St}{H:Hp}{Q:VK}{D:Ends}{K:W.Frag}
abbrev tQ (x:V)(H:Hp)(R:Bool->Hp->Prop):Prop:=∃ k,x=.bl k/\R k H
def dW {α:Type}{xs:List α}{i:Int}(h0:0<=i)(h1:i<xs.length):∃ v,oa xs i=some v/\v ∈ xs:=by
 obtain⟨n,rfl⟩:=Int.eq_ofNat_of_zero_le h0;have hn:n<xs.length:=by omega
 exact⟨xs[n],pK (li hn),getElem_mem hn⟩
end
section
variable {K:W.Frag}{g:TG}{tb:TS}{D:Ends}{U:St}{H:Hp}{tl:TE}{ta:TA}
end
def fits {n:Nat}(h:n<=1000):n<=bn:=Nat.le_of_lt (eC h)
section
variable {X:Cx}{H:Hp}{Q:VK}
end
section
variable {K:W.Frag}
end
section
variable {H H':Hp}{h c p:Addr}{m n:Int}{o:HO}
end
def JZ (ns:List Int)(h:ns.length<=63):sM (ns.map V.int) none (some 63)=ns.map V.int:=by
 have e1:HT.tF (ns.map V.int).length 0 none=0:=rfl;have e2:HT.tF (ns.map V.int).length (ns.map V.int).length (some 63)=(ns.map V.int).length:=by
  show(if(63:Int)<0 then((63:Int)+((ns.map V.int).length:Int)).toNat else min (63:Int).toNat (ns.map V.int).length)=(ns.map V.int).length;rw[if_neg 1e1,ce];show min 63 ns.length=ns.length
  omega
 unfold sM;rw[e1,e2,drop_zero,Nat.sub_zero,take_length]
variable {ns:List Int}
def t9 {i:Nat}{x:V}(h:(ns.map V.int)[i]? =some x):∃ z,x=V.int z:=by
 rw[im]at h;cases e:ns[i]? with
 |none=>rw[e]at h;cases h
 |some z=>rw[e]at h;exact⟨z,(Option.some.inj h).symm⟩
def B9 {i:Int}(h0:0<=i)(h1:i<ns.length):∃ z,oa (ns.map V.int) i=some (.int z):=by
 obtain⟨v,a,m⟩:=dW (xs:=ns.map V.int) h0 (by rw[ce];exact h1);obtain⟨z,_,rfl⟩:=List.mem_map.mp m;exact⟨z,a⟩
section
variable {H:Hp}{Q:VK}
end
section
variable {X:Cx}
end
abbrev Ii (X:Cx)(scope:Scope)(cl:List (Str×Addr))(N:List Str)(s:Shared)(H:Hp)(fp:List Addr)(xe:NX):Cx:=
 { X with N:=N,s₀:=s,H₀:=H,env:=compEnvC scope cl s.heap.objs.size X.env,outer:=X.stack,stack:=X.stack,ex:=fp,fn:=λ_=>false,xe:=xe }
abbrev NO (X:Cx)(E:XK)(u:Value)(s':Shared):Prop:=∃ (σ':St) (H':Hp) (e C:Addr) (dx:Option Addr) (fs:List (Str×V)),u=.ref e/\Inv X [] σ' H' s'/\Ce X.s₀.heap.objs.size X.pn H' s'.heap e/\H' e=some 5e2/\E e H'
abbrev fQ (X:Cx)(scope:Scope)(cl:List (Str×Addr))(N:List Str)(s:Shared)(H:Hp)(fp:List Addr)(E:XK):Cx:=Ii X scope cl N s H fp (NO (Ii X scope cl N s H fp λ_ _=>False) E)
variable {X:Cx}{scope:Scope}{cl:List (Str×Addr)}{s:Shared}{H:Hp}{fp:List Addr}{E:XK}
def EX {N:List Str}:Hy (fQ X scope cl N s H fp E) (λ_=>E):=λσ' H' s' e C dx fs I sf he q=>
 ⟨σ',H',e,C,dx,fs,rfl,⟨⟨I.ok.mod,I.ok.kind,I.ok.glob,I.ok.blt,I.ok.above,I.ok.inj,I.ok.has,I.ok.cab,I.ok.hd,I.ok.frames,I.ok.stk,I.ok.exf,I.ok.bs,I.ok.bsz,I.ok.noex,I.ok.exfs,I.ok.j7,I.ok.frf⟩,I.os,I.bare,I.base,I.loc,I.cell,I.free,I.freeC,I.pin,I.hok,I.len⟩,sf,he,q⟩
structure bU (X:Cx) (scope:Scope) (cl:List (Str×Addr)) (xs:List Str) (fr:List Str) (sel:List Nat):Prop where
 clos:closureFor scope X.env=pure cl
 sub:∀ y c,cl.lookup y=some c->X.env.cells.lookup y=some c
 has:∀ y,((relabel scope X.env).names.lookup y=some .cell\/(relabel scope X.env).names.lookup y=some .free)->∃ c,cl.lookup y=some c
 kind:scope.kind=.function
 nocell:∀ y ∈ scope.names,y.2≠.cell
 names:∀ y ∈ scope.names,y.2=.local->scope.names.lookup y.1=some .local
 own:∀ x ∈ xs,scope.names.lookup x=some .local
 len:sel.length=fr.length
 out:∀ (j:Nat) (y:Str),fr[j]? =some y->∃ i,sel[j]? =some i/\X.N[i]? =some y/\X.env.scope.names.lookup y=some .cell/\(relabel scope X.env).names.lookup y=some .cell
 nd:(xs++fr).Nodup
abbrev gF (U:St)(sel:List Nat):St:=sel.map λi=>U.getD i none
abbrev LC (te:TE)(J:It)(σ₀:St)(H1:Hp)(Q:VK):Prop:=∀ D,H1 D=none->∃ W:Nat->Nat->St->Hp->Prop,(∃ m,W 0 m σ₀ (upd H1 D (.lst [])))/\∀ i m σ' H',W i m σ' H'->
 (J.stop i H'/\Q (.ref D) H')\/(J.go i H'/\∃ N:St->Hp->Prop,(∀ σ2 H2,N σ2 H2->∃ m',m'<m/\W (i+1) m' σ2 H2)/\
  ∀ x H'',J.yld i H' x H''->te (σ'.set 0 (some x)) H'' λv H3=>∃ zs,H3 D=some (.lst zs)/\zs.length<bn/\N (σ'.set 0 (some x)) (upd H3 D (.lst (zs++[v]))))
abbrev gate (env:Env):List Expr->Sem Bool
 | []=>pure true
 |c::_=>isTrue c env (eval c env)
variable {ifs:List Expr}{pos:Pos}
set_option tactic.hygienic true in
def wR {M:Model}{A:Around}{elt target iter:Expr}{it acc:Value}{env:Env}{Q:PySem.Fin->Shared->Prop}{E:NX}(hi:ifs.length<=1)
  (h:wpAny M A (pyNext it) (λr s1=>match r with
   |none=>Q (.done .next) s1
   |some v=>wpAny M A (letOwnedTupleGo target it v) (λ_ s2=>wpAny M A (assign target env v) (λ_ s3=>wpAny M A (gate env ifs) (λok s4=>
    (ok=true->wpAny M A (eval elt env) (λx s5=>wpAny M A (call (.builtin "list.append") [acc,x]) (λ_ s6=>wpAny M A (again (.compLoop (.ListComp elt [⟨target,iter,ifs,0⟩] scope pos) 0 it acc env)) Q E s6) E s5) E s4)/\
    (ok=false->wpAny M A (again (.compLoop (.ListComp elt [⟨target,iter,ifs,0⟩] scope pos) 0 it acc env)) Q E s4)) E s3) E s2) E s1) E s):
  wpAny M A (compTurn (.ListComp elt [⟨target,iter,ifs,0⟩] scope pos) 0 it acc env) Q E s:=by
 have key:∀ {g:Sem Bool}{K:Sem PySem.Fin}{s:Shared},wpAny M A g (λok s4=>
    (ok=true->wpAny M A (eval elt env) (λx s5=>wpAny M A (call (.builtin "list.append") [acc,x]) (λ_ s6=>wpAny M A K Q E s6) E s5) E s4)/\
    (ok=false->wpAny M A K Q E s4)) E s->wpAny M A (g >>= λok=>if ok=true then(eval elt env >>= λx=>call (.builtin "list.append") [acc,x] >>= λ_=>pure ()) >>= λ_=>K else K) Q E s:=λ{g K s} h=>by
  refine ad (wpAny_mono h (λok s4 h4=>?_) λ_ _ e=>e);cases ok with
  |false=>exact h4.2 rfl
  |true=>exact ad (ad (wpAny_mono (h4.1 rfl) (λx s5 h5=>ad (wpAny_mono h5 (λ_ s6 h6=>am h6) λ_ _ e=>e)) λ_ _ e=>e))
 match ifs,hi with
 | [],_=>
  rw[compTurn_list1];refine ad (wpAny_standAt (ad (wpAny_mono h (λr s1 h1=>?_) λ_ _ e=>e)));cases r with
  |none=>exact am h1
  |some v=>
   refine ad (wpAny_mono h1 (λ_ s2 h2=>ad (wpAny_mono h2 (λ_ s3 h3=>?_) λ_ _ e=>e)) λ_ _ e=>e);exact key (g:=pure true) h3
 | [c],_=>
  unfold compTurn;simp only[List.getElem?_cons_zero,List.getElem?_cons_succ,List.getElem?_nil];dsimp only[forIn,List.forIn',List.forIn'.loop,forIn'];rw[if_neg 1e1,if_neg 1e1];refine ad (wpAny_standAt (ad (wpAny_mono h (λr s1 h1=>?_) λ_ _ e=>e)));cases r with
  |none=>exact am h1
  |some v=>
   refine ad (wpAny_mono h1 (λ_ s2 h2=>ad (wpAny_mono h2 (λ_ s3 h3=>?_) λ_ _ e=>e)) λ_ _ e=>e);refine key ?_;rw[if_pos rfl];refine ad (ad (wpAny_mono h3 (λok s4 h4=>am ?_) λ_ _ e=>e));exact am h4
abbrev LCg (tg:TG)(tc:TT)(te:TE)(J:It)(σ₀:St)(H1:Hp)(Q:VK):Prop:=∀ D,H1 D=none->∃ W:Nat->Nat->St->Hp->Prop,(∃ m,W 0 m σ₀ (upd H1 D (.lst [])))/\∀ i m σ' H',W i m σ' H'->
 (J.stop i H'/\Q (.ref D) H')\/(J.go i H'/\∃ N:St->Hp->Prop,(∀ σ2 H2,N σ2 H2->∃ m',m'<m/\W (i+1) m' σ2 H2)/\
  ∀ x H'',J.yld i H' x H''->tg x σ' H'' λσ2 H2=>tc σ2 H2 λb H3=>(b=true->te σ2 H3 λv H4=>∃ zs,H4 D=some (.lst zs)/\zs.length<bn/\N σ2 (upd H4 D (.lst (zs++[v]))))/\(b=false->N σ2 H3))
abbrev yes:TT:=λ_ H Q=>Q true H
variable {te:TE}
def LC.g {J:It}{σ₀:St}{H1:Hp}{Q:VK}(h:LC te J σ₀ H1 Q):LCg (ja 0) yes te J σ₀ H1 Q:=λD hD=>by
 obtain⟨W,w0,turn⟩:=h D hD;refine⟨W,w0,λi m σ' H' w=>?_⟩;rcases turn i m σ' H' w with z|⟨go,N,hN,step⟩
 .exact .inl z
 .exact .inr ⟨go,N,hN,λx H'' y=>⟨λ_=>step x H'' y,λe=>nomatch e⟩⟩
abbrev Lp (X:Cx)(ifs:List Expr)(tc:TT):Prop:=ifs.length<=1/\∀ (Y:NY) (s:Shared) (U:St) (H:Hp) (Q:Bool->Hp->Prop),Inv X Y U H s->tc U H Q->wpAny 0e0 X.A (gate X.env ifs) (TP X Y U Q) X.xe s
def lM:Lp X [] yes:=⟨Nat.zero_le _,λY s U H Q I q=>am ⟨H,I,q⟩⟩
def De {c:Expr}{tc:TT}(h:PT X c tc):Lp X [c] tc:=⟨pi _,h⟩
abbrev tI (xs:List Str):St:=xs.map λ_=>none
abbrev Nr (wi:TI)(te:TE)(sel:List Nat):TE:=λU H Q=>wi U H λJ H1=>LC te J (none::gF U sel) H1 Q
abbrev Kl (wi:TI)(tg:TG)(tc:TT)(te:TE)(xs:List Str)(sel:List Nat):TE:=λU H Q=>wi U H λJ H1=>LCg tg tc te J (tI xs++gF U sel) H1 Q
variable {xs fr:List Str}{sel:List Nat}{Y:NY}{U:St}{ok:Cx->Prop}
section
variable {X:Cx}
def Un.sameBut {fs ex:List Addr}{H':Hp}{h h1 h2:Heap}{C:Addr}(u:Un fs ex H H' h h1)(hs:Heap.SameBut C h1 h2)(hC:h.objs.size<=C):Un fs ex H H' h h2:=by
 have ne:∀ b o,h.get? b=some o->b≠C:=λb o e=>pc (nw (tz e) hC)
 refine⟨λb o e n hb hx=>(hs.2 b (ne b o e)).trans (u.keep b o e n hb hx),λb o e n hb hx=>?_,u.free,λb o e hx=>?_,u.tups,u.frzs,u.tbls⟩
 .obtain⟨sl,q⟩:=u.slot b o e n hb hx;exact⟨sl,(hs.2 b (ne b o e)).trans q⟩
 .obtain⟨o',q⟩:=u.there b o e hx;exact⟨o',(hs.2 b (ne b o e)).trans q⟩
def sC {h':Heap}{tk:Nat}{m':NZ}
  (S:bU X scope cl xs fr sel) (I:Inv X Y U H s) (f2:∀ b ∈ fp,jr X Y H b) (fo:∀ b ∈ fp,b<s.heap.objs.size) (hns:h'.Ns s.heap.objs.size m') (keep:∀ b o,s.heap.get? b=some o->h'.get? b=some o):
  Inv (fQ X scope cl (xs++fr) s H fp E) Y (tI xs++gF U sel) H { s with heap:=h',toks:=tk }:=by
 have stk:∀ b,b≠X.env.locals->b ∉ X.fs->b ∉ qE X.stack:=λb h1 h2 hb=>(mo.mp (I.jW b hb)).elim h1 h2
 refine⟨⟨I.ok.mod,S.kind,I.ok.glob,I.ok.blt,pi _,λy z c h1 h2=>I.ok.inj y z c (S.sub y c h1) (S.sub z c h2),λy hy=>S.has y hy,(λy c h=>nomatch h),I.ok.hd,I.ok.frames,.inl rfl,λb hb=>⟨pc (fo b hb),λy c h=>(f2 b hb).2.2.2.2.1 y c (S.sub y c h)⟩,I.bs,
  Nat.le_trans I.ok.bsz I.sz,λb o e hb=>?_,λb hb=>stk b (f2 b hb).2.1 (f2 b hb).2.2.1,I.stack,I.qT⟩,
  rfl,I.bare,Un.kept keep,⟨m',hns,λi y v e1 e2 e3=>?_⟩,λy c h=>?_,I.hok.fresh (pi _),λy c h=>I.freeC y c (S.sub y c h),λp hp=>?_,I.hok.kept keep,?_⟩
 .rcases(f2 b hb).2.2.2.1 with z|z
  .exact I.ok.noex b o e z
  .exact absurd (nw (nw (tz e) I.ok.bsz) z) (Nat.lt_irrefl _)
 .have hln:(tI xs).length=xs.length:=ce ..
  by_cases hlt:i<xs.length
  .rw[List.getElem?_append_left (by rw[hln];exact hlt)]at e2;unfold tI at e2;rw[im,li hlt]at e2;cases e2
  .obtain⟨j,rfl⟩:∃ j,i=xs.length+j:=⟨i-xs.length,by omega⟩;have e1':fr[j]? =some y:=by
    have e1:(xs++fr)[xs.length+j]? =some y:=e1;rw[getElem?_append_right nofun,show xs.length+j-xs.length=j by omega]at e1;exact e1
   obtain⟨i,hi,hN,k1,k2⟩:=S.out j y e1';have e2':(gF U sel)[j]? =some (some v):=by
    rw[getElem?_append_right (by rw[hln];omega),hln,show xs.length+j-xs.length=j by omega]at e2;exact e2
   have e4:U[i]? =some (some v):=by
    unfold gF at e2';rw[im,hi]at e2';have e5:U.getD i none=some v:=Option.some.inj e2';rw[List.getD_eq_getElem?_getD]at e5;cases e6:U[i]? with
    |none=>rw[e6]at e5;cases e5
    |some z=>rw[e6]at e5;exact congrArg some e5
   obtain⟨m,hn,hl⟩:=I.loc;obtain⟨u,r,l⟩:=hl i y v hN e4 (.inr (.inl k1));refine⟨u,r,.inr ⟨.inl k2,?_⟩⟩;rcases l with⟨hk,_⟩|⟨_,c,hc,o,ho,hd⟩
   .have hk':X.env.scope.names.lookup y=some .local:=hk;rw[k1]at hk';cases hk'
   .obtain⟨c',hc'⟩:=S.has y (.inl k2);have:=(S.sub y c' hc').symm.trans hc;cases this;exact⟨c,hc',o,keep c o ho,hd⟩
 .obtain⟨v,o,ho,hd⟩:=I.cell y c (S.sub y c h);exact⟨v,o,keep c o ho,hd⟩
 .obtain⟨e,n,ne,nf,d⟩:=I.pin p hp;exact⟨keep p.1 p.2 e,n,pc (tz e),stk p.1 ne nf,d⟩
 .show(tI xs++gF U sel).length=(xs++fr).length;unfold gF tI;simp[S.len]
structure pB (X:Cx) (U:St) (E:XK):Prop where
 xok:∀ (H:Hp) (s:Shared) (e C:Addr) (dx:Option Addr) (fs:List (Str×V)),Inv X [] U H s->Ce X.s₀.heap.objs.size X.pn H s.heap e->H e=some 5e2->E e H->X.xe (.ref e) s
 stk:∃ e0 o0 L,X.stack=e0::o0/\e0.frame=some L/\X.env.frame=some L
abbrev MY (X:Cx)(U:St)(e:Expr)(t:TE):Prop:=∀ (Y:NY) (s:Shared) (H:Hp) (Q:VK),Inv X Y U H s->t U H Q->wpAny 0e0 X.A (eval e X.env) (EP X Y U Q) X.xe s
def vz {s3:Shared}{H3:Hp}{D:Addr}{use:Option (Value->Sem Unit)}{P:NX}(hx:pB X U E)
  (I3:Inv X Y U H3 s3) (f3:∀ b ∈ fp,jr X Y H3 b) (u:Value) (s':Shared) (h:(fQ X scope cl (xs++fr) s3 H3 fp E).xe u s'):
  notedBy 0e0 X.A (compEnvC scope cl s3.heap.objs.size X.env) (λx s2=>compPost 0e0 X.A X.xe use P (.ref D) s3.heap.objs.size (.error x) s2) u s':=by
 obtain⟨σ',H',e,C,dx,fs,rfl,I,sf,he,q⟩:=h;obtain⟨e0,o0,L,hs,hf0,hf⟩:=hx.stk;refine si (X:=Ii X scope cl (xs++fr) s3 H3 fp λ_ _=>False) (env:=compEnvC scope cl s3.heap.objs.size X.env) I hs hf0 hf sf he λh1 T I1 hT hH hp st=>?_
 obtain⟨m,hn,_⟩:=I1.loc;refine⟨m,hn,λh2 hs2 cenv _=>?_⟩;have fC:H' s3.heap.objs.size=none:=I1.free;have J:Inv X [] U H' { s' with heap:=h2 }:=by
  refine I3.uD.wt (ch:=fp) I1.os (I1.base.sameBut hs2 (pi _)) (λb ob eb=>?_) I1.bare λb hb=>⟨(f3 b hb).2.2.2.1,(f3 b hb).2.1,(f3 b hb).2.2.2.2.1,λp hp=>(f3 b hb).2.2.2.2.2 p (by simpa using .inl (by simpa using hp))⟩
  refine(I1.hok b ob eb).fL (λc w' hc' q'=>(hs2.2 c ?_).trans q') (λ_ q'=>q') λ_ _ q'=>q'
  intro z;rcases hc' with z2|z2
  .rw[z2]at z;rw[z,fC]at eb;cases eb
  .rw[z,fC]at z2;cases z2
 obtain⟨oe,vs,oT,ts,he1,hd1,h11,hTe,hoT,hdT,h3⟩:=id st;obtain⟨n1,n2⟩:=I1.BW hoT hdT;have neC:e≠s3.heap.objs.size:=λz=>by rw[z,fC]at he;cases he
 have e2:=(hs2.2 e neC).trans he1;have t2:=(hs2.2 T n1).trans hoT;have hz:3<ts.size:=(Array.getElem?_eq_some_iff.mp h3).1;unfold PySem.passOn;refine ad (ap e2 hd1 h11 ?_);rw[if_neg (show ¬ ((Value.ref T ==Value.none)=true) from by simp)];have fly:wpAny 0e0 X.A (setFlight (.ref e) cenv.frame) (λ_ s3=>wpAny 0e0 X.A (throw (Value.ref e):Sem Value) (λ_ _=>False) X.xe s3) X.xe { s' with heap:=h2 }:=by
  unfold setFlight;refine ad (ap e2 hd1 h11 ?_);rw[if_pos (show(Value.ref T != Value.none)=true from by simp)];refine wpAny_setField t2 hdT hz (wpAny_throw ?_);have other:∀ b,b≠T->(h2.update T (Obj.mapFields (·.setIfInBounds 3 (cenv.frame.elim Value.none λf=>rawInt f)))).get? b=h2.get? b:=λb hb=>Heap.get?_update_other _ _ (Ne.symm hb)
  have self':=Heap.get?_update_self (Obj.mapFields (·.setIfInBounds 3 (cenv.frame.elim Value.none λf=>rawInt f))) t2 (Obj.isFreed_of_fields (Obj.data_mapFields hdT _));obtain⟨k1,k2⟩:=J.BW t2 hdT;have hT':X.s₀.heap.objs.size<=T:=Nat.le_trans I3.sz hT;refine hx.xok H' _ e C dx fs (J.turned (it:=T) (t':=s'.toks) (λb o hb hq=>(other b hb).trans hq) hH k1 (.inr hT') k2 λp hpp=>hp p (show p ∈ X.pn by simpa using hpp)) (.inr ⟨T,hT',hH,hp,_,⟨oe,vs,_,_,(other e (Ne.symm hTe)).trans e2,hd1,h11,hTe,self',Obj.data_mapFields hdT _,by simp[hz];rfl⟩⟩) he q
 first
  |exact ad fly
  |exact ad (am (ad fly))
def n6 {elt iter tgt:Expr}{wi:TI}{tg:TG}{tc:TT}(hc:∀ {Y:NY}{U:St}{H:Hp}{s:Shared}{fp:List Addr},Inv X Y U H s->ok (fQ X scope cl (xs++fr) s H fp E)) (hx:pB X U E) (S:bU X scope cl xs fr sel) (hi:Fp ok X tgt iter wi)
  (hg:∀ (s:Shared) (H:Hp) (fp:List Addr),PG (fQ X scope cl (xs++fr) s H fp E) tgt tg) (ht:∀ (s:Shared) (H:Hp) (fp:List Addr),Lp (fQ X scope cl (xs++fr) s H fp E) ifs tc)
  (he:∀ (s:Shared) (H:Hp) (fp:List Addr),PE (fQ X scope cl (xs++fr) s H fp E) elt te) (hs:∀ x,foldedSetIterable iter X.env x=pure x):MY X U 4e2 (Kl wi tg tc te xs sel):=by
 intro Y s H Q I h;rw[eval_ListComp];refine wpAny_comprehension_free (use:=none) rfl hs S.clos S.kind S.names ?_;refine bW (hi Y s U H _ I h) λv s1 h1=>bW h1 λitv s2 h2=>?_
 obtain⟨it,fp,tn,J,H2,e,I2,T,qW,f2,h2⟩:=h2;subst e;refine wpAny_newObj_type ?_;have hD:H2 s2.heap.objs.size=none:=I2.hok.fresh (pi _);have I3:Inv X Y U (upd H2 s2.heap.objs.size (.lst [])) { s2 with heap:=s2.heap.push 2e2 }:=
  I2.laid (t':=s2.toks) (λb u e=>sK _ e) (pi _) ⟨Nat.zero_le _,[],0,.nil,ul _ rfl⟩
 have fo2:∀ b ∈ fp,b<s2.heap.objs.size:=λb hb=>by
  obtain⟨o,ho,_⟩:=T.obj _ _ qW b hb;exact tz ho
 have f3:∀ b ∈ fp,jr X Y (upd H2 s2.heap.objs.size (.lst [])) b:=λb hb=>⟨by rw[aj (pc (fo2 b hb))];exact(f2 b hb).1,(f2 b hb).2⟩
 have st3:tn 0 (s2.heap.push 2e2):=T.keep _ _ _ qW λb hb o e=>sK _ e
 have fo3:∀ b ∈ fp,b<(s2.heap.push 2e2).objs.size:=λb hb=>by
  rw[Heap.size_push];exact Nat.lt_succ_of_lt (fo2 b hb)
 obtain⟨W,⟨m0,w0⟩,turn⟩:=h2 _ hD;generalize s2.heap.objs.size=D at*;generalize hs3:({ s2 with heap:=s2.heap.push 2e2 }:Shared)=s3 at*;have st3':tn 0 s3.heap:=by rw[<-hs3];exact st3
 have fo3':∀ b ∈ fp,b<s3.heap.objs.size:=by rw[<-hs3];exact fo3
 refine wpAny_newFunctionEnv S.nocell (by intro y hy;simp at hy) (λh' hns hsb=>?_) S.kind;have keep:∀ b o,s3.heap.get? b=some o->h'.get? b=some o:=λb o e=>(hsb.2 b (pc (tz e))).trans (sK _ e)
 have I4:=sC (E:=E) (tk:=s3.toks+([]:List (Str×Value)).length) S I3 f3 fo3' hns keep;have st4:tn 0 h':=T.keep _ _ _ st3' λb hb o e=>keep b o e
 have stat:∀ {H':Hp},(∀ b ∈ fp,H' b=none)->∀ b ∈ fp,jr 0e5 Y H' b:=λ{H'} hn b hb=>
  ⟨hn b hb,pc (fo3' b hb),λz=>(mo.mp (I3.jW b z)).elim (f3 b hb).2.1 (f3 b hb).2.2.1,.inl hb,λy c hy=>(f3 b hb).2.2.2.2.1 y c (S.sub y c hy),λp hp=>(f3 b hb).2.2.2.2.2 p hp⟩
 have loop:codeAny 0e0 X.A (.compLoop 4e2 0 (.ref it) (.ref D) (compEnvC scope cl s3.heap.objs.size X.env))
   (compPost 0e0 X.A X.xe none (EP X Y U Q) (.ref D) s3.heap.objs.size) { s3 with heap:=h',toks:=s3.toks+([]:List (Str×Value)).length }:=by
  refine codeAny_loop rfl (λn s'=>∃ i σ' H',Inv 0e5 Y σ' H' s'/\tn i s'.heap/\(∀ b ∈ fp,H' b=none)/\W i n σ' H') (λn s5 hI=>?_) m0 ⟨0,_,_,I4,st4,λb hb=>(f3 b hb).1,w0⟩;show wpAny _ _ ((compTurn 4e2 0 (.ref it) (.ref D) (compEnvC scope cl s3.heap.objs.size X.env)).onRaise (λx=>do noteFrame x (compEnvC scope cl s3.heap.objs.size X.env);theTreesLotGoes x)) _ _ s5;refine wpAny_noted ?_;refine wR (ht s3 (upd H2 D (.lst [])) fp).1 ?_;have bad:=vz (scope:=scope) (cl:=cl) (xs:=xs) (fr:=fr) (P:=EP X Y U Q) (use:=none) (D:=D) hx I3 f3;obtain⟨i,σ5,H5,I5,st5,fr5,w5⟩:=hI;rcases turn i n σ5 H5 w5 with⟨stop,q⟩|⟨go,Nn,hN,step⟩
  .refine bW (T.done 0e5 rfl rfl rfl (hc I3) i _ s5 σ5 H5 _ I5 (stat fr5) st5 stop) λr s6 ⟨hr,I6⟩=>?_
   subst hr;obtain⟨m,hn,_⟩:=I6.loc;refine⟨m,hn,λh'' hs''=>⟨.ref D,H5,I3.wt (ch:=fp) I6.os (I6.base.sameBut hs'' (pi _)) (λb ob e=>?_) I6.bare λb hb=>⟨(f3 b hb).2.2.2.1,(f3 b hb).2.1,(f3 b hb).2.2.2.2.1,(f3 b hb).2.2.2.2.2⟩,rfl,q⟩⟩;refine(I6.hok b ob e).fL (λc w' hc' q'=>(hs''.2 c ?_).trans q') (λ_ q'=>q') λ_ _ q'=>q'
   have fC:H5 s3.heap.objs.size=none:=I6.free;intro z;rcases hc' with z2|z2
   .rw[z2]at z;rw[z,fC]at e;cases e
   .rw[z,fC]at z2;cases z2
  .have fin:∀ {σ8:St}{H10:Hp}{s10:Shared},Inv 0e5 Y σ8 H10 s10/\tn (i+1) s10.heap/\(∀ b ∈ fp,H10 b=none)->Nn σ8 H10->∃ m',m'<n/\∃ i σ' H',Inv 0e5 Y σ' H' s10/\tn i s10.heap/\(∀ b ∈ fp,H' b=none)/\W i m' σ' H':=λ⟨I,t,f⟩ nn=>by
    obtain⟨m',hm,w10⟩:=hN _ _ nn;exact⟨m',hm,i+1,_,_,I,t,f,w10⟩
   refine bW (T.item 0e5 rfl rfl rfl (hc I3) i _ s5 σ5 H5 _ I5 (stat fr5) st5 go) λr s6 ⟨u,hr,h6⟩=>?_
   subst hr;refine bW h6 λ_ s7 ⟨xv,H7,I7,r7,y7,st7,fr7⟩=>?_
   have I7':=I7.pinned (stat fr7) (T.obj _ _ st7);refine wpAny_mono (hg s3 _ fp _ s7 σ5 H7 xv u _ I7' r7 (step xv _ y7)) (λ_ s8 ⟨σ8,H8,I8,q8⟩=>?_) bad;refine wpAny_mono ((ht s3 _ fp).2 _ s8 σ8 H8 _ I8 q8) (λok s9 ⟨H9,I9,q9⟩=>?_) bad;have back:∀ {H10:Hp}{s10:Shared},Inv 0e5 _ σ8 H10 s10->Inv 0e5 Y σ8 H10 s10/\tn (i+1) s10.heap/\(∀ b ∈ fp,H10 b=none):=λ{H10 s10} I10=>⟨I10.gf,T.keep _ _ _ st7 λb hb o e=>(I10.pin (b,o) (ii _ (ii _ (cu hb e)))).1,λb hb=>by
    obtain⟨o,e,d⟩:=T.obj _ _ st7 b hb;exact(I10.pin (b,o) (ii _ (ii _ (cu hb e)))).2.1⟩
   refine⟨λek=>?_,λek=>am ⟨rfl,fin (back I9) (q9.2 ek)⟩⟩;refine wpAny_mono (he s3 _ fp _ s9 _ _ _ I9 (q9.1 ek)) (λuv s10 ⟨vv,H10,I10,r10,zs,hz,hzl,n10⟩=>?_) bad;refine wpAny_mono (kj (X:=fQ X scope cl (xs++fr) s3 (upd H2 D (.lst [])) fp E) _ s10 _ H10 (.ref D) [vv] (.ref D) [uv] (λ_ H'=>H'=upd H10 D (.lst (zs++[vv]))) I10 rfl (.cons r10 .nil) ⟨D,zs,vv,rfl,rfl,hz,hzl,rfl⟩) (λ_ s11 ⟨_,H11,I11,_,e11⟩=>?_) bad;subst e11;exact am ⟨rfl,fin (back I11) n10⟩
 exact codeAny_compStart_list loop (T.self _ 0 _ _ _ st4 loop)
def uJ {x:Str}{px:Pos}(S:bU X scope cl [x] fr sel):PG (fQ X scope cl ([x]++fr) s H fp E) (.Name x px) (ja 0):=jb S.nd rfl (.inl (lookup_relabel_local (S.own x (lw ..)))) (.inr (lookup_relabel_local (S.own x (lw ..))))
abbrev NQ (wi:TI):TI:=λU H R=>∃ R0:It->Hp->Prop,wi U H R0/\∀ J H,R0 J H->R J H
def Fp.up {tg iter:Expr}{wi:TI}(h:Fp ok X tg iter wi):Fp ok X tg iter (NQ wi):=λY s U H R I ⟨R0,q,m⟩=>
 bW (h Y s U H R0 I q) λv s1 h1=>wpAny_mono h1 (λitv s2 ⟨it,fp,tn,J,H',e,I,T,t0,f,r⟩=>⟨it,fp,tn,J,H',e,I,T,t0,f,m _ _ r⟩) λ_ _ e=>e
def Ad {elt iter:Expr}{x:Str}{px:Pos}{wi:TI}(hc:∀ {Y:NY}{U:St}{H:Hp}{s:Shared}{fp:List Addr},Inv X Y U H s->ok (fQ X scope cl (x::fr) s H fp E)) (hx:pB X U E) (S:bU X scope cl [x] fr sel) (hi:Fp ok X (.Name x px) iter wi)
  (he:∀ (s:Shared) (H:Hp) (fp:List Addr),PE (fQ X scope cl (x::fr) s H fp E) elt te) (hs:∀ x,foldedSetIterable iter X.env x=pure x):MY X U (.ListComp elt [⟨.Name x px,iter,[],0⟩] scope pos) (Nr wi te sel):=λY s H Q I h=>
 n6 (tg:=ja 0) (ok:=ok) hc hx S hi.up (λs H fp=>uJ S) (λ_ _ _=>lM) he hs Y s H Q I ⟨_,h,λ_ _ q=>q.g⟩
end
section
variable {U:St}{H:Hp}{Q:VK}{te tl:TE}{ta:TA}{sel:List Nat}{σ₀ rest:St}{K:W.Frag}
end
def fc {env:Env}:∀ {names:List (Str×NameKind)}{y:Str}{k':NameKind},(names.map λ(n,k)=>if(k ==NameKind.free&&env.scope.kind ==.function&&env.kindOf n ==some .cell) then(n,NameKind.cell) else(n,k)).lookup y=some k'->∃ k,(y,k) ∈ names/\(k'=k\/(k=.free/\k'=.cell))
 | [],_,_,h=>by simp at h
 |(n,k)::r,y,k',h=>by
  rw[map_cons,lookup_cons]at h
  by_cases hc:(k ==NameKind.free&&env.scope.kind ==.function&&env.kindOf n ==some .cell)=true
  .simp only[hc,if_true]at h
   by_cases e:y=n
   .subst e;simp at h;simp at hc;exact⟨k,lw,.inr ⟨hc.1.1,h.symm⟩⟩
   .rw[show(y ==n)=false from beq_eq_false_iff_ne.mpr e]at h;obtain⟨k2,m,q⟩:=fc (env:=env) h;exact⟨k2,dl _ m,q⟩
  .rw[Bool.not_eq_true]at hc;simp only[hc,Bool.false_eq_true,if_false]at h
   by_cases e:y=n
   .subst e;simp at h;exact⟨k,lw,.inl h.symm⟩
   .simp only[show(y ==n)=false from beq_eq_false_iff_ne.mpr e]at h;obtain⟨k2,m,q⟩:=fc (env:=env) h;exact⟨k2,dl _ m,q⟩
section
variable {K:W.Frag}
end
section
variable {K:W.Frag}{H:Hp}
end
section
variable {U:St}{H:Hp}{Q:VK}
end
abbrev notStar:Expr->Bool
 | .Starred ..=>false
 |_=>true
variable {es:List Expr}
def af {e:Expr}{env:Env}(h:notStar e=true):bm (e::es) env=(false,eval e env)::bm es env:=by
 cases e<;>first|rfl|cases h
def jL {e:Expr}{t:TA}(ha:PE X e te)(hr:PA X es t)(h:notStar e=true:=by rfl):PA X (e::es) (EV te t):=DK ha hr (af h)
section
variable {X:Cx}{Y:NY}{U:St}{H:Hp}{s:Shared}{h':Heap}
def Inv.tm {t':Nat}{ch:List Addr}{a:Addr}{o:HO}(I:Inv X Y U H s)(k:∀ b u,b ∉ ch->s.heap.get? b=some u->h'.get? b=some u) (hf:∀ b ∈ ch,jr X Y H b)
  (hp:s.heap.objs.size<=a) (new:aQ X.prog X.w (upd H a o) h' a o):Inv X Y U (upd H a o) 5e0:=by
 have hn:H a=none:=I.hok.fresh hp;have nch:∀ b u,H b=some u->b ∉ ch:=λb u e z=>by rw[(hf b z).1]at e;cases e
 refine I.step (g':=s.gens) (d':=s.drawn) (ch:=ch) (λb hb=>?_) (λb o _ _ hc e _=>k b o hc e) (λb o _ _ hc e _=>⟨o.slots,k b o hc e⟩) (λb o hc e n=>?_)
  (λb o hc e=>⟨o,k b o hc e⟩) (λb xs e=>?_) (λb ob u e=>?_) (λb ps e=>?_) (λm hm=>?_) (λb u e=>?_) I.bare
 .obtain⟨_,f1,_,f3,f4,f5⟩:=hf b hb;exact⟨f3,f1,f4,f5⟩
 .rw[aj (pc (nw (tz e) hp))];exact n
 .rw[aj (a9 e hn)];exact e
 .rw[aj (a9 e hn)];exact e
 .exact⟨#[],by rw[aj (a9 e hn),e];simp⟩
 .obtain⟨o,es,ep,ho,r⟩:=hm;exact⟨o,es,ep,k _ o (λz=>(hf _ z).2.1 rfl) ho,r⟩
 .by_cases hb:b=a
  .subst hb;rw[aL]at e;cases e;exact new
  .rw[aj hb]at e;refine(I.hok b u e).fL (λc v hc q=>k c v ?_ q) (λc q=>by rw[aj (a9 q hn)];exact q) λc xs q=>by rw[aj (a9 q hn)];exact q
   rcases hc with rfl|hc
   .exact nch _ _ e
   .exact nch _ _ hc
end
abbrev Ka (l:Addr):It:=
 ⟨λi H=>∃ xs x,H l=some 4e8/\xs[i]? =some x,λi H x H'=>∃ T y,H T=none/\x=.ref T/\H'=upd H T (.tup [.int i,y])/\∀ xs,H l=some 4e8->xs[i]? =some y,λi H=>∃ xs,H l=some 4e8/\xs.length<=i⟩
variable {elts:List Expr}
def yt {P:Program}{w:World}{K:W.Frag}{k:Nat}(l e it:Addr)(hei:e≠it):
  Turn P w K Calm (.Tuple elts k pos) (Ka l) [e,it] e (λi h=>(∃ old,IsEnum h e it ((i:Nat):Int) old)/\h.IsListIter it l i) where
 mem:=by simp
 obj:=λi h st b hb=>by
  obtain⟨⟨old,he⟩,hit⟩:=st;rcases mo.mp hb with rfl|hb
  .exact⟨_,he,λv z=>by
    have z':Data.fields _=Data.cell v:=z;cases z'⟩
  .have e':b=it:=by simpa using hb
   subst e';obtain⟨o,e,c,d⟩:=hit;exact⟨o,e,λv z=>by rw[d]at z;cases z⟩
 keep:=λi h h' st k=>by
  obtain⟨⟨old,he⟩,hit⟩:=st;exact⟨⟨old,k e 2e5 _ he⟩,hit.at λo q=>k it 2e5 o q⟩
 item:=by
  intro X hP hw hK hc i Y s U H E I hf st hg;subst hP hw hK;obtain⟨xs,x,hq,hx⟩:=hg;obtain⟨⟨old,he⟩,hit⟩:=st;obtain⟨its,rv,p,hz⟩:=I.list (bB.of hq);obtain⟨u,hu,ru⟩:=rv.get hx;have heN:H e=none:=(hf e 2e5).1;have hes:e≠s.heap.objs.size:=pc (tz he);obtain⟨oi,hoi,_⟩:=id hit;have his:it≠s.heap.objs.size:=pc (tz hoi);refine wpAny_pyNext_enum_item he hit p.isList (x:=u) (by simpa using hu) hei λh1 heo hit1 ht1 hz1 hk1=>?_
  have I1:Inv X Y U (upd H s.heap.objs.size (.tup [.int i,x])) { s with heap:=h1,toks:=s.toks+1 }:=
   I.tm (ch:=[e,it]) (λb o hb q=>hk1 b o (λz=>hb (by simp[z])) (λz=>hb (by simp[z])) q) hf (pi _)
    ⟨fits (ol rfl),[.int i s.toks,u],.cons ⟨_,rfl⟩ (.cons ru .nil),⟨_,ht1,rfl,_,rfl⟩⟩
  refine⟨_,rfl,wpAny_letOwnedTupleGo_enum heo λh2 he2 hs2=>?_⟩;obtain⟨f0,f1,f2,f3,f4,f5⟩:=hf e 2e5;have I2:=I1.turned (h':=h2) (t':=s.toks+1) (it:=e) (λb o hb q=>(hs2.2 b hb).trans q) (by rw[aj hes];exact heN) f1 f3 f4 f5;refine⟨.ref s.heap.objs.size,_,I2,rfl,⟨_,x,I.hok.fresh (pi _),rfl,rfl,λys hy=>?_⟩,⟨⟨_,by simpa using he2⟩,hit1.at λo q=>(hs2.2 it hei.symm).trans q⟩,λb hb=>?_⟩
  .rw[hq]at hy;cases hy;exact hx
  .have hb':b≠s.heap.objs.size:=by
    rcases mo.mp hb with rfl|hb
    .exact hes
    .have e':b=it:=by simpa using hb
     subst e';exact his
   rw[aj hb'];exact(hf b hb).1
 done:=by
  intro X hP hw hK hc i Y s U H E I hf st hg;subst hP hw hK;obtain⟨xs,hq,hx⟩:=hg;obtain⟨⟨old,he⟩,hit⟩:=st;obtain⟨its,rv,p,hz⟩:=I.list (bB.of hq);obtain⟨f0,f1,f2,f3,f4,f5⟩:=hf it 2e5;have hl:=rv.length;exact wpAny_pyNext_enum_end (I.ok.hd hc) he hit p.isList (by simp;omega) λh' eb=>⟨rfl,I.turned (t':=s.toks) (λb o hb q=>eb b o hb q) f0 f1 f3 f4 f5⟩
 self:=λ_ _ _ _ _ st h=>by
  obtain⟨⟨old,he⟩,hit⟩:=st;exact wpAny_pyIter_enum he h
def qv:bootBuiltins "enumerate"=some (.type "enumerate"):=by decide+kernel
abbrev Kg (ta:TA):TI:=λU H R=>ta U H λvs H1=>∃ l,vs=[.ref l]/\(∃ xs,H1 l=some 4e8)/\R (Ka l) H1
def Dz {k:Nat}{a:Expr}{ta:TA}{p pos':Pos}(hg:Gl X "enumerate") (hm:X.mg "enumerate"=none) (ha:PA X [a] ta) (hs:bm [a] X.env=[(false,eval a X.env)]:=by rfl):
  PI X (.Tuple elts k pos') (.Call (.Name "enumerate" p) [a] [] pos) (Kg ta):=by
 intro Y s U H R I h;refine Call_ (cT I hg hm qv (PyProof.Rows.callWith_type1 (uI (ha pos Y s U H _ I h) λus s1 vs H1 I1 r1 q1=>?_) hs rfl));obtain⟨l,e,⟨xs,hl⟩,q⟩:=q1;subst e;cases r1 with
 |cons r rr=>
  cases rr;cases r;obtain⟨z,its,n,r,hlen,e⟩:=I1.sQ hl;refine call_enumerate_1 e λh' he hit hsz hk=>?_
  refine wpAny_pyIter_enum he ?_;refine⟨s1.heap.objs.size+1,[s1.heap.objs.size+1,s1.heap.objs.size],_,_,H1,rfl,I1.kept (t':=s1.toks) hk,yt l _ _ (Nat.succ_ne_self _),⟨⟨_,he⟩,hit⟩,λb hb=>?_,q⟩;have hb':s1.heap.objs.size<=b:=by
   rcases mo.mp hb with rfl|hb
   .exact Nat.le_succ _
   .have e':b=s1.heap.objs.size:=by simpa using hb
    exact Nat.le_of_eq e'.symm
  exact I1.Ah hb' (I1.hok.fresh hb')
section
variable {g:TG}{tb:TS}{D:Ends}{U:St}{H:Hp}{ta:TA}
end
section
variable {X:Cx}
end
section
variable {K:W.Frag}{r:V->List V->Hp->VK->Prop}{to:TE}{t:TA}{U:St}{H:Hp}{Q:VK}
end
section
variable {H H1 H2:Hp}{p h c:Addr}{o:HO}{m:Int}
end
section
variable {H H':Hp}{xs ys:List V}{f:Nat->Int×Int}
end
section
variable {X:Cx}{a b c d:Expr}{ta tb tc td:TE}{pos:Pos}
abbrev wu (r r' r2:R2)(ta tb tc td:TE):TE:=λU H Q=>ta U H λx H1=>tb U H1 λy H2=>r x y H2 λz H3=>tQ z H3 λk H3=>
 (if k=true then tc U H3 λw' H4=>r' y w' H4 λz' H5=>tQ z' H5 λk' H5=>(if k'=true then td U H5 λw2 H6=>r2 w' w2 H6 Q else Q (.bl false) H5) else Q (.bl false) H3)
def xO {op op' op2:CmpOp}{r r' r2:R2}(ho:cF X (compareOp op) r)(ho':cF X (compareOp op') r')(ho2:cF X (compareOp op2) r2)(ha:PE X a ta)(hb:PE X b tb)(hc:PE X c tc)(hd:PE X d td)
  (hm:lastMarks [op,op',op2] [b,c,d]=false:=by with_unfolding_all rfl):PE X (.Compare a [op,op',op2] [b,c,d] pos) (wu r r' r2 ta tb tc td):=by
 intro Y s U H Q I h;refine Compare_chain (cR (ha Y s U H _ I h) λv s1 x H1 I1 r1 q1=>chain_link (cR (hb Y s1 U H1 _ I1 q1) λu s2 y H2 I2 r2' q2=>
  bW (ho Y s2 U H2 x y v u _ I2 r1 r2' q2) λd s3 ⟨z,H3,I3,r3,k,e,q3⟩=>?_)) hm
 subst e;cases r3;refine bi ?_;cases k with
 |false=>exact ite_ff ⟨.bl false,H3,I3,rfl,q3⟩
 |true=>
  refine ite_tt (chain_link (cR (hc Y s3 U H3 _ I3 q3) λw' s4 z' H4 I4 r4 q4=>bW (ho' Y s4 U H4 y z' u w' _ I4 r2' r4 q4) λd2 s5 ⟨z2,H5,I5,r5,k2,e2,q5⟩=>?_));subst e2;cases r5;refine bi ?_;cases k2 with
  |false=>exact ite_ff ⟨.bl false,H5,I5,rfl,q5⟩
  |true=>exact ite_tt (chain_last (cR (hd Y s5 U H5 _ I5 q5) λw2 s6 z3 H6 I6 r6 q6=>ho2 Y s6 U H6 z' z3 w' w2 Q I6 r4 r6 q6))
def yS {op op' op2:CmpOp}{r r' r2:R2}(ho:cF X (compareOp op) r)(ho':cF X (compareOp op') r')(ho2:cF X (compareOp op2) r2)(ha:PE X a ta)(hb:PE X b tb)(hc:PE X c tc)(hd:PE X d td)
  (hm:lastMarks [op,op',op2] [b,c,d]=false:=by with_unfolding_all rfl):PT X (.Compare a [op,op',op2] [b,c,d] pos) (B2 (wu r r' r2 ta tb tc td)):=by
 intro Y s U H Q I h;refine isTrue_chain (cR (ha Y s U H _ I h) λv s1 x H1 I1 r1 q1=>test_link (cR (hb Y s1 U H1 _ I1 q1) λu s2 y H2 I2 r2' q2=>
  bW (ho Y s2 U H2 x y v u _ I2 r1 r2' q2) λd s3 ⟨z,H3,I3,r3,k,e,q3⟩=>?_)) hm
 subst e;cases r3;refine bi ?_;cases k with
 |false=>
  obtain⟨k',e',q'⟩:=q3;cases e';exact ite_ff ⟨H3,I3,q'⟩
 |true=>
  refine ite_tt (test_link (cR (hc Y s3 U H3 _ I3 q3) λw' s4 z' H4 I4 r4 q4=>bW (ho' Y s4 U H4 y z' u w' _ I4 r2' r4 q4) λd2 s5 ⟨z2,H5,I5,r5,k2,e2,q5⟩=>?_));subst e2;cases r5;refine bi ?_;cases k2 with
  |false=>
   obtain⟨k',e',q'⟩:=q5;cases e';exact ite_ff ⟨H5,I5,q'⟩
  |true=>
   refine ite_tt (test_last (cR (hd Y s5 U H5 _ I5 q5) λw2 s6 z3 H6 I6 r6 q6=>bW (ho2 Y s6 U H6 z' z3 w' w2 _ I6 r4 r6 q6) λd' s7 ⟨z4,H7,I7,r7,k3,e3,q7⟩=>?_));subst e3;cases r7;exact bi ⟨H7,I7,q7⟩
end
section
variable {K:W.Frag}{U:St}{H:Hp}{Q:VK}{ta tb tc td tv:TE}{t:TA}{f m:Str}{D:Ends}{C:Addr}{sp:Sp}{dvs:List V}{E:XK}
end
section
variable {g:TG}{tb:TS}{D:Ends}{U:St}{H:Hp}{ta:TA}
end
section
variable {C:Addr}{H H':Hp}{S D h c:Addr}{rs:List Rec}{r:Rec}
end
section
variable {X:Cx}
end
end L2
namespace L2
end L2
namespace L2
open PySem PySem.Spec PyProof.Rows
section
variable {C:Addr}{H HF:Hp}{S D h c:Addr}{rs:List Rec}{r':Rec}
end
section
variable {X:Cx}
end
structure MF (K:W.Frag) (C:Addr):Prop where
 ha:W.findIn K 2e4 "__class__"=some (some 4e3)
 hn:W.specialIn K 4e3 "__get__"=some (some (.builtin "getset_descriptor.__get__"))
 htk:W.takesIn K 4e3=some true
 hm:W.mroIn K C (.type "object")=some true
end L2
namespace L2
open PySem PySem.Spec PySem.W PyProof.Rows
abbrev bC (tp:Bool)(h:Heap)(j b:Addr)(k:Nat):Prop:=match tp with
 |true=>h.IsTupleIter j b k
 |false=>h.IsListIter j b k
abbrev ck (tp:Bool)(h:Heap)(b:Addr)(xs:Array Value):Prop:=match tp with
 |true=>h.IsTuple b xs
 |false=>h.IsList b xs
variable {tp:Bool}{h:Heap}{k:Nat}
def bC.to {h':Heap}{j b:Addr}(g:bC tp h j b k)(e:∀ o,h.get? j=some o->h'.get? j=some o):bC tp h' j b k:=by
 cases tp
 .obtain⟨o,e1,r⟩:=(show h.IsListIter j b k from g);exact⟨o,e o e1,r⟩
 .obtain⟨o,e1,r⟩:=(show h.IsTupleIter j b k from g);exact⟨o,e o e1,r⟩
def ck.to {h':Heap}{b:Addr}{xs:Array Value}(g:ck tp h b xs)(e:∀ o,h.get? b=some o->h'.get? b=some o):ck tp h' b xs:=by
 cases tp
 .obtain⟨o,e1,r⟩:=(show h.IsList b xs from g);exact⟨o,e o e1,r⟩
 .obtain⟨o,e1,r⟩:=(show h.IsTuple b xs from g);exact⟨o,e o e1,r⟩
def bC.lt {tp:Bool}{h:Heap}{j b:Addr}{k:Nat}(g:bC tp h j b k):j<h.objs.size:=by
 cases tp
 .obtain⟨o,e1,r⟩:=(show h.IsListIter j b k from g);exact tz e1
 .obtain⟨o,e1,r⟩:=(show h.IsTupleIter j b k from g);exact tz e1
def ck.lt {tp:Bool}{h:Heap}{b:Addr}{xs:Array Value}(g:ck tp h b xs):b<h.objs.size:=by
 cases tp
 .obtain⟨o,e1,r⟩:=(show h.IsList b xs from g);exact tz e1
 .obtain⟨o,e1,r⟩:=(show h.IsTuple b xs from g);exact tz e1
variable {Q:NX}{c:Addr}{T:Int}{fb:Bool}{oT:Obj}{elts:List Expr}{pos:Pos}
section
variable {prog:Program}{w:World}{A:Around}{E:NX}{s:Shared}
def GD {j b:Addr}{xs:Array Value}{x:Value}(g:s.heap.IsTupleIter j b k)(t:s.heap.IsTuple b xs)(hx:xs[k]? =some x)
  (q:∀ h',h'.IsTupleIter j b (k+1)->Heap.SameBut j s.heap h'->Q x 1e5):wpAny 0e7 A (Builtin.SmallTypes.nextOf (.ref j)) Q E s:=by
 obtain⟨o1,e1,c1,d1⟩:=id g;obtain⟨o2,e2,_,n2,d2⟩:=t;unfold Builtin.SmallTypes.nextOf;refine ad (wpAny_callSpecial?_slot (name:=Str.ofString "__next__") g.typeIs F.slot_tuple_iterator_next (wpAny_call_entry F.slot_tuple_iterator_next g.typeIs F.entry_tuple_iterator_next ?_ (F.args_tuple_iterator_next_1 _)));show wpAny _ _ (field (.ref j) 0 >>= _) _ _ s;refine ad (ap e1 d1 (x:=.ref b) rfl ?_);show wpAny _ _ (if(Value.ref b ==Value.none)=true then _ else _) _ _ s;rw[if_neg (show ¬ ((Value.ref b ==Value.none)=true) from Bool.false_ne_true)];show wpAny _ _ (field (.ref j) 1 >>= _) _ _ s;refine ad (ap e1 d1 (x:=.int k 0) rfl ?_);show wpAny _ _ (seqItems? (.ref b) >>= _) _ _ s;refine ad (wpAny_seqItems e2 d2 ?_);simp only[re,hx];refine ad (wpAny_setField e1 d1 2e5 (am ⟨x,rfl,am (q _ ?_ (Heap.SameBut.update ..))⟩));refine⟨_,Heap.get?_update_self _ e1 (Obj.isFreed_of_fields (Obj.data_mapFields d1 _)),(Obj.cls_mapFields ..).trans c1,?_⟩;rw[Obj.data_mapFields d1];simp[rawInt]
def Dy {j b:Addr}{xs:Array Value}(hh:A.handled=none)(g:s.heap.IsTupleIter j b k)(t:s.heap.IsTuple b xs)(hx:xs[k]? =none)
  (q:∀ h' e,Heap.ExtBut j s.heap h'->(∃ o,h'.get? e=some o/\o.cls=.type "StopIteration")->E (.ref e) 1e5):wpAny 0e7 A (Builtin.SmallTypes.nextOf (.ref j)) Q E s:=by
 obtain⟨o1,e1,c1,d1⟩:=id g;obtain⟨o2,e2,_,n2,d2⟩:=t;unfold Builtin.SmallTypes.nextOf;refine ad (wpAny_callSpecial?_slot (name:=Str.ofString "__next__") g.typeIs F.slot_tuple_iterator_next (wpAny_call_entry F.slot_tuple_iterator_next g.typeIs F.entry_tuple_iterator_next ?_ (F.args_tuple_iterator_next_1 _)));show wpAny _ _ (field (.ref j) 0 >>= _) _ _ s;refine ad (ap e1 d1 (x:=.ref b) rfl ?_);show wpAny _ _ (if(Value.ref b ==Value.none)=true then _ else _) _ _ s;rw[if_neg (show ¬ ((Value.ref b ==Value.none)=true) from Bool.false_ne_true)];show wpAny _ _ (field (.ref j) 1 >>= _) _ _ s;refine ad (ap e1 d1 (x:=.int k 0) rfl ?_);show wpAny _ _ (seqItems? (.ref b) >>= _) _ _ s;refine ad (wpAny_seqItems e2 d2 ?_);simp only[re,hx];refine ad (wpAny_rule (ad (wpAny_setField e1 d1 2e5 ?_)));show wpAny _ _ (newExc (.type "StopIteration") [] >>= _) _ _ _;refine ad ?_;simp only[newExc,newTuple];refine ad (wpAny_newObj_type ?_ (by size_fits));refine ad (m:=firstArgMember _ _) (wpAny_of_eq (a:=Value.none) (by first|rfl|(simp only[firstArgMember];rfl)) ?_);refine wpAny_newObj_type ?_ (by size_fits);simp only[raiseNew];refine ad (wpAny_handled ?_);first|rw[show A.in1.handled=none from hh]|rw[hh]
 refine ad (am (wpAny_throw ?_));exact q _ _ (((Heap.SameBut.update ..).extBut.push _).push _) ⟨_,ul _ rfl,rfl⟩
def gP {j b:Addr}{xs:Array Value}{x:Value}(g:bC tp s.heap j b k)(t:ck tp s.heap b xs)(hx:xs[k]? =some x)
  (q:∀ h',bC tp h' j b (k+1)->Heap.SameBut j s.heap h'->Q x 1e5):wpAny 0e7 A (Builtin.SmallTypes.nextOf (.ref j)) Q E s:=by
 cases tp
 .exact wpAny_nextOf_list_item g t hx q
 .exact GD g t hx q
def qN {j b:Addr}{xs:Array Value}(hh:A.handled=none)(g:bC tp s.heap j b k)(t:ck tp s.heap b xs)(hx:xs[k]? =none)
  (q:∀ h' e,Heap.ExtBut j s.heap h'->(∃ o,h'.get? e=some o/\o.cls=.type "StopIteration")->E (.ref e) 1e5):wpAny 0e7 A (Builtin.SmallTypes.nextOf (.ref j)) Q E s:=by
 cases tp
 .exact wpAny_nextOf_list_end hh g t hx q
 .exact Dy hh g t hx q
@[reducible]def cy (h:Heap) (z TI TO:Addr) (f0 f1:Value):Prop:=h.get? z=some { cls:=.type "zip",dict:=none,data:=.fields #[f0,f1,.bool false,.ref TI,.ref TO],slots:=#[] }
variable {z TI TO i1 i2 l1 l2:Addr}{k1 k2:Nat}{tp1 tp2:Bool}{xs ys:Array Value}{x y a b f1:Value}
def vY {Q:NV}(D:ZipApart z TI TO i1 i2 l1 l2)(hz:cy s.heap z TI TO .none f1)(hI:IsPair s.heap TI (.ref i1) (.ref i2))(hO:IsPair s.heap TO a b)
  (g1:bC tp1 s.heap i1 l1 k1) (g2:bC tp2 s.heap i2 l2 k2) (t1:ck tp1 s.heap l1 xs) (t2:ck tp2 s.heap l2 ys) (hx:xs[k1]? =some x) (hy:ys[k2]? =some y)
  (q:∀ h',cy h' z TI TO (rawInt s.heap.objs.size) (.bool false)->IsPair h' TO x y->bC tp1 h' i1 l1 (k1+1)->bC tp2 h' i2 l2 (k2+1)->IsPair h' s.heap.objs.size x y->h'.objs.size=s.heap.objs.size+1->
   3e1->Q (some 5e5) 1e5):wpAny 0e7 A (pyNext (.ref z)) Q E s:=by
 have hZ:s.TypeIs (.ref z) "zip":=⟨_,hz,rfl⟩;unfold pyNext;refine ad (wpAny_attempt (wpAny_callSpecial?_slot (name:=Str.ofString "__next__") hZ F.slot_zip_next (wpAny_call_entry F.slot_zip_next hZ F.entry_zip_next ?_ (F.args_zip_next_1 _))));show wpAny _ _ (field (.ref z) 2 >>= _) _ _ _;refine ad (ap (x:=.bool false) hz rfl rfl ?_);show wpAny _ _ (field (.ref z) 3 >>= _) _ _ _;refine ad (ap (x:=.ref TI) hz rfl rfl ?_);refine ad (wpAny_seqItems hI rfl ?_);show wpAny _ _ (Builtin.SmallTypes.ownedTupleIsFree (.ref z) >>= _) _ _ _;refine ad ?_;unfold Builtin.SmallTypes.ownedTupleIsFree;refine ad (ap (x:=.none) hz rfl rfl (am ?_));simp only[if_true];refine ad (wpAny_rule ?_);refine ad (ap (x:=.ref TO) hz rfl rfl ?_);refine ad (wpAny_setField_rec hz 2e5 λp1 z1 b1=>?_)
 replace z1:cy p1 z TI TO .ellipsis f1:=z1
 refine ad ?_;simp only[List.zipIdx_cons,List.zipIdx_nil,forIn_cons,forIn_nil];refine ad (ad (wpAny_onRaise ?_));show wpAny _ _ (Builtin.SmallTypes.nextOf (.ref i1) >>= _) _ _ _;refine ad (gP (g1.to λo e=>b1.extBut _ o D.i1z e) (t1.to λo e=>b1.extBut _ o D.l1z e) hx λp2 g1b b2=>am ?_);have hO2:IsPair p2 TO a b:=b2.extBut _ _ D.TOi1 (b1.extBut _ _ D.TOz hO);refine ad (wpAny_seqItems hO2 rfl ?_);refine ad (wpAny_updateSeq_pair hO2 λp3 hO3 b3=>?_)
 replace hO3:IsPair p3 TO x b:=hO3
 refine ad (wpAny_letGo (am ?_));refine ad (ad (wpAny_onRaise ?_));show wpAny _ _ (Builtin.SmallTypes.nextOf (.ref i2) >>= _) _ _ _;refine ad (gP (g2.to λo e=>b3.extBut _ o D.TOi2.symm (b2.extBut _ o D.i12.symm (b1.extBut _ o D.i2z e))) (t2.to λo e=>b3.extBut _ o D.l2TO (b2.extBut _ o D.l2i1 (b1.extBut _ o D.l2z e))) hy λp4 g2b b4=>am ?_);have hO4:IsPair p4 TO x b:=b4.extBut _ _ D.TOi2 hO3;refine ad (wpAny_seqItems hO4 rfl ?_);refine ad (wpAny_updateSeq_pair hO4 λp5 hO5 b5=>?_)
 replace hO5:IsPair p5 TO x y:=hO5
 refine ad (wpAny_letGo (am (am ?_)));refine ad (wpAny_seqItems hO5 rfl ?_);refine ad (wpAny_newTuple ?_);have hsz:p5.objs.size=s.heap.objs.size:=by rw[b5.1,b4.1,b3.1,b2.1,b1.1]
 have z5:cy p5 z TI TO .ellipsis f1:=b5.extBut _ _ D.TOz.symm (b4.extBut _ _ D.i2z.symm (b3.extBut _ _ D.TOz.symm (b2.extBut _ _ D.i1z.symm z1)));have k5:∀ c o,c≠z->c≠TO->c≠i1->c≠i2->s.heap.get? c=some o->p5.get? c=some o:=λc o n1 n2 n3 n4 e=>b5.extBut _ _ n2 (b4.extBut _ _ n4 (b3.extBut _ _ n2 (b2.extBut _ _ n3 (b1.extBut _ _ n1 e))))
 have g15:bC tp1 p5 i1 l1 (k1+1):=g1b.to λo e=>b5.extBut _ o D.TOi1.symm (b4.extBut _ o D.i12 (b3.extBut _ o D.TOi1.symm e))
 have g25:bC tp2 p5 i2 l2 (k2+1):=g2b.to λo e=>b5.extBut _ o D.TOi2.symm e
 have zlt:z<p5.objs.size:=tz z5;show wpAny _ _ (Builtin.SmallTypes.ownedTupleHandOut (.ref z) (.ref p5.objs.size) >>= _) _ _ _;refine ad ?_;unfold Builtin.SmallTypes.ownedTupleHandOut;have z6:cy (p5.push { cls:=.type "tuple",data:=.seq #[x,y] }) z TI TO .ellipsis f1:=sK _ z5;refine ad (wpAny_setField_rec z6 2e5 λp7 z7 b7=>?_)
 replace z7:cy p7 z TI TO (rawInt p5.objs.size) f1:=z7
 refine wpAny_setField_rec z7 2e5 λp8 z8 b8=>?_
 replace z8:cy p8 z TI TO (rawInt p5.objs.size) (.bool false):=z8
 have up:∀ c o,c≠z->p5.get? c=some o->p8.get? c=some o:=λc o n1 e=>b8.extBut _ _ n1 (b7.extBut _ _ n1 (sK _ e))
 have hT:IsPair p8 p5.objs.size x y:=b8.extBut _ _ (Nat.ne_of_gt zlt) (b7.extBut _ _ (Nat.ne_of_gt zlt) (ul _ rfl));have h8:p8.objs.size=p5.objs.size+1:=by rw[b8.1,b7.1,Heap.size_push]
 rw[hsz]at z8 hT h8;refine am ⟨_,rfl,?_⟩;rw[hsz];exact am (q p8 z8 (up _ _ D.TOz hO5) (g15.to λo e=>up _ o D.i1z e) (g25.to λo e=>up _ o D.i2z e) hT h8 λc o n1 n2 n3 n4 e=>up c o n1 (k5 c o n1 n2 n3 n4 e))
def Iz {Q:Fin->Shared->Prop}(hh:A.handled=none)(D:ZipApart z TI TO i1 i2 l1 l2)(hz:cy s.heap z TI TO .none f1)(hI:IsPair s.heap TI (.ref i1) (.ref i2))(hO:IsPair s.heap TO a b)
  (g1:bC tp1 s.heap i1 l1 k1) (g2:bC tp2 s.heap i2 l2 k2) (t1:ck tp1 s.heap l1 xs) (t2:ck tp2 s.heap l2 ys) (hx:xs[k1]? =none\/ys[k2]? =none)
  (q:∀ h' e,3e1->(∃ o,h'.get? e=some o/\o.cls=.type "StopIteration")->E (.ref e) 1e5):
  wpAny 0e7 A (Builtin.«zip.__next__» ⟨[.ref z],[]⟩) Q E s:=by
 show wpAny _ _ (field (.ref z) 2 >>= _) _ _ _;refine ad (ap (x:=.bool false) hz rfl rfl ?_);show wpAny _ _ (field (.ref z) 3 >>= _) _ _ _;refine ad (ap (x:=.ref TI) hz rfl rfl ?_);refine ad (wpAny_seqItems hI rfl ?_);show wpAny _ _ (Builtin.SmallTypes.ownedTupleIsFree (.ref z) >>= _) _ _ _;refine ad ?_;unfold Builtin.SmallTypes.ownedTupleIsFree;refine ad (ap (x:=.none) hz rfl rfl (am ?_));simp only[if_true];refine ad (wpAny_rule ?_);refine ad (ap (x:=.ref TO) hz rfl rfl ?_);refine ad (wpAny_setField_rec hz 2e5 λp1 z1 b1=>?_)
 replace z1:cy p1 z TI TO .ellipsis f1:=z1
 refine ad ?_;simp only[List.zipIdx_cons,List.zipIdx_nil,forIn_cons,forIn_nil];refine ad (ad (wpAny_onRaise ?_));show wpAny _ _ (Builtin.SmallTypes.nextOf (.ref i1) >>= _) _ _ _;cases e1:xs[k1]? with
 |none=>
  refine ad (qN hh (g1.to λo e=>b1.extBut _ o D.i1z e) (t1.to λo e=>b1.extBut _ o D.l1z e) e1 λp2 e b2 he=>?_);obtain⟨oe,ho,hc⟩:=he;have z2:cy p2 z TI TO .ellipsis f1:=b2 _ _ D.i1z.symm z1;have ne:e≠z:=λn=>by subst n;rw[z2]at ho;cases ho;simp at hc
  exact wpAny_setField_rec z2 2e5 λp3 _ b3=>q p3 e (λc o n1 _ n3 _ v=>b3.extBut _ _ n1 (b2 _ _ n3 (b1.extBut _ _ n1 v))) ⟨oe,b3.extBut _ _ ne ho,hc⟩
 |some x=>
  have e2:ys[k2]? =none:=by rcases hx with h|h;(rw[e1]at h;cases h);exact h
  refine ad (gP (g1.to λo e=>b1.extBut _ o D.i1z e) (t1.to λo e=>b1.extBut _ o D.l1z e) e1 λp2 g1b b2=>am ?_);have hO2:IsPair p2 TO a b:=b2.extBut _ _ D.TOi1 (b1.extBut _ _ D.TOz hO);refine ad (wpAny_seqItems hO2 rfl ?_);refine ad (wpAny_updateSeq_pair hO2 λp3 hO3 b3=>?_);refine ad (wpAny_letGo (am ?_));refine ad (ad (wpAny_onRaise ?_));show wpAny _ _ (Builtin.SmallTypes.nextOf (.ref i2) >>= _) _ _ _;refine ad (qN hh (g2.to λo e=>b3.extBut _ o D.TOi2.symm (b2.extBut _ o D.i12.symm (b1.extBut _ o D.i2z e))) (t2.to λo e=>b3.extBut _ o D.l2TO (b2.extBut _ o D.l2i1 (b1.extBut _ o D.l2z e))) e2 λp4 e b4 he=>?_);obtain⟨oe,ho,hc⟩:=he;have z4:cy p4 z TI TO .ellipsis f1:=b4 _ _ D.i2z.symm (b3.extBut _ _ D.TOz.symm (b2.extBut _ _ D.i1z.symm z1));have ne:e≠z:=λn=>by subst n;rw[z4]at ho;cases ho;simp at hc
  exact wpAny_setField_rec z4 2e5 λp5 _ b5=>q p5 e (λc o n1 n2 n3 n4 v=>b5.extBut _ _ n1 (b4 _ _ n4 (b3.extBut _ _ n2 (b2.extBut _ _ n3 (b1.extBut _ _ n1 v))))) ⟨oe,b5.extBut _ _ ne ho,hc⟩
def rq {Q:Option Obj->Shared->Prop}(h:Q (s.heap.get? c) s):wpAny 0e7 A (loadIfAlive c) Q E s:=λ_ _ _=>h
variable {t:Tok}
def rQ {Q:Bool->Shared->Prop}(hz:cy s.heap z TI TO (.int T t) (.bool fb))(hT:s.heap.get? T.toNat=some oT)(q:∀ h',cy h' z TI TO (.int T t) (.bool true)->Heap.SameBut z s.heap h'->Q false 1e5):
  wpAny 0e7 A (Builtin.SmallTypes.ownedTupleIsFree (.ref z)) Q E s:=by
 unfold Builtin.SmallTypes.ownedTupleIsFree;refine ad (ap (x:=.int T t) hz rfl rfl ?_);refine ad (rq ?_);rw[hT];refine ad (ap (x:=.bool fb) hz rfl rfl ?_);cases fb
 .refine ad (wpAny_setField_rec hz 2e5 λp1 z1 b1=>am ?_);exact q p1 z1 b1
 .exact ad (am (am (q s.heap hz (Heap.SameBut.refl ..))))
def DY {Q:NV}(D:ZipApart z TI TO i1 i2 l1 l2)(hz:cy s.heap z TI TO (.int T t) (.bool fb))(hT:s.heap.get? T.toNat=some oT)(hI:IsPair s.heap TI (.ref i1) (.ref i2))
  (g1:bC tp1 s.heap i1 l1 k1) (g2:bC tp2 s.heap i2 l2 k2) (t1:ck tp1 s.heap l1 xs) (t2:ck tp2 s.heap l2 ys) (hx:xs[k1]? =some x) (hy:ys[k2]? =some y)
  (q:∀ h',cy h' z TI TO (.int T t) (.bool true)->bC tp1 h' i1 l1 (k1+1)->bC tp2 h' i2 l2 (k2+1)->IsPair h' s.heap.objs.size x y->h'.objs.size=s.heap.objs.size+1->
   (∀ c o,c≠z->c≠i1->c≠i2->s.heap.get? c=some o->h'.get? c=some o)->Q (some 5e5) 1e5):wpAny 0e7 A (pyNext (.ref z)) Q E s:=by
 have hZ:s.TypeIs (.ref z) "zip":=⟨_,hz,rfl⟩;unfold pyNext;refine ad (wpAny_attempt (wpAny_callSpecial?_slot (name:=Str.ofString "__next__") hZ F.slot_zip_next (wpAny_call_entry F.slot_zip_next hZ F.entry_zip_next ?_ (F.args_zip_next_1 _))));show wpAny _ _ (field (.ref z) 2 >>= _) _ _ _;refine ad (ap (x:=.bool false) hz rfl rfl ?_);show wpAny _ _ (field (.ref z) 3 >>= _) _ _ _;refine ad (ap (x:=.ref TI) hz rfl rfl ?_);refine ad (wpAny_seqItems hI rfl ?_);show wpAny _ _ (Builtin.SmallTypes.ownedTupleIsFree (.ref z) >>= _) _ _ _;refine ad (rQ hz hT λp1 z1 b1=>?_);simp only[Bool.false_eq_true,if_false];simp only[List.forIn_toArray,forIn_cons,forIn_nil];refine ad (ad (ad (bd ?_)));show wpAny _ _ (Builtin.SmallTypes.nextOf (.ref i1) >>= _) _ _ _;refine ad (gP (g1.to λo e=>b1.extBut _ o D.i1z e) (t1.to λo e=>b1.extBut _ o D.l1z e) hx λp2 g1b b2=>am (am ?_));dsimp only;refine ad (ad (bd ?_));show wpAny _ _ (Builtin.SmallTypes.nextOf (.ref i2) >>= _) _ _ _;refine ad (gP (g2.to λo e=>b2.extBut _ o D.i12.symm (b1.extBut _ o D.i2z e)) (t2.to λo e=>b2.extBut _ o D.l2i1 (b1.extBut _ o D.l2z e)) hy λp3 g2b b3=>am (am (am ?_)));dsimp only;refine ad (wpAny_newTuple ?_ (hsz:=fits (ol rfl)));have hsz:p3.objs.size=s.heap.objs.size:=by rw[b3.1,b2.1,b1.1]
 refine am ⟨_,rfl,?_⟩;have z3:cy p3 z TI TO (.int T t) (.bool true):=b3.extBut _ _ D.i2z.symm (b2.extBut _ _ D.i1z.symm z1);rw[hsz];refine am (q _ (sK _ z3) (g1b.to λo e=>sK _ (b3.extBut _ o D.i12 e)) (g2b.to λo e=>sK _ e) (by rw[<-hsz];exact ul _ rfl) (by rw[Heap.size_push,hsz]) λc o n1 n2 n3 e=>?_);exact sK _ (b3.extBut _ _ n3 (b2.extBut _ _ n2 (b1.extBut _ _ n1 e)))
def Ax {Q:Fin->Shared->Prop}(hh:A.handled=none)(D:ZipApart z TI TO i1 i2 l1 l2)(hz:cy s.heap z TI TO (.int T t) (.bool fb))(hT:s.heap.get? T.toNat=some oT)(hI:IsPair s.heap TI (.ref i1) (.ref i2))
  (g1:bC tp1 s.heap i1 l1 k1) (g2:bC tp2 s.heap i2 l2 k2) (t1:ck tp1 s.heap l1 xs) (t2:ck tp2 s.heap l2 ys) (hx:xs[k1]? =none\/ys[k2]? =none)
  (q:∀ h' e,(∀ c o,c≠z->c≠i1->c≠i2->s.heap.get? c=some o->h'.get? c=some o)->(∃ o,h'.get? e=some o/\o.cls=.type "StopIteration")->E (.ref e) 1e5):
  wpAny 0e7 A (Builtin.«zip.__next__» ⟨[.ref z],[]⟩) Q E s:=by
 show wpAny _ _ (field (.ref z) 2 >>= _) _ _ _;refine ad (ap (x:=.bool false) hz rfl rfl ?_);show wpAny _ _ (field (.ref z) 3 >>= _) _ _ _;refine ad (ap (x:=.ref TI) hz rfl rfl ?_);refine ad (wpAny_seqItems hI rfl ?_);show wpAny _ _ (Builtin.SmallTypes.ownedTupleIsFree (.ref z) >>= _) _ _ _;refine ad (rQ hz hT λp1 z1 b1=>?_);simp only[Bool.false_eq_true,if_false];simp only[List.forIn_toArray,forIn_cons,forIn_nil];refine ad (ad (ad (bd ?_)));show wpAny _ _ (Builtin.SmallTypes.nextOf (.ref i1) >>= _) _ _ _;cases e1:xs[k1]? with
 |none=>exact ad (qN hh (g1.to λo e=>b1.extBut _ o D.i1z e) (t1.to λo e=>b1.extBut _ o D.l1z e) e1 λp2 e b2 he=>q p2 e (λc o n1 n2 n3 v=>b2 _ _ n2 (b1.extBut _ _ n1 v)) he)
 |some x=>
  have e2:ys[k2]? =none:=by rcases hx with h|h;(rw[e1]at h;cases h);exact h
  refine ad (gP (g1.to λo e=>b1.extBut _ o D.i1z e) (t1.to λo e=>b1.extBut _ o D.l1z e) e1 λp2 g1b b2=>am (am ?_));dsimp only;refine ad (ad (bd ?_));show wpAny _ _ (Builtin.SmallTypes.nextOf (.ref i2) >>= _) _ _ _;exact ad (qN hh (g2.to λo e=>b2.extBut _ o D.i12.symm (b1.extBut _ o D.i2z e)) (t2.to λo e=>b2.extBut _ o D.l2i1 (b1.extBut _ o D.l2z e)) e2 λp4 e b4 he=>q p4 e (λc o n1 n2 n3 v=>b4 _ _ n3 (b2.extBut _ _ n2 (b1.extBut _ _ n1 v))) he)
def Aa {Q:NV}(hh:A.handled=none)(D:ZipApart z TI TO i1 i2 l1 l2)(hz:cy s.heap z TI TO .none f1)(hI:IsPair s.heap TI (.ref i1) (.ref i2))(hO:IsPair s.heap TO a b)
  (g1:bC tp1 s.heap i1 l1 k1) (g2:bC tp2 s.heap i2 l2 k2) (t1:ck tp1 s.heap l1 xs) (t2:ck tp2 s.heap l2 ys) (hx:xs[k1]? =none\/ys[k2]? =none)
  (q:∀ h',3e1->Q none 1e5):wpAny 0e7 A (pyNext (.ref z)) Q E s:=by
 have hT:s.TypeIs (.ref z) "zip":=⟨_,hz,rfl⟩;unfold pyNext;refine ad (wpAny_attempt (wpAny_callSpecial?_slot (name:=Str.ofString "__next__") hT F.slot_zip_next (wpAny_call_entry F.slot_zip_next hT F.entry_zip_next (Iz hh D hz hI hO g1 g2 t1 t2 hx λh' e k ⟨o,ho,hc⟩=>?_) (F.args_zip_next_1 _))));exact ad (wpAny_isInstance (T:="StopIteration") (b:=true) ⟨o,ho,hc⟩ isSubtype_stop (am (q _ k)))
def Bb {Q:NV}(hh:A.handled=none)(D:ZipApart z TI TO i1 i2 l1 l2)(hz:cy s.heap z TI TO (.int T t) (.bool fb))(hT:s.heap.get? T.toNat=some oT)(hI:IsPair s.heap TI (.ref i1) (.ref i2))
  (g1:bC tp1 s.heap i1 l1 k1) (g2:bC tp2 s.heap i2 l2 k2) (t1:ck tp1 s.heap l1 xs) (t2:ck tp2 s.heap l2 ys) (hx:xs[k1]? =none\/ys[k2]? =none)
  (q:∀ h',(∀ c o,c≠z->c≠i1->c≠i2->s.heap.get? c=some o->h'.get? c=some o)->Q none 1e5):wpAny 0e7 A (pyNext (.ref z)) Q E s:=by
 have hT':s.TypeIs (.ref z) "zip":=⟨_,hz,rfl⟩;unfold pyNext;refine ad (wpAny_attempt (wpAny_callSpecial?_slot (name:=Str.ofString "__next__") hT' F.slot_zip_next (wpAny_call_entry F.slot_zip_next hT' F.entry_zip_next (Ax hh D hz hT hI g1 g2 t1 t2 hx λh' e k ⟨o,ho,hc⟩=>?_) (F.args_zip_next_1 _))));exact ad (wpAny_isInstance (T:="StopIteration") (b:=true) ⟨o,ho,hc⟩ isSubtype_stop (am (q _ k)))
abbrev B5 (tp:Bool)(c:Addr):Obj:=match tp with
 |true=>{ cls:=.type "tuple_iterator",data:=.fields #[.ref c,.int 0 0] }
 |false=>{ cls:=.type "list_iterator",data:=.fields #[.ref c,.int 0 0] }
def rm {vs:Array Value}(t:ck tp s.heap c vs)(q:Q 5e5 { s with heap:=s.heap.push (B5 tp c) }):wpAny 0e7 A (pyIter (.ref c)) Q E s:=by
 cases tp
 .exact wpAny_pyIter_list t q
 .exact wpAny_pyIter_tuple t q
@[reducible]def IV (a:Array Value):Obj:={ cls:=.type "tuple",data:=.seq a }
@[reducible]def Hu (m n:Addr):Obj:={ cls:=.type "zip",data:=.fields #[.none,.bool false,.bool false,.ref m,.ref n] }
def Jy {l:Addr}:(B5 tp l).isFreed=false:=by cases tp<;>rfl
def J0 {n:Nat}(o:Obj)(hn:h.objs.size=n)(ho:o.isFreed=false:=by first|rfl|exact Jy):∃ h',h.push o=h'/\h'.get? n=some o/\h'.objs.size=n+1/\∀ c o',h.get? c=some o'->h'.get? c=some o':=
 ⟨_,rfl,hn▸ul _ ho,by rw[Heap.size_push,hn],λ_ _ e=>sK _ e⟩
def Nc {i l:Addr}(e:h.get? i=some (B5 tp l)):bC tp h i l 0:=by
 cases tp
 .exact⟨_,e,rfl,rfl⟩
 .exact⟨_,e,rfl,rfl⟩
noncomputable abbrev ER (h:Heap)(tp1 tp2:Bool)(l1 l2:Addr):Heap:=((((h.push (B5 tp1 l1)).push (B5 tp2 l2)).push (IV #[.ref h.objs.size,.ref (h.objs.size+1)])).push (IV #[.none,.none])).push (Hu (h.objs.size+2) (h.objs.size+3))
def DP (tp1 tp2:Bool)(l1 l2:Addr)(xs ys:Array Value):Meets (Builtin.«zip.__new__» ⟨[.type "zip",.ref l1,.ref l2],[]⟩)
  (λ_ R s=>ck tp1 s.heap l1 xs/\ck tp2 s.heap l2 ys/\R (.ok (.ret (.ref (s.heap.objs.size+4)))) { s with heap:=ER s.heap tp1 tp2 l1 l2 }):=.of_wp λprog w A R s h=>by
 obtain⟨hp,g,d,tk,os⟩:=s;obtain⟨t1,t2,q⟩:=h;have hsub:=sub_zip;have t2':ck tp2 (hp.push (B5 tp1 l1)) l2 ys:=t2.to λo e=>sK _ e
 wp_walk using rm (s:=⟨hp,g,d,tk,os⟩) t1,rm (s:=⟨hp.push (B5 tp1 l1),g,d,tk,os⟩) t2'
 refine⟨_,rfl,?_⟩;simp only[Heap.size_push,Nat.add_assoc]at q⊢;exact q
def rD (t1:ck tp1 s.heap l1 xs)(t2:ck tp2 s.heap l2 ys)
  (q:∀ h',cy h' (s.heap.objs.size+4) (s.heap.objs.size+2) (s.heap.objs.size+3) .none (.bool false)->IsPair h' (s.heap.objs.size+2) 5e5 (.ref 2e3)->
   IsPair h' (s.heap.objs.size+3) .none .none->bC tp1 h' s.heap.objs.size l1 0->bC tp2 h' 2e3 l2 0->h'.objs.size=s.heap.objs.size+5->
   (∀ c o,s.heap.get? c=some o->h'.get? c=some o)->Q (.ref (s.heap.objs.size+4)) 1e5):
  wpAny 0e7 A (call (.type "zip") [.ref l1,.ref l2]) Q E s:=by
 refine callType_new F.called_zip 1e1 (F.typeCall_zip_2 _ _) (F.newCall_zip_2 _ _) (λobj=>F.args_object_init_3 obj _ _) F.entry_zip_new (DP tp1 tp2 l1 l2 xs ys) ⟨t1,t2,?_⟩;generalize hn:s.heap.objs.size=n at q⊢;have hz:ER s.heap tp1 tp2 l1 l2=((((s.heap.push (B5 tp1 l1)).push (B5 tp2 l2)).push (IV #[.ref n,.ref (n+1)])).push (IV #[.none,.none])).push (Hu (n+2) (n+3)):=by rw[<-hn]
 obtain⟨_,a1,e0,z0,k0⟩:=J0 (B5 tp1 l1) hn;obtain⟨_,a2,e1,z1,k1⟩:=J0 (B5 tp2 l2) z0;obtain⟨_,a3,e2,z2,k2⟩:=J0 (IV #[.ref n,.ref (n+1)]) z1;obtain⟨_,a4,e3,z3,k3⟩:=J0 (IV #[.none,.none]) z2;obtain⟨_,a5,e4,z4,k4⟩:=J0 (Hu (n+2) (n+3)) z3;rw[hz,a1,a2,a3,a4,a5];exact⟨⟨_,e4,rfl⟩,q _ e4 (k4 _ _ (k3 _ _ e2)) (k4 _ _ e3) ((Nc e0).to λo e=>k4 _ _ (k3 _ _ (k2 _ _ (k1 _ _ e)))) ((Nc e1).to λo e=>k4 _ _ (k3 _ _ (k2 _ _ e))) z4 λc o e=>k4 _ _ (k3 _ _ (k2 _ _ (k1 _ _ (k0 _ _ e))))⟩
def zu {n:Addr}(a1:l1<n)(a2:l2<n):ZipApart (n+4) (n+2) (n+3) n (n+1) l1 l2:=by
 constructor<;>(intro e;have e':=(show @Eq Nat _ _ from e);have b1:=(show @LT.lt Nat _ l1 n from a1);have b2:=(show @LT.lt Nat _ l2 n from a2);omega)
def x6 {m:Nat}{T:Addr}{Q:NW}(hz:cy s.heap z TI TO (rawInt T) f1)(q:∀ h',cy h' z TI TO .none f1->Heap.SameBut z s.heap h'->Q () 1e5):
  wpAny 0e7 A (letOwnedTupleGo (.Tuple elts m pos) (.ref z) (.ref T)) Q E s:=by
 unfold letOwnedTupleGo;refine ad (wpAny_load hz ?_);show wpAny _ _ (if(["enumerate","zip","dict_itemiterator","dict_reverseitemiterator","odict_iterator","itertools.zip_longest","itertools.pairwise"].contains "zip"&&(#[rawInt T,f1,.bool false,.ref TI,.ref TO]:Array Value)[0]? ==some (rawInt T))=true then _ else _) Q E s;rw[if_pos 2e5];exact ad (wpAny_rule (wpAny_setField_rec hz 2e5 λh' z' b'=>q h' z' b'))
def mG {f0:Value}(hz:cy s.heap z TI TO f0 f1)(h:Q (.ref z) s):wpAny 0e7 A (pyIter (.ref z)) Q E s:=by
 have hT:s.TypeIs (.ref z) "zip":=⟨_,hz,rfl⟩;refine wpAny_pyIter_slot hT F.slot_zip_iter (wpAny_call_entry F.slot_zip_iter hT F.entry_zip_iter ?_ (F.args_zip_iter_1 _));show wpAny _ _ (ret (.ref z)) _ _ s;exact am ⟨_,rfl,"zip",_,hT,F.slot_zip_next.lookup,h⟩
end
variable {X:Cx}{Y:NY}{U:St}{H:Hp}{s:Shared}
def Inv.DB {h':Heap}{t':Nat}{ch:List Addr}(I:Inv X Y U H s)(k:∀ b u,b ∉ ch->s.heap.get? b=some u->h'.get? b=some u) (hf:∀ b ∈ ch,jr X Y H b):Inv X Y U H 5e0:=by
 have nch:∀ b u,H b=some u->b ∉ ch:=λb u e z=>by rw[(hf b z).1]at e;cases e
 refine I.step (g':=s.gens) (d':=s.drawn) (ch:=ch) (λb hb=>?_) (λb o _ _ hc e _=>k b o hc e) (λb o _ _ hc e _=>⟨o.slots,k b o hc e⟩) (λ_ _ _ _ n=>n)
  (λb o hc e=>⟨o,k b o hc e⟩) (λ_ _ e=>e) (λ_ _ _ e=>e) (λb ps e=>⟨#[],by rw[e];simp⟩) (λm hm=>?_) (λb u e=>?_) I.bare
 .obtain⟨_,f1,_,f3,f4,f5⟩:=hf b hb;exact⟨f3,f1,f4,f5⟩
 .obtain⟨o,es,ep,ho,r⟩:=hm;exact⟨o,es,ep,k _ o (λz=>(hf _ z).2.1 rfl) ho,r⟩
 .refine(I.hok b u e).fL (λc v hc q=>k c v ?_ q) (λ_ q=>q) λ_ _ q=>q
  rcases hc with rfl|hc
  .exact nch _ _ e
  .exact nch _ _ hc
abbrev Sq (K:W.Frag)(tp:Bool)(H:Hp)(c:Addr)(xs:List V):Prop:=match tp with
 |true=>bP K H c xs
 |false=>bB K H c xs
def Inv.sq {xs:List V}(I:Inv X Y U H s)(h:Sq X.K tp H c xs):∃ its:List Value,Vals xs its/\ck tp s.heap c its.toArray:=by
 cases tp
 .obtain⟨its,r,p,_⟩:=I.list h;exact⟨its,r,p.isList⟩
 .obtain⟨its,r,p,_⟩:=I.tuple h;exact⟨its,r,p⟩
def Inv.AV {xs ys:List V}(I:Inv X Y U H s)(h:Sq X.K tp H c xs)(h':Sq X.K tp H c ys):xs=ys:=by
 cases tp
 .exact I.lW h h'
 .exact I.kC h h'
abbrev Ln (K:W.Frag)(tp1:Bool)(l1:Addr)(tp2:Bool)(l2:Addr):It:=
 ⟨λi H=>∃ xs ys x y,Sq K tp1 H l1 xs/\Sq K tp2 H l2 ys/\xs[i]? =some x/\ys[i]? =some y,
  λi H v H'=>∃ T x y,H T=none/\v=.ref T/\H'=upd H T (.tup [x,y])/\(∀ xs,Sq K tp1 H l1 xs->xs[i]? =some x)/\∀ ys,Sq K tp2 H l2 ys->ys[i]? =some y,
  λi H=>∃ xs ys,Sq K tp1 H l1 xs/\Sq K tp2 H l2 ys/\(xs.length<=i\/ys.length<=i)⟩
def BR {P:Program}{w:World}{K:W.Frag}{tp1 tp2:Bool}{z TI TO i1 i2 l1 l2:Addr}(D:ZipApart z TI TO i1 i2 l1 l2):
  Turn P w K Calm (.Tuple elts k pos) (Ln K tp1 l1 tp2 l2) [z,TI,TO,i1,i2] z (λi h=>(∃ f1,cy h z TI TO .none f1)/\IsPair h TI (.ref i1) (.ref i2)/\(∃ a b,IsPair h TO a b)/\bC tp1 h i1 l1 i/\bC tp2 h i2 l2 i) where
 mem:=by simp
 obj:=λi h st b hb=>by
  obtain⟨⟨f1,hz⟩,hI,⟨a,b',hO⟩,g1,g2⟩:=st;have it:∀ {tp:Bool}{j c:Addr}{k:Nat},bC tp h j c k->∃ o,h.get? j=some o/\∀ v,o.data≠.cell v:=λ{tp j c k} g=>by
   cases tp
   .obtain⟨o,e,_,d⟩:=(show h.IsListIter j c k from g);exact⟨o,e,λv z=>by rw[d]at z;cases z⟩
   .obtain⟨o,e,_,d⟩:=(show h.IsTupleIter j c k from g);exact⟨o,e,λv z=>by rw[d]at z;cases z⟩
  simp only[mo,not_mem_nil,or_false]at hb;rcases hb with rfl|rfl|rfl|rfl|rfl
  .exact⟨_,hz,λv e=>by cases(show Data.fields _=Data.cell v from e)⟩
  .exact⟨_,hI,λv e=>by cases(show Data.seq _ _=Data.cell v from e)⟩
  .exact⟨_,hO,λv e=>by cases(show Data.seq _ _=Data.cell v from e)⟩
  .exact it g1
  .exact it g2
 keep:=λi h h' st k=>by
  obtain⟨⟨f1,hz⟩,hI,⟨a,b',hO⟩,g1,g2⟩:=st;exact⟨⟨f1,k z 2e5 _ hz⟩,k TI 2e5 _ hI,⟨a,b',k TO 2e5 _ hO⟩,g1.to λo e=>k i1 2e5 o e,g2.to λo e=>k i2 2e5 o e⟩
 item:=by
  intro X hP hw hK hc i Y s U H E I hf st hg;subst hP hw hK;obtain⟨xs,ys,x,y,hq1,hq2,hx,hy⟩:=hg;obtain⟨⟨f1,hz⟩,hI,⟨a,b,hO⟩,g1,g2⟩:=st;obtain⟨is1,r1,t1⟩:=I.sq hq1;obtain⟨is2,r2,t2⟩:=I.sq hq2;obtain⟨u,hu,ru⟩:=r1.get hx;obtain⟨v,hv,rv⟩:=r2.get hy;have n0:∀ {c o},s.heap.get? c=some o->c≠s.heap.objs.size:=λe=>pc (tz e)
  refine vY D hz hI hO g1 g2 t1 t2 (x:=u) (y:=v) (by simpa using hu) (by simpa using hv) λh1 z1 o1 j1 j2 hT hs1 k1=>?_
  have I1:Inv X Y U (upd H s.heap.objs.size (.tup [x,y])) { s with heap:=h1,toks:=s.toks }:=
   I.tm (ch:=[z,TI,TO,i1,i2]) (λb o hb q=>k1 b o (λe=>hb (by simp[e])) (λe=>hb (by simp[e])) (λe=>hb (by simp[e])) (λe=>hb (by simp[e])) q) hf (pi _)
    ⟨fits (ol rfl),[u,v],.cons ru (.cons rv .nil),⟨_,hT,rfl,_,rfl⟩⟩
  refine⟨_,rfl,x6 z1 λh2 z2 b2=>?_⟩;obtain⟨f0,f1',f2,f3,f4,f5⟩:=hf z 2e5;have I2:=I1.turned (h':=h2) (t':=s.toks) (it:=z) (λb o hb q=>(b2.2 b hb).trans q) (by rw[aj (n0 hz)];exact f0) f1' f3 f4 f5;refine⟨.ref s.heap.objs.size,_,I2,rfl,⟨_,x,y,I.hok.fresh (pi _),rfl,rfl,λzs hz'=>?_,λzs hz'=>?_⟩,⟨⟨_,z2⟩,?_,⟨_,_,b2.extBut _ _ D.TOz o1⟩,j1.to λo e=>b2.extBut _ o D.i1z e,j2.to λo e=>b2.extBut _ o D.i2z e⟩,λb hb=>?_⟩
  .rw[I.AV hz' hq1];exact hx
  .rw[I.AV hz' hq2];exact hy
  .exact b2.extBut _ _ D.TIz (k1 _ _ D.TIz D.TITO D.TIi1 D.TIi2 hI)
  .have hb':b≠s.heap.objs.size:=by
    simp only[mo,not_mem_nil,or_false]at hb;rcases hb with rfl|rfl|rfl|rfl|rfl
    .exact n0 hz
    .exact n0 hI
    .exact n0 hO
    .exact pc g1.lt
    .exact pc g2.lt
   rw[aj hb'];exact(hf b hb).1
 done:=by
  intro X hP hw hK hc i Y s U H E I hf st hg;subst hP hw hK;obtain⟨xs,ys,hq1,hq2,hx⟩:=hg;obtain⟨⟨f1,hz⟩,hI,⟨a,b,hO⟩,g1,g2⟩:=st;obtain⟨is1,r1,t1⟩:=I.sq hq1;obtain⟨is2,r2,t2⟩:=I.sq hq2;have e1:=r1.length;have e2:=r2.length;refine Aa (I.ok.hd hc) D hz hI hO g1 g2 t1 t2 (by simp;omega) λh' k'=>⟨rfl,?_⟩
  exact I.DB (t':=s.toks) (ch:=[z,TI,TO,i1,i2]) (λb o hb q=>k' b o (λe=>hb (by simp[e])) (λe=>hb (by simp[e])) (λe=>hb (by simp[e])) (λe=>hb (by simp[e])) q) hf
 self:=λ_ _ _ _ _ st h=>by
  obtain⟨⟨f1,hz⟩,_⟩:=st;exact mG hz h
def By:bootBuiltins "zip"=some (.type "zip"):=by decide+kernel
abbrev J9 (K:W.Frag)(v u:V)(H:Hp)(R:It->Hp->Prop):Prop:=∃ tp1 l1 tp2 l2,v=.ref l1/\u=.ref l2/\(∃ xs,Sq K tp1 H l1 xs)/\(∃ ys,Sq K tp2 H l2 ys)/\R (Ln K tp1 l1 tp2 l2) H
abbrev LO (K:W.Frag)(ta:TA):TI:=λU H R=>ta U H λvs H1=>∃ v u,vs=[v,u]/\J9 K v u H1 R
variable {ta:TA}{p:Pos}
def FT {a b:Expr}{pos':Pos}(hg:Gl X "zip") (hm:X.mg "zip"=none) (ha:PA X [a,b] ta) (hs:bm [a,b] X.env=(false,eval a X.env)::bm [b] X.env:=by rfl) (hpl:(backTo pos (bm [b] X.env)).any (·.1)=false:=by rfl):
  PI X (.Tuple elts k pos') (.Call (.Name "zip" p) [a,b] [] pos) (LO X.K ta):=by
 intro Y s U H R I h;refine Call_ (cT I hg hm By (PyProof.Rows.callWith_type1 (uI (ha pos Y s U H _ I h) λus s1 vs H1 I1 r1 q1=>?_) hs hpl));obtain⟨v,u,e,tp1,l1,tp2,l2,e1,e2,⟨xs,q1⟩,⟨ys,q2⟩,q⟩:=q1;subst e e1 e2;cases r1 with
 |cons r rr=>
  cases rr with
  |cons r' rr'=>
   cases rr';cases r;cases r';obtain⟨is1,s1',t1⟩:=I1.sq q1;obtain⟨is2,s2',t2⟩:=I1.sq q2;refine rD t1 t2 λh' hz hI hO g1 g2 hsz hk=>?_
   refine mG hz ?_;refine⟨s1.heap.objs.size+4,[s1.heap.objs.size+4,s1.heap.objs.size+2,s1.heap.objs.size+3,s1.heap.objs.size,s1.heap.objs.size+1],_,_,H1,rfl,I1.kept (t':=s1.toks) hk,BR (zu t1.lt t2.lt),⟨⟨_,hz⟩,hI,⟨_,_,hO⟩,g1,g2⟩,λb hb=>?_,q⟩;have hb':s1.heap.objs.size<=b:=by
    simp only[mo,not_mem_nil,or_false]at hb;rcases hb with rfl|rfl|rfl|rfl|rfl<;>first|exact pi _|exact Nat.le_add_right _ _
   exact I1.Ah hb' (I1.hok.fresh hb')
def qy:entryFor table "zip.__getattribute__"=some Builtin.«object.__getattribute__»:=entryFor_alias (id':="object.__getattribute__") (by kernel_rfl) (by first|rfl|decide+kernel) 2e6 (by kernel_rfl)
def rW:typeLookup (.type "zip") "keys"=pure none:=by rw[typeLookup_type,builtinLookup_eq_fast];kernel_rfl
def xw:typeLookup (.type "zip") "__getattr__"=pure none:=by rw[typeLookup_type,builtinLookup_eq_fast];kernel_rfl
def xq (a:Addr)(vs:Array Value)(u:Tok):Meets (Builtin.«object.__getattribute__» ⟨[.ref a,.str "keys" u],[]⟩) (λA R s=>s.heap.get? a=some { cls:=.type "zip",dict:=none,data:=.fields vs,slots:=#[] }/\raisesAttr 3e6 "keys" A R s):=
 Meets.of_wp λprog w A R s ⟨hx,hs⟩=>by
  obtain⟨hp,g,d,tk,os⟩:=s;have hT:(⟨hp,g,d,tk,os⟩:Shared).TypeIs 3e6 "zip":=⟨_,hx,rfl⟩;have f4:=rW;unfold Builtin.«object.__getattribute__»
  repeat(any_goals first|assumption|wp_step)
  exact wpAny_raiseAttrError hs.1 hs.2 (attrMsg_fits 2e6 (by rw[sizeLine_eq];decide+kernel))
section
variable {prog:Program}{w:World}{A:Around}{E:NX}{s:Shared}{a:Addr}{vs:Array Value}
def AA {Q:NV}(hA:A.handled=none)(hx:s.heap.get? a=some { cls:=.type "zip",dict:=none,data:=.fields vs,slots:=#[] })
  (q:∀ h' t',(∀ c u,s.heap.get? c=some u->h'.get? c=some u)->Q none 5e0):wpAny 0e7 A (getAttr? 3e6 "keys") Q E s:=by
 obtain⟨hp,g,d,tk,os⟩:=s;have hT:∀ t',(⟨hp,g,d,t',os⟩:Shared).TypeIs 3e6 "zip":=λ_=>⟨_,hx,rfl⟩
 have f1:=sub_AttributeError;have f3:=PySem.F.slot_zip_getattribute.lookup;have f4:=PySem.F.slot_zip_getattribute.bind 3e6;have f5:=xw;unfold getAttr? getAttrBy? getAttrBy
 repeat(any_goals first|assumption|((with_reducible show wpAny _ _ (call (Value.builtin "zip.__getattribute__") _ _) _ _ _);refine call_meets PySem.F.slot_zip_getattribute (hT _) qy (PySem.F.args_zip_getattribute_2 _ _) (xq a vs _) ⟨hx,hA,λh' tk' e he=>?_⟩)|wp_step)
 obtain⟨t1,u1,e1⟩:=he.there;show wpAny _ _ (getattributeRaised _ _ _ _ _ _ _) _ _ _;unfold getattributeRaised
 repeat(any_goals first|assumption|wp_step)
 exact q _ _ he.keeps
end
structure Zs (h:Heap) (tp1 tp2:Bool) (z TI TO i1 i2 l1 l2:Addr) (i:Nat) (xs ys:Array Value):Prop where
 zo:(∃ f1,cy h z TI TO .none f1)\/∃ (T:Int) (fb:Bool) (o:Obj),cy h z TI TO (rawInt T) (.bool fb)/\h.get? T.toNat=some o/\T.toNat≠z/\T.toNat≠TO/\T.toNat≠i1/\T.toNat≠i2
 hI:IsPair h TI (.ref i1) (.ref i2)
 hO:∃ a b,IsPair h TO a b
 g1:bC tp1 h i1 l1 i
 g2:bC tp2 h i2 l2 i
 t1:ck tp1 h l1 xs
 t2:ck tp2 h l2 ys
section
variable {prog:Program}{w:World}{A:Around}{E:NX}{s:Shared}{tp1 tp2:Bool}{z TI TO i1 i2 l1 l2:Addr}{i:Nat}{xs ys:Array Value}{x y:Value}
set_option tactic.hygienic true in
def Zs.next {Q:NV}(D:ZipApart z TI TO i1 i2 l1 l2)(Z:Zs s.heap tp1 tp2 z TI TO i1 i2 l1 l2 i xs ys)(hx:xs[i]? =some x)(hy:ys[i]? =some y)
  (q:∀ h',Zs h' tp1 tp2 z TI TO i1 i2 l1 l2 (i+1) xs ys->IsPair h' s.heap.objs.size x y->h'.objs.size=s.heap.objs.size+1->3e1->Q (some 5e5) 1e5):
  wpAny 0e7 A (pyNext (.ref z)) Q E s:=by
 obtain⟨zo,hI,⟨a,b,hO⟩,g1,g2,t1,t2⟩:=Z;have n0:∀ {c o},s.heap.get? c=some o->s.heap.objs.size≠c:=λe=>Nat.ne_of_gt (tz e)
 rcases zo with⟨f1,hz⟩|⟨T,fb,o,hz,hT,n1,n2,n3,n4⟩
 .refine vY D hz hI hO g1 g2 t1 t2 hx hy λh' z1 o1 j1 j2 p1 sz k=>?_
  refine q h' ⟨.inr ⟨s.heap.objs.size,false,_,z1,p1,n0 hz,n0 hO,Nat.ne_of_gt g1.lt,Nat.ne_of_gt g2.lt⟩,k _ _ D.TIz D.TITO D.TIi1 D.TIi2 hI,⟨_,_,o1⟩,j1,j2,t1.to λo e=>k _ o D.l1z D.l1TO D.l1i1 D.l1i2 e,t2.to λo e=>k _ o D.l2z D.l2TO D.l2i1 D.l2i2 e⟩ p1 sz k
 .refine DY D hz hT hI g1 g2 t1 t2 hx hy λh' z1 j1 j2 p1 sz k=>?_
  exact q h' ⟨.inr ⟨T,true,o,z1,k _ _ n1 n3 n4 hT,n1,n2,n3,n4⟩,k _ _ D.TIz D.TIi1 D.TIi2 hI,⟨a,b,k _ _ D.TOz D.TOi1 D.TOi2 hO⟩,j1,j2,t1.to λo e=>k _ o D.l1z D.l1i1 D.l1i2 e,t2.to λo e=>k _ o D.l2z D.l2i1 D.l2i2 e⟩ p1 sz λc o m1 _ m3 m4 e=>k c o m1 m3 m4 e
def Zs.stop {Q:NV}(hh:A.handled=none)(D:ZipApart z TI TO i1 i2 l1 l2)(Z:Zs s.heap tp1 tp2 z TI TO i1 i2 l1 l2 i xs ys)(hx:xs[i]? =none\/ys[i]? =none)
  (q:∀ h',3e1->Q none 1e5):wpAny 0e7 A (pyNext (.ref z)) Q E s:=by
 obtain⟨zo,hI,⟨a,b,hO⟩,g1,g2,t1,t2⟩:=Z;rcases zo with⟨f1,hz⟩|⟨T,fb,o,hz,hT,_⟩
 .exact Aa hh D hz hI hO g1 g2 t1 t2 hx q
 .exact Bb hh D hz hT hI g1 g2 t1 t2 hx λh' k=>q h' λc o m1 _ m3 m4 e=>k c o m1 m3 m4 e
def Zs.keep {h':Heap}{d:Addr}(Z:Zs h tp1 tp2 z TI TO i1 i2 l1 l2 i xs ys)(k:∀ c o,h.get? c=some o->c≠d->h'.get? c=some o) (n:d≠z/\d≠TI/\d≠TO/\d≠i1/\d≠i2/\d≠l1/\d≠l2) (hd:∃ o,h'.get? d=some o):Zs h' tp1 tp2 z TI TO i1 i2 l1 l2 i xs ys:=by
 obtain⟨zo,hI,⟨a,b,hO⟩,g1,g2,t1,t2⟩:=Z;obtain⟨m1,m2,m3,m4,m5,m6,m7⟩:=n;refine⟨?_,k _ _ hI m2.symm,⟨a,b,k _ _ hO m3.symm⟩,g1.to λo e=>k _ o e m4.symm,g2.to λo e=>k _ o e m5.symm,t1.to λo e=>k _ o e m6.symm,t2.to λo e=>k _ o e m7.symm⟩;rcases zo with⟨f1,hz⟩|⟨T,fb,o,hz,hT,r⟩
 .exact .inl ⟨f1,k _ _ hz m1.symm⟩
 .by_cases e:T.toNat=d
  .obtain⟨o',ho⟩:=hd;exact .inr ⟨T,fb,o',k _ _ hz m1.symm,by rw[e];exact ho,r⟩
  .exact .inr ⟨T,fb,o,k _ _ hz m1.symm,k _ _ hT e,r⟩
end
def gY:plainId "dict.update.loop"=true:=by decide+kernel
def oh:entryFor table "dict.update.loop"=some Builtin.«dict.update.loop»:=entryFor_of_tree (by kernel_rfl)
section
variable {prog:Program}{w:World}{A:Around}{tp1 tp2:Bool}{z TI TO i1 i2 l1 l2 d:Addr}{xs ys:Array Value}{Ky:Type} [DecidableEq Ky] {knd:KeyKind prog w Ky}
set_option tactic.hygienic true in
def BP (hh:A.handled=none)(D:ZipApart z TI TO i1 i2 l1 l2)(nd:d≠z/\d≠TI/\d≠TO/\d≠i1/\d≠i2/\d≠l1/\d≠l2)(ks:List Ky)(hk:∀ (j:Nat) x,xs[j]? =some x->∃ k,ks[j]? =some k/\knd.is k x=true) (hz:xs.size=ys.size):
  ∀ (m i:Nat),xs.size-i=m->i<=xs.size->∀ (s:Shared) (kvs:List (Ky×Value)) (R:Result->Shared->Prop),Zs s.heap tp1 tp2 z TI TO i1 i2 l1 l2 i xs ys->s.heap.DictOf knd d kvs->kvs.length+m<=bn->
  (∀ h' t',h'.DictOf knd d (merged kvs ((ks.zip ys.toList).drop i))->(∀ c o,c≠z->c≠TO->c≠i1->c≠i2->c≠d->s.heap.get? c=some o->h'.get? c=some o)->R (.ok (.ret .none)) 5e0)->
  wpAny 0e7 A.in1 (Builtin.«dict.update.loop» ⟨[.ref d,.ref z,rawInt i,.none],[]⟩) (λfin s'=>match fin with| .done f=>R (.ok f) s'| .again c'=>c'.quiet=true/\codeAny 0e7 A c' R s') (λe s'=>R (.error e) s') s:=by
 intro m
 induction m with
 |zero=>
  intro i hm hi s kvs R Z dd hl q;show wpAny _ _ (pyNext (.ref z) >>= _) _ _ _;refine ad (Z.stop (show A.in1.handled=none from hh) D (.inl (by simp;omega)) λh' k=>?_);show wpAny _ _ (Builtin.Dict.addKeywords d [] >>= _) _ _ _;refine ad (am (am ?_));have e:(ks.zip ys.toList).drop i=[]:=by
   rw[List.drop_eq_nil_iff,length_zip];simp
   omega
  rw[e]at q;refine q h' s.toks ?_ λc o n1 n2 n3 n4 _ e=>k c o n1 n2 n3 n4 e
  obtain⟨o,es,ep,ho,r⟩:=dd;exact⟨o,es,ep,k _ _ nd.1 nd.2.2.1 nd.2.2.2.1 nd.2.2.2.2.1 ho,r⟩
 |succ m ih=>
  intro i hm hi s kvs R Z dd hl q;have h1:i<xs.size:=by omega
  have h2:i<ys.size:=by omega
  have e1:xs[i]? =some xs[i]:=Array.getElem?_eq_getElem h1;have e2:ys[i]? =some ys[i]:=Array.getElem?_eq_getElem h2;obtain⟨k,hk1,hk2⟩:=hk i _ e1;show wpAny _ _ (pyNext (.ref z) >>= _) _ _ _;refine ad (Z.next D e1 e2 λh' Z' p sz fr=>?_);show wpAny _ _ (holding [_] _ >>= _) _ _ _;refine ad (bd ?_);refine ad ?_;have hT:(1e5:Shared).TypeIs 5e5 "tuple":=⟨_,p,rfl⟩;refine wpAny_tryCatch ?_;unfold Builtin.Dict.pairItems;refine ad (wpAny_typeOf hT ?_);rw[if_pos 1e1];refine ad (wpAny_seqItems p rfl (am ?_));show wpAny _ _ (holding [_,_] (dictSet d xs[i] ys[i])) _ _ _;refine bd ?_;have dd':h'.DictOf knd d kvs:=by
   obtain⟨o,es,ep,ho,r⟩:=dd;exact⟨o,es,ep,fr _ _ nd.1 nd.2.2.1 nd.2.2.2.1 nd.2.2.2.2.1 ho,r⟩
  refine wpAny_dictSet_pairs (s:=1e5) (hsz:=by omega) hk2 dd' λh2' d2 b2=>?_
  show wpAny _ _ (pure (Fin.again (.builtin "dict.update.loop" ⟨[.ref d,.ref z,rawInt ((i:Int)+1),.none],[]⟩))) _ _ _;refine am ⟨plainId_quiet gY _,codeAny_builtin oh ?_⟩;rw[Around.under_plainId gY _,show((i:Int)+1)=((i+1:Nat):Int) by push_cast;rfl];have hd:∃ o,h2'.get? d=some o:=let⟨o,_,_,ho,_⟩:=d2;⟨o,ho⟩;refine ih (i+1) nofun nofun { s with heap:=h2',toks:=s.toks+1 } (stored kvs k ys[i]) R (Z'.keep (λc o e n=>b2.extBut _ _ n e) nd hd) d2 ?_ λh3 t3 d3 f3=>?_
  .have:(stored kvs k ys[i]).length<=kvs.length+1:=by
    unfold stored
    split
    .rw[ce];omega
    .rw[ci];simp
   omega
  .have ed:(ks.zip ys.toList).drop i=(k,ys[i])::(ks.zip ys.toList).drop (i+1):=by
    have:(ks.zip ys.toList)[i]? =some (k,ys[i]):=by
     rw[List.getElem?_zip_eq_some];exact⟨hk1,by simpa using h2⟩
    obtain⟨hlt,he⟩:=sw.mp this;rw[List.drop_eq_getElem_cons hlt,he]
   refine q h3 t3 ?_ λc o n1 n2 n3 n4 n5 e=>f3 c o n1 n2 n3 n4 n5 (b2.extBut _ _ n5 (fr c o n1 n2 n3 n4 e))
   rw[ed];exact d3
def pZ {E:NX}(hh:A.handled=none)(D:ZipApart z TI TO i1 i2 l1 l2)(ks:List Ky)(hk:∀ (j:Nat) x,xs[j]? =some x->∃ k,ks[j]? =some k/\knd.is k x=true) (hz:xs.size=ys.size) (hn:ks.Nodup) (hkl:ks.length=xs.size) (hsz:xs.size<=bn)
  (Z:Zs s.heap tp1 tp2 z TI TO i1 i2 l1 l2 0 xs ys) (hzo:∃ f1,cy s.heap z TI TO .none f1)
  (q:∀ h' t',h'.DictOf knd s.heap.objs.size (ks.zip ys.toList)->3e1->Q 5e5 5e0):
  wpAny 0e7 A (call (.type "dict") [.ref z]) Q E s:=by
 refine callType_codes (Q₁:=λobj s1=>obj=.ref s.heap.objs.size/\s1={ s with heap:=s.heap.push 2e9 }) PySem.F.kt_called_dict (PySem.F.kt_typeCall_dict_1 _) PySem.F.entry_dict_init (kt_code_dict_new _ ⟨rfl,rfl⟩) ?_;rintro obj s1 ⟨rfl,rfl⟩;have dn:(s.heap.push 2e9).DictOf knd s.heap.objs.size []:=Heap.DictOf.new s.heap;refine⟨dn.typeIs,PySem.F.args_dict_init_2 _ _,?_⟩;unfold Builtin.«dict.__init__»;refine ad ?_;unfold Builtin.Dict.selfAndRest;refine ad (wpAny_notOrdered_dict dn.typeIs ?_);show wpAny _ _ (pure (s.heap.objs.size,[Value.ref z])) _ _ _;refine am ?_;show wpAny _ _ (Builtin.Dict.updateFrom "dict.__init__" s.heap.objs.size (.ref z) [] .none) _ _ _;unfold Builtin.Dict.updateFrom;obtain⟨f1,hz0⟩:=hzo;have hz1:(s.heap.push 2e9).get? z=some _:=sK _ hz0;have hT:({ s with heap:=s.heap.push 2e9 }:Shared).TypeIs (.ref z) "zip":=⟨_,hz1,rfl⟩;refine ad (wpAny_typeOf hT ?_);rw[if_pos 1e1];refine ad (AA hh hz1 λh1 t1 k1=>?_);rw[if_pos (show(none:Option Value).isNone=true from rfl)];refine ad (wpAny_rule ?_);refine ad (mG (s:={ s with heap:=h1,toks:=t1 }) (k1 _ _ hz1) ?_);have n0:∀ {c o},s.heap.get? c=some o->s.heap.objs.size≠c:=λe=>Nat.ne_of_gt (tz e)
 have nd:s.heap.objs.size≠z/\s.heap.objs.size≠TI/\s.heap.objs.size≠TO/\s.heap.objs.size≠i1/\s.heap.objs.size≠i2/\s.heap.objs.size≠l1/\s.heap.objs.size≠l2:=by
  obtain⟨a,b,hO⟩:=Z.hO;exact⟨n0 hz0,n0 Z.hI,n0 hO,Nat.ne_of_gt Z.g1.lt,Nat.ne_of_gt Z.g2.lt,Nat.ne_of_gt Z.t1.lt,Nat.ne_of_gt Z.t2.lt⟩
 have kk:∀ c o,s.heap.get? c=some o->h1.get? c=some o:=λc o e=>k1 _ _ (sK _ e)
 have d1:h1.DictOf knd s.heap.objs.size []:=by
  obtain⟨o,es,ep,ho,r⟩:=dn;exact⟨o,es,ep,k1 _ _ ho,r⟩
 refine am ⟨plainId_quiet gY _,codeAny_builtin oh ?_⟩;rw[Around.under_plainId gY _];refine BP (A:=A.in1) (d:=s.heap.objs.size) hh D nd ks hk hz _ 0 rfl (Nat.zero_le _) { s with heap:=h1,toks:=t1 } [] _ (Z.keep (λc o e _=>kk c o e) nd (let⟨o,_,_,ho,_⟩:=d1;⟨o,ho⟩)) d1 (by simpa using hsz) λh' t' d' f'=>?_
 rw[drop_zero,merged_nil_of_nodup _ (by rw[List.map_fst_zip (by simp;omega)];exact hn)]at d';exact⟨rfl,q h' t' d' λc o n1 n2 n3 n4 e=>f' c o n1 n2 n3 n4 (n0 e).symm (kk c o e)⟩
end
def Bh:bootBuiltins "dict"=some (.type "dict"):=by decide+kernel
def EW {P:Program}{w:World}:∀ {ks:List Key}{us:List Value},Vals (ks.map kV) us->∀ (j:Nat) u,us[j]? =some u->∃ k,ks[j]? =some k/\(aF P w).is k u=true
 | [],_,.nil,j,u,h=>by simp at h
 |k::ks,_,.cons r rs,0,u,h=>by
  simp at h;subst h;exact⟨k,rfl,oy r⟩
 |k::ks,_,.cons r rs,j+1,u,h=>by
  simp at h;obtain⟨k',e1,e2⟩:=EW (P:=P) (w:=w) rs j u h;exact⟨k',by simpa using e1,e2⟩
def Fn:∀ {ks:List Key}{ys:List V}{us:List Value},Vals ys us->KV (ks.zip ys) (ks.zip us)
 | [],_,_,_=>by simp[List.zip];exact .nil
 |_::_,_,_,.nil=>.nil
 |k::ks,_,_,.cons r rs=>.cons ⟨rfl,r⟩ (Fn rs)
abbrev Nq (K:W.Frag)(v u:V)(H:Hp)(Q:VK):Prop:=∃ tp1 l1 tp2 l2,∃ (ks:List Key) (ys:List V),v=.ref l1/\u=.ref l2/\Sq K tp1 H l1 (ks.map kV)/\Sq K tp2 H l2 ys/\ks.Nodup/\ks.length=ys.length/\ks.length<=1000/\∀ p,H p=none->Q (.ref p) (upd H p (.dK (ks.zip ys)))
abbrev NU (K:W.Frag)(ta:TA):TE:=λU H Q=>ta U H λvs H1=>∃ v u,vs=[v,u]/\Nq K v u H1 Q
def CQ {a b:Expr}{p2 pos2:Pos}(hc:X.calm=true)(hg:Gl X "dict") (hm:X.mg "dict"=none) (hg2:Gl X "zip") (hm2:X.mg "zip"=none) (ha:PA X [a,b] ta)
  (hs:bm [a,b] X.env=(false,eval a X.env)::bm [b] X.env:=by rfl) (hpl:(backTo pos2 (bm [b] X.env)).any (·.1)=false:=by rfl):
  PE X (.Call (.Name "dict" p) [.Call (.Name "zip" p2) [a,b] [] pos2] [] pos) (NU X.K ta):=by
 intro Y s U H Q I h;have h1:bm [.Call (.Name "zip" p2) [a,b] [] pos2] X.env=[(false,eval (.Call (.Name "zip" p2) [a,b] [] pos2) X.env)]:=rfl;refine Call_ (cT I hg hm Bh (PyProof.Rows.callWith_type1 ?_ h1 rfl));rw[h1];show wpAny _ _ (spliced ((false,eval (.Call (.Name "zip" p2) [a,b] [] pos2) X.env)::backTo pos [])) _ _ _;refine Calls.spliced_cons ?_;refine Call_ (cT I hg2 hm2 By (PyProof.Rows.callWith_type1 (uI (ha pos2 Y s U H _ I h) λus s1 vs H1 I1 r1 q1=>?_) hs hpl));obtain⟨v,u,e,tp1,l1,tp2,l2,ks,ys,e1,e2,q1,q2,kn,kl,kz,q⟩:=q1;subst e e1 e2;cases r1 with
 |cons r rr=>
  cases rr with
  |cons r' rr'=>
   cases rr';cases r;cases r';obtain⟨is1,v1,t1⟩:=I1.sq q1;obtain⟨is2,v2,t2⟩:=I1.sq q2;refine rD t1 t2 λh' hz hI hO g1 g2 hsz hk=>?_
   refine Calls.spliced_nil ?_;have n1:is1.length=ks.length:=by rw[<-v1.length,ce]
   have n2:is2.length=ks.length:=by rw[<-v2.length,kl]
   refine pZ (s:={ s1 with heap:=h' }) (knd:=aF X.prog X.w) (I1.ok.hd hc) (zu t1.lt t2.lt) ks (λj x hx=>EW v1 j x (by simpa using hx)) (by simp;omega) kn (by simp;omega) (by simp;rw[n1];exact fits kz)
    ⟨.inl ⟨_,hz⟩,hI,⟨_,_,hO⟩,g1,g2,t1.to λo e=>hk _ o e,t2.to λo e=>hk _ o e⟩ ⟨_,hz⟩ λh2 t2' d2 f2=>?_
   have lt0:∀ {c o},s1.heap.get? c=some o->c<s1.heap.objs.size:=λe=>tz e
   have hfree:H1 h'.objs.size=none:=I1.hok.fresh (by rw[hsz];exact Nat.le_add_right _ _);refine⟨.ref h'.objs.size,_,I1.laid (a:=h'.objs.size) (o:=.dK (ks.zip ys)) (t':=t2') (λc o e=>?_) (by rw[hsz];exact Nat.le_add_right _ _) ⟨?_,?_,_,Fn v2,by simpa using d2⟩,rfl,q _ hfree⟩
   .have hl:=lt0 e;refine f2 c o (pc (nw hl (Nat.le_add_right _ _))) (pc (nw hl (Nat.le_add_right _ _))) (pc hl) (pc (nw hl (Nat.le_add_right _ _))) (hk c o e)
   .rw[length_zip];exact fits (Nat.le_trans (Nat.min_le_left _ _) kz)
   .exact beq_eq_false_iff_ne.mpr (Nat.ne_of_gt (nw I1.big (by rw[hsz];exact Nat.le_add_right _ _)))
section
variable {X:Cx}{Y:NY}{U:St}{H:Hp}{s:Shared}{a:Addr}{kvs:List (Key×V)}{A:Around}{E:NX}
def zH (I:Inv X Y U H s)(e:Rd H a (.dK kvs))(h:∀ p s',H p=none->Inv X Y U (upd H p (.dK kvs)) s'->Q (.ref p) s'):wpAny 0e0 A (call (.type "dict") [.ref a]) Q E s:=by
 obtain⟨z,hd,vs,rel,dd⟩:=pA I.hok e;refine kt_call_dict hd dd (by rw[<-rel.length];exact z) λh' dd' hs=>?_
 refine h _ _ (I.hok.fresh (pi _)) (I.laid (a:=s.heap.objs.size) (o:=.dK kvs) (t':=s.toks) (λb q hq=>?_) (pi _) (ud z (beq_eq_false_iff_ne.mpr (Ne.symm (pc I.big))) rel dd'));exact(hs.2 b (pc (tz hq))).trans (sK _ hq)
end
section
variable {X:Cx}{Y:NY}{U:St}{H:Hp}{s:Shared}
end
section
variable {prog:Program}{w:World}{A:Around}{E:NX}{s:Shared}{T:String}{r d:Addr}{n:Nat}{P:Nat->Value->Prop}{OK:Heap->Prop}
def rN {Q:List Value->Shared->Prop}(K:KdlSrc prog w T r d n P OK)(hh:A.handled=none)(hok:OK s.heap)(hn:n<=bn)
  (hQ:∀ h' tk (acc:Array Value),(∀ b o,s.heap.get? b=some o->h'.get? b=some o)->ItemsOf P acc n->Q acc.toList { s with heap:=h',toks:=tk }):wpAny 0e7 A (collect (.ref r)) Q E s:=by
 have hlt:=K.there _ hok;unfold collect;refine ad (wpAny_runValue (codeAny_builtin PySem.F.entry_proto_collect ?_));rw[Around.under_plainId PySem.F.plain_proto_collect _];show wpAny _ A.in1 (newList [] >>= λz=>again (.builtin "list.__iadd__" ⟨[z,.ref r],[]⟩)) _ _ s;refine ad (wpAny_newObj_type (am ⟨plainId_quiet PySem.F.plain_list_iadd _,codeAny_builtin PySem.F.entry_list_iadd ?_⟩));rw[Around.under_plainId PySem.F.plain_list_iadd _];show wpAny _ A.in1 (Builtin.List.listExtendWith 5e5 (.ref r) 5e5) _ _ _;have hS:(s.heap.push { cls:=.type "list",data:=.seq ([]:List Value).toArray }).get? s.heap.objs.size=some { cls:=.type "list",data:=.seq #[] 0 }:=ul s.heap rfl;have fin:∀ (x:Result) (s':Shared),(x=.ok (.ret 5e5)/\∃ h' tk acc c',s'={ s with heap:=h',toks:=tk }/\(∀ b o,s.heap.get? b=some o->h'.get? b=some o)/\h'.get? s.heap.objs.size=some { cls:=.type "list",dict:=none,data:=.seq acc c',slots:=#[] }/\ItemsOf P acc n)->
   wpAny 0e7 A (match Value.ref s.heap.objs.size with
    |Value.ref a=>do
     match (<-load a).data with
      |Data.seq xs _=>pure xs.toList
      |_=>unsupported "internal:collect"
    |_=>unsupported "internal:collect") Q E s':=λx s' ⟨_,h',tk,acc,c',e,hk,ho,hi⟩=>by
  subst e;show wpAny _ A (load s.heap.objs.size >>= _) _ _ _;exact ad (wpAny_load ho (am (hQ h' tk acc hk hi)))
 refine wpAny_mono (kdl_extend (A:=A) (s:={ s with heap:=s.heap.push { cls:=.type "list",data:=.seq ([]:List Value).toArray } })
  (R:=λx s'=>x=.ok (.ret 5e5)/\∃ h' tk acc c',s'={ s with heap:=h',toks:=tk }/\(∀ b o,s.heap.get? b=some o->h'.get? b=some o)/\h'.get? s.heap.objs.size=some { cls:=.type "list",dict:=none,data:=.seq acc c',slots:=#[] }/\ItemsOf P acc n)
  K hh (K.keep _ _ hok λb _ o e=>sK _ e) s.heap.objs.size (Nat.ne_of_gt hlt.1) (Nat.ne_of_gt hlt.2) 5e5 0 hS (λh' tk acc c' hk ho hi=>⟨rfl,h',tk,acc,c',rfl,λb o e=>hk b o (pc (tz e)) (sK _ e),ho,hi⟩) hn) (λfi s' h=>?_) (λe s' h=>?_)
 .cases fi with
  |done f=>
   have hf:=h.1;cases hf;exact fin _ _ h
  |again c'=>exact⟨h.1,codeAny_mono h.2 λx s'' hx=>by
    have e:=hx.1;subst e;exact fin _ _ hx⟩
 .exact absurd h.1 2e5
def nD {Q₁:NX}(K:KdlSrc prog w T r d n P OK)(hT0:(T =="tuple")=false) (hh:A.handled=none) (hok:OK s.heap) (hn:n<=bn)
  (h:∀ (h':Heap) (tk:Nat) (acc:Array Value),(∀ b o,s.heap.get? b=some o->h'.get? b=some o)->ItemsOf P acc n->Q₁ (.ref h'.objs.size) { s with heap:=h'.push { cls:=.type "tuple",data:=.seq acc },toks:=tk }):
  codeAny 0e7 A (.call (.builtin "tuple.__new__") ⟨[.type "tuple",.ref r],[]⟩) (wants Q₁ E) s:=by
 refine codeAny_of_tree ?_;show wpAny _ A.in1 (do checkBuiltinCall "tuple.__new__" ⟨[.type "tuple",.ref r],[]⟩;again (.builtin "tuple.__new__" ⟨[.type "tuple",.ref r],[]⟩)) _ _ s;refine ad (wpAny_of_eq (PySem.F.newCall_tuple_1 _) (am ⟨plainId_quiet PySem.F.plain_tuple_new _,codeAny_builtin PySem.F.entry_tuple_new ?_⟩));rw[Around.under_plainId PySem.F.plain_tuple_new _];have h1:=sub_tuple_self;have h2:=init_tuple_lookup;have h3:=madeHere_tuple;have hTI:=K.type s hok;have h4:=K.notTuple
 wp_walk using wpAny_typeOf hTI,rN (A:=A.in1) K hh hok hn
 intro h' tk acc hk hi;show wpAny _ _ (Builtin.Tuple.tupleExact acc.toList.toArray >>= λz=>ret z) _ _ _;unfold Builtin.Tuple.tupleExact;have e:acc.toList.toArray=acc:=Array.toArray_toList;rw[e];refine ad (wpAny_newObj_type (am ?_) (by show acc.size<=bn;rw[hi.1];exact hn));exact h h' tk acc hk hi
def lT (K:KdlSrc prog w T r d n P OK)(hT0:(T =="tuple")=false) (hh:A.handled=none) (hok:OK s.heap) (hn:n<=bn)
  (h:∀ (h':Heap) (tk:Nat) (acc:Array Value),(∀ b o,s.heap.get? b=some o->h'.get? b=some o)->ItemsOf P acc n->Q (.ref h'.objs.size) { s with heap:=h'.push { cls:=.type "tuple",data:=.seq acc },toks:=tk }):
  wpAny 0e7 A (call (.type "tuple") [.ref r]) Q E s:=by
 refine callType_codes (Q₁:=λz s₁=>s₁.TypeIs z "tuple"/\Q z s₁) PySem.F.called_tuple (PySem.F.typeCall_tuple_1 _) PySem.F.entry_object_init (nD K hT0 hh hok hn λh' tk acc hk hi=>⟨⟨_,ul _ rfl,rfl⟩,h h' tk acc hk hi⟩) λz s₁ g=>?_
 exact⟨g.1,PySem.F.args_object_init_2 z _,object_init_meets PySem.F.called_tuple.init.lookup PySem.F.called_tuple.made 1e1 prog w A.in1 _ s₁ ⟨g.1,rfl,g.2⟩⟩
end
def AJ:bootBuiltins "list"=some (.type "list"):=by decide+kernel
def yE:bootBuiltins "tuple"=some (.type "tuple"):=by decide+kernel
abbrev HD (tp:Bool)(xs:List V):HO:=match tp with
 |true=>.tup xs
 |false=>.lst xs
abbrev j9 (tp:Bool):String:=match tp with
 |true=>"tuple"
 |false=>"list"
abbrev C1 (tp:Bool):Str:=match tp with
 |true=>"tuple"
 |false=>"list"
abbrev Fe (tp:Bool)(x:V)(H:Hp)(Q:VK):Prop:=∃ d kvs,x=.ref d/\H d=some (.dK kvs)/\∀ p,H p=none->Q (.ref p) (upd H p (HD tp (kvs.map (·.2))))
def pI:∀ {kvs:List (Key×V)}{vs:List (Key×Value)},KV kvs vs->Vals (kvs.map (·.2)) (vs.map (·.2))
 |_,_,.nil=>.nil
 |_,_,.cons r rs=>.cons r.2 (pI rs)
def yL {Q:VK}{d:Addr}{kvs:List (Key×V)}(tp:Bool)(hc:X.calm=true)(I:Inv X Y U H s)(e:H d=some (.dK kvs))(q:∀ p,H p=none->Q (.ref p) (upd H p (HD tp (kvs.map (·.2))))):
  wpAny 0e0 X.A (call (.builtin "dict.values") [.ref d]) (λv s1=>wpAny 0e0 X.A (call (.type (j9 tp)) [v]) (EP X Y U Q) X.xe s1) X.xe s:=by
 obtain⟨hz,hd,vs,rel,dd⟩:=pA I.hok (.inl e);refine call_meetsIn PySem.F.slot_dict_values dd.typeIs PySem.F.entry_dict_values (PySem.F.args_dict_values_1 _) (meets_dict_values (aF X.prog X.w) d hd) ⟨⟨vs,dd⟩,?_⟩;obtain⟨o,es,ep,ho,hx,he,hk,hp,hn⟩:=dd;have hA:s.heap.DictAt (aF X.prog X.w) d vs ep:=⟨o,es,ho,hx,he,hk,hp,hn⟩;have hok:(s.heap.push { cls:=.type "dict_values",data:=.fields #[.ref d] }).IsValuesView s.heap.objs.size d/\(s.heap.push { cls:=.type "dict_values",data:=.fields #[.ref d] }).DictAt (aF X.prog X.w) d vs ep:=⟨⟨_,ul _ rfl,rfl,rfl⟩,hA.push _⟩;have hl:vs.length<=bn:=by rw[<-rel.length];exact hz
 have hv:∀ (acc:Array Value),ItemsOf (λi v=>∃ k,vs[i]? =some (k,v)) acc vs.length->acc.toList=vs.map (·.2):=λacc hi=>kdl_vals_eq acc.toList (by rw[Array.length_toList];exact hi.1) λj v hj=>hi.2 j v (by rw[<-Array.getElem?_toList];exact hj)
 have I0:Inv X Y U H { s with heap:=s.heap.push { cls:=.type "dict_values",data:=.fields #[.ref d] } }:=I.kept (t':=s.toks) λb u hb=>sK _ hb
 have hlen:(kvs.map (·.2)).length<=bn:=by rw[ce];exact hz
 cases tp with
 |false=>
  refine kdl_call (s:={ s with heap:=s.heap.push { cls:=.type "dict_values",data:=.fields #[.ref d] } }) (kdl_values (prog:=X.prog) (w:=X.w) (knd:=aF X.prog X.w) (r:=s.heap.objs.size) (d:=d) (kvs:=vs) (ep:=ep)) (I.ok.hd hc) hok hl λh' tk acc c' hk' hD hi=>?_
  have ea:=hv acc hi;refine⟨.ref _,_,I0.laid (t':=tk) hk' (pi _) (show aQ X.prog X.w _ h' _ (.lst (kvs.map (·.2))) from⟨hlen,acc.toList,c',by rw[ea];exact pI rel,by rw[Array.toArray_toList];exact hD⟩),rfl,q _ (I0.hok.fresh (pi _))⟩
 |true=>
  refine lT (s:={ s with heap:=s.heap.push { cls:=.type "dict_values",data:=.fields #[.ref d] } }) (kdl_values (prog:=X.prog) (w:=X.w) (knd:=aF X.prog X.w) (r:=s.heap.objs.size) (d:=d) (kvs:=vs) (ep:=ep)) 1e1 (I.ok.hd hc) hok hl λh' tk acc hk' hi=>?_
  have ea:=hv acc hi;have I1:Inv X Y U H { s with heap:=h',toks:=tk }:=I0.kept (t':=tk) hk';have I2:Inv X Y U (upd H h'.objs.size (.tup (kvs.map (·.2)))) { s with heap:=h'.push { cls:=.type "tuple",data:=.seq acc },toks:=tk }:=
   I1.laid (t':=tk) (λb u hb=>sK _ hb) (pi _) (show aQ X.prog X.w _ _ _ (.tup (kvs.map (·.2))) from⟨hlen,acc.toList,by rw[ea];exact pI rel,by rw[Array.toArray_toList];exact IsTup.new _ _⟩)
  exact⟨.ref h'.objs.size,_,I2,rfl,q _ (I1.hok.fresh (pi _))⟩
abbrev JO (tp:Bool)(ta:TE):TE:=λU H Q=>ta U H λx H1=>Fe tp x H1 Q
def C6 {a:Expr}{ta:TE}{apos cpos:Pos}(tp:Bool)(hc:X.calm=true)(hg:Gl X (C1 tp))(hm:X.mg (C1 tp)=none)(ha:PE X a ta)(hb:attributeBase a "values" X.env (eval a X.env)=eval a X.env) (hl:(apos.endLine ==cpos.line)=true):
  PE X (.Call (.Name (C1 tp) p) [.Call (.Attribute a "values" apos) [] [] cpos] [] pos) (JO tp ta):=by
 intro Y s U H Q I h;have h1:bm [.Call (.Attribute a "values" apos) [] [] cpos] X.env=[(false,eval (.Call (.Attribute a "values" apos) [] [] cpos) X.env)]:=rfl;have go:wpAny 0e0 X.A (eval (.Call (.Attribute a "values" apos) [] [] cpos) X.env) (λv s1=>wpAny 0e0 X.A (call (.type (j9 tp)) [v]) (EP X Y U Q) X.xe s1) X.xe s:=by
  refine wpAny_Call_method0_late hb hl (cR (ha Y s U H _ I h) λv s1 x H1 I1 r1 q1=>?_);obtain⟨d,kvs,ex,e,q⟩:=q1;subst ex;obtain⟨g1,g2⟩:=uA (T:="dict") I1 r1 (.inr (.inr (.inl ⟨rfl,.inl ⟨kvs,e⟩⟩)));cases r1;exact⟨"dict","dict.values",PySem.F.plainAttrs_dict,PySem.F.slot_dict_values,PySem.F.type_dict_values,g1,g2,Calls.callWith_builtin rfl (PySem.evalArgs_none (yL tp hc I1 e q))⟩
 cases tp with
 |true=>
  refine Call_ (cT I hg hm yE (PyProof.Rows.callWith_type1 ?_ h1 rfl));rw[h1];show wpAny _ _ (spliced ((false,eval (.Call (.Attribute a "values" apos) [] [] cpos) X.env)::backTo pos [])) _ _ _;exact Calls.spliced_cons (bW go λv s1 z=>Calls.spliced_nil z)
 |false=>
  refine Call_ (cT I hg hm AJ (PyProof.Rows.callWith_type1 ?_ h1 rfl));rw[h1];show wpAny _ _ (spliced ((false,eval (.Call (.Attribute a "values" apos) [] [] cpos) X.env)::backTo pos [])) _ _ _;exact Calls.spliced_cons (bW go λv s1 z=>Calls.spliced_nil z)
def vt {prog:Program}{w:World}{A:Around}{K:Frag}{C:Addr}{R:Result->Shared->Prop}(X:K.In s.heap)(hm:makesIn K C=true)(hi:findIn K 2e4 "__init__"=some (some (.builtin "object.__init__")))
  (h:R (.ok (.ret (.ref 2e3))) { s with heap:=(s.heap.push emptyDict).push (instObj C s.heap.objs.size) }):codeAny 0e7 A (.call 2e4 ⟨[],[]⟩) R s:=by
 obtain⟨hh,g,d,t,os⟩:=s;have Y:=makes_of (M:=model prog w) X hm;refine make_core Y (looks_findIn X hi) (λz=>Looks.of_pure (oi_bind z)) (.inr ⟨rfl,rfl⟩) ?_;have k:∀ b o,hh.get? b=some o->((hh.push emptyDict).push (instObj C hh.objs.size)).get? b=some o:=λb o e=>sK _ (sK _ e)
 have hx:((hh.push emptyDict).push (instObj C hh.objs.size)).get? (hh.objs.size+1)=some (instObj C hh.objs.size):=by heap_get
 have t1:Looks 0e7 ((hh.push emptyDict).push (instObj C hh.objs.size)) (typeOf (.ref (hh.objs.size+1))) 2e4:=Looks.andThen (Looks.ld hx) .now;have t2:Looks 0e7 ((hh.push emptyDict).push (instObj C hh.objs.size)) (isInstance (.ref (hh.objs.size+1)) (.type "object")) true:=t1.andThen (Y.top.keeps k);refine codeAny_call_builtin oi_plain entry_oi (@check_slot 0e7 _ _ _ "object.__init__" "object" "__init__" (.ref (hh.objs.size+1)) [] [] _ oi_kind oi_split t2 (oi_args _) ?_);rw[oi_run];exact am ⟨rfl,h⟩
structure MV (K:Frag) (C:Addr):Prop where
 makes:makesIn K C=true
 init:findIn K 2e4 "__init__"=some (some (.builtin "object.__init__"))
 kp:keepIn K 2e4=true
abbrev Mi (C:Addr):TE:=λ_ H Q=>∀ x dx,H x=none->H dx=none->dx≠x->Q (.ref x) (upd (upd H dx (.own x)) x (.ins C dx []))
def AW {C:Addr}{x:Str}(M:MV X.K C)(hg:Gl X x)(hm:X.mg x=some 2e4)(hdb:2e7=false):PE X (.Call (.Name x p) [] [] pos) (Mi C):=by
 intro Y s U H Q I h;refine bv (bM I hg hm ?_ hdb);refine W.callWith_K0 I.cp M.kp (wpAny_call (vt I.cp M.makes M.init ?_));have I2:=Inv.made (C:=C) I;exact⟨.ref 2e3,_,I2,rfl,h 2e3 s.heap.objs.size (I.hok.fresh (Nat.le_succ _)) (I.hok.fresh (pi _)) (pc (Nat.lt_succ_self _))⟩
@[reducible]def VV:List (V×V)->List (Value×Value)->Prop:=Paired λp q=>RelV p.1 q.1/\RelV p.2 q.2
abbrev PQ (X:Cx)(pos:Pos)(keys:List (Option Expr))(values:List Expr)(t:St->Hp->(List (V×V)->Hp->Prop)->Prop):Prop:=
 ∀ (Y:NY) (s:Shared) (U:St) (H:Hp) (Q:List (V×V)->Hp->Prop),Inv X Y U H s->t U H Q->
  wpAny 0e0 X.A (evalPairs (pairTrees keys values X.env pos)) (λvs s'=>∃ ps H',Inv X Y U H' s'/\VV ps vs/\Q ps H') X.xe s
def Gj:PQ X pos [] [] (λ_ H Q=>Q [] H):=λY s U H Q I h=>pairTrees_nil_walk ⟨[],H,I,.nil,h⟩
variable {t:St->Hp->(List (V×V)->Hp->Prop)->Prop}{vs:List Expr}
def DU {k v:Expr}{ks:List (Option Expr)}{tk tv:TE}(hk:PE X k tk)(hv:PE X v tv)(hr:PQ X pos ks vs t):
  PQ X pos (some k::ks) (v::vs) (λU H Q=>tk U H λx H1=>tv U H1 λy H2=>t U H2 λps H3=>Q ((x,y)::ps) H3):=λY s U H Q I h=>
 pairTrees_cons_walk (cR (hk Y s U H _ I h) λu s1 x H1 I1 rx q1=>cR (hv Y s1 U H1 _ I1 q1) λw2 s2 y H2 I2 ry q2=>
  bW (hr Y s2 U H2 _ I2 q2) λws s3 ⟨ps,H3,I3,rel,q3⟩=>⟨(x,y)::ps,H3,I3,.cons ⟨rx,ry⟩ rel,q3⟩)
abbrev iS (kvs more:List (Key×V)):List (Key×V):=more.foldl (λacc kv=>putK acc kv.1 kv.2) kvs
def KV.merge:∀ {more:List (Key×V)}{rs:List (Key×Value)}{kvs:List (Key×V)}{vs:List (Key×Value)},KV more rs->KV kvs vs->KV (iS kvs more) (merged vs rs):=by
 intro more rs kvs vs r;unfold KV at r
 induction r generalizing kvs vs with
 |nil=>intro q;exact q
 | @cons p q ps qs h t ih=>
  intro r0;have e:KV (putK kvs p.1 p.2) (stored vs q.1 q.2):=by
   have:=r0.put p.1 h.2;rw[<-h.1];exact this
  exact ih e
def hR:∀ (more kvs:List (Key×V)),(iS kvs more).length<=kvs.length+more.length
 | [],kvs=>by show kvs.length<=kvs.length+0;omega
 |p::r,kvs=>by
  have h1:=hR r (putK kvs p.1 p.2);have h2:=fM kvs p.1 p.2;show(iS (putK kvs p.1 p.2) r).length<=_;rw[length_cons];omega
def ng {P:Program}{w:World}:∀ {kvs:List (Key×V)}{ws:List (Value×Value)},VV (kvs.map λkv=>(kV kv.1,kv.2)) ws->∃ rs,Carries (aF P w) ws rs/\KV kvs rs
 | [],_,r=>by rw[List.map_nil]at r;cases r;exact⟨[],True.intro,.nil⟩
 |p::kvs,_,r=>by
  rw[map_cons]at r;cases r with
  | @cons a b as bs h t=>
   obtain⟨rs,c,q⟩:=ng (P:=P) (w:=w) t;obtain⟨b1,b2⟩:=b;exact⟨(p.1,b2)::rs,⟨oy h.1,rfl,c⟩,.cons ⟨rfl,h.2⟩ q⟩
abbrev JW (t:St->Hp->(List (V×V)->Hp->Prop)->Prop):TE:=λU H Q=>∀ p,H p=none->t U (upd H p (.dK [])) λps H2=>H2 p=some (.dK [])/\∃ kvs:List (Key×V),ps=kvs.map (λkv=>(kV kv.1,kv.2))/\kvs.length<=15/\Q (.ref p) (upd H2 p (.dK (iS [] kvs)))
def Ea {keys:List (Option Expr)}{values:List Expr}(h:PQ X pos keys values t)(hall:keys.all (·.isSome)=true)(hl:keys.length=values.length)(h0:keys≠[])
  (h15:keys.length<=15):PE X (.Dict keys values pos) (JW t):=by
 intro Y s U H Q I q;have hn:=I.hok.fresh (pi s.heap.objs.size);have I1:=I.laid (a:=s.heap.objs.size) (o:=.dK []) (h':=s.heap.push 2e9) (t':=s.toks) (λ_ _ q=>sK _ q) (pi _) (zM s.heap I.big);refine wpAny_Dict_walk (knd:=aF X.prog X.w) hall hl h0 h15 (bW (h Y _ U _ _ I1 (q _ hn)) λws s2 ⟨ps,H2,I2,rel,e,kvs,ep,lk,q2⟩=>?_);subst ep;obtain⟨rs,c,rk⟩:=ng (P:=X.prog) (w:=X.w) rel;obtain⟨z,hd,vs0,r0,dd⟩:=vx I2.hok e;cases r0;refine⟨rs,c,dd,λh' dd' hs=>⟨.ref s.heap.objs.size,_,?_,rfl,q2⟩⟩;have hz:(iS [] kvs).length<=bn:=by
  have h1:=hR kvs [];rw[length_nil]at h1;rw[sizeLine_eq];omega
 have he:∃ q,h'.get? s.heap.objs.size=some q:=let⟨q,_,_,hq,_⟩:=dd';⟨q,hq⟩;exact qk I2 (by rw[e];exact True.intro) hs he (ud hz hd (rk.merge .nil) dd')
abbrev BQ:Expr->Nat
 | .Tuple vs _ _=>vs.length
 |_=>0
abbrev Hq (sc:Scope)(tg v:Expr)(ns:List Str):Bool:=match swappedStores [tg] v { scope:=sc,locals:=0,globals:=0,cells:=[] } with
 | .pure (some l)=>l ==ns&&decide (BQ v=ns.length)
 |_=>false
variable {tg:Expr}{ns:List Str}
set_option tactic.hygienic true in
def BZ {env:Env}{v:Expr}(h:Hq env.scope tg v ns=true):swappedStores [tg] v env=pure (some ns):=by
 have e:swappedStores [tg] v env=swappedStores [tg] v { scope:=env.scope,locals:=0,globals:=0,cells:=[] }:=by
  obtain⟨sc,a,b,c,d,f,g,i,j⟩:=env
  rfl
 rw[e];unfold Hq at h
 split at h
 .rename_i l e2;rw[nb]at h;rw[e2,beq_iff_eq.mp h.1]
  rfl
 .cases h
variable {sc:Scope}
def wx {v:Expr}(h:Hq sc tg v ns=true):BQ v=ns.length:=by
 unfold Hq at h
 split at h
 .rw[nb,decide_eq_true_eq]at h;exact h.2
 .cases h
def Ew {x y:Str}(h:Hq sc tg (.Tuple vs k p) [x,y]=true):∃ a b,vs=[a,b]:=by
 have h:=wx h
 match vs,h with
 | [a,b],_=>exact⟨a,b,rfl⟩
def yI {x y z:Str}(h:Hq sc tg (.Tuple vs k p) [x,y,z]=true):∃ a b c,vs=[a,b,c]:=by
 have h:=wx h
 match vs,h with
 | [a,b,c],_=>exact⟨a,b,c,rfl⟩
abbrev JB (i j:Nat)(ta:TA):TS:=λD U H=>ta U H λvs H1=>∃ v w,vs=[v,w]/\D.nx ((U.set i (some v)).set j (some w)) H1
set_option tactic.hygienic true in
def CF {i j:Nat}{x y:Str}{a b:Expr}{px py pt:Pos} {kt k2 pt2} (hc:X.calm=true)(hN:X.N.Nodup)(hi:X.N[i]? =some x)(hj:X.N[j]? =some y)(hij:i≠j)
  (hx:X.env.scope.names.lookup x=some .local) (hy:X.env.scope.names.lookup y=some .local) (ha:PA X [a,b] ta)
  (hw:swappedStores [.Tuple [.Name x px,.Name y py] kt pt] (.Tuple [a,b] k2 pt2) X.env=pure (some [x,y]))
  (hs:swapsWithSole [.Tuple [.Name x px,.Name y py] kt pt] (.Tuple [a,b] k2 pt2) pos.line X.env=pure false:=by rfl):
  PS X (.Assign [.Tuple [.Name x px,.Name y py] kt pt] (.Tuple [a,b] k2 pt2) pos) (JB i j ta):=by
 intro Y s U H D I h;rw[exec_Assign_arm];refine ad (wpAny_standAt ?_);rw[hs];refine ad (am ?_);rw[if_neg 1e1];refine ad (Tuple_ (uI (ha _ Y s U H _ I h) λus s1 vs H1 I1 r1 q1=>?_));obtain⟨v,w,e1,q1⟩:=q1;subst e1;obtain⟨u1,u2,rfl,rv,rw'⟩:∃ u1 u2,us=[u1,u2]/\RelV v u1/\RelV w u2:=by
  cases r1 with
  |cons p q=>
   cases q with
   |cons p' q'=>
    cases q';exact⟨_,_,rfl,p,p'⟩
 refine wpAny_newObj_type ?_ (by show 2<=bn;decide);have I2:Inv X Y U H1 { s1 with heap:=s1.heap.push { cls:=.type "tuple",data:=.seq [u1,u2].toArray } }:=I1.kept (t':=s1.toks) λb o e=>sK _ e
 rw[hw];refine ad (am ?_);show wpAny 0e0 X.A (do rule "assign.swapped-stores";let items <-unpackItems (.ref s1.heap.objs.size) 2 none;assignInOrder [λv=>bindName X.env y v,λv=>bindName X.env x v] items.reverse;pure Flow.next) _ _ _;refine ad (wpAny_rule (ad (unpackItems_tuple (items:=#[u1,u2]) (I.ok.hd hc) (IsTup.new s1.heap _) λh' hx'=>?_)));have I3:=I2.kept (h':=h') (t':=s1.toks) λb o e=>hx' b o (pc (tz e)) e
 show wpAny _ _ (assignInOrder [λv=>bindName X.env y v,λv=>bindName X.env x v] [u2,u1] >>= λ_=>pure Flow.next) _ _ _;refine ad (assignInOrder_cons (wpAny_bindName (bH I3 hN hj (.inl hy) rw' (λs2 I4=>?_) (.inr hy))));refine assignInOrder_cons (wpAny_bindName (bH I4 hN hi (.inl hx) rv (λs3 I5=>assignInOrder_nil (am ?_)) (.inr hx)));rw[set_comm _ _ (Ne.symm hij)]at I5;exact⟨_,H1,I5,q1⟩
abbrev Kz (i j l:Nat)(ta:TA):TS:=λD U H=>ta U H λvs H1=>∃ v w x,vs=[v,w,x]/\D.nx (((U.set i (some v)).set j (some w)).set l (some x)) H1
set_option tactic.hygienic true in
def DR {i j l:Nat}{x y z:Str}{a b c:Expr}{px py pz pt:Pos} {kt k2 pt2} (hc:X.calm=true)(hN:X.N.Nodup)(hi:X.N[i]? =some x)(hj:X.N[j]? =some y)(hl:X.N[l]? =some z)(hij:i≠j)(hil:i≠l)(hjl:j≠l)
  (hx:X.env.scope.names.lookup x=some .local) (hy:X.env.scope.names.lookup y=some .local) (hz:X.env.scope.names.lookup z=some .local) (ha:PA X [a,b,c] ta)
  (hw:swappedStores [.Tuple [.Name x px,.Name y py,.Name z pz] kt pt] (.Tuple [a,b,c] k2 pt2) X.env=pure (some [x,y,z]))
  (hs:swapsWithSole [.Tuple [.Name x px,.Name y py,.Name z pz] kt pt] (.Tuple [a,b,c] k2 pt2) pos.line X.env=pure false:=by rfl):
  PS X (.Assign [.Tuple [.Name x px,.Name y py,.Name z pz] kt pt] (.Tuple [a,b,c] k2 pt2) pos) (Kz i j l ta):=by
 intro Y s U H D I h;rw[exec_Assign_arm];refine ad (wpAny_standAt ?_);rw[hs];refine ad (am ?_);rw[if_neg 1e1];refine ad (Tuple_ (uI (ha _ Y s U H _ I h) λus s1 vs H1 I1 r1 q1=>?_));obtain⟨v,w,x',e1,q1⟩:=q1;subst e1;obtain⟨u1,u2,u3,rfl,rv,rw',rx'⟩:∃ u1 u2 u3,us=[u1,u2,u3]/\RelV v u1/\RelV w u2/\RelV x' u3:=by
  cases r1 with
  |cons p q=>
   cases q with
   |cons p' q'=>
    cases q' with
    |cons p2 q2=>
     cases q2;exact⟨_,_,_,rfl,p,p',p2⟩
 refine wpAny_newObj_type ?_ (by show 3<=bn;decide);have I2:Inv X Y U H1 { s1 with heap:=s1.heap.push { cls:=.type "tuple",data:=.seq [u1,u2,u3].toArray } }:=I1.kept (t':=s1.toks) λb o e=>sK _ e
 rw[hw];refine ad (am ?_);show wpAny 0e0 X.A (do rule "assign.swapped-stores";let items <-unpackItems (.ref s1.heap.objs.size) 3 none;assignInOrder [λv=>bindName X.env z v,λv=>bindName X.env y v,λv=>bindName X.env x v] items.reverse;pure Flow.next) _ _ _;refine ad (wpAny_rule (ad (unpackItems_tuple (items:=#[u1,u2,u3]) (I.ok.hd hc) (IsTup.new s1.heap _) λh' hx'=>?_)));have I3:=I2.kept (h':=h') (t':=s1.toks) λb o e=>hx' b o (pc (tz e)) e
 show wpAny _ _ (assignInOrder [λv=>bindName X.env z v,λv=>bindName X.env y v,λv=>bindName X.env x v] [u3,u2,u1] >>= λ_=>pure Flow.next) _ _ _;refine ad (assignInOrder_cons (wpAny_bindName (bH I3 hN hl (.inl hz) rx' (λs2 I4=>?_) (.inr hz))));refine assignInOrder_cons (wpAny_bindName (bH I4 hN hj (.inl hy) rw' (λs3 I5=>?_) (.inr hy)));refine assignInOrder_cons (wpAny_bindName (bH I5 hN hi (.inl hx) rv (λs4 I6=>assignInOrder_nil (am ?_)) (.inr hx)));rw[set_comm _ _ (Ne.symm hij),set_comm _ _ (Ne.symm hil),set_comm _ _ (Ne.symm hjl)]at I6;exact⟨_,H1,I6,q1⟩
section
variable {A:Around}{s:Shared}{l C dx:Addr}{od:Option Obj}{K:W.Frag}{prog:Program}{w:World}{E:NX}
end
end L2
namespace L2
open PySem PySem.Spec PyProof.Rows
section
variable {X:Cx}{tg:Expr}
end
end L2
namespace L2
open PySem PySem.Spec PySem.W PyProof.Rows
open PySem.AutoSeq1 (wpAny_loadPart')
section
variable {prog:Program}{w:World}{A:Around}{E:NX}{s:Shared}
end
variable {kvs:List (Key×V)}
section
variable {X:Cx}{Y:NY}{U:St}{H:Hp}{s:Shared}
def AB {o:Option V}{w:Option Value}{d:V}{r:Value}(h:dS o w)(rd:RelV d r):RelV (o.getD d) (w.getD r):=by
 cases o<;>cases w
 .exact rd
 .exact False.elim h
 .exact False.elim h
 .exact h
def HM {a:Addr}{k:Key}{d:V}{u r:Value}{A:Around}{E:NX}{Q:NX}(I:Inv X Y U H s)(e:H a=some (.dK kvs))(ry:RelV (kV k) u)(rd:RelV d r)(q:∀ w' s',Inv X Y U H s'->RelV ((g8 kvs k).getD d) w'->Q w' s'):
  wpAny 0e0 A (call (.builtin "dict.get") [.ref a,u,r]) Q E s:=by
 obtain⟨_,hd,vs,rel,dd⟩:=vx I.hok e;exact call_meetsIn PySem.F.slot_dict_get dd.typeIs PySem.F.entry_dict_get (PySem.F.args_dict_get_3 _ _ _) (meets_dict_get_default (aF X.prog X.w) a (oy ry) hd r) ⟨_,dd.mapOf,q _ _ (I.tok _) (AB (rel.val k) rd)⟩
abbrev Mp (td:TE)(t:TA):TE:=λU H Q=>td U H λx H1=>∃ a kvs0,x=.ref a/\H1 a=some (.dK kvs0)/\t U H1 λvs H2=>∃ kvs k d,vs=[kV k,d]/\H2 a=some (.dK kvs)/\Q ((g8 kvs k).getD d) H2
def G5 {o e:Expr}{es:List Expr}{td:TE}{t:TA}{apos cpos:Pos}(ho:PE X o td)(ha:PA X (e::es) t)(hbase:attributeBase o "get" X.env (eval o X.env)=eval o X.env)
  (hfew:((backTo cpos (bm (e::es) X.env)).all (λx=>!x.1)&&(backToKw cpos (keywordEach [] X.env)).all (λx=>x.1.isSome)&&decide ((e::es).length+([]:List Keyword).length+(if([]:List Keyword).isEmpty then 0 else 1)<30))=true)
  (hline:(apos.endLine ==cpos.line)=true) (hs:bm (e::es) X.env=(false,eval e X.env)::bm es X.env) (hplain:(backTo cpos (bm es X.env)).any (·.1)=false):
  PE X (.Call (.Attribute o "get" apos) (e::es) [] cpos) (Mp td t):=by
 intro Y s U H Q I h;refine wpAny_Call_method_late hbase hfew hline rfl (bW (ho Y s U H _ I h) λv s1 ⟨x,H1,I1,r1,a,kvs0,ex,e0,q1⟩=>?_);subst ex;obtain rfl:v=Value.ref a:=r1;obtain⟨_,hd,vs,_,dd⟩:=vx I1.hok e0;refine⟨"dict","dict.get",PySem.F.plainAttrs_dict,PySem.F.slot_dict_get,PySem.F.type_dict_get,dd.typeIs,λb q=>?_,?_⟩
 .cases q;obtain⟨ob,_,_,h1,h2,_⟩:=dd;exact⟨ob,h1,h2.2.1⟩
 have hA:=ha cpos Y s1 U H1 _ I1 q1;rw[hs]at hA⊢;refine Calls.callWith_builtin (by show(false||(backTo cpos (bm es X.env)).any (·.1))=false;rw[hplain]<;>rfl) (Calls.evalArgs_plain ?_);refine bW hA λus s2 ⟨vs,H2,I2,r2,kvs,k,d,ev,e2,q2⟩=>?_
 subst ev;cases r2 with
 |cons ry rr=>
  cases rr with
  |cons rd rr=>
   cases rr;exact HM I2 e2 ry rd λw' s3 I3 rw'=>⟨_,H2,I3,rw',q2⟩
end
section
variable {prog:Program}{w:World}{A:Around}{E:NX}{s:Shared}
variable {z TI TO i1 i2 i3 l1 l2 l3:Addr}{k1 k2 k3:Nat}{tp1 tp2 tp3:Bool}{xs ys zs:Array Value}{x y v a b c f1:Value}
end
variable {X:Cx}{e es:Expr}{te:TE}{ts:TO}{p2 pos:Pos}
def wX:∀ {xs:List V}{us:List Value},xs.length=us.length->(∀ (j:Nat) (x:V) (u:Value),xs[j]? =some x->us[j]? =some u->RelV x u)->Vals xs us
 | [],[],_,_=>.nil
 |x::xs,u::us,e,h=>.cons (h 0 x u rfl rfl) (wX (Nat.succ.inj e) λj a b e1 e2=>h (j+1) a b e1 e2)
def w4:∀ {kvs:List (Key×V)}{vs:List (Key×Value)},KV kvs vs->kvs.map (·.1)=vs.map (·.1)
 |_,_,.nil=>rfl
 |_,_,.cons r rs=>by rw[map_cons,map_cons,r.1,w4 rs]
def uu {Y:NY}{U:St}{H:Hp}{s:Shared}{Q:VK}{d:Addr}(hc:X.calm=true)(I:Inv X Y U H s)(e:Rd H d (.dK kvs))(q:∀ p,H p=none->Q (.ref p) (upd H p (.lst (kvs.map (λkv=>kV kv.1))))):
  wpAny 0e0 X.A (call (.type "list") [.ref d]) (EP X Y U Q) X.xe s:=by
 obtain⟨hz,hd,vs,rel,dd⟩:=pA I.hok e;obtain⟨o,es,ep,ho,hx,he,hk,hp,hn⟩:=dd;have hA:s.heap.DictAt (aF X.prog X.w) d vs ep:=⟨o,es,ho,hx,he,hk,hp,hn⟩;have hl:vs.length<=bn:=by rw[<-rel.length];exact hz
 refine kdl_call (kdl_dict hd) (I.ok.hd hc) hA hl λh' tk acc c' hk' hD hi=>?_
 have r:Vals (kvs.map (λkv=>kV kv.1)) acc.toList:=wX ((ce ..).trans (rel.length.trans (hi.1.symm.trans Array.length_toList.symm))) λj x u e1 e2=>by
  rw[im]at e1;obtain⟨⟨k,y⟩,ek,rfl⟩:=nl.mp e1;obtain⟨k',y',ek',hs⟩:=hi.2 j u (by rw[<-Array.getElem?_toList];exact e2);have ekk:k=k':=by
   have h2:(kvs.map (·.1))[j]? =(vs.map (·.1))[j]? :=by rw[w4 rel]
   rw[im,im,ek,ek']at h2;exact Option.some.inj h2
  subst ekk;rcases aS hs with⟨i,t,rfl,rfl⟩|⟨z,t,rfl,rfl⟩
  .exact⟨t,rfl⟩
  .exact⟨t,rfl⟩
 exact⟨.ref _,_,I.laid (t':=tk) hk' (pi _) (show aQ X.prog X.w _ h' _ (.lst (kvs.map (λkv=>kV kv.1))) from⟨by rw[ce];exact hz,acc.toList,c',r,by rw[Array.toArray_toList];exact hD⟩),rfl,q _ (I.hok.fresh (pi _))⟩
end L2
namespace L2
open PySem PySem.Spec PyProof.Rows
def Inv.nu {X:Cx}{Y:NY}{U:L2.St}{H:Hp}{s:Shared}{d:Addr}{kvs:List (Key×V)}(I:Inv X Y U H s)(e:H d=some (.dK kvs)):∃ o,Inv X Y U (upd H d (.nu o (.dK kvs))) s:=by
 obtain⟨_,_,vs,rel,o,es,ep,ho,r⟩:=id (show aQ X.prog X.w H s.heap d (.dK kvs) from I.hok d _ e);have ne:∀ b u,H b=some u->u≠.dK kvs->b≠d:=λb u hb hn z=>by subst z;rw[e]at hb;cases hb;exact hn rfl
 refine⟨o,I.step (h':=s.heap) (t':=s.toks) (g':=s.gens) (d':=s.drawn) (ch:=[]) (λ_ z=>nomatch z) (λb o _ _ _ e _=>e) (λb o _ _ _ e _=>⟨o.slots,e⟩) (λb o _ _ n=>by rw[aj (λz=>by subst z;rw[e]at n;cases n)];exact n) (λb o _ e=>⟨o,e⟩)
  (λb xs h=>by rw[aj (ne b _ h (λz=>by cases z))];exact h) (λb o u h=>by rw[aj (ne b _ h (λz=>by subst z;exact False.elim u))];exact h) (λb ps h=>⟨#[],by rw[aj (ne b _ h (λz=>by cases z)),h];simp⟩) (λm hm=>hm) (λb u hb=>?_) I.bare⟩
 have fL:∀ b u,H b=some u->aQ X.prog X.w (upd H d (.nu o (.dK kvs))) s.heap b u:=λb u hb=>(I.hok b u hb).fL (λ_ _ _ e=>e) (λc hc=>by rw[aj (ne c _ hc (λz=>by cases z))];exact hc) (λc xs hc=>by rw[aj (ne c _ hc (λz=>by cases z))];exact hc)
 by_cases z:b=d
 .subst z;rw[aL]at hb;cases hb;exact⟨ho,fL _ _ e⟩
 .rw[aj z]at hb;exact fL b u hb
section
variable {X:Cx}
end
end L2
namespace L2
open PySem PySem.Spec PySem.W PyProof.Rows SeqAt
open AutoSeq1 (wpAny_loadPart')
open MeetsSeq MeetsSeq2 MeetsSeq3 SeqRoads2
section
variable {prog:Program}{w:World}
end
end L2
namespace L2
open PySem PySem.Spec PySem.W PyProof.Rows PySem.Calls PyProof.V
abbrev M8 (D:List (Str×Str)):List (Str×KTD.Dat):=(D.map λp=>(p.1,PyData.str p.2)).map λp=>(p.1,KTD.Dat.flat p.2)
section
variable {X:Cx}{Y:NY}{U:St}{H:Hp}{s:Shared}{a:Addr}{D:List (Str×Str)}{k w:Str}{t:Tok}{A:Around}{E:NX}
def c9 (k:Str):∀ D:List (Str×Str),KTD.datumAt k (M8 D)=(D.lookup k).map λz=>KTD.Dat.flat (.str z)
 | []=>rfl
 |(x,y)::D=>by
  have ih:=c9 k D;show(if decide (k=x)=true then some (KTD.Dat.flat (.str y)) else KTD.datumAt k (M8 D))=_;rw[lookup_cons]
  by_cases h:k=x
  .subst h;simp
  .rw[show(k ==x)=false by simpa using h,if_neg (by simpa using h),ih]
end
end L2
namespace L2
open PySem PySem.Spec PySem.W PyProof.Rows
section
variable {prog:Program}{w:World}{A:Around}{E:NX}{s:Shared}
end
def vO.now {X:Cx}{Y:NY}{U:St}{H:Hp}{s:Shared}(h:vO X)(I:Inv X Y U H s):∃ e C dx fs,X.A.handled=some (.ref e)/\H e=some 5e2:=by
 obtain⟨e,C,dx,fs,hA,he⟩:=h;exact⟨e,C,dx,fs,hA,I.base.frzs e 5e2 rfl he⟩
end L2
namespace L2
open PySem PySem.Spec PyProof.Rows
inductive dz (K:W.Frag) (H:Hp):Nat->V->V->Bool->Prop where
 |flat {n:Nat}{x y:V}(fx:aI x=true) (fy:aI y=true):dz K H n x y (dD x y)
 |same {n:Nat}(a:Addr):dz K H (n+1) 3e6 3e6 true
 |ll {n:Nat}{a b:Addr}{xs ys:List V}{e:Nat->Bool}(ha:bB K H a xs) (hb:bB K H b ys) (hl:xs.length=ys.length) (h:∀ j x y,xs[j]? =some x->ys[j]? =some y->dz K H (n+1) x y (e j)):dz K H (n+2) 3e6 (.ref b) ((List.range xs.length).all e)
 |tt {n:Nat}{a b:Addr}{xs ys:List V}{e:Nat->Bool}(ha:bP K H a xs) (hb:bP K H b ys) (h:∀ j x y,xs[j]? =some x->ys[j]? =some y->dz K H (n+1) x y (e j)):dz K H (n+2) 3e6 (.ref b) ((List.range (min xs.length ys.length)).all e&&xs.length ==ys.length)
variable {A:Around}
section
variable {X:Cx}{Y:NY}{s:Shared}{U:St}{H:Hp}
def B3 {y x:V}{u v:Value}(ry:RelV y u)(rx:RelV x v)(fy:aI y=true)(fx:aI x=true):SeqAt.RcAt A s u v (dD y x):=by
 cases y<;>first|cases fy|skip
 all_goals (cases x<;>first|cases fx|skip)
 all_goals (first|(obtain⟨t,rfl⟩:=ry)|cases ry)
 all_goals (first|(obtain⟨t',rfl⟩:=rx)|cases rx)
 .exact SeqAt.RcAt.none_none
 .exact SeqAt.RcAt.none_bool _
 .exact SeqAt.RcAt.none_int _ _
 .exact SeqAt.RcAt.none_str _ _
 .exact SeqAt.RcAt.bool_none _
 .exact SeqAt.RcAt.bool_bool _ _
 .exact SeqAt.RcAt.bool_int _ _ _
 .exact SeqAt.RcAt.bool_str _ _ _
 .exact SeqAt.RcAt.int_none _ _
 .exact SeqAt.RcAt.int_bool _ _ _
 .exact SeqAt.RcAt.int_int _ _ _ _
 .exact SeqAt.RcAt.int_str _ _ _ _
 .exact SeqAt.RcAt.str_none _ _
 .exact SeqAt.RcAt.str_bool _ _ _
 .exact SeqAt.RcAt.str_int _ _ _ _
 .exact SeqAt.RcAt.str_str _ _ _ _
def rA {y x:V}{u v:Value}(ry:RelV y u)(rx:RelV x v)(fy:aI y=true)(fx:aI x=true):SeqAt.RcNeAt A s u v (!dD y x):=by
 cases y<;>first|cases fy|skip
 all_goals (cases x<;>first|cases fx|skip)
 all_goals (first|(obtain⟨t,rfl⟩:=ry)|cases ry)
 all_goals (first|(obtain⟨t',rfl⟩:=rx)|cases rx)
 .exact SeqAt.RcNeAt.none_none
 .exact SeqAt.RcNeAt.none_bool _
 .exact SeqAt.RcNeAt.none_int _ _
 .exact SeqAt.RcNeAt.none_str _ _
 .exact SeqAt.RcNeAt.bool_none _
 .exact SeqAt.RcNeAt.bool_bool _ _
 .exact SeqAt.RcNeAt.bool_int _ _ _
 .exact SeqAt.RcNeAt.bool_str _ _ _
 .exact SeqAt.RcNeAt.int_none _ _
 .exact SeqAt.RcNeAt.int_bool _ _ _
 .exact SeqAt.RcNeAt.int_int _ _ _ _
 .exact SeqAt.RcNeAt.int_str _ _ _ _
 .exact SeqAt.RcNeAt.str_none _ _
 .exact SeqAt.RcNeAt.str_bool _ _ _
 .exact SeqAt.RcNeAt.str_int _ _ _ _
 .exact SeqAt.RcNeAt.str_str _ _ _ _
def eqv_refl (I:Inv X Y U H s):∀ {n:Nat}{x y:V}{b:Bool},dz X.K H n x y b->x=y->b=true:=by
 intro n x y b h
 induction h with
 | @flat n x y fx fy=>
  rintro rfl;cases x<;>first|(exact absurd fx Bool.false_ne_true)|simp[dD]
 |same a=>intro _;rfl
 | @ll n a b xs ys e ha hb hl h ih=>
  intro z;cases z;have:=I.lW ha hb;subst this;rw[all_eq_true];intro j hj;have hj':j<xs.length:=mem_range.mp hj;exact ih j _ _ (li hj') (li hj') rfl
 | @tt n a b xs ys e ha hb h ih=>
  intro z;cases z;have:=I.kC ha hb;subst this;rw[beq_self_eq_true,Bool.and_true,Nat.min_self,all_eq_true];intro j hj;have hj':j<xs.length:=mem_range.mp hj;exact ih j _ _ (li hj') (li hj') rfl
def l8 (I:Inv X Y U H s):∀ {n:Nat}{x y:V}{b:Bool},dz X.K H n x y b->∀ {A:Around}{u v:Value},A.units+n<cLine->RelV x u->RelV y v->
  (SeqAt.EqAt A s u v b)/\(x=y\/SeqAt.RcAt A s u v b/\SeqAt.RcNeAt A s u v (!b)):=by
 intro n x y b h
 induction h with
 |flat fx fy=>intro A u v _ rx ry;exact⟨B1 rx ry fx fy,.inr ⟨B3 rx ry fx fy,rA rx ry fx fy⟩⟩
 |same a=>intro A u v _ rx ry;cases rx;cases ry;exact⟨SeqAt.EqAt.same _,.inl rfl⟩
 | @ll n a b xs ys e ha hb hl h ih=>
  intro A u v hu rx ry;have hall:=dz.ll ha hb hl h;cases rx;cases ry
  by_cases hab:a=b
  .subst hab;have z:=eqv_refl I hall rfl;rw[z];exact⟨SeqAt.EqAt.same _,.inl rfl⟩
  obtain⟨ia,ra,pa,_⟩:=I.list ha;obtain⟨ib,rb,pb,_⟩:=I.list hb;have e1:ia.toArray.size=xs.length:=by rw[ge,ra.length]
  have e2:ib.toArray.size=ys.length:=by rw[ge,rb.length]
  have he:∀ j (h1:j<ia.toArray.size) (h2:j<ib.toArray.size),SeqAt.EqAt A.in1 s ia.toArray[j] ib.toArray[j] (e j):=λj h1 h2=>by
   obtain⟨x1,f1,r1⟩:=lN ra h1;obtain⟨y1,f2,r2⟩:=lN rb h2;exact(ih j x1 y1 f1 f2 (by show A.units+1+(n+1)<cLine;omega) r1 r2).1
  have rc:=SeqAt.RcAt.lists (A:=A) pa.isList pb.isList (by rw[e1,e2,hl]) nofun he;have rn:=SeqAt.RcNeAt.lists (A:=A) pa.isList pb.isList (by rw[e1,e2,hl]) nofun he;rw[e1]at rc rn;exact⟨SeqAt.EqAt.of_refs hab rc,.inr ⟨rc,rn⟩⟩
 | @tt n a b xs ys e ha hb h ih=>
  intro A u v hu rx ry;have hall:=dz.tt ha hb h;cases rx;cases ry
  by_cases hab:a=b
  .subst hab;have z:=eqv_refl I hall rfl;rw[z];exact⟨SeqAt.EqAt.same _,.inl rfl⟩
  obtain⟨ia,ra,pa,_⟩:=I.tuple ha;obtain⟨ib,rb,pb,_⟩:=I.tuple hb;have e1:ia.toArray.size=xs.length:=by rw[ge,ra.length]
  have e2:ib.toArray.size=ys.length:=by rw[ge,rb.length]
  have he:∀ j (h1:j<ia.toArray.size) (h2:j<ib.toArray.size),SeqAt.EqAt A.in1 s ia.toArray[j] ib.toArray[j] (e j):=λj h1 h2=>by
   obtain⟨x1,f1,r1⟩:=lN ra h1;obtain⟨y1,f2,r2⟩:=lN rb h2;exact(ih j x1 y1 f1 f2 (by show A.units+1+(n+1)<cLine;omega) r1 r2).1
  have rc:=SeqAt.RcAt.tuples (A:=A) (show s.heap.IsTuple a ia.toArray from pa) (show s.heap.IsTuple b ib.toArray from pb) nofun he;have rn:=SeqAt.RcNeAt.tuples (A:=A) (show s.heap.IsTuple a ia.toArray from pa) (show s.heap.IsTuple b ib.toArray from pb) nofun he;rw[e1,e2]at rc rn;exact⟨SeqAt.EqAt.of_refs hab rc,.inr ⟨rc,rn⟩⟩
@[irreducible] noncomputable def iL (K:W.Frag) (neg:Bool):R2:=λx y H Q=>False\/∃ n b,dz K H n x y b/\n<=100/\(aI x=true\/x≠y\/False\/False)/\Q (.bl (if neg then !b else b)) H
def FP (hu:X.A.units+200<cLine):cF X (compareOp .Eq) (iL X.K false):=by
 intro Y s U H x y v u Q I rx ry h;unfold iL at h;rcases h with z|⟨n,b,e,hn,hx,q⟩
 .exact z.elim
 rcases(l8 I e (A:=X.A) nofun rx ry).2 with z|⟨z,_⟩
 .subst z;rcases hx with hx|hx
  .have z:=eqv_refl I e rfl;have r:=B3 (s:=s) (A:=X.A) rx ry hx hx;have z2:=eqv_refl I (dz.flat (K:=X.K) (H:=H) (n:=0) hx hx) rfl;rw[z2]at r;rw[z]at q;exact PySem.EqBoolInt.of_rc r ⟨.bl true,H,I,rfl,q⟩
  rcases hx with hx|hx|hx
  .exact absurd rfl hx
  .exact hx.elim
  .cases hx
 .exact PySem.EqBoolInt.of_rc z ⟨.bl b,H,I,rfl,q⟩
def Io (hu:X.A.units+200<cLine):cF X (compareOp .NotEq) (iL X.K true):=by
 intro Y s U H x y v u Q I rx ry h;unfold iL at h;rcases h with z|⟨n,b,e,hn,hx,q⟩
 .exact z.elim
 rcases(l8 I e (A:=X.A) nofun rx ry).2 with z|⟨_,z⟩
 .subst z;rcases hx with hx|hx
  .have z:=eqv_refl I e rfl;have r:=rA (s:=s) (A:=X.A) rx ry hx hx;have z2:=eqv_refl I (dz.flat (K:=X.K) (H:=H) (n:=0) hx hx) rfl;rw[z2]at r;rw[z]at q;exact PySem.EqBoolInt.of_rcne r ⟨.bl false,H,I,rfl,q⟩
  rcases hx with hx|hx|hx
  .exact absurd rfl hx
  .cases hx
  .exact hx.elim
 .exact PySem.EqBoolInt.of_rcne z ⟨.bl (!b),H,I,rfl,q⟩
end
@[irreducible] noncomputable def Jx (K:W.Frag) (a b:Addr) (H:Hp) (Q:VK):Prop:=(∃ xs ys,H a=some 4e8/\H b=some (.lst ys)/\xs.length+ys.length<=100000/\∀ p,H p=none->Q (.ref p) (upd H p (.lst (xs++ys))))\/False
@[irreducible] noncomputable def Cv (K:W.Frag) (a:Addr) (k:Int) (H:Hp) (Q:VK):Prop:=(∃ xs,H a=some 4e8/\ -1000<=k/\k<=1000/\xs.length<=1000/\∀ p,H p=none->Q (.ref p) (upd H p (.lst (sn k.toNat xs).flatten)))\/False
abbrev Gf (K:W.Frag):R2:=λx y H Q=>match x,y with
 | .int i,.int j=>Q (.int (i+j)) H
 | .str a,.str b=>a.length+b.length<=100000/\Q (.str (a++b)) H
 | .ref a,.ref b=>Jx K a b H Q
 |_,_=>False
abbrev FV:R2:=λx y H Q=>match x,y with
 | .int i,.int j=>Q (.int (i-j)) H
 |_,_=>False
abbrev Gz (K:W.Frag):R2:=λx y H Q=>match x,y with
 | .int i,.int j=>sD i j/\Q (.int (i*j)) H
 | .ref a,.int k=>Cv K a k H Q
 |_,_=>False
abbrev IG:R2:=λx y H Q=>match x,y with
 | .int i,.int j=>(0<j/\j<1073741824)/\Q (.int (i / j)) H
 |_,_=>False
abbrev Gn:R2:=λx y H Q=>match x,y with
 | .int i,.int j=>0<j/\Q (.int (i % j)) H
 |_,_=>False
abbrev G1:R2:=λx y H Q=>match x,y with
 | .int i,.int j=>Eg i j/\Q (.int (i ^ j.toNat)) H
 |_,_=>False
abbrev IF (K:W.Frag)(op:Operator):R2:=match op with
 | .Add=>Gf K
 | .Sub=>FV
 | .Mult=>Gz K
 | .FloorDiv=>IG
 | .Mod=>Gn
 | .Pow=>G1
 |_=>λ_ _ _ _=>False
section
variable {X:Cx}
def oE {n:Nat}(h:n<=1000000):n<=bn:=by rw[sizeLine_eq];omega
set_option tactic.hygienic true in
def HQ (op:Operator):cF X (binaryOp op) (IF X.K op):=by
 intro Y s U H x y v u Q I rx ry h;cases op with
 |Add=>
  have h':Gf X.K x y H Q:=h;unfold Gf at h'
  split at h'
  .exact F5 Y s U H _ _ v u Q I rx ry ⟨_,_,rfl,rfl,h'⟩
  .exact vh Y s U H _ _ v u Q I rx ry ⟨_,_,rfl,rfl,oE nofun,h'.2⟩
  .unfold Jx at h';rcases h' with⟨xs,ys,ha,hb,hz,q⟩|h'
   .exact Ik Y s U H _ _ v u Q I rx ry ⟨_,_,xs,ys,rfl,rfl,ha,hb,oE nofun,q⟩
   .exact h'.elim
  .exact h'.elim
 |Sub=>
  have h':FV x y H Q:=h;unfold FV at h'
  split at h'
  .exact Gk Y s U H _ _ v u Q I rx ry ⟨_,_,rfl,rfl,h'⟩
  .exact h'.elim
 |Mult=>
  have h':Gz X.K x y H Q:=h;unfold Gz at h'
  split at h'
  .exact Ie Y s U H _ _ v u Q I rx ry ⟨_,_,rfl,rfl,h'.1,h'.2⟩
  .rename_i k;unfold Cv at h';rcases h' with⟨xs,ha,h1,h2,hz,q⟩|h'
   .refine FX Y s U H _ _ v u Q I rx ry ⟨_,k,xs,rfl,rfl,ha,by omega,by omega,oE ?_,q⟩;have:xs.length*k.toNat<=1000*1000:=Nat.mul_le_mul hz nofun
    omega
   .exact h'.elim
  .exact h'.elim
 |FloorDiv=>
  have h':IG x y H Q:=h;unfold IG at h'
  split at h'
  .exact DT Y s U H _ _ v u Q I rx ry ⟨_,_,rfl,rfl,h'.1,h'.2⟩
  .exact h'.elim
 |Mod=>
  have h':Gn x y H Q:=h;unfold Gn at h'
  split at h'
  .exact II Y s U H _ _ v u Q I rx ry ⟨_,_,rfl,rfl,h'.1,h'.2⟩
  .exact h'.elim
 |Pow=>
  have h':G1 x y H Q:=h;unfold G1 at h'
  split at h'
  .exact Hv Y s U H _ _ v u Q I rx ry ⟨_,_,rfl,rfl,h'.1,h'.2⟩
  .exact h'.elim
 |_=>exact(show False from h).elim
abbrev xI (f:Int->Int->Bool):R2:=λx y H Q=>match x,y with
 | .int i,.int j=>Q (.bl (f i j)) H
 |_,_=>False
@[irreducible] noncomputable def Jl (K:W.Frag) (neg:Bool):R2:=λx y H Q=>match y with
 | .ref p=>(∃ xs,(bB K H p xs\/bP K H p xs)/\aI x=true/\xs.all aI=true/\Q (.bl (if neg then !IK x xs else IK x xs)) H)\/False\/False\/False
 | .str j=>False
 |_=>False
@[irreducible] noncomputable def Cn (neg:Bool):R2:=λx y H Q=>match y with
 | .non=>Q (.bl (if neg then !decide (x=.non) else decide (x=.non))) H
 | .bl b=>False
 | .ref b=>False
 |_=>False
abbrev jj (K:W.Frag)(op:CmpOp):R2:=match op with
 | .Eq=>iL K false
 | .NotEq=>iL K true
 | .Lt=>xI λi j=>decide (i<j)
 | .LtE=>xI λi j=>decide (i<=j)
 | .Gt=>xI λi j=>decide (j<i)
 | .GtE=>xI λi j=>decide (j<=i)
 | .In=>Jl K false
 | .NotIn=>λ_ _ _ _=>False
 | .Is=>Cn false
 | .IsNot=>Cn true
def qb {f:Int->Int->Bool}{op:CmpOp}(ho:cF X (compareOp op) (CU λi j=>.bl (f i j))):cF X (compareOp op) (xI f):=by
 intro Y s U H x y v u Q I rx ry h;unfold xI at h
 split at h
 .exact ho Y s U H _ _ v u Q I rx ry ⟨_,_,rfl,rfl,h⟩
 .exact h.elim
def Iu (hu:X.A.units+200<cLine)(op:CmpOp):cF X (compareOp op) (jj X.K op):=by
 cases op with
 |Eq=>exact FP hu
 |NotEq=>exact Io hu
 |Lt=>exact qb Kr
 |LtE=>exact qb Jr
 |Gt=>exact qb IZ
 |GtE=>exact qb Kf
 |In=>
  intro Y s U H x y v u Q I rx ry h;have h':Jl X.K false x y H Q:=h;unfold Jl at h'
  split at h'
  .rcases h' with⟨xs,hx,f1,f2,q⟩|g|y|z
   .exact xW Y s U H _ _ v u Q I rx ry ⟨_,xs,rfl,hx,f1,f2,q⟩
   .exact g.elim
   .exact y.elim
   .exact z.elim
  .exact h'.elim
  .exact h'.elim
 |NotIn=>exact λ_ _ _ _ _ _ _ _ _ _ _ _ h=>(show False from h).elim
 |Is=>
  intro Y s U H x y v u Q I rx ry h;have h':Cn false x y H Q:=h;unfold Cn at h'
  split at h'
  .exact GR Y s U H _ _ v u Q I rx ry ⟨rfl,h'⟩
  .exact h'.elim
  .exact h'.elim
  .exact h'.elim
 |IsNot=>
  intro Y s U H x y v u Q I rx ry h;have h':Cn true x y H Q:=h;unfold Cn at h'
  split at h'
  .exact CD Y s U H _ _ v u Q I rx ry ⟨rfl,h'⟩
  .exact h'.elim
  .exact h'.elim
  .exact h'.elim
@[irreducible] noncomputable def tH (K:W.Frag):R2:=λx y H Q=>match x with
 | .ref p=>(∃ xs i v,y=.int i/\(bB K H p xs\/bP K H p xs)/\oa xs i=some v/\Q v H)\/(∃ v,GC H p y (some v)/\Q v H)\/False
 | .str z=>False
 |_=>False
def uM (hu:X.A.units+200<cLine):K1 X (tH X.K):=by
 intro value slice Y s U H x y v u Q I rx ry h hs;unfold tH at h
 split at h
 .rcases h with⟨xs,i,w,rfl,hx,ha,q⟩|⟨w,g,q⟩|z
  .rcases hx with hx|hx
   .exact EC value slice Y s U H _ _ v u Q I rx ry ⟨_,xs,i,w,rfl,rfl,hx,ha,q⟩ hs
   .exact Iq value slice Y s U H _ _ v u Q I rx ry ⟨_,xs,i,w,rfl,rfl,hx,ha,q⟩ hs
  .cases rx;exact tail_any (rH I g) PySem.F.slot_dict_getitem.lookup (xF nofun I g ry λw' s3 I3 rw'=>⟨w,H,I3,rw',q⟩) hs
  .exact z.elim
 .exact h.elim
 .exact h.elim
@[irreducible] noncomputable def jl:xJ:=λo i v H Q=>match o with
 | .ref p=>(∃ xs k j,i=.int k/\H p=some 4e8/\y0 xs.length k=some j/\Q (upd H p (.lst (xs.set j v))))\/∃ H4,JK H p i v H4/\Q H4
 |_=>False
def vy (hu:X.A.units+200<cLine):Eh X jl:=by
 intro Y s U H o i v ov iv u Q I ro ri rv h;unfold jl at h
 split at h
 .rcases h with⟨xs,k,j,rfl,hp,hj,q⟩|⟨H4,g,q⟩
  .exact set_list Y s U H _ _ v ov iv u Q I ro ri rv ⟨_,xs,k,j,rfl,rfl,hp,hj,q⟩
  .cases ro;exact xx nofun I g ri rv λs4 I4=>⟨H4,I4,q⟩
 .exact h.elim
@[irreducible] noncomputable def IU (K:W.Frag):V->Option Int->Option Int->Hp->VK->Prop:=λx lo hi H Q=>match x with
 | .ref a=>(∃ xs,bB K H a xs/\∀ p,H p=none->Q (.ref p) (upd H p (.lst (sM xs lo hi))))\/False
 | .str z=>False
 |_=>False
def FK:Ls X (IU X.K):=by
 intro Y s U H x v vl vu lo hi sl Q I rx hs pl pu h;unfold IU at h
 split at h
 .rcases h with⟨xs,hx,q⟩|h
  .exact CC Y s U H _ v vl vu lo hi sl Q I rx hs pl pu ⟨_,xs,rfl,hx,q⟩
  .exact h.elim
 .exact h.elim
 .exact h.elim
end
end L2
namespace L3
open PySem L2
set_option genSizeOf false
inductive Bf where
 |len|list|tuple|int|str|min|max|abs|all|any|dict|sum|range
 deriving DecidableEq
inductive Lm where
 |append|extend|insert|pop|clear|reverse|count
 deriving DecidableEq
inductive Sm where
 |join|split|starts
 deriving DecidableEq
inductive Cl where
 |own (c:Nat)|ty (n:String)
set_option genCtorIdx false
set_option genInjectivity false
mutual
inductive Ex where
 |v (i:Nat)|int (i:Int)|bl (b:Bool)|non|str (x:Str)|gl (x:Str)
 |bin (op:Operator) (a b:Ex)|neg (a:Ex)|not (a:Ex)|and (a b:Ex)|or (a b:Ex)
 |cmp (op:CmpOp) (a b:Ex)|cmp2 (o1 o2:CmpOp) (a b c:Ex)|cmp3 (o1 o2 o3:CmpOp) (a b c d:Ex)
 |ife (c:Tx) (a b:Ex)|tup (es:iY)|lst (es:iY)|ix (a i:Ex)|sl (a:Ex) (lo hi:K7)
 |fld (a:Ex) (f:Str)|call (f:Nat) (es:iY)|meth (a:Ex) (m:Str) (es:iY)|lm (m:Lm) (a:Ex) (es:iY)|make (c:Nat) (es:iY)|bini (es:iY)|cini (c:Nat) (es:iY)
 |bf (b:Bf) (es:iY)|sm (m:Sm) (a b:Ex)|isi (a:Ex) (c:Cl)|lc (elt:Ex) (sel:List Nat) (it:Dx)|lci (elt:Ex) (c:Tx) (sel:List Nat) (it:Dx)|lct (elt:Ex) (n:Nat) (sel:List Nat) (it:Dx)|lcu (elt:Ex) (c:Tx) (n:Nat) (sel:List Nat) (it:Dx)|dnew|up (a:Ex)|dzip (a b:Ex)|isiT (a:Ex) (cs:List Nat)|vals (tp:Bool) (a:Ex)|mk0 (c:Nat)|disp (ks:List Str) (es:iY)|lix (a b:Ex)|rev (a b:Ex)|dget (a k d:Ex)|dupd (a b:Ex)
inductive Tx where
 |not (a:Tx)|and (a b:Tx)|or (a b:Tx)|cmp (op:CmpOp) (a b:Ex)|cmp2 (o1 o2:CmpOp) (a b c:Ex)|cmp3 (o1 o2 o3:CmpOp) (a b c d:Ex)|val (e:Ex)
inductive iY where
 |nil|cons (e:Ex) (es:iY)
inductive K7 where
 |no|yes (e:Ex)
inductive Dx where
 |rng1 (a:Ex)|rng2 (a b:Ex)|rng3 (a b c:Ex)|enm (a:Ex)|enf (a:Ex)|seq (a:Ex)|zip (a b:Ex)|zip3 (a b c:Ex)
end
inductive Ll where
 |nm (i:Nat)|tp (is:List Nat)|nt (i:Nat) (is:List Nat)
mutual
inductive Sx where
 |asg (i:Nat) (e:Ex)|asgT (is:List Nat) (e:Ex)|par (is:List Nat) (es:iY)|sub (o i v:Ex)|fld (o:Ex) (f:Str) (v:Ex)
 |aug (i:Nat) (op:Operator) (e:Ex)|augS (o i:Ex) (op:Operator) (e:Ex)|augF (o:Ex) (f:Str) (op:Operator) (e:Ex)
 |ret (e:Ex)|retN|pass|brk|cont|expr (e:Ex)
 |ife (c:Tx) (a b:lx)|whl (c:Tx) (b:lx)|for (t:Ll) (it:Dx) (b:lx)|rais (e:Ex)|tryx (b:lx) (hs:Co)
inductive lx where
 |nil|cons (s:Sx) (r:lx)
inductive Co where
 |nil|cons (c:Nat) (i:Nat) (b:lx) (hs:Co)
end
set_option genCtorIdx true
set_option genInjectivity true
structure aB where
 ps:List Str
 N:List Str
 dfl:List V
 body:lx
/-- what of the text never changes. gfn,gcl:the global names of defs and classes,by number;gbl:built-in names that are not shadowed;gbi:classes of exceptions whose __init__ is the built-in one;na:class and name that no class of it has;
  me:class,name,def;ini:class,its __init__;oc,xc:plain classes,classes of exceptions;sub,subT:isinstance -/
structure Tab where
 fns:List aB
 gfn:List (Str×Nat)
 gcl:List (Str×Nat)
 gbl:List Str
 gbi:List Str
 na:List (Nat×Str)
 me:List ((Nat×Str)×Nat)
 ini:List (Nat×Nat)
 ini0:List Nat
 inip:List Nat
 oc:List Nat
 xc:List Nat
 sub:List ((Nat×Nat)×Bool)
 subT:List ((Nat×String)×Bool)
 subB:List ((String×String)×Bool)
 subO:List ((String×Nat)×Bool)
 cin:List (Nat×Nat):=[]
structure Rt where
 K:W.Frag
 fad:Nat->Addr
 cad:Nat->Addr
 gl:Str->Option V
inductive Md
 |calm
 |soft
 |bg (e:Addr)
 |mute
abbrev Md.b:Md->Bool
 | .calm=>true
 |_=>false
abbrev K9 (m:Md)(A B:Prop):Prop:=match m with
 | .calm=>m=.calm/\A
 | .soft=>False
 |_=>False
def BL {m:Md}{A B:Prop}(h:K9 m A B):(m=.calm/\A)\/False:=by
 cases m with
 |calm=>exact .inl h
 |soft=>exact h.elim
 |bg e=>exact h.elim
 |mute=>exact h.elim
structure Gx where
 T:Tab
 R:Rt
 Ψ:Nat->Sp
 cm:Md
abbrev Gx.Cd (G:Gx)(f:Nat):Sp:=match G.cm with
 | .calm=>G.Ψ f
 | .soft=>G.Ψ f
 | .bg e=>λvs H Q E=>(∃ C dx fs,H e=some 5e2)/\G.Ψ (f+G.T.fns.length) vs H Q E
 | .mute=>λ_ _ _ _=>False
@[irreducible] noncomputable def i7 (c:Bool) (A B:Prop):Prop:=match c with
 |true=>A
 |false=>B
def cw (c:Bool)(A B:Prop):i7 c A B=(if c=true then A else B):=by unfold i7;cases c<;>rfl
abbrev Gh (K:W.Frag)(x:V)(H:Hp)(Q:Bool->Hp->Prop):Prop:=match x with
 | .bl k=>Q k H
 |y=>∃ k,Eb K y H k/\Q k H
abbrev tyName:V->Hp->Option String
 | .non,_=>some "NoneType"
 | .bl _,_=>some "bool"
 | .int _,_=>some "int"
 | .str _,_=>some "str"
 | .ref a,H=>match H a with
  |some (.lst _)=>some "list"
  |some (.tup _)=>some "tuple"
  |some (.dK _)=>some "dict"
  |some (.nu _ (.dK _))=>some "dict"
  |_=>none
 |_,_=>none
@[irreducible] noncomputable def qq (G:Gx) (b:Bf) (vs:List V) (H:Hp) (Q:VK):Prop:=match b with
 | .len=>∃ x n,vs=[x]/\JM G.R.K x H n/\Q (.int n) H
 | .list=>(∃ p ys,vs=[.ref p]/\(bB G.R.K H p ys\/bP G.R.K H p ys)/\∀ l,H l=none->Q (.ref l) (upd H l (.lst ys)))\/(G.cm=.calm/\∃ p kvs,vs=[.ref p]/\Rd H p (.dK kvs)/\∀ l,H l=none->Q (.ref l) (upd H l (.lst (kvs.map (λkv=>kV kv.1)))))\/False
 | .tuple=>∃ p ys,vs=[.ref p]/\((bB G.R.K H p ys/\∀ l,H l=none->Q (.ref l) (upd H l (.tup ys)))\/(bP G.R.K H p ys/\Q (.ref p) H))
 | .int=>((∃ i,vs=[.int i]/\Q (.int i) H)\/∃ k,vs=[.bl k]/\Q (.int (if k then 1 else 0)) H)\/False
 | .str=>(∃ i,vs=[.int i]/\i.natAbs.log2<1920/\Q (.str (toString i)) H)\/∃ z,vs=[.str z]/\Q (.str z) H
 | .min=>G.cm=.calm/\((∃ i j,vs=[.int i,.int j]/\Q (.int (if j<i then j else i)) H)\/False)
 | .max=>False
 | .abs=>False
 | .all=>False
 | .any=>False
 | .dict=>∃ p kvs,vs=[.ref p]/\H p=some (.dK kvs)/\∀ l,H l=none->Q (.ref l) (upd H l (.dK kvs))
 | .sum=>False
 | .range=>False
@[irreducible] noncomputable def IY (m:Lm) (p:Addr) (xs:List V) (vs:List V) (H:Hp) (Q:VK):Prop:=match m with
 | .append=>∃ y,vs=[y]/\xs.length<=10000/\Q .non (upd H p (.lst (xs++[y])))
 | .extend=>∃ b zs,vs=[.ref b]/\H b=some (.lst zs)/\xs.length+zs.length<=10000/\Q .non (upd H p (.lst (xs++zs)))
 | .insert=>False
 | .pop=>False
 | .clear=>False
 | .reverse=>False
 | .count=>False
abbrev dflt (G:Gx)(f n:Nat):List V:=match G.T.fns[f]? with
 |some d=>d.dfl.drop (n+d.dfl.length-d.ps.length)
 |none=>[]
abbrev iY.len:iY->Nat
 | .nil=>0
 | .cons _ es=>es.len+1
abbrev BG (G:Gx)(H:Hp)(a:Addr)(i:Nat):Prop:=(G.T.oc.contains i=true/\∃ dx fs,H a=some (.ins (G.R.cad i) dx fs))\/(G.T.xc.contains i=true/\∃ dx fs fr,H a=some (.exc (G.R.cad i) dx fs fr))
@[irreducible] noncomputable def nv (G:Gx) (c:Cl) (x:V) (H:Hp) (Q:VK):Prop:=match c with
 | .ty n=>(∃ t b,tyName x H=some t/\G.T.subB.lookup (t,n)=some b/\Q (.bl b) H)\/∃ a i b,x=.ref a/\BG G H a i/\G.T.subT.lookup (i,n)=some b/\Q (.bl b) H
 | .own j=>(∃ t b,tyName x H=some t/\G.T.subO.lookup (t,j)=some b/\Q (.bl b) H)\/∃ a i b,x=.ref a/\BG G H a i/\G.T.sub.lookup (i,j)=some b/\Q (.bl b) H
@[irreducible] noncomputable def uL (G:Gx) (f:Str) (x:V) (H:Hp) (Q:VK):Prop:=∃ a i fs v,x=.ref a/\((G.T.oc.contains i=true/\∃ dx,H a=some (.ins (G.R.cad i) dx fs))\/(G.T.xc.contains i=true/\∃ dx fr,H a=some (.exc (G.R.cad i) (some dx) fs fr)))/\
 G.T.na.contains (i,f)=true/\fs.lookup f=some v/\Q v H
@[irreducible] noncomputable def Ei (G:Gx) (f:Str) (x y:V) (H:Hp) (Q:Hp->Prop):Prop:=∃ a i,x=.ref a/\G.T.na.contains (i,f)=true/\
 ((∃ dx fs,G.T.oc.contains i=true/\H a=some (.ins (G.R.cad i) dx fs)/\fs.length<1000/\Q (upd H a (.ins (G.R.cad i) dx (dv f y fs))))\/
  (∃ d fs,G.T.xc.contains i=true/\H a=some (.exc (G.R.cad i) (some d) fs true)/\fs.length<1000/\Q (upd H a (.exc (G.R.cad i) (some d) (dv f y fs) true)))\/
  (G.T.xc.contains i=true/\H a=some (.exc (G.R.cad i) none [] true)/\∀ d,H d=none->Q (upd (upd H d (.own a)) a (.exc (G.R.cad i) (some d) [(f,y)] true))))
abbrev Lw (op:Operator)(x y:V)(H:Hp)(Q:VK):Prop:=match op,x,y with
 | .Add,.int i,.int j=>Q (.int (i+j)) H
 | .Sub,.int i,.int j=>Q (.int (i-j)) H
 |_,_,_=>False
@[irreducible] noncomputable def zX (K:W.Frag) (x y:V) (H:Hp) (Q:VK):Prop:=match x,y with
 | .ref p,.int i=>∃ xs v,bB K H p xs/\0<=i/\xs[i.toNat]? =some v/\Q v H
 |_,_=>False
abbrev yv (U:St):List Nat->List V->St
 |i::is,x::xs=>yv (U.set i (some x)) is xs
 |_,_=>U
@[irreducible] noncomputable def D8 (xs:List V) (H:Hp) (Q:VK):Prop:=xs.length<=10000/\∀ p,H p=none->Q (.ref p) (upd H p 4e8)
@[irreducible] noncomputable def qt (xs:List V) (H:Hp) (Q:VK):Prop:=xs.length<=10000/\∀ p,H p=none->Q (.ref p) (upd H p (.tup xs))
@[irreducible] noncomputable def D5 (l:Addr) (H:Hp) (R:It->Hp->Prop):Prop:=(∃ xs,H l=some 4e8)/\R (Ka l) H
@[irreducible] noncomputable def vi (K:W.Frag) (p:Addr) (H:Hp) (R:It->Hp->Prop):Prop:=((∃ xs,bB K H p xs)/\R (Ef K p) H)\/((∃ xs,bP K H p xs)/\R (K4 K p) H)\/False
@[irreducible] noncomputable def DI (K:W.Frag) (x y:V) (H:Hp) (R:It->Hp->Prop):Prop:=J9 K x y H R
@[irreducible] noncomputable def sv (tp:Bool) (x:V) (H:Hp) (Q:VK):Prop:=Fe tp x H Q
@[irreducible] noncomputable def Ac (C:Addr) (H:Hp) (Q:VK):Prop:=∀ x dx,H x=none->H dx=none->dx≠x->Q (.ref x) (upd (upd H dx (.own x)) x (.ins C dx []))
@[irreducible] noncomputable def KY (K:W.Frag) (x y:V) (H:Hp) (Q:VK):Prop:=Nq K x y H Q
@[irreducible] noncomputable def C9 (p:Addr) (y w:V) (H:Hp) (Q:VK):Prop:=∃ kvs k,H p=some (.dK kvs)/\y=kV k/\Q ((g8 kvs k).getD w) H
@[irreducible] noncomputable def zt (K:W.Frag) (p:Addr) (y:V) (H:Hp) (Q:VK):Prop:=∃ xs,∃ (e:V->Bool) (j:Nat) (x:V),H p=some 4e8/\xs.length<=10000/\(∀ x ∈ xs,∃ n,n<=100/\dz K H n x y (e x))/\xs[j]? =some x/\e x=true/\(∀ (m:Nat) x,m<j->xs[m]? =some x->e x=false)/\Q (.int (j:Int)) H
@[irreducible] noncomputable def tR (te:TE) (J:It) (σ₀:St) (H1:Hp) (Q:VK):Prop:=LC te J σ₀ H1 Q
def Cj: @tR= @LC:=by
 funext te J U H Q
 unfold tR
 rfl
@[irreducible] noncomputable def MG (tc:TT) (te:TE) (J:It) (σ₀:St) (H1:Hp) (Q:VK):Prop:=LCg (ja 0) tc te J σ₀ H1 Q
def HV: @MG= @LCg (ja 0):=by
 funext tc te J U H Q
 unfold MG
 rfl
abbrev gl (is:List Nat):DM:=λvs U H Q=>vs.length=is.length/\Q (yv U is vs) H
@[irreducible] noncomputable def LCt (K:W.Frag) (n:Nat) (te:TE) (J:It) (σ₀:St) (H1:Hp) (Q:VK):Prop:=LCg (DO K n (gl (List.range n))) yes te J σ₀ H1 Q
def zm {K:W.Frag}{n:Nat}:LCt K n=LCg (DO K n (gl (List.range n))) yes:=by
 funext te J U H Q
 unfold LCt
 rfl
abbrev FN:List Str->List V->List (Key×V)
 |k::ks,x::xs=>(.inr k,x)::FN ks xs
 |_,_=>[]
@[irreducible] noncomputable def pk (ks:List Str) (p:Addr) (xs:List V) (H:Hp) (Q:VK):Prop:=H p=some (.dK [])/\Q (.ref p) (upd H p (.dK (iS [] (FN ks xs))))
mutual
noncomputable def wE (G:Gx):Ex->St->Hp->VK->XK->Prop
 | .v i,U,H,Q,_=>match U[i]? with
  |some (some x)=>Q x H
  |_=>False
 | .int i,_,H,Q,_=>Q (.int i) H
 | .bl b,_,H,Q,_=>Q (.bl b) H
 | .non,_,H,Q,_=>Q .non H
 | .str x,_,H,Q,_=>Q (.str x) H
 | .gl x,_,H,Q,_=>match G.R.gl x with
  |some v=>Q v H
  |none=>False
 | .bin op a b,U,H,Q,E=>wE G a U H (λx H1=>wE G b U H1 (λy H2=>IF G.R.K op x y H2 Q) E) E
 | .neg a,U,H,Q,E=>wE G a U H (λx H1=>match x with| .int i=>Q (.int (-i)) H1|_=>False) E
 | .not a,U,H,Q,E=>wE G a U H (λx H1=>match x with| .bl c=>Q (.bl (!c)) H1|_=>False) E
 | .and a b,U,H,Q,E=>wE G a U H (λx H1=>match x with| .bl c=>i7 c (wE G b U H1 Q E) (Q (.bl false) H1)|_=>False) E
 | .or a b,U,H,Q,E=>wE G a U H (λx H1=>match x with| .bl c=>i7 c (Q (.bl true) H1) (wE G b U H1 Q E)|_=>False) E
 | .cmp op a b,U,H,Q,E=>wE G a U H (λx H1=>wE G b U H1 (λy H2=>jj G.R.K op x y H2 Q) E) E
 | .cmp2 o1 o2 a b c,U,H,Q,E=>wE G a U H (λx H1=>wE G b U H1 (λy H2=>jj G.R.K o1 x y H2 λz H3=>match z with| .bl k=>i7 k (wE G c U H3 (λw H4=>jj G.R.K o2 y w H4 Q) E) (Q (.bl false) H3)|_=>False) E) E
 | .cmp3 o1 o2 o3 a b c d,U,H,Q,E=>wE G a U H (λx H1=>wE G b U H1 (λy H2=>jj G.R.K o1 x y H2 λz H3=>match z with| .bl k=>i7 k (wE G c U H3 (λw H4=>jj G.R.K o2 y w H4 λz' H5=>match z' with| .bl k'=>i7 k' (wE G d U H5 (λw2 H6=>jj G.R.K o3 w w2 H6 Q) E) (Q (.bl false) H5)|_=>False) E) (Q (.bl false) H3)|_=>False) E) E
 | .ife c a b,U,H,Q,E=>wT G c U H (λk H1=>i7 k (wE G a U H1 Q E) (wE G b U H1 Q E)) E
 | .tup es,U,H,Q,E=>wEs G es U H (λxs H1=>qt xs H1 Q) E
 | .lst es,U,H,Q,E=>wEs G es U H (λxs H1=>D8 xs H1 Q) E
 | .ix a i,U,H,Q,E=>wE G a U H (λx H1=>wE G i U H1 (λy H2=>tH G.R.K x y H2 Q) E) E
 | .sl a lo hi,U,H,Q,E=>wE G a U H (λx H1=>wO G lo U H1 (λl H2=>wO G hi U H2 (λu H3=>IU G.R.K x l u H3 Q) E) E) E
 | .fld a f,U,H,Q,E=>wE G a U H (λx H1=>uL G f x H1 Q) E
 | .call f es,U,H,Q,E=>G.cm=G.cm/\wEs G es U H (λvs H1=>G.Cd f (vs++dflt G f es.len) H1 Q E) E
 | .meth a m es,U,H,Q,E=>G.cm=G.cm/\wE G a U H (λx H1=>∃ p i dx fs f,x=.ref p/\H1 p=some (.ins (G.R.cad i) dx fs)/\fs.lookup m=none/\G.T.me.lookup (i,m)=some f/\
   wEs G es U H1 (λvs H2=>G.Cd f (x::(vs++dflt G f (es.len+1))) H2 Q E) E) E
 | .lm m a es,U,H,Q,E=>wE G a U H (λx H1=>∃ p xs0,x=.ref p/\H1 p=some (.lst xs0)/\wEs G es U H1 (λvs H2=>∃ xs,H2 p=some 4e8/\IY m p xs vs H2 Q) E) E
 | .make c es,U,H,Q,E=>G.cm=G.cm/\match G.T.ini.lookup c with
  |none=>G.T.ini0.contains c=true/\wEs G es U H (λvs H1=>vs.length=1/\∀ x,H1 x=none->Q (.ref x) (upd H1 x (.exc (G.R.cad c) none [] true))) E
  |some f=>if G.T.xc.contains c=true then wEs G es U H (λvs H1=>vs.length<=1000/\∀ x,H1 x=none->G.Cd f (.ref x::(vs++dflt G f (es.len+1))) (upd H1 x (.exc (G.R.cad c) none [] true)) (λv H2=>v=.non/\Q (.ref x) H2) E) E
   else wEs G es U H (λvs H1=>∀ x dx,H1 x=none->H1 dx=none->dx≠x->G.Cd f (.ref x::(vs++dflt G f (es.len+1))) (upd (upd H1 dx (.own x)) x (.ins (G.R.cad c) dx [])) (λv H2=>v=.non/\Q (.ref x) H2) E) E
 | .bini es,U,H,Q,E=>wEs G es U H (λvs H1=>∃ a i dx fs fr v,vs=[.ref a,v]/\H1 a=some (.exc (G.R.cad i) dx fs fr)/\G.T.xc.contains i=true/\Q .non H1) E
 | .cini c es,U,H,Q,E=>G.cm=G.cm/\match G.T.cin.lookup c with
  |some f=>wEs G es U H (λvs H1=>G.Cd f (vs++dflt G f es.len) H1 Q E) E
  |none=>False
 | .bf b es,U,H,Q,E=>wEs G es U H (λvs H1=>qq G b vs H1 Q) E
 | .isi a c,U,H,Q,E=>wE G a U H (λx H1=>nv G c x H1 Q) E
 | .lc elt sel it,U,H,Q,E=>K9 G.cm (wI G it U H (λJ H1=>tR (λσ' H' Q'=>wE G elt σ' H' Q' E) J (none::gF U sel) H1 Q) E) (LL G it U H (λJ H1=>tR (λσ' H' Q'=>wE { G with cm:=.mute } elt σ' H' Q' E) J (none::gF U sel) H1 Q) E)
 | .lci elt c sel it,U,H,Q,E=>False
 | .lct elt n sel it,U,H,Q,E=>G.cm=.calm/\wI G it U H (λJ H1=>LCt G.R.K n (λσ' H' Q'=>wE G elt σ' H' Q' E) J (sn n none++gF U sel) H1 Q) E
 | .lcu elt c n sel it,U,H,Q,E=>False
 | .dnew,_,H,Q,_=>False
 | .sm m a b,U,H,Q,E=>False
 | .up a,U,H,Q,E=>False
 | .isiT a cs,U,H,Q,E=>False
 | .mk0 c,_,H,Q,_=>Ac (G.R.cad c) H Q
 | .disp ks es,U,H,Q,E=>∀ p,H p=none->wEs G es U (upd H p (.dK [])) (λxs H2=>pk ks p xs H2 Q) E
 | .dget a k d,U,H,Q,E=>wE G a U H (λx H1=>∃ p kvs0,x=.ref p/\H1 p=some (.dK kvs0)/\wE G k U H1 (λy H2=>wE G d U H2 (λw H3=>C9 p y w H3 Q) E) E) E
 | .dupd a b,U,H,Q,E=>False
 | .rev a b,U,H,Q,E=>False
 | .lix a b,U,H,Q,E=>wE G a U H (λx H1=>∃ p xs0,x=.ref p/\H1 p=some (.lst xs0)/\wE G b U H1 (λy H2=>zt G.R.K p y H2 Q) E) E
 | .vals tp a,U,H,Q,E=>G.cm=.calm/\wE G a U H (λx H1=>sv tp x H1 Q) E
 | .dzip a b,U,H,Q,E=>G.cm=.calm/\wE G a U H (λx H1=>wE G b U H1 (λy H2=>KY G.R.K x y H2 Q) E) E
noncomputable def wT (G:Gx):Tx->St->Hp->(Bool->Hp->Prop)->XK->Prop
 | .not a,U,H,Q,E=>wT G a U H (λc H1=>Q (!c) H1) E
 | .and a b,U,H,Q,E=>wT G a U H (λc H1=>i7 c (wT G b U H1 Q E) (Q false H1)) E
 | .or a b,U,H,Q,E=>wT G a U H (λc H1=>i7 c (Q true H1) (wT G b U H1 Q E)) E
 | .cmp op a b,U,H,Q,E=>wE G a U H (λx H1=>wE G b U H1 (λy H2=>jj G.R.K op x y H2 λz H3=>match z with| .bl k=>Q k H3|_=>False) E) E
 | .cmp2 o1 o2 a b c,U,H,Q,E=>wE G a U H (λx H1=>wE G b U H1 (λy H2=>jj G.R.K o1 x y H2 λz H3=>match z with| .bl k=>i7 k (wE G c U H3 (λw H4=>jj G.R.K o2 y w H4 λz H5=>match z with| .bl k=>Q k H5|_=>False) E) (Q false H3)|_=>False) E) E
 | .cmp3 o1 o2 o3 a b c d,U,H,Q,E=>wE G a U H (λx H1=>wE G b U H1 (λy H2=>jj G.R.K o1 x y H2 λz H3=>match z with| .bl k=>i7 k (wE G c U H3 (λw H4=>jj G.R.K o2 y w H4 λz' H5=>match z' with| .bl k'=>i7 k' (wE G d U H5 (λw2 H6=>jj G.R.K o3 w w2 H6 λz H7=>match z with| .bl k=>Q k H7|_=>False) E) (Q false H5)|_=>False) E) (Q false H3)|_=>False) E) E
 | .val e,U,H,Q,E=>wE G e U H (λx H1=>Gh G.R.K x H1 Q) E
noncomputable def wEs (G:Gx):iY->St->Hp->(List V->Hp->Prop)->XK->Prop
 | .nil,_,H,Q,_=>Q [] H
 | .cons e es,U,H,Q,E=>wE G e U H (λx H1=>wEs G es U H1 (λxs H2=>Q (x::xs) H2) E) E
noncomputable def wO (G:Gx):K7->St->Hp->(Option Int->Hp->Prop)->XK->Prop
 | .no,_,H,Q,_=>Q none H
 | .yes e,U,H,Q,E=>wE G e U H (λx H1=>match x with| .int i=>Q (some i) H1|_=>False) E
noncomputable def LL (G:Gx):Dx->St->Hp->(It->Hp->Prop)->XK->Prop
 |_,_,_,_,_=>False
noncomputable def wI (G:Gx):Dx->St->Hp->(It->Hp->Prop)->XK->Prop
 | .rng1 a,U,H,R,E=>wE G a U H (λx H1=>match x with| .int j=>-(2 ^ 62)<=j/\j<2 ^ 62/\R (FC 0 j.toNat) H1|_=>False) E
 | .rng2 a b,U,H,R,E=>wE G a U H (λx H1=>wE G b U H1 (λy H2=>match x,y with| .int i,.int j=>(-(2 ^ 62)<=i/\i<2 ^ 62/\ -(2 ^ 62)<=j/\j<2 ^ 62)/\R (FC i (j-i).toNat) H2|_,_=>False) E) E
 | .rng3 a b c,U,H,R,E=>False
 | .enm a,U,H,R,E=>wE G a U H (λx H1=>match x with| .ref l=>D5 l H1 R|_=>False) E
 | .enf a,U,H,R,E=>False
 | .seq a,U,H,R,E=>wE G a U H (λx H1=>match x with| .ref p=>vi G.R.K p H1 R|_=>False) E
 | .zip a b,U,H,R,E=>wE G a U H (λx H1=>wE G b U H1 (λy H2=>DI G.R.K x y H2 R) E) E
 | .zip3 a b c,U,H,R,E=>False
end
abbrev Lx (D:Ends)(f:St->Hp->Prop):Ends:={ D with nx:=f }
abbrev Fc (D:Ends)(N:St->Hp->Prop):Ends:={ D with nx:=N,ct:=N,bk:=D.nx }
abbrev NT (D:Ends)(i:Nat):Ends:={ nx:=λσ' H'=>D.nx (σ'.set i none) H',rt:=D.rt,bk:=λσ' H'=>D.bk (σ'.set i none) H',ct:=λσ' H'=>D.ct (σ'.set i none) H' }
abbrev wG (U:St)(t:Ll)(K:W.Frag)(x:V)(H:Hp)(Q:St->Prop):Prop:=match t with
 | .nm i=>Q (U.set i (some x))
 | .tp is=>∃ a xs,x=.ref a/\(bP K H a xs\/bB K H a xs)/\xs.length=is.length/\Q (yv U is xs)
 | .nt i is=>∃ a y b ys,x=.ref a/\bP K H a [y,.ref b]/\bP K H b ys/\ys.length=is.length/\Q (yv (U.set i (some y)) is ys)
@[irreducible] noncomputable def nW (J:It) (D:Ends) (F:(St->Hp->Prop)->V->St->Hp->Prop) (U:St) (H1:Hp):Prop:=∃ W:Nat->Nat->St->Hp->Prop,(∃ m,W 0 m U H1)/\∀ i m U H,W i m U H->
 (J.stop i H/\D.nx U H)\/(J.go i H/\∃ N:St->Hp->Prop,(∀ σ' H',N σ' H'->∃ m',m'<m/\W (i+1) m' σ' H')/\∀ x H',J.yld i H x H'->F N x U H')
mutual
noncomputable def wS:Sx->Gx->Ends->(St->XK)->St->Hp->Prop
 | .asg i e,G,D,E,U,H=>wE G e U H (λx H1=>D.nx (U.set i (some x)) H1) (E U)
 | .asgT is e,G,D,E,U,H=>G.cm=.calm/\wE G e U H (λx H1=>wG U (.tp is) G.R.K x H1 λσ1=>D.nx σ1 H1) (E U)
 | .par is es,G,D,E,U,H=>G.cm=.calm/\wEs G es U H (λxs H1=>xs.length=is.length/\D.nx (yv U is xs) H1) (E U)
 | .sub o i v,G,D,E,U,H=>wE G v U H (λy H1=>wE G o U H1 (λov H2=>wE G i U H2 (λiv H3=>jl ov iv y H3 (λH4=>D.nx U H4)) (E U)) (E U)) (E U)
 | .fld o f v,G,D,E,U,H=>wE G v U H (λy H1=>wE G o U H1 (λx H2=>Ei G f x y H2 (λH3=>D.nx U H3)) (E U)) (E U)
 | .aug i op e,G,D,E,U,H=>(match U[i]? with|some (some x)=>wE G e U H (λy H1=>Lw op x y H1 λz H2=>D.nx (U.set i (some z)) H2) (E U)|_=>False)
 | .augS o i op e,G,D,E,U,H=>wE G o U H (λov H1=>wE G i U H1 (λiv H2=>zX G.R.K ov iv H2 (λx H3=>wE G e U H3 (λy H4=>Lw op x y H4 (λz H5=>jl ov iv z H5 (λH6=>D.nx U H6))) (E U))) (E U)) (E U)
 | .augF o f op e,G,D,E,U,H=>False
 | .ret e,G,D,E,U,H=>wE G e U H D.rt (E U)
 | .retN,_,D,_,_,H=>False
 | .pass,_,D,_,U,H=>False
 | .brk,_,D,_,U,H=>False
 | .cont,_,D,_,U,H=>False
 | .expr e,G,D,E,U,H=>wE G e U H (λ_ H1=>D.nx U H1) (E U)
 | .ife c a b,G,D,E,U,H=>wT G c U H (λk H1=>i7 k (wB a G D E U H1) (wB b G D E U H1)) (E U)
 | .whl c b,G,D,E,U,H=>∃ W:Nat->St->Hp->Prop,(∃ m,W m U H)/\∀ m U H,W m U H->wT G c U H (λk H1=>i7 k (∃ N:St->Hp->Prop,(∀ σ' H',N σ' H'->∃ m',m'<m/\W m' σ' H')/\wB b G (Fc D N) E U H1) (D.nx U H1)) (E U)
 | .for t it b,G,D,E,U,H=>G.cm=.calm/\wI G it U H (λJ H1=>nW J D (λN x U H'=>wG U t G.R.K x H' λσ2=>wB b G (Fc D N) E σ2 H') U H1) (E U)
 | .rais e,G,_,E,U,H=>G.cm=.calm/\wE G e U H (λv H1=>∃ a i dx fs,v=.ref a/\H1 a=some (.exc (G.R.cad i) dx fs true)/\G.T.xc.contains i=true/\E U a (upd H1 a (.exc (G.R.cad i) dx fs false))) (E U)
 | .tryx b hs,G,D,_,U,H=>G.cm=.calm/\wB b G D (λσ' e H'=>wH hs G D σ' e H') U H
noncomputable def wB:lx->Gx->Ends->(St->XK)->St->Hp->Prop
 | .nil,_,D,_,U,H=>D.nx U H
 | .cons s r,G,D,E,U,H=>wS s G (Lx D λσ1 H1=>wB r G D E σ1 H1) E U H
noncomputable def wH:Co->Gx->Ends->St->Addr->Hp->Prop
 | .nil,_,_,_,_,_=>False
 | .cons c i b hs,G,D,U,e,H=>∃ j dx fs k,H e=some (.exc (G.R.cad j) dx fs false)/\G.T.xc.contains j=true/\G.T.sub.lookup (j,c)=some k/\
   i7 k (wB b { G with cm:=.bg e } (NT D i) (λ_ _ _=>False) (U.set i (some (.ref e))) H)
    (wH hs G D U e H)
end
end L3
namespace L3
open PySem PySem.Spec L2 PyProof.Rows
structure Sn where
 T:Tab
 sc:Scope
 N:List Str
abbrev Sn.oB (S:Sn)(x:Str):Bool:=decide (S.sc.names.lookup x=some .globalImplicit)&& ! 2e7
abbrev Sn.GK (S:Sn)(x:Str):Bool:=(decide (S.sc.names.lookup x=some .local)||decide (S.sc.names.lookup x=some .cell)||decide (S.sc.names.lookup x=some .free))&& ! 2e7&& !(x ==("__classdict__":Str))
abbrev Sn.loc (S:Sn)(i:Nat)(x:Str):Bool:=decide (S.N[i]? =some x)&&(decide (S.sc.names.lookup x=some .local)||decide (S.sc.names.lookup x=some .cell))
abbrev vg:Expr->Bool
 | .ListComp .. | .SetComp .. | .DictComp ..=>false
 |_=>true
abbrev cI:Expr->Bool
 | .Set ..=>false
 |_=>true
abbrev gW:Expr->Bool
 | .Slice ..=>false
 |_=>true
abbrev dG:Expr->Bool
 | .Call (.Name _ _) [] [] _=>false
 |_=>true
abbrev plainT:Expr->Bool
 | .UnaryOp .Not _ _| .BoolOp .. | .IfExp .. | .Compare ..=>false
 |_=>true
abbrev Ar:Bf->String
 | .len=>"len"| .list=>"list"| .tuple=>"tuple"| .int=>"int"| .str=>"str"| .min=>"min"| .max=>"max"| .abs=>"abs"| .all=>"all"| .any=>"any"| .dict=>"dict"| .sum=>"sum"| .range=>"range"
abbrev A7:Lm->String
 | .append=>"append"| .extend=>"extend"| .insert=>"insert"| .pop=>"pop"| .clear=>"clear"| .reverse=>"reverse"| .count=>"count"
abbrev lK:List String:=["int","bool","str","list","tuple","dict","ValueError"]
abbrev CI (S:Sn):Cl->Expr->Bool
 | .own c,.Name x _=>S.oB x&&decide (S.T.gcl.lookup x=some c)
 | .ty n,.Name x _=>S.oB x&&decide (x=(n:Str))&&S.T.gbl.contains x&&lK.contains n
 |_,_=>false
abbrev fu (outer inner:Scope):Scope:=
 { inner with names:=inner.names.map λ(n,k)=>if(k ==.free&&outer.kind ==.function&&outer.names.lookup n ==some .cell) then(n,.cell) else(n,k) }
abbrev iI (S:Sn)(scope:Scope)(xs:List Str)(sel:List Nat):Bool:=
 decide (scope.kind=.function)&&decide (S.sc.kind=.function)&&scope.names.all (λy=>y.2 != .cell&&(y.2 != .local||decide (scope.names.lookup y.1=some .local))&&(y.2 != .free||(decide (S.sc.names.lookup y.1=some .cell))))&&xs.all (λx=>decide (scope.names.lookup x=some .local))&&
 sel.all (λi=>match S.N[i]? with|some y=>decide (S.sc.names.lookup y=some .cell)&&decide ((fu S.sc scope).names.lookup y=some .cell)|none=>false)&&decide ((xs++sel.filterMap λi=>S.N[i]?).Nodup)
abbrev Dg:List Expr->List Str
 | .Name x _::r=>x::Dg r
 |_=>[]
abbrev zf (S:Sn):List Nat->List Expr->Bool
 | [],[]=>true
 |i::is,.Name x _::r=>decide (S.N[i]? =some x)&&decide (S.sc.names.lookup x=some .local)&&zf S is r
 |_,_=>false
abbrev qI:List Str->List (Option Expr)->Bool
 | [],[]=>true
 |k::ks,some (.Constant (.str x) _ _)::r=>decide (k=x)&&qI ks r
 |_,_=>false
mutual
noncomputable def mE (S:Sn):Ex->Expr->Bool
 | .v i,e=>match e with| .Name x _=>decide (S.N[i]? =some x)&&S.GK x|_=>false
 | .int i,e=>match e with| .Constant y1 _ _=>(match y1 with| .int j=>decide (i=j)|_=>false)|_=>false
 | .bl i,e=>match e with| .Constant y1 _ _=>(match y1 with| .bool j=>decide (i=j)|_=>false)|_=>false
 | .non,e=>match e with| .Constant y1 _ _=>(match y1 with| .none=>true|_=>false)|_=>false
 | .str i,e=>match e with| .Constant y1 _ _=>(match y1 with| .str j=>decide (i=j)|_=>false)|_=>false
 | .gl x,e=>match e with| .Name y _=>decide (x=y)&&S.oB y|_=>false
 | .bin op a b,e=>match e with| .BinOp a' op' b' _=>decide (op=op')&&mE S a a'&&mE S b b'|_=>false
 | .neg a,e=>match e with| .UnaryOp y1 a' _=>(match y1 with| .USub=>mE S a a'|_=>false)|_=>false
 | .not a,e=>match e with| .UnaryOp y1 a' _=>(match y1 with| .Not=>mE S a a'|_=>false)|_=>false
 | .and a b,e=>match e with| .BoolOp y1 y2 p=>(match y1 with| .And=>(match y2 with|a'::b'::r=>mE S a a'&&mE S b (match r with| []=>b'|_=>.BoolOp .And (b'::r) p)|_=>false)|_=>false)|_=>false
 | .or a b,e=>match e with| .BoolOp y1 y2 p=>(match y1 with| .Or=>(match y2 with|a'::b'::r=>mE S a a'&&mE S b (match r with| []=>b'|_=>.BoolOp .Or (b'::r) p)|_=>false)|_=>false)|_=>false
 | .cmp op a b,e=>match e with| .Compare a' y1 y2 _=>(match y1 with| [op']=>(match y2 with| [b']=>decide (op=op')&&mE S a a'&&mE S b b'&&cI b'|_=>false)|_=>false)|_=>false
 | .cmp2 o1 o2 a b c,e=>match e with| .Compare a' y1 y2 _=>(match y1 with| [p1,p2]=>(match y2 with| [b',c']=>decide (o1=p1)&&decide (o2=p2)&&mE S a a'&&mE S b b'&&mE S c c'&&cI c'|_=>false)|_=>false)|_=>false
 | .cmp3 o1 o2 o3 a b c d,e=>match e with| .Compare a' y1 y2 _=>(match y1 with| [p1,p2,p3]=>(match y2 with| [b',c',d']=>decide (o1=p1)&&decide (o2=p2)&&decide (o3=p3)&&mE S a a'&&mE S b b'&&mE S c c'&&mE S d d'&&cI d'|_=>false)|_=>false)|_=>false
 | .ife c a b,e=>match e with| .IfExp c' a' b' _=>mT S c c'&&mE S a a'&&mE S b b'|_=>false
 | .tup es,e=>match e with| .Tuple es' _ _=>ku S es es'|_=>false
 | .lst es,e=>match e with| .List es' _=>ku S es es'|_=>false
 | .ix a i,e=>match e with| .Subscript a' i' _=>mE S a a'&&mE S i i'&&gW i'|_=>false
 | .sl a lo hi,e=>match e with| .Subscript a' y1 _=>(match y1 with| .Slice lo' hi' y2 _=>(match y2 with|none=>mE S a a'&&mO S lo lo'&&mO S hi hi'|_=>false)|_=>false)|_=>false
 | .fld a f,e=>match e with| .Attribute a' f' _=>mE S a a'&&decide (f=f')&&dG a'|_=>false
 | .call f es,e=>match e with| .Call y1 es' y2 _=>(match y1 with| .Name x _=>(match y2 with| []=>S.oB x&&decide (S.T.gfn.lookup x=some f)&&ku S es es'|_=>false)|_=>false)|_=>false
 | .meth a m es,e=>match e with| .Call y1 es' y2 q=>(match y1 with| .Attribute a' m' p=>(match y2 with| []=>mE S a a'&&decide (m=m')&&ku S es es'&&dG a'&&(p.endLine ==q.line)&&decide (es.len<20)|_=>false)|_=>false)|_=>false
 | .dget a k d,e=>match e with| .Call y1 es' y2 q=>(match y1 with| .Attribute a' m' p=>(match y2 with| []=>(match es' with| [k',d']=>mE S a a'&&decide (m'=("get":Str))&&mE S k k'&&notStar k'&&mE S d d'&&notStar d'&&dG a'&&(p.endLine ==q.line)|_=>false)|_=>false)|_=>false)|_=>false
 | .dupd a b,_=>false
 | .rev a b,_=>false
 | .lix a b,e=>match e with| .Call y1 es' y2 q=>(match y1 with| .Attribute a' m' p=>(match y2 with| []=>(match es' with| [b']=>mE S a a'&&decide (m'=("index":Str))&&mE S b b'&&notStar b'&&dG a'&&(p.endLine ==q.line)|_=>false)|_=>false)|_=>false)|_=>false
 | .lm m a es,e=>match e with| .Call y1 es' y2 q=>(match y1 with| .Attribute a' m' p=>(match y2 with| []=>mE S a a'&&decide (m'=(A7 m:Str))&&ku S es es'&&dG a'&&(p.endLine ==q.line)&&decide (es.len<20)|_=>false)|_=>false)|_=>false
 | .make c es,e=>match e with| .Call y1 es' y2 _=>(match y1 with| .Name x _=>(match y2 with| []=>S.oB x&&decide (S.T.gcl.lookup x=some c)&&ku S es es'|_=>false)|_=>false)|_=>false
 | .bini es,e=>match e with| .Call y1 es' y2 q=>(match y1 with| .Attribute y3 m p=>(match y3 with| .Name x _=>(match y2 with| []=>S.oB x&&decide (m=("__init__":Str))&&S.T.gbi.contains x&&ku S es es'&&decide (es.len=2)&&(p.endLine ==q.line)|_=>false)|_=>false)|_=>false)|_=>false
 | .cini c es,e=>match e with| .Call y1 es' y2 q=>(match y1 with| .Attribute y3 m p=>(match y3 with| .Name x _=>(match y2 with| []=>S.oB x&&decide (S.T.gcl.lookup x=some c)&&decide (m=("__init__":Str))&&ku S es es'&&decide (es.len<20)&&decide (0<es.len)&&(p.endLine ==q.line)|_=>false)|_=>false)|_=>false)|_=>false
 | .bf b es,e=>match e with| .Call y1 es' y2 _=>(match y1 with| .Name x _=>(match y2 with| []=>S.oB x&&decide (x=(Ar b:Str))&&S.T.gbl.contains x&&ku S es es'&&decide (0<es.len)|_=>false)|_=>false)|_=>false
 | .isi a c,e=>match e with| .Call y1 y2 y3 _=>(match y1 with| .Name x _=>(match y3 with| []=>(match y2 with| [a',c']=>S.oB x&&decide (x=("isinstance":Str))&&S.T.gbl.contains x&&mE S a a'&&CI S c c'|_=>false)|_=>false)|_=>false)|_=>false
 | .lc elt sel it,e=>match e with| .ListComp elt' y1 scope _=>(match y1 with| [y2]=>(match y2 with|⟨y3,iter,y4,y5⟩=>(match y3 with| .Name x px=>(match y4 with| []=>(match y5 with|0=>iI S scope [x] sel&&mI S it (.Name x px) iter&&mE { S with sc:=fu S.sc scope,N:=x::sel.filterMap λi=>S.N[i]? } elt elt'&&cI iter|_=>false)|_=>false)|_=>false))|_=>false)|_=>false
 | .lci elt c sel it,_=>false
 | .lct elt n sel it,e=>match e with| .ListComp elt' y1 scope _=>(match y1 with| [y2]=>(match y2 with|⟨y3,iter,y4,y5⟩=>(match y3 with| .Tuple ts kt pt=>(match y4 with| []=>(match y5 with|0=>iI S scope (Dg ts) sel&&zf { S with sc:=fu S.sc scope,N:=Dg ts++sel.filterMap λi=>S.N[i]? } (List.range n) ts&&decide ((Dg ts).length=n)&&mI S it (.Tuple ts kt pt) iter&&mE { S with sc:=fu S.sc scope,N:=Dg ts++sel.filterMap λi=>S.N[i]? } elt elt'&&cI iter|_=>false)|_=>false)|_=>false))|_=>false)|_=>false
 | .lcu elt c n sel it,_=>false
 | .dnew,_=>false
 | .sm m a b,_=>false
 | .up a,_=>false
 | .isiT a cs,_=>false
 | .mk0 c,e=>match e with| .Call y1 y2 y3 _=>(match y1 with| .Name x _=>(match y2 with| []=>(match y3 with| []=>S.oB x&&decide (S.T.gcl.lookup x=some c)&&S.T.inip.contains c|_=>false)|_=>false)|_=>false)|_=>false
 | .disp ks es,e=>match e with| .Dict keys vals _=>qI ks keys&&ku S es vals&&decide (es.len=ks.length)&&decide (0<ks.length)&&decide (ks.length<=15)|_=>false
 | .vals tp a,e=>match e with| .Call y1 y2 y3 _=>(match y1 with| .Name x _=>(match y3 with| []=>(match y2 with| [y4]=>(match y4 with| .Call y5 y6 y7 q=>(match y5 with| .Attribute a' m p=>(match y6 with| []=>(match y7 with| []=>S.oB x&&decide (x=C1 tp)&&S.T.gbl.contains x&&mE S a a'&&decide (m=("values":Str))&&dG a'&&(p.endLine ==q.line)|_=>false)|_=>false)|_=>false)|_=>false)|_=>false)|_=>false)|_=>false)|_=>false
 | .dzip a b,e=>match e with| .Call y1 y2 y3 _=>(match y1 with| .Name x _=>(match y3 with| []=>(match y2 with| [y4]=>(match y4 with| .Call y5 y6 y7 _=>(match y5 with| .Name y _=>(match y7 with| []=>(match y6 with| [a',b']=>S.oB x&&decide (x=("dict":Str))&&S.T.gbl.contains x&&S.oB y&&decide (y=("zip":Str))&&S.T.gbl.contains y&&mE S a a'&&mE S b b'&&notStar a'&&notStar b'|_=>false)|_=>false)|_=>false)|_=>false)|_=>false)|_=>false)|_=>false)|_=>false
noncomputable def mT (S:Sn):Tx->Expr->Bool
 | .not a,e=>match e with| .UnaryOp y1 a' _=>(match y1 with| .Not=>mT S a a'|_=>false)|_=>false
 | .and a b,e=>match e with| .BoolOp y1 y2 p=>(match y1 with| .And=>(match y2 with|a'::b'::r=>mT S a a'&&mT S b (match r with| []=>b'|_=>.BoolOp .And (b'::r) p)|_=>false)|_=>false)|_=>false
 | .or a b,e=>match e with| .BoolOp y1 y2 p=>(match y1 with| .Or=>(match y2 with|a'::b'::r=>mT S a a'&&mT S b (match r with| []=>b'|_=>.BoolOp .Or (b'::r) p)|_=>false)|_=>false)|_=>false
 | .cmp op a b,e=>match e with| .Compare a' y1 y2 _=>(match y1 with| [op']=>(match y2 with| [b']=>decide (op=op')&&mE S a a'&&mE S b b'&&cI b'|_=>false)|_=>false)|_=>false
 | .cmp2 o1 o2 a b c,e=>match e with| .Compare a' y1 y2 _=>(match y1 with| [p1,p2]=>(match y2 with| [b',c']=>decide (o1=p1)&&decide (o2=p2)&&mE S a a'&&mE S b b'&&mE S c c'&&cI c'|_=>false)|_=>false)|_=>false
 | .cmp3 o1 o2 o3 a b c d,e=>match e with| .Compare a' y1 y2 _=>(match y1 with| [p1,p2,p3]=>(match y2 with| [b',c',d']=>decide (o1=p1)&&decide (o2=p2)&&decide (o3=p3)&&mE S a a'&&mE S b b'&&mE S c c'&&mE S d d'&&cI d'|_=>false)|_=>false)|_=>false
 | .val e,e'=>mE S e e'&&plainT e'
noncomputable def ku (S:Sn):iY->List Expr->Bool
 | .nil,es=>es.isEmpty
 | .cons e es,l=>match l with|e'::es'=>mE S e e'&&notStar e'&&ku S es es'| []=>false
noncomputable def mO (S:Sn):K7->Option Expr->Bool
 | .no,o=>o.isNone
 | .yes e,o=>match o with|some e'=>mE S e e'|none=>false
noncomputable def mI (S:Sn):Dx->Expr->Expr->Bool
 | .rng1 a,_,e=>match e with| .Call y1 y2 y3 _=>(match y1 with| .Name x _=>(match y3 with| []=>(match y2 with| [a']=>S.oB x&&decide (x=("range":Str))&&S.T.gbl.contains x&&mE S a a'&&notStar a'|_=>false)|_=>false)|_=>false)|_=>false
 | .rng2 a b,_,e=>match e with| .Call y1 y2 y3 _=>(match y1 with| .Name x _=>(match y3 with| []=>(match y2 with| [a',b']=>S.oB x&&decide (x=("range":Str))&&S.T.gbl.contains x&&mE S a a'&&mE S b b'&&notStar a'&&notStar b'|_=>false)|_=>false)|_=>false)|_=>false
 | .rng3 a b c,_,e=>false
 | .enm a,t,e=>match e with| .Call y1 y2 y3 _=>(match y1 with| .Name x _=>(match y3 with| []=>(match y2 with| [a']=>S.oB x&&decide (x=("enumerate":Str))&&S.T.gbl.contains x&&mE S a a'&&notStar a'&&(match t with| .Tuple ..=>true|_=>false)|_=>false)|_=>false)|_=>false)|_=>false
 | .enf a,t,e=>false
 | .seq a,_,e=>mE S a e
 | .zip a b,t,e=>match e with| .Call y1 y2 y3 _=>(match y1 with| .Name x _=>(match y3 with| []=>(match y2 with| [a',b']=>S.oB x&&decide (x=("zip":Str))&&S.T.gbl.contains x&&mE S a a'&&mE S b b'&&notStar a'&&notStar b'&&(match t with| .Tuple ..=>true|_=>false)|_=>false)|_=>false)|_=>false)|_=>false
 | .zip3 a b c,t,e=>false
end
end L3
namespace L3
open PySem PySem.Spec L2
variable {e:Expr}
set_option tactic.hygienic true in
def plainT_ok (h:plainT e=true)(env:Env)(whole:Sem Value):isTrue e env whole=(do let v <-whole;standAt e.pos;holding [v] (truthy v)):=by
 cases e<;>first|rfl|(cases h)|skip
 case UnaryOp op a p=>cases op<;>first|rfl|cases h
def cq (h:cI e=true)(env:Env)(x:Value):foldedSetIterable e env x=pure x:=by
 cases e<;>first|rfl|cases h
def dH (h:cI e=true)(op:CmpOp):behindInMarks op e=false:=by
 cases e<;>first|rfl|cases h
def ji (h:vg e=true)(t:Option Expr)(n:Nat)(env:Env):swapsWith e t n env=pure false:=by
 cases e<;>first|rfl|cases h
variable {o:Expr}
set_option tactic.hygienic true in
def bt (h:dG o=true)(a:Str)(env:Env)(whole:Sem Value):attributeBase o a env whole=whole:=by
 cases o with
 |Call f as ks p=>
  cases f<;>first|rfl|skip
  case Name x q=>
   cases as with
   |nil=>cases ks with
    |nil=>cases h
    |cons k ks=>rfl
   |cons b bs=>rfl
 |_=>rfl
variable {b:Expr}
def tW (h:gW b=true):wY b:=by
 intro o i;cases b<;>first|rfl|cases h
variable {X:Cx}
def PE.bL {t:TE}(h:PE X e t):PE X e (λU H R=>∃ Q,t U H Q/\∀ x H1,Q x H1->R x H1):=λY s U H R I ⟨Q,q,i⟩=>
 cR (h Y s U H Q I q) λ_ _ v H' J r z=>⟨v,H',J,r,i _ _ z⟩
variable {t:TT}
def PT.bL (h:PT X e t):PT X e (λU H R=>∃ Q,t U H Q/\∀ x H1,Q x H1->R x H1):=λY s U H R I ⟨Q,q,i⟩=>
 bW (h Y s U H Q I q) λ_ _ ⟨H',J,z⟩=>⟨H',J,i _ _ z⟩
def PA.bL {e:List Expr}{t:TA}(h:PA X e t):PA X e (λU H R=>∃ Q,t U H Q/\∀ x H1,Q x H1->R x H1):=λpos Y s U H R I ⟨Q,q,i⟩=>
 uI (h pos Y s U H Q I q) λ_ _ v H' J r z=>⟨v,H',J,r,i _ _ z⟩
def PE.imp {t t':TE}(h:PE X e t)(hi:∀ U H Q,t' U H Q->t U H Q):PE X e t':=λY s U H Q I q=>h Y s U H Q I (hi _ _ _ q)
def PT.imp {t':TT}(h:PT X e t)(hi:∀ U H Q,t' U H Q->t U H Q):PT X e t':=λY s U H Q I q=>h Y s U H Q I (hi _ _ _ q)
def PS.imp {e:Stmt}{t t':TS}(h:PS X e t)(hi:∀ D U H,t' D U H->t D U H):PS X e t':=λY s U H D I q=>h Y s U H D I (hi _ _ _ q)
structure dP (c:Bool) (P:Program) (w:World) (K:W.Frag) (mg:NZ) (base:Heap) (k:Nat) (f:Addr) (d:aB) (sp:Sp):Prop where
 fact:∃ fd,dQ c P w K mg base (zP P w) k f fd d.ps sp/\∀ j,∃ ds,Binds K fd d.ps ds/\Vals (d.dfl.drop j) ds
 own:∀ fd oc od osl,K.lookup f=some ⟨oc,od,.func fd,osl⟩->dQ c P w K mg base (zP P w) k f fd d.ps sp
variable {K:W.Frag}
def dP.imp {c:Bool}{P:Program}{w:World}{mg:NZ}{base:Heap}{k:Nat}{f:Addr}{d:aB}{sp sp':Sp}(F:dP c P w K mg base k f d sp)(h:∀ vs H Q E,sp' vs H Q E->sp vs H Q E):dP c P w K mg base k f d sp':=
 ⟨let⟨fd,o,b⟩:=F.fact;⟨fd,o.imp h,b⟩,λfd oc od osl e=>(F.own fd oc od osl e).imp h⟩
structure Er (K:W.Frag) (mg:NZ) (T:Tab) (R:Rt):Prop where
 gfn:∀ x f,T.gfn.lookup x=some f->mg x=some (.ref (R.fad f))/\W.keepIn K (.ref (R.fad f))=true/\∃ d,T.fns[f]? =some d
 gcl:∀ x c,T.gcl.lookup x=some c->mg x=some (.ref (R.cad c))
 gbl:∀ x,T.gbl.contains x=true->mg x=none/\x≠"__name__"
 gbi:∀ x,T.gbi.contains x=true->∃ B,mg x=some (.ref B)/\MZ K B
 gl:∀ x v,R.gl x=some v->∃ u,mg x=some u/\RelV v u
 na:∀ i f,T.na.contains (i,f)=true->fX K (R.cad i) f
 me:∀ i m f,T.me.lookup (i,m)=some f->Dm K (R.cad i)/\Meth K (R.cad i) m (R.fad f)/\∃ d,T.fns[f]? =some d
 ini0:∀ c,T.ini0.contains c=true->GI K (R.cad c)
 inip:∀ c,T.inip.contains c=true->MV K (R.cad c)
 ini:∀ c f,T.ini.lookup c=some f->(∃ d,T.fns[f]? =some d)/\if T.xc.contains c=true then Lb K (R.cad c) (R.fad f) else Mk K (R.cad c) (R.fad f)
 oc:∀ c,T.oc.contains c=true->Dm K (R.cad c)/\MF K (R.cad c)
 xc:∀ c,T.xc.contains c=true->dw K (R.cad c)/\Ca K (R.cad c)
 sub:∀ i j b,T.sub.lookup (i,j)=some b->W.kitOne K (.ref (R.cad i)) (.ref (R.cad j))=some b/\(T.xc.contains i=true->W.mroIn K (R.cad i) (.ref (R.cad j))=some b/\dw K (R.cad j))
 subT:∀ i n b,T.subT.lookup (i,n)=some b->W.kitOne K (.ref (R.cad i)) (.type n)=some b
 subB:∀ t n b,T.subB.lookup (t,n)=some b->W.kitOne K (.type t) (.type n)=some b
 subO:∀ t j b,T.subO.lookup (t,j)=some b->W.kitOne K (.type t) (.ref (R.cad j))=some b
 cin:∀ c f,T.cin.lookup c=some f->Nf K (R.cad c) (R.fad f)/\∃ d,T.fns[f]? =some d
structure Gd (X:Cx) (G:Gx) (S:Sn) (k:Nat) (E:St->XK):Prop where
 hK:G.R.K=X.K
 hT:S.T=G.T
 sc:X.env.scope=S.sc
 N:X.N=S.N
 nd:S.N.Nodup
 pass:Passes (zP X.prog X.w) X E
 hd:match G.cm with| .calm=>X.calm=true| .soft=>vO X| .bg e=>X.A.handled=some (.ref e)| .mute=>True
 xok:Hy X E
 xst:∃ e0 o0 L,X.stack=e0::o0/\e0.frame=some L/\X.env.frame=some L
 room:cg (k+1) X.A
 un:X.A.units+200<cLine
 tab:Er X.K X.mg G.T G.R
 fns:∀ f d,G.T.fns[f]? =some d->dP G.cm.b X.prog X.w X.K X.mg X.base k (G.R.fad f) d (G.Cd f)
 fnsU:G.cm=.calm->∀ f d,G.T.fns[f]? =some d->dP false X.prog X.w X.K X.mg X.base k (G.R.fad f) d (G.Ψ (f+G.T.fns.length))
variable {Y:NY}{H:Hp}{s:Shared}{x:Str}{l es:List Expr}
section
variable {X:Cx}{G:Gx}{S:Sn}{k:Nat}{E:St->XK}
def Gd.cm (g:Gd X G S k E)(hc:G.cm=.calm):X.calm=true:=by
 have h:=g.hd;rw[hc]at h;exact h
def Gd.hh (g:Gd X G S k E){f:Nat}{U:St}{vs:List V}{Q:VK}{E0:XK}(I:Inv X Y U H s)(h:G.Cd f vs H Q E0):xT G.cm.b X.A.handled H:=by
 have hd:=g.hd;unfold Gx.Cd at h;generalize G.cm=m at*;cases m with
 |calm=>exact I.ok.hd hd
 |soft=>exact vO.now hd I
 |bg e=>exact let⟨⟨C,dx,fs,he⟩,_⟩:=h;⟨e,C,dx,fs,hd,he⟩
 |mute=>exact h.elim
def Gd.cx (g:Gd X G S k E)(U:St):pB X U (E U):=⟨λH s e C dx fs=>g.xok U H s e C dx fs,g.xst⟩
def Gd.bin (g:Gd X G S k E)(op:Operator):cF X (binaryOp op) (IF G.R.K op):=g.hK▸HQ op
def Gd.cmp (g:Gd X G S k E)(op:CmpOp):cF X (compareOp op) (jj G.R.K op):=g.hK▸Iu g.un op
def Gd.glob (g:Gd X G S k E)(h:S.oB x=true):Gl X x/\2e7=false:=by
 unfold Sn.oB at h;simp only[nb,decide_eq_true_eq,Bool.not_eq_true']at h;refine⟨?_,h.2⟩;show X.env.scope.names.lookup x=_;rw[g.sc];exact h.1
def Gd.GK (g:Gd X G S k E)(h:S.GK x=true):JH X.env.scope x/\2e7=false/\(x ==("__classdict__":Str))=false:=by
 unfold Sn.GK at h;simp only[nb,Bool.or_eq_true,decide_eq_true_eq,Bool.not_eq_true']at h;refine⟨?_,h.1.2,h.2⟩;unfold JH;rw[g.sc];rcases h.1.1 with(h|h)|h
 .exact .inl h
 .exact .inr (.inl h)
 .exact .inr (.inr h)
def Gd.loc (g:Gd X G S k E){i:Nat}(h:S.loc i x=true):X.N[i]? =some x/\L2.Loc X.env.scope x:=by
 unfold Sn.loc at h;simp only[nb,Bool.or_eq_true,decide_eq_true_eq]at h;rw[g.N];refine⟨h.1,?_⟩;unfold L2.Loc;rw[g.sc];exact h.2
def bc:∀ {es:iY}{l:List Expr},ku S es l=true->∀ (env:Env) (pos:Pos),(backTo pos (bm l env)).any (·.1)=false
 | .nil,[],_,_,_=>rfl
 | .nil,_::_,h,_,_=>by cases(show false=true from h)
 | .cons e es,[],h,_,_=>by cases(show false=true from h)
 | .cons e es,e'::l,h,env,pos=>by
  have h:(mE S e e'&&notStar e'&&ku S es l)=true:=h;simp only[nb]at h;rw[af h.1.2];show((backTo pos (bm l env)).any (·.1))=false;exact bc h.2 env pos
def qU:∀ {es:iY}{l:List Expr},ku S es l=true->l.length=es.len
 | .nil,[],_=>rfl
 | .nil,_::_,h=>by cases(show false=true from h)
 | .cons e es,[],h=>by cases(show false=true from h)
 | .cons e es,e'::l,h=>by
  have h:(mE S e e'&&notStar e'&&ku S es l)=true:=h;simp only[nb]at h;show l.length+1=es.len+1;rw[qU h.2]
def bI {es:iY}(h:ku S es (e::l)=true):notStar e=true/\∃ x es',es=.cons x es'/\ku S es' l=true:=by
 cases es with
 |nil=>cases(show false=true from h)
 |cons x es'=>
  have h:(mE S x e&&notStar e&&ku S es' l)=true:=h;simp only[nb]at h;exact⟨h.1.2,x,es',rfl,h.2⟩
def qc:∀ {es:iY}{l:List Expr},ku S es l=true->es.len<20->∀ (env:Env) (cpos:Pos),methodCallForm (l.length+([]:List Keyword).length) (backTo cpos (bm l env)) (backToKw cpos (keywordEach [] env))=true:=by
 intro es l h hl env cpos;have h1:=bc h env cpos;have h2:=qU h;have h3:(backTo cpos (bm l env)).all (λx=>!x.1)=true:=by
  rw[all_eq_true];intro x hx;rw[any_eq_false]at h1;simpa using h1 x hx
 unfold methodCallForm;rw[h3,h2];simp[keywordEach,backToKw]
 omega
def jX {m:Str}{apos pos:Pos}{env:Env}(hb:dG o=true)(hf:methodCallForm (es.length+([]:List Keyword).length) (backTo pos (bm es env)) (backToKw pos (keywordEach [] env))=true)(hl:(apos.endLine ==pos.line)=true):
  eval (.Call (.Attribute o m apos) es [] pos) env=(do
   let ov <-eval o env
   standAt apos.atName
   let(f,first) <-holding [ov] (getMethod ov m (do return (<-importBound o env).getD true))
   callWith pos f first (backTo pos (bm es env)) (backToKw pos (keywordEach [] env))):=by
 show(do
  let ov <-attributeBase o m env (eval o env)
  standAt apos.atName
  methodCall o m apos pos env ov (es.length+([]:List Keyword).length) (backTo pos (bm es env)) (backToKw pos (keywordEach [] env)))=_
 rw[bt hb];unfold methodCall calleeOf methodCallPos;rw[hf,hl]
 rfl
def vb {es:iY}(h:ku S es (e::l)=true)(hl:es.len<20)(env:Env)(cpos:Pos):
  ((backTo cpos (bm (e::l) env)).all (λx=>!x.1)&&(backToKw cpos (keywordEach [] env)).all (λx=>x.1.isSome)
   &&decide ((e::l).length+([]:List Keyword).length+(if([]:List Keyword).isEmpty then 0 else 1)<30))=true:=by
 have h1:=bc h env cpos;have h2:=qU h;have h3:(backTo cpos (bm (e::l) env)).all (λx=>!x.1)=true:=by
  rw[all_eq_true];intro x hx;rw[any_eq_false]at h1;simpa using h1 x hx
 rw[h3,h2];simp[keywordEach,backToKw]
 omega
def Cz {b c:Ex}{b' c':Expr}(h:mE S b b'=true)(n:notStar b'=true)(h2:mE S c c'=true)(n2:notStar c'=true)(env:Env)(cpos:Pos):
  ((backTo cpos (bm [b',c'] env)).all (λx=>!x.1)&&(backToKw cpos (keywordEach [] env)).all (λx=>x.1.isSome)
   &&decide (([b',c']:List Expr).length+([]:List Keyword).length+(if([]:List Keyword).isEmpty then 0 else 1)<30))=true:=
 vb (es:=.cons b (.cons c .nil)) (by show(mE S b b'&&notStar b'&&(mE S c c'&&notStar c'&&true))=true;rw[h,n,h2,n2];rfl) (ol rfl) env cpos
def DS {b:Ex}{b':Expr}(h:mE S b b'=true)(n:notStar b'=true)(env:Env)(cpos:Pos):
  ((backTo cpos (bm [b'] env)).all (λx=>!x.1)&&(backToKw cpos (keywordEach [] env)).all (λx=>x.1.isSome)
   &&decide (([b']:List Expr).length+([]:List Keyword).length+(if([]:List Keyword).isEmpty then 0 else 1)<30))=true:=
 vb (es:=.cons b .nil) (by show(mE S b b'&&notStar b'&&true)=true;rw[h,n];rfl) (ol rfl) env cpos
end
variable {a:Addr}
section
variable {X:Cx}{G:Gx}{S:Sn}{k:Nat}{E:St->XK}
set_option tactic.hygienic true in
def pw {x:V}{t:String}(h:tyName x H=some t):ke K H x (.type t):=by
 unfold tyName at h
 split at h
 .cases h;exact .non
 .cases h;exact .bl _
 .cases h;exact .int _
 .cases h;exact .str _
 .split at h
  .rename_i e;cases h;exact .lst e
  .rename_i e;cases h;exact .tup e
  .rename_i e;cases h;exact .dK (.inl e)
  .rename_i e;cases h;exact .dK (.inr ⟨_,e⟩)
  .cases h
 .cases h
def we {U:St}{Q:VK}{i:Nat}{b:Bool}{cv:Value}(g:Gd X G S k E)(I:Inv X Y U H s)(o:BG G H a i)
  (e:W.kitOne X.K (.ref (G.R.cad i)) cv=some b) (q:Q (.bl b) H):wpAny 0e0 X.A (call (.builtin "isinstance") [.ref a,cv]) (EP X Y U Q) X.xe s:=by
 rcases o with⟨ho,dx,fs,ha⟩|⟨ho,dx,fs,fr,ha⟩
 .obtain⟨c,z⟩:=g.tab.oc i ho;exact kc I (x:=.ref a) rfl (.ins ha c z.ha z.hn z.htk z.hm) e λtk=>⟨.bl b,H,I.tok _,rfl,q⟩
 .obtain⟨c,z⟩:=g.tab.xc i ho;exact An I ha c z e λtk=>⟨.bl b,H,I.tok _,rfl,q⟩
def Dr (g:Gd X G S k E)(j:Nat):d9 X (.builtin "isinstance") (λvs H Q=>∃ x,vs=[x,.ref (G.R.cad j)]/\nv G (.own j) x H Q):=by
 intro Y s U H xs us Q I r h;obtain⟨x,rfl,h⟩:=h;obtain⟨u,w',rfl,rx,rT⟩:=vals2 r;obtain rfl:w'=Value.ref (G.R.cad j):=rT;unfold nv at h;rcases h with⟨t,b,ht,hb,q⟩|⟨a,i,b,rfl,ho,hb,q⟩
 .exact kc I rx (pw ht) (g.tab.subO t j b hb) λtk=>⟨.bl b,H,I.tok _,rfl,q⟩
 .obtain rfl:u=Value.ref a:=rx;exact we g I ho (g.tab.sub i j b hb).1 q
def HR (g:Gd X G S k E)(n:String):d9 X (.builtin "isinstance") (λvs H Q=>∃ x,vs=[x,.ty n]/\nv G (.ty n) x H Q):=by
 intro Y s U H xs us Q I r h;obtain⟨x,rfl,h⟩:=h;obtain⟨u,w',rfl,rx,rT⟩:=vals2 r;obtain rfl:w'=Value.type n:=rT;unfold nv at h;rcases h with⟨t,b,ht,hb,q⟩|⟨a,i,b,rfl,ho,hb,q⟩
 .exact kc I rx (pw ht) (g.tab.subB t n b hb) λtk=>⟨.bl b,H,I.tok _,rfl,q⟩
 .obtain rfl:u=Value.ref a:=rx;exact we g I ho (g.tab.subT i n b hb) q
def D4 {n:String}(h:lK.contains n=true):bootBuiltins (n:Str)=some (.type n):=by
 have h':n ∈ lK:=by simpa using h
 simp only[lK,mo,not_mem_nil,or_false]at h';rcases h' with rfl|rfl|rfl|rfl|rfl|rfl|rfl<;>decide+kernel
abbrev Nl (G:Gx):Cl->V
 | .own c=>.ref (G.R.cad c)
 | .ty n=>.ty n
def Kn (g:Gd X G S k E){c:Cl}(h:CI S c e=true):PE X e (tC (Nl G c)):=by
 unfold CI at h
 split at h
 .simp only[nb,decide_eq_true_eq]at h;obtain⟨hg,hd⟩:=g.glob h.1;exact vS hg (g.tab.gcl _ _ (g.hT▸h.2)) rfl hd
 .simp only[nb,decide_eq_true_eq]at h;obtain⟨⟨⟨h1,rfl⟩,h3⟩,h4⟩:=h;obtain⟨hg,hd⟩:=g.glob h1;obtain⟨hm,hn⟩:=g.tab.gbl _ (g.hT▸h3);exact Ez hg hm (D4 h4) rfl hn hd
 .cases h
def Gw (g:Gd X G S k E)(c:Cl):d9 X (.builtin "isinstance") (λvs H Q=>∃ x,vs=[x,Nl G c]/\nv G c x H Q):=by
 cases c with
 |own j=>exact Dr g j
 |ty n=>exact HR g n
abbrev BK:Bf->Value
 | .len=>.builtin "len"| .list=>.type "list"| .tuple=>.type "tuple"| .int=>.type "int"| .str=>.type "str"| .min=>.builtin "min"| .max=>.builtin "max"| .abs=>.builtin "abs"| .all=>.builtin "all"| .any=>.builtin "any"| .dict=>.type "dict"| .sum=>.builtin "sum"| .range=>.type "range"
def Dc (b:Bf):bootBuiltins (Ar b:Str)=some (BK b):=by cases b<;>decide+kernel
def qD:d9 X (.type "dict") (λvs H Q=>∃ p kvs,vs=[.ref p]/\H p=some (.dK kvs)/\∀ l,H l=none->Q (.ref l) (upd H l (.dK kvs))):=by
 intro Y s U H xs us Q I r h;obtain⟨p,kvs,rfl,hp,q⟩:=h;obtain⟨u,rfl,rx⟩:=vals1 r;cases rx;exact zH I (.inl hp) λl s' hl J=>⟨.ref l,_,J,rfl,q l hl⟩
def KC (g:Gd X G S k E)(b:Bf):d9 X (BK b) (qq G b):=by
 intro Y s U H xs us Q I r h;unfold qq at h;rw[g.hK]at h;cases b with
 |len=>exact Az Y s U H _ us Q I r h
 |list=>
  rcases h with h|⟨hc,p,kvs,rfl,hp,q⟩|h
  .exact pW Y s U H _ us Q I r h
  .obtain⟨u,rfl,ru⟩:=vals1 r;cases ru;exact uu (g.cm hc) I hp q
  .exact h.elim
 |tuple=>exact nz Y s U H _ us Q I r h
 |int=>
  rcases h with h|z
  .exact xK Y s U H _ us Q I r h
  .exact z.elim
 |str=>
  rcases h with h|⟨z,rfl,q⟩
  .exact pP Y s U H _ us Q I r h
  .obtain⟨u,rfl,t,rfl⟩:=vals1 r;exact PySem.P.str_of_str ⟨.str z,H,I,⟨_,rfl⟩,q⟩
 |min=>
  rcases h with⟨hc,h|h⟩
  .exact yB (g.cm hc) Y s U H _ us Q I r h
  .exact h.elim
 |max=>exact h.elim
 |abs=>exact h.elim
 |all=>exact h.elim
 |any=>exact h.elim
 |dict=>exact qD Y s U H _ us Q I r h
 |sum=>exact h.elim
 |range=>exact h.elim
abbrev G3:Lm->String
 | .append=>"list.append"| .extend=>"list.extend"| .insert=>"list.insert"| .pop=>"list.pop"| .clear=>"list.clear"| .reverse=>"list.reverse"| .count=>"list.count"
def vI (m:Lm):Slot "list" (A7 m:Str) (G3 m):=by
 cases m
 .exact PySem.F.slot_list_append
 .exact PySem.F.slot_list_extend
 .exact PySem.F.slot_list_insert
 .exact PySem.F.slot_list_pop
 .exact PySem.F.slot_list_clear
 .exact PySem.F.slot_list_reverse
 .exact PySem.F.slot_list_count
def EO (m:Lm):typeOf (.builtin (G3 m))=pure (.type "method_descriptor"):=by cases m<;>rfl
def Ba (hu:X.A.units+200<cLine):KI X "list.index" (λx vs H Q=>∃ l y,x=.ref l/\vs=[y]/\zt X.K l y H Q):=by
 intro Y s U H x vs v us Q I rx rv h;obtain⟨l,y,rfl,rfl,h⟩:=h;unfold zt at h;obtain⟨xs,e,j,xj,hH,h10,he,hj,ej,hm,q⟩:=h;cases rx;cases rv with
 |cons ry rr=>
  cases rr;obtain⟨z,its,n,r,hl,eh⟩:=I.sQ hH;have ab:∀ (m:Nat) (hm:m<its.toArray.size),∃ x,xs[m]? =some x/\RelV x its.toArray[m]:=λm hm=>by
   have hlen:=r.length;have h1:xs[m]? =some (xs[m]'(by simp at hm;omega)):=li _;obtain⟨u,hu,ru⟩:=r.get h1;refine⟨_,h1,?_⟩;have:its.toArray[m]=u:=by
    have:=sw.mp hu;simpa using this.2
   rw[this];exact ru
  have hjl:=(sw.mp hj).1;have hlen:=r.length;have val:∀ (m:Nat) (hm:m<its.toArray.size) x,xs[m]? =some x->(match Gg its.toArray[m] with|some x=>e x|none=>false)=e x:=λm hm x hx=>by
   obtain⟨x',h1,h2⟩:=ab m hm;rw[hx]at h1;cases h1;rw[h2.abs]
  refine call_meets PySem.F.slot_list_index ⟨_,eh,rfl⟩ PySem.F.entry_list_index (PySem.F.args_list_index_2 _ _) (SeqAt.list_indexAt l its.toArray n none #[] _ (λu=>match Gg u with|some x=>e x|none=>false) j (by simp;omega) nofun ((val j (by simp;omega) xj hj).trans ej) (λm hm' hlt=>?_)) ⟨eh,λu hu'=>?_,?_⟩
  .obtain⟨x',h1,h2⟩:=ab m hm';rw[val m hm' x' h1];exact hm m x' hlt h1
  .obtain⟨m,hm',rfl⟩:=Array.getElem_of_mem hu';obtain⟨x',h1,h2⟩:=ab m hm';obtain⟨k,hk,ek⟩:=he x' (cr h1);have:=(l8 I ek (A:=X.A.in1) (by show X.A.units+_+k<cLine;omega) h2 ry).1;rw[val m hm' x' h1];exact this
  .exact⟨.int _,H,I.tok _,⟨_,rfl⟩,q⟩
abbrev Nt (m:Lm):V->List V->Hp->VK->Prop:=λx vs H Q=>∃ p xs,x=.ref p/\H p=some 4e8/\IY m p xs vs H Q
def Fi (m:Lm):KI X (G3 m) (Nt m):=by
 intro Y s U H x vs v us Q I rx rv h;obtain⟨p,xs,rfl,hp,h⟩:=h;unfold IY at h;cases m with
 |append=>
  obtain⟨y,rfl,h⟩:=h;exact kj Y s U H _ _ v us Q I rx rv ⟨p,xs,_,rfl,rfl,hp,Nat.lt_of_le_of_lt h.1 1e1,h.2⟩
 |extend=>
  obtain⟨b,zs,rfl,hz,hl,q⟩:=h;exact yH Y s U H _ _ v us Q I rx rv ⟨p,_,xs,zs,rfl,rfl,hp,hz,oE nofun,q⟩
 |insert=>exact h.elim
 |pop=>exact h.elim
 |clear=>exact h.elim
 |reverse=>exact h.elim
 |count=>exact h.elim
def AD {m:Str}{apos pos:Pos}{ta:TE}{t:TA}{pl:Sem Bool}{n:Nat}(g:Gd X G S k E)(hc:G.cm=G.cm)(he:PE X o ta)(ha:PA X es t)
  (hnil:es=[]->∀ U H R,t U H R->R [] H) (hst:∀ e r,es=e::r->bm es X.env=(false,eval e X.env)::bm r X.env) (hpl:∀ e r,es=e::r->(backTo pos (bm r X.env)).any (·.1)=false)
  (ht:eval (.Call (.Attribute o m apos) es [] pos) X.env=(do
   let ov <-eval o X.env
   standAt apos.atName
   let(f,first) <-holding [ov] (getMethod ov m pl)
   callWith pos f first (backTo pos (bm es X.env)) (backToKw pos (keywordEach [] X.env)))):
  PE X (.Call (.Attribute o m apos) es [] pos) (λU H Q=>ta U H λx H1=>∃ p i dx fs f,x=.ref p/\H1 p=some (.ins (G.R.cad i) dx fs)/\fs.lookup m=none/\G.T.me.lookup (i,m)=some f/\
   t U H1 λvs H2=>G.Cd f (x::(vs++dflt G f n)) H2 Q (E U)):=by
 intro Y s U H Q I h;refine W.methodCall_KW (pl:=pl) (bW (he Y s U H _ I h) λu s1 ⟨x,H1,I1,rx,a,i,dx,fs,f,ex,ea,l,hf,q⟩=>?_) ht;subst ex;obtain rfl:u=Value.ref a:=rx;obtain⟨c,hm,d,hd⟩:=g.tab.me i m f hf;obtain⟨fd,F,B⟩:=(g.fns f d hd).fact;have hr:cg k X.A:=g.room.mono (Nat.le_succ _);obtain⟨ds,hb,hv⟩:∃ ds,Binds X.K fd d.ps ds/\Vals (dflt G f n) ds:=by
  unfold dflt;rw[hd];exact B _
 refine vn I1 ea c hm l ?_;cases es with
 |nil=>
  refine W.callWith_K0 (first:=[.ref a]) I1.cp hm.kp ?_;exact mM (us:=[.ref a]) (vs:=[.ref a]) F g.hh hr hb hv g.pass I1 (.cons rfl .nil) (hnil rfl _ _ _ q)
 |cons e r=>
  refine W.callWith_K (first:=[.ref a]) (h₀:=X.base) I.ok.mod.kin hm.kp (uI (ha pos Y s1 U H1 _ I1 q) λus s2 vs H2 I2 r q2=>⟨I2.cp,?_⟩) (hst e r rfl) (hpl e r rfl);exact mM (us:=.ref a::us) (vs:=.ref a::vs) F g.hh hr hb hv g.pass I2 (.cons rfl r) q2
end
def E4 {α β:Type}{f:α->Option β}:∀ {l:List α}{j:Nat}{y:β},(∀ a ∈ l,(f a).isSome=true)->(l.filterMap f)[j]? =some y->∃ a,l[j]? =some a/\f a=some y
 | [],_,_,_,h=>by simp at h
 |a::l,j,y,hs,h=>by
  obtain⟨b,hb⟩:=Option.isSome_iff_exists.mp (hs a lw);rw[filterMap_cons,hb]at h;cases j with
  |zero=>simp at h;exact⟨a,rfl,by rw[hb,h]⟩
  |succ j=>
   simp at h;obtain⟨a',h1,h2⟩:=E4 (λa ha=>hs a (dl _ ha)) h;exact⟨a',by simpa using h1,h2⟩
def Bc {α β:Type}{f:α->Option β}:∀ {l:List α},(∀ a ∈ l,(f a).isSome=true)->(l.filterMap f).length=l.length
 | [],_=>rfl
 |a::l,hs=>by
  obtain⟨b,hb⟩:=Option.isSome_iff_exists.mp (hs a lw);rw[filterMap_cons,hb];simp[Bc (λa ha=>hs a (dl _ ha))]
abbrev mf (env:Env):Str×NameKind->List (Str×Addr)->Sem (ForInStep (List (Str×Addr))):=λnk r=>do
 let cs:=r
 if(nk.2 ==NameKind.free)=true then do
  let a <-cellOf env nk.1
  pure (ForInStep.yield ((nk.1,a)::cs))
 else pure (ForInStep.yield cs)
def qC {env:Env}:∀ (names:List (Str×NameKind)) (cs:List (Str×Addr)),(∀ y ∈ names,y.2=.free->∃ c,env.cells.lookup y.1=some c)->
  ∃ cl,(forIn names cs (mf env):Sem _)=pure cl/\(∀ y c,cl.lookup y=some c->cs.lookup y=some c\/env.cells.lookup y=some c)/\(∀ y,(cs.lookup y).isSome=true->(cl.lookup y).isSome=true)/\∀ y ∈ names,y.2=.free->(cl.lookup y.1).isSome=true
 | [],cs,_=>⟨cs,rfl,λy c h=>.inl h,λy h=>h,λy hy=>absurd hy 2e5⟩
 |(n,kd)::r,cs,h=>by
  by_cases hk:kd=.free
  .subst hk;obtain⟨c,hc⟩:=h (n,.free) lw rfl;obtain⟨cl,h1,h2,h3,h4⟩:=qC r ((n,c)::cs) λy hy=>h y (dl _ hy)
   have self:(((n,c)::cs).lookup n).isSome=true:=by simp[lookup_cons]
   refine⟨cl,?_,λy d q=>?_,λy q=>h3 y ?_,λy hy hf=>?_⟩
   .rw[forIn_cons];have e:mf env (n,.free) cs=pure (ForInStep.yield ((n,c)::cs)):=by
     unfold mf;simp only[cellOf,hc]
     rfl
    rw[e];exact h1
   .rcases h2 y d q with q|q
    .rw[lookup_cons]at q
     by_cases e:y=n
     .subst e;simp at q;subst q;exact .inr hc
     .rw[show(y ==n)=false from beq_eq_false_iff_ne.mpr e]at q;exact .inl q
    .exact .inr q
   .rw[lookup_cons];cases(y ==n)<;>simp[q]
   .rcases mo.mp hy with rfl|hy
    .exact h3 _ self
    .exact h4 y hy hf
  .obtain⟨cl,h1,h2,h3,h4⟩:=qC r cs λy hy=>h y (dl _ hy)
   refine⟨cl,?_,h2,h3,λy hy hf=>?_⟩
   .rw[forIn_cons];have e:mf env (n,kd) cs=pure (ForInStep.yield cs):=by
     unfold mf;cases kd<;>first|rfl|exact absurd rfl hk
    rw[e];exact h1
   .rcases mo.mp hy with rfl|hy
    .exact absurd hf hk
    .exact h4 y hy hf
variable {scope:Scope}
def DN {env:Env}(h:∀ y ∈ scope.names,y.2=.free->∃ c,env.cells.lookup y.1=some c):
  ∃ cl,closureFor scope env=pure cl/\(∀ y c,cl.lookup y=some c->env.cells.lookup y=some c)/\∀ y ∈ scope.names,y.2=.free->(cl.lookup y.1).isSome=true:=by
 obtain⟨cl,h1,h2,_,h4⟩:=qC scope.names [] h;refine⟨cl,?_,λy c q=>(h2 y c q).resolve_left 2e5,h4⟩;have e:closureFor scope env=(forIn scope.names [] (mf env) >>= λcs=>pure cs):=by
  unfold closureFor mf
  rfl
 rw[e,h1]
 rfl
variable {xs:List Str}{sel:List Nat}
section
variable {X:Cx}{G:Gx}{S:Sn}{k:Nat}{E:St->XK}
def rP (g:Gd X G S k E)(scope:Scope):relabel scope X.env=fu S.sc scope:=by
 unfold relabel fu Env.kindOf;rw[g.sc]
set_option tactic.hygienic true in
def dq (g:Gd X G S k E)(ok:X.Ok)(h:iI S scope xs sel=true):∃ cl,bU X scope cl xs (sel.filterMap λi=>S.N[i]?) sel:=by
 unfold iI at h;simp only[nb,decide_eq_true_eq,all_eq_true,Bool.or_eq_true,bne_iff_ne,ne_eq]at h;obtain⟨⟨⟨⟨⟨h1,h2⟩,h3⟩,h4⟩,h5⟩,h6⟩:=h;have hs:∀ i ∈ sel,(S.N[i]?).isSome=true:=λi hi=>by
  have:=h5 i hi
  split at this
  .rename_i e;rw[e];rfl
  .cases this
 obtain⟨cl,c1,c2,c3⟩:=DN (env:=X.env) (scope:=scope) λy hy hf=>ok.has y.1 (.inl (by
  show X.env.scope.names.lookup y.1=_;rw[g.sc];exact((h3 y hy).2).resolve_left λz=>z hf))
 refine⟨cl,⟨c1,c2,λy hy=>?_,h1,λy hy=>(h3 y hy).1.1,λy hy hl=>((h3 y hy).1.2).resolve_left λz=>z hl,h4,(Bc hs).symm,λj y hj=>?_,h6⟩⟩
 .have:∃ kd,(y,kd) ∈ scope.names/\kd=.free:=by
   rcases hy with hy|hy
   .obtain⟨kd,m,q⟩:=fc hy;rcases q with q|q
    .subst q;exact absurd rfl (h3 _ m).1.1
    .exact⟨kd,m,q.1⟩
   .obtain⟨kd,m,q⟩:=fc hy;rcases q with q|q
    .exact⟨kd,m,q.symm⟩
    .exact nomatch q.2
  obtain⟨kd,m,rfl⟩:=this;exact Option.isSome_iff_exists.mp (c3 _ m rfl)
 .obtain⟨i,hi,hn⟩:=E4 hs hj;have q:=h5 i (cr hi);rw[hn]at q;simp only[nb,decide_eq_true_eq]at q;refine⟨i,hi,by rw[g.N];exact hn,by rw[g.sc];exact q.1,by rw[rP g];exact q.2⟩
def Gd.comp (g:Gd X G S k E)(hc:G.cm=.calm){cl:List (Str×Addr)}(C:bU X scope cl xs (sel.filterMap λi=>S.N[i]?) sel) (E0:XK) (s:Shared) (H:Hp) (fp:List Addr):
  Gd (fQ X scope cl (xs++sel.filterMap λi=>S.N[i]?) s H fp E0) G { S with sc:=fu S.sc scope,N:=xs++sel.filterMap λi=>S.N[i]? } k (λ_=>E0) where
 hK:=g.hK
 hT:=g.hT
 sc:=rP g scope
 N:=rfl
 nd:=C.nd
 pass:=gZ EX
 hd:=by
  have h:=g.hd;rw[hc]at h⊢;exact h
 xok:=EX
 xst:=g.xst
 room:=g.room
 un:=g.un
 tab:=g.tab
 fns:=g.fns
 fnsU:=g.fnsU
set_option tactic.hygienic true in
def rS (env:Env):∀ {is:List Nat}{ts:List Expr},zf S is ts=true->(assignEach ts env).length=is.length/\(assignEach ts env).findIdx? (·.1)=none
 | [],[],_=>⟨rfl,rfl⟩
 | [],_::_,h=>by simp[zf]at h
 |_::_,[],h=>by simp[zf]at h
 |i::is,t::ts,h=>by
  cases t<;>simp[zf]at h
  rename_i x p;obtain⟨h1,h2⟩:=rS env h.2;have e:assignEach (.Name x p::ts) env=(false,assign (.Name x p) env)::assignEach ts env:=rfl;rw[e];refine⟨by simp[h1],?_⟩;rw[List.findIdx?_cons];simp[h2]
set_option tactic.hygienic true in
def v9 (g:Gd X G S k E):∀ {is:List Nat}{ts:List Expr},zf S is ts=true->HZ X ts (gl is)
 | [],[],_=>λY s U H vs us Q I r h=>pN Y s U H vs us Q I r ⟨length_eq_zero_iff.mp h.1,by
   have:=h.2;have e:vs=[]:=length_eq_zero_iff.mp h.1;subst e;exact this⟩
 | [],_::_,h=>by simp[zf]at h
 |_::_,[],h=>by simp[zf]at h
 |i::is,t::ts,h=>by
  cases t<;>simp[zf]at h
  rename_i x p;have hl:X.env.scope.names.lookup x=some .local:=by rw[g.sc];exact h.1.2
  have h1:PG X (.Name x p) (ja i):=jb (by rw[g.N];exact g.nd) (by rw[g.N];exact h.1.1) (.inl hl) (.inr hl);have h2:=v9 g h.2;intro Y s U H vs us Q I r q;refine jd h1 h2 rfl Y s U H vs us Q I r ?_;obtain⟨hl,q⟩:=q;cases vs with
  |nil=>simp at hl
  |cons v vs=>exact⟨v,vs,rfl,by simpa using hl,q⟩
def wo (g:Gd X G S k E)(hc:G.cm=.calm){n kt:Nat}{ts:List Expr}{pt:Pos}(h:zf S (List.range n) ts=true):PG X (.Tuple ts kt pt) (DO G.R.K n (gl (List.range n))):=by
 obtain⟨e1,e2⟩:=rS X.env h;rw[length_range]at e1;rw[g.hK];exact qx (g.cm hc) (v9 g h) e1 e2
def wM {n:Nat}(h:xs.length=n):tI xs=sn n none:=by
 subst h;unfold tI;rw[List.map_const']
end
set_option maxHeartbeats 2000000
variable {r:List Expr}{p:Pos}{U:L2.St}{s1:Shared}{R:It->Hp->Prop}{keys:List (Option Expr)}
section
variable {G:Gx}{k:Nat}
def mC {o1 o2:CmpOp}{c:Expr}(h:cI c=true):lastMarks [o1,o2] [b,c]=false:=by
 show behindInMarks o2 c=false;exact dH h _
def mZ {o1 o2 o3:CmpOp}{c d:Expr}(h:cI d=true):lastMarks [o1,o2,o3] [b,c,d]=false:=by
 show behindInMarks o3 d=false;exact dH h _
def Bk {t:TE}(h:PE X (match r with| []=>b|_=>.BoolOp .And (b::r) p) t):PE X (.BoolOp .And (b::r) p) t:=by
 cases r with
 |nil=>exact Bs h
 |cons c r=>exact h
def zF {t:TE}(h:PE X (match r with| []=>b|_=>.BoolOp .Or (b::r) p) t):PE X (.BoolOp .Or (b::r) p) t:=by
 cases r with
 |nil=>exact Bs h
 |cons c r=>exact h
def EJ {op:BoolOp}(h:PT X (.BoolOp op l p) t):PW X (.BoolOp op l p) t:=λwhole Y s U H Q I q=>by
 have:=h Y s U H Q I q;exact this
def AS (h:PT X (match r with| []=>b|_=>.BoolOp .And (b::r) p) t):PW X (.BoolOp .And (b::r) p) t:=by
 cases r with
 |nil=>exact CY h
 |cons c r=>exact EJ h
def AN (h:PT X (match r with| []=>b|_=>.BoolOp .Or (b::r) p) t):PW X (.BoolOp .Or (b::r) p) t:=by
 cases r with
 |nil=>exact F6 h
 |cons c r=>exact EJ h
def CH:Lr X (unaryOp .USub) (λx H Q=>match x with| .int i=>Q (.int (-i)) H|_=>False):=by
 intro Y s U H x v Q I r h
 split at h
 .exact(L2.GS Y s U H _ v Q I r ⟨_,rfl,h⟩)
 .exact h.elim
def xM {c:Bool}{CX:vf}{C f:Addr}{fd:FuncData}{ps:List Str}{sp:Sp}{dvs:List V}{ds:List Value}{E:St->XK}{pos:Pos}(M:Lb X.K C f)(F:dQ c X.prog X.w X.K X.mg X.base CX k f fd ps sp)(hh:∀ {Y:NY}{U:St}{H:Hp}{s:Shared}{vs:List V}{Q:VK}{E:XK},Inv X Y U H s->sp vs H Q E->xT c X.A.handled H) (hr:cg (k+1) X.A) (hg:Gl X x) (hm:X.mg x=some 2e4) (hb:Binds X.K fd ps ds) (hd:Vals dvs ds) (hx:Passes CX X E)
  (hdb:2e7=false):PE X (.Call (.Name x p) [] [] pos) (AO C sp dvs E Dp):=by
 intro Y s U H Q I h;refine bv (bM I hg hm ?_ hdb);exact W.callWith_K0 I.cp M.kp (pf (us:=[]) M F hh hr hb hd hx (Nat.zero_le _) I .nil h.2)
def cF.bL {f:Value->Value->Sem Value}{r:R2}(h:cF X f r):cF X f (λx y H R=>∃ Q,r x y H Q/\∀ z H1,Q z H1->R z H1):=λY s U H x y v u R I rx ry ⟨Q,q,i⟩=>
 cR (h Y s U H x y v u Q I rx ry q) λ_ _ v H' J r z=>⟨v,H',J,r,i _ _ z⟩
section
open PyProof.Rows
def yD {tg:Expr}{H1:Hp}{v:Value}{xs:List V}(I1:Inv X Y U H1 s1)(r:RelV 3e6 v)(hq:bB X.K H1 a xs)(q:R (Ef X.K a) H1):
  wpAny 0e0 X.A (pyIter v) (LF X Y U tg R) X.xe s1:=by
 cases r;obtain⟨its,rv,p,hz⟩:=I1.list hq;refine wpAny_pyIter_list p.isList ?_;refine⟨s1.heap.objs.size,[s1.heap.objs.size],_,_,H1,rfl,I1.kept (t':=s1.toks) λb o e=>sK _ e,xt a _,⟨_,ul _ rfl,rfl,rfl⟩,λb hb=>?_,q⟩;have e:b=s1.heap.objs.size:=by simpa using hb
 subst e;exact I1.Ah (pi _) (I1.hok.fresh (pi _))
def Ae {tg:Expr}{H1:Hp}{v:Value}{xs:List V}(I1:Inv X Y U H1 s1)(r:RelV 3e6 v)(hq:bP X.K H1 a xs)(q:R (K4 X.K a) H1):
  wpAny 0e0 X.A (pyIter v) (LF X Y U tg R) X.xe s1:=by
 cases r;obtain⟨its,rv,p,hz⟩:=I1.tuple hq;refine wpAny_pyIter_tuple (show s1.heap.IsTuple a its.toArray from p) ?_;refine⟨s1.heap.objs.size,[s1.heap.objs.size],_,_,H1,rfl,I1.kept (t':=s1.toks) λb o e=>sK _ e,uc a _,⟨_,ul _ rfl,rfl,rfl⟩,λb hb=>?_,q⟩;have e:b=s1.heap.objs.size:=by simpa using hb
 subst e;exact I1.Ah (pi _) (I1.hok.fresh (pi _))
end
def HU {x:V}{Q:Bool->Hp->Prop}(h:Gh K x H Q):∃ k,Eb K x H k/\Q k H:=by
 unfold Gh at h
 split at h
 .exact⟨_,rfl,h⟩
 .exact h
abbrev Lv:List Str->List V->List (V×V)
 |k::ks,x::xs=>(.str k,x)::Lv ks xs
 |_,_=>[]
def AQ:∀ {ks:List Str}{xs:List V},Lv ks xs=(FN ks xs).map (λkv=>(kV kv.1,kv.2))
 | [],_=>rfl
 |_::_,[]=>rfl
 |k::ks,x::xs=>by
  show(V.str k,x)::Lv ks xs=(kV (.inr k),x)::(FN ks xs).map _;rw[AQ]
  rfl
def wD:∀ {ks:List Str}{xs:List V},(FN ks xs).length<=ks.length
 | [],_=>pi _
 |_::_,[]=>Nat.zero_le _
 |k::ks,x::xs=>Nat.succ_le_succ wD
set_option tactic.hygienic true in
def ki {k:Str}{ks:List Str}(h:qI (k::ks) keys=true):∃ j p r,keys=some (.Constant (.str k) j p)::r/\qI ks r=true:=by
 unfold qI at h
 split at h
 .rename_i e;cases e
 .rename_i k' ks' x j p r e
  injection e with e1 e2
  subst e1 e2;simp only[nb,decide_eq_true_eq]at h;obtain⟨rfl,h⟩:=h;exact⟨_,_,_,rfl,h⟩
 .cases h
def lZ (h:qI [] keys=true):keys=[]:=by
 cases keys with
 |nil=>rfl
 |cons a r=>cases(show false=true from h)
def rF:∀ {ks:List Str}{keys:List (Option Expr)},qI ks keys=true->keys.length=ks.length
 | [],keys,h=>by rw[lZ h];rfl
 |k::ks,keys,h=>by
  obtain⟨j,p,r,rfl,h2⟩:=ki h;rw[length_cons,length_cons,rF h2]
def sr:∀ {ks:List Str}{keys:List (Option Expr)},qI ks keys=true->keys.all (·.isSome)=true
 | [],keys,h=>by rw[lZ h];rfl
 |k::ks,keys,h=>by
  obtain⟨j,p,r,rfl,h2⟩:=ki h;rw[all_cons,sr h2]
  rfl
def AY {S:Sn}:∀ {x:iY}{e:List Expr},ku S x e=true->e.length=x.len
 | .nil,[],_=>rfl
 | .nil,_::_,h=>by cases(show false=true from h)
 | .cons x xs,[],h=>by cases(show false=true from h)
 | .cons x xs,e::es,h=>by
  have h:(mE S x e&&notStar e&&ku S xs es)=true:=h;simp only[nb]at h;exact congrArg Nat.succ (AY h.2)
set_option tactic.hygienic true in
mutual
theorem sE:∀ (x:Ex){G:Gx}{X:Cx}{S:Sn}{E:St->XK},Gd X G S k E->∀ {e:Expr},mE S x e=true->PE X e (λU H Q=>wE G x U H Q (E U))
 | .v i,G,X,S,E,g,e,h=>by
  sleep 1
  simp only[nb,decide_eq_true_eq]at h;obtain⟨h1,h2⟩:=h;obtain⟨v1,v2,v3⟩:=g.GK h2;refine PE.imp (HB (i:=i) (by rw[g.N];exact h1) v1 v2 v3) λU H Q q=>?_
  conv at q=>whnf
  split at q
  .rename_i e;exact⟨_,e,q⟩
  .exact q.elim
 | .int i,G,X,S,E,g,e,h=>by
  sleep 2
  simp only[decide_eq_true_eq]at h;subst h;exact F0
 | .bl i,G,X,S,E,g,e,h=>by
  sleep 2
  simp only[decide_eq_true_eq]at h;subst h;exact KR
 | .non,G,X,S,E,g,e,h=>by
  sleep 2
  exact Ga
 | .str i,G,X,S,E,g,e,h=>by
  sleep 2
  simp only[decide_eq_true_eq]at h;subst h;exact BN
 | .gl x,G,X,S,E,g,e,h=>by
  sleep 1
  simp only[nb,decide_eq_true_eq]at h;obtain⟨rfl,h2⟩:=h;obtain⟨hg,hd⟩:=g.glob h2;intro Y s U H Q I q
  conv at q=>whnf
  split at q
  .rename_i v e;obtain⟨u,hm,r⟩:=g.tab.gl _ v e;exact vS hg hm r hd Y s U H Q I q
  .exact q.elim
 | .bin op a b,G,X,S,E,g,e,h=>by
  sleep 1
  simp only[nb,decide_eq_true_eq]at h;obtain⟨⟨rfl,ha⟩,hb⟩:=h;exact KW (g.bin op) (sE a g ha) (sE b g hb)
 | .neg a,G,X,S,E,g,e,h=>by
  sleep 2
  exact JV CH (sE a g h)
 | .not a,G,X,S,E,g,e,h=>by
  sleep 2
  refine PE.imp (GH (PE.bL (sE a g h))) λU H Q q=>⟨_,q,λx H1 z=>?_⟩
  split at z
  .exact⟨_,rfl,z⟩
  .exact z.elim
 | .and a b,G,X,S,E,g,e,h=>by
  sleep 3
  simp only[nb]at h;refine PE.imp (FH (PE.bL (sE a g h.1)) (Bk (sE b g h.2))) λU H Q q=>⟨_,q,λx H1 z=>?_⟩
  split at z
  .rw[cw]at z;exact⟨_,rfl,z⟩
  .exact z.elim
 | .or a b,G,X,S,E,g,e,h=>by
  sleep 3
  simp only[nb]at h;refine PE.imp (Kw (PE.bL (sE a g h.1)) (zF (sE b g h.2))) λU H Q q=>⟨_,q,λx H1 z=>?_⟩
  split at z
  .rw[cw]at z;exact⟨_,rfl,z⟩
  .exact z.elim
 | .cmp op a b,G,X,S,E,g,e,h=>by
  sleep 3
  simp only[nb,decide_eq_true_eq]at h;obtain⟨⟨⟨rfl,ha⟩,hb⟩,hn⟩:=h;exact CP (g.cmp op) (sE a g ha) (sE b g hb) (dH hn _)
 | .cmp2 o1 o2 a b c,G,X,S,E,g,e,h=>by
  sleep 3
  simp only[nb,decide_eq_true_eq]at h;obtain⟨⟨⟨⟨⟨rfl,rfl⟩,ha⟩,hb⟩,hc⟩,hn⟩:=h;refine PE.imp (zE (cF.bL (g.cmp o1)) (g.cmp o2) (PE.bL (sE a g ha)) (PE.bL (sE b g hb)) (sE c g hc) (mC hn)) λU H Q q=>5e8
  split at q3
  .rw[cw]at q3;exact⟨_,rfl,q3⟩
  .exact q3.elim
 | .cmp3 o1 o2 o3 a b c d,G,X,S,E,g,e,h=>by
  sleep 3
  simp only[nb,decide_eq_true_eq]at h;obtain⟨⟨⟨⟨⟨⟨⟨rfl,rfl⟩,rfl⟩,ha⟩,hb⟩,hc⟩,hd⟩,hn⟩:=h;refine PE.imp (xO (cF.bL (g.cmp o1)) (cF.bL (g.cmp o2)) (g.cmp o3) (PE.bL (sE a g ha)) (PE.bL (sE b g hb)) (PE.bL (sE c g hc)) (sE d g hd) (mZ hn)) λU H Q q=>5e8
  split at q3
  .refine⟨_,rfl,?_⟩;rw[cw]at q3
   split at q3
   .rename_i hk;rw[if_pos hk];refine⟨_,q3,λw H4 q4=>⟨_,q4,λz' H5 q5=>?_⟩⟩
    split at q5
    .rw[cw]at q5;exact⟨_,rfl,q5⟩
    .exact q5.elim
   .rename_i hk;rw[if_neg hk];exact q3
  .exact q3.elim
 | .ife c a b,G,X,S,E,g,e,h=>by
  sleep 1
  simp only[nb]at h;exact PE.imp (zQ (PT.bL (sT c g h.1.1)) (sE a g h.1.2) (sE b g h.2)) λU H Q q=>⟨_,q,λk H1 z=>by rwa [cw]at z⟩
 | .tup es,G,X,S,E,g,e,h=>by
  sleep 1
  refine PE.imp (GV (PA.bL (uZ es g h))) λU H Q q=>⟨_,q,λx H1 z=>by unfold qt at z;exact⟨oE (by have:=z.1;omega),z.2⟩⟩
 | .lst es,G,X,S,E,g,e,h=>by
  sleep 1
  refine PE.imp (IB (PA.bL (uZ es g h))) λU H Q q=>⟨_,q,λx H1 z=>by unfold D8 at z;exact⟨oE (by have:=z.1;omega),z.2⟩⟩
 | .ix a i,G,X,S,E,g,e,h=>by
  sleep 1
  simp only[nb]at h;have hr:K1 X (tH G.R.K):=g.hK▸uM g.un;exact Ke hr (sE a g h.1.1) (sE i g h.1.2) (tW h.2)
 | .sl a lo hi,G,X,S,E,g,e,h=>by
  sleep 3
  simp only[nb]at h;have hr:Ls X (IU G.R.K):=g.hK▸FK;exact zG hr (sE a g h.1.1) (sO lo g h.1.2) (sO hi g h.2)
 | .fld a f,G,X,S,E,g,e,h=>by
  sleep 1
  simp only[nb,decide_eq_true_eq]at h;obtain⟨⟨ha,rfl⟩,hn⟩:=h;intro Y s U H Q I q;have q':wE G a U H (λx H1=>uL G f x H1 Q) (E U):=q;refine EB (bt hn _ _ _) (cR (sE a g ha Y s U H _ I q') λu s1 x H1 I1 rx qf=>?_);unfold uL at qf;obtain⟨a,i,fs,v,ex,ea,hna,l,q⟩:=qf;subst ex;obtain rfl:u=Value.ref a:=rx;have n:=g.tab.na i f hna;rcases ea with⟨ho,dx,ea⟩|⟨ho,dx,fr,ea⟩
  .exact vm I1 ea (g.tab.oc i ho).1 n l λu' s' J rv=>⟨v,H1,J,rv,q⟩
  .exact xY I1 ea (g.tab.xc i ho).1 n l λu' s' J rv=>⟨v,H1,J,rv,q⟩
 | .call f es,G,X,S,E,g,e,h=>by
  sleep 3
  rename_i es' pos _ xn p1 _;simp only[nb,decide_eq_true_eq]at h;obtain⟨⟨h1,h2⟩,h3⟩:=h;obtain⟨hg,hdb⟩:=g.glob h1;obtain⟨hm,hk,d,hd⟩:=g.tab.gfn _ _ (g.hT▸h2);obtain⟨fd,F,B⟩:=(g.fns f d hd).fact;obtain⟨ds,hb,hv⟩:∃ ds,Binds X.K fd d.ps ds/\Vals (dflt G f es.len) ds:=by
   unfold dflt;rw[hd];exact B _
  intro Y s U H Q I q;obtain⟨hc,q⟩:=(show G.cm=G.cm/\wEs G es U H (λvs H1=>G.Cd f (vs++dflt G f es.len) H1 Q (E U)) (E U) from q);have hr:cg k X.A:=g.room.mono (Nat.le_succ _);cases es' with
  |nil=>
   cases es with
   |nil=>exact Bu F g.hh hr hg hm hk hb hv g.pass hdb Y s U H Q I q
   |cons _ _=>cases(show false=true from h3)
  |cons e0 er=>
   have PAs:=uZ es g h3;obtain⟨ns,x0,xr,rfl,h4⟩:=bI h3;exact Ec F g.hh hr hg hm hk hb hv g.pass PAs hdb (af ns) (bc h4 _ _) Y s U H Q I q
 | .meth a m es,G,X,S,E,g,e,h=>by
  sleep 3
  rename_i es' pos _ a' m' apos _;simp only[nb,decide_eq_true_eq]at h;obtain⟨⟨⟨⟨⟨ha,rfl⟩,h3⟩,h4⟩,h5⟩,h6⟩:=h;intro Y s U H Q I q;obtain⟨hc,q⟩:=(show G.cm=G.cm/\_ from q);refine AD (n:=es.len+1) g hc (sE a g ha) (uZ es g h3) (λz U H R hr=>?_) (λe r z=>?_) (λe r z=>?_) (jX h4 (qc h3 h6 _ _) h5) Y s U H Q I q
  .subst z;cases es with
   |nil=>exact hr
   |cons _ _=>cases(show false=true from h3)
  .subst z;exact af (bI h3).1
  .subst z;have PAs:=uZ es g h3;obtain⟨ns,x0,xr,rfl,h4⟩:=bI h3;exact bc h4 _ _
 | .lm m a es,G,X,S,E,g,e,h=>by
  sleep 3
  rename_i es' pos _ a' m' apos _;simp only[nb,decide_eq_true_eq]at h;obtain⟨⟨⟨⟨⟨ha,rfl⟩,h3⟩,h4⟩,h5⟩,h6⟩:=h;cases es' with
  |nil=>
   cases es with
   |nil=>exact PE.imp (Gq PySem.F.plainAttrs_list (vI m) (EO m) (Fi m) (PE.bL (sE a g ha)) (bt h4 _ _ _) h5) λU H Q q=>⟨_,q,λx H1 z=>by
     obtain⟨p,xs0,ex,hp,q⟩:=z;subst ex;obtain⟨xs,h1,h2⟩:=q;exact⟨.inl ⟨rfl,xs0,bB.of hp⟩,p,xs,rfl,h1,h2⟩⟩
   |cons _ _=>cases(show false=true from h3)
  |cons e0 er=>
   have PAs:=uZ es g h3;obtain⟨ns,x0,xr,rfl,h7⟩:=bI h3;exact PE.imp (Fb PySem.F.plainAttrs_list (vI m) (EO m) (Fi m) (PE.bL (sE a g ha)) (PA.bL PAs) (bt h4 _ _ _) (vb h3 h6 _ _) h5 (af ns) (bc h7 _ _)) λU H Q q=>⟨_,q,λx H1 z=>by
     obtain⟨p,xs0,ex,hp,q⟩:=z;subst ex;exact⟨.inl ⟨rfl,xs0,bB.of hp⟩,_,q,λvs H2 ⟨xs,h1,h2⟩=>⟨p,xs,rfl,h1,h2⟩⟩⟩
 | .dget a k d,G,X,S,E,g,e,h=>by
  sleep 4
  simp only[nb,decide_eq_true_eq]at h;obtain⟨⟨⟨⟨⟨⟨⟨ha,rfl⟩,h3⟩,n1⟩,h6⟩,n2⟩,h4⟩,h5⟩:=h;exact PE.imp (G5 (PE.bL (sE a g ha)) (jL (PE.bL (sE k g h3)) (jL (PE.bL (sE d g h6)) fe n2) n1) (bt h4 _ _ _) (Cz h3 n1 h6 n2 _ _) h5 (af n1) (by rw[af n2];rfl)) λU H Q q=>⟨_,q,λx H1 z=>by
   obtain⟨p,kvs0,ex,hp,q⟩:=z;exact⟨p,kvs0,ex,hp,_,q,λy H2 z=>⟨_,z,λw H3 z=>by
    unfold C9 at z;obtain⟨kvs,k,e1,e2,q⟩:=z;subst e2;exact⟨kvs,k,w,rfl,e1,q⟩⟩⟩⟩
 | .rev a b,G,X,S,E,g,e,h=>by cases(show false=true from h)
 | .dupd a b,G,X,S,E,g,e,h=>by cases(show false=true from h)
 | .lix a b,G,X,S,E,g,e,h=>by
  sleep 4
  simp only[nb,decide_eq_true_eq]at h;obtain⟨⟨⟨⟨⟨ha,rfl⟩,h3⟩,n1⟩,h4⟩,h5⟩:=h;exact PE.imp (Fb PySem.F.plainAttrs_list PySem.F.slot_list_index rfl (Ba g.un) (PE.bL (sE a g ha)) (jL (PE.bL (sE b g h3)) fe n1) (bt h4 _ _ _) (DS h3 n1 _ _) h5 (af n1) rfl) λU H Q q=>⟨_,q,λx H1 z=>by
   obtain⟨p,xs0,ex,hp,q⟩:=z;subst ex;exact⟨.inl ⟨rfl,xs0,bB.of hp⟩,_,q,λy H2 z=>⟨p,y,rfl,rfl,g.hK▸z⟩⟩⟩
 | .make c es,G,X,S,E,g,e,h=>by
  sleep 3
  rename_i es' pos _ xn p1 _;simp only[nb,decide_eq_true_eq]at h;obtain⟨⟨h1,h2⟩,h3⟩:=h;obtain⟨hg,hdb⟩:=g.glob h1;have hm:=g.tab.gcl _ _ (g.hT▸h2);intro Y s U H Q I q
  conv at q=>whnf
  obtain⟨hc,q⟩:=q
  split at q
  .obtain⟨h0,q⟩:=q;cases es' with
   |nil=>
    cases es with
    |nil=>exact absurd q.1 1e1
    |cons _ _=>cases(show false=true from h3)
   |cons e0 er=>
    have PAs:=uZ es g h3;obtain⟨ns,x0,xr,rfl,h4⟩:=bI h3;exact zR (g.tab.ini0 c h0) hg hm PAs hdb (af ns) (bc h4 _ _) Y s U H Q I q
  .rename_i f hf;obtain⟨⟨d,hd⟩,hmk⟩:=g.tab.ini c f hf;obtain⟨fd,F,B⟩:=(g.fns f d hd).fact;obtain⟨ds,hb,hv⟩:∃ ds,Binds X.K fd d.ps ds/\Vals (dflt G f (es.len+1)) ds:=by
    unfold dflt;rw[hd];exact B _
   have hr:=g.room
   split at q
   .rename_i hx;rw[if_pos hx]at hmk;cases es' with
    |nil=>
     cases es with
     |nil=>exact xM hmk F g.hh hr hg hm hb hv g.pass hdb Y s U H Q I q
     |cons _ _=>cases(show false=true from h3)
    |cons e0 er=>
     have PAs:=uZ es g h3;obtain⟨ns,x0,xr,rfl,h4⟩:=bI h3;exact Be hmk F g.hh hr hg hm hb hv g.pass PAs hdb (af ns) (bc h4 _ _) Y s U H Q I q
   .rename_i hx;rw[if_neg hx]at hmk;cases es' with
    |nil=>
     cases es with
     |nil=>exact Cf hmk F g.hh hr hg hm hb hv g.pass hdb Y s U H Q I q
     |cons _ _=>cases(show false=true from h3)
    |cons e0 er=>
     have PAs:=uZ es g h3;obtain⟨ns,x0,xr,rfl,h4⟩:=bI h3;exact EA hmk F g.hh hr hg hm hb hv g.pass PAs hdb (af ns) (bc h4 _ _) Y s U H Q I q
 | .bini es,G,X,S,E,g,e,h=>by
  sleep 4
  rename_i es' pos _ mm p2 _ xn p1 _;simp only[nb,decide_eq_true_eq]at h;obtain⟨⟨⟨⟨⟨h1,rfl⟩,h2⟩,h3⟩,h4⟩,h5⟩:=h;obtain⟨hg,hdb⟩:=g.glob h1;obtain⟨B,hm,hB⟩:=g.tab.gbi _ (g.hT▸h2);cases es' with
  |nil=>
   cases es with
   |nil=>cases h4
   |cons _ _=>cases(show false=true from h3)
  |cons e0 er=>
   have PAs:=uZ es g h3;obtain⟨ns,x0,xr,rfl,h7⟩:=bI h3;refine PE.imp (GJ hB hg hm (PA.bL PAs) hdb (af ns) (bc h7 _ _) (jX (o:=.Name _ _) rfl (qc h3 (by rw[h4];decide) _ _) h5)) λU H Q q=>⟨_,q,λvs H1 z=>?_⟩
   obtain⟨a,i,dx,fs,fr,v,ev,ea,hi,q⟩:=z;exact⟨a,_,dx,fs,fr,v,ev,ea,(g.tab.xc i hi).1,q⟩
 | .cini c es,G,X,S,E,g,e,h=>by
  sleep 4
  rename_i es' pos _ mm p2 _ xn p1 _;simp only[nb,decide_eq_true_eq]at h;obtain⟨⟨⟨⟨⟨⟨h1,h2⟩,rfl⟩,h3⟩,h4⟩,h6⟩,h5⟩:=h;obtain⟨hg,hdb⟩:=g.glob h1;have hm:=g.tab.gcl _ _ (g.hT▸h2);intro Y s U H Q I q;obtain⟨hc,q⟩:=(show G.cm=G.cm/\(match G.T.cin.lookup c with|some f=>wEs G es U H (λvs H1=>G.Cd f (vs++dflt G f es.len) H1 Q (E U)) (E U)|none=>False) from q)
  split at q
  .rename_i f hf;obtain⟨hC,d,hd⟩:=g.tab.cin _ _ hf;obtain⟨fd,F,B⟩:=(g.fns f d hd).fact;obtain⟨ds,hb,hv⟩:∃ ds,Binds X.K fd d.ps ds/\Vals (dflt G f es.len) ds:=by
    unfold dflt;rw[hd];exact B _
   have hr:cg k X.A:=g.room.mono (Nat.le_succ _);cases es' with
   |nil=>
    cases es with
    |nil=>cases h6
    |cons _ _=>cases(show false=true from h3)
   |cons e0 er=>
    have PAs:=uZ es g h3;obtain⟨ns,x0,xr,rfl,h7⟩:=bI h3;exact Hw hC F g.hh hr hg hm hb hv g.pass PAs hdb (af ns) (bc h7 _ _) (jX (o:=.Name _ _) rfl (qc h3 h4 _ _) h5) Y s U H Q I q
  .exact q.elim
 | .bf b es,G,X,S,E,g,e,h=>by
  sleep 3
  rename_i es' pos _ xn p1 _;simp only[nb,decide_eq_true_eq]at h;obtain⟨⟨⟨⟨h1,rfl⟩,h2⟩,h3⟩,h4⟩:=h;obtain⟨hg,hdb⟩:=g.glob h1;obtain⟨hm,hn⟩:=g.tab.gbl _ (g.hT▸h2);cases es' with
  |nil=>
   cases es with
   |nil=>exact absurd h4 1e1
   |cons _ _=>cases(show false=true from h3)
  |cons e0 er=>
   have PAs:=uZ es g h3;obtain⟨ns,x0,xr,rfl,h7⟩:=bI h3;have hb:=Dc b;have hk:=KC g b;have key:∀ {v:Value},BK b=v->(∃ i,v=.builtin i)\/(∃ i,v=.type i):=by
    intro v hv;subst hv;cases b<;>first|exact .inl ⟨_,rfl⟩|exact .inr ⟨_,rfl⟩
   rcases key rfl with⟨i,hi⟩|⟨i,hi⟩
   .rw[hi]at hb hk;exact rp hk hg hm hb PAs hn hdb (af ns) (bc h7 _ _)
   .rw[hi]at hb hk;exact xp hk hg hm hb PAs hn hdb (af ns) (bc h7 _ _)
 | .isi a c,G,X,S,E,g,e,h=>by
  sleep 4
  rename_i pos _ xn p1 _ _ a' c';simp only[nb,decide_eq_true_eq]at h;obtain⟨⟨⟨⟨h1,rfl⟩,h2⟩,h3⟩,h4⟩:=h;obtain⟨hg,hdb⟩:=g.glob h1;obtain⟨hm,hn⟩:=g.tab.gbl _ (g.hT▸h2);have n1:notStar a'=true:=by
   cases a'<;>first|rfl|(cases a<;>cases(show false=true from h3))
  have n2:notStar c'=true:=by
   cases c'<;>first|rfl|(cases c<;>simp[CI]at h4)
  refine PE.imp (rp (Gw g c) hg hm GL (jL (PE.bL (sE a g h3)) (jL (Kn g h4) fe n2) n1) hn hdb (af n1) ?_) λU H Q q=>⟨_,q,λx H1 z=>⟨x,rfl,z⟩⟩
  rw[af n2]
  rfl
 | .lc elt sel it,G,X,S,E,g,e,h=>by
  sleep 2
  split at h
  iterate 3 (split at h;rotate_left;cases h)
  simp only[nb]at h;obtain⟨⟨⟨h1,h2⟩,h3⟩,h4⟩:=h;intro Y s U H Q I q;rcases BL (show K9 G.cm (wI G it U H (λJ H1=>tR (λσ' H' Q'=>wE G elt σ' H' Q' (E U)) J (none::gF U sel) H1 Q) (E U)) (LL G it U H (λJ H1=>tR (λσ' H' Q'=>wE { G with cm:=.mute } elt σ' H' Q' (E U)) J (none::gF U sel) H1 Q) (E U)) from q) with⟨hc,q⟩|q
  .rw[Cj]at q;obtain⟨cl,C⟩:=dq g I.ok h1;exact Ad (ok:=Calm) (λ_=>g.cm hc) (g.cx U) C (sI it g h2) (λs H fp=>sE elt (g.comp hc C (E U) s H fp) h3) (cq h4 _) Y s H Q I q
  .exact q.elim
 | .lci elt c sel it,G,X,S,E,g,e,h=>by cases(show false=true from h)
 | .lct elt n sel it,G,X,S,E,g,e,h=>by
  sleep 2
  split at h
  iterate 3 (split at h;rotate_left;cases h)
  simp only[nb,decide_eq_true_eq]at h;obtain⟨⟨⟨⟨⟨h1,h5⟩,h6⟩,h2⟩,h3⟩,h4⟩:=h;intro Y s U H Q I q;obtain⟨hc,q⟩:=(show G.cm=.calm/\wI G it U H (λJ H1=>LCt G.R.K n (λσ' H' Q'=>wE G elt σ' H' Q' (E U)) J (sn n none++gF U sel) H1 Q) (E U) from q);rw[zm,<-wM h6]at q;obtain⟨cl,C⟩:=dq g I.ok h1;exact n6 (ok:=Calm) (λ_=>g.cm hc) (g.cx U) C (sI it g h2) (λs H fp=>wo (g.comp hc C (E U) s H fp) hc h5) (λs H fp=>lM) (λs H fp=>sE elt (g.comp hc C (E U) s H fp) h3) (cq h4 _) Y s H Q I q
 | .lcu elt c n sel it,G,X,S,E,g,e,h=>by cases(show false=true from h)
 | .dnew,G,X,S,E,g,e,h=>by cases(show false=true from h)
 | .sm m a b,G,X,S,E,g,e,h=>by cases(show false=true from h)
 | .up a,G,X,S,E,g,e,h=>by cases(show false=true from h)
 | .isiT a cs,G,X,S,E,g,e,h=>by cases(show false=true from h)
 | .mk0 c,G,X,S,E,g,e,h=>by
  sleep 4
  simp only[nb,decide_eq_true_eq]at h;obtain⟨⟨h1,h2⟩,h3⟩:=h;obtain⟨hg,hdb⟩:=g.glob h1;refine PE.imp (AW (g.tab.inip c (g.hT▸h3)) hg (g.tab.gcl _ _ (g.hT▸h2)) hdb) λU H Q q=>?_
  have q':Ac (G.R.cad c) H Q:=q;unfold Ac at q';exact q'
 | .vals tp a,G,X,S,E,g,e,h=>by
  sleep 8
  simp only[nb,decide_eq_true_eq]at h;obtain⟨⟨⟨⟨⟨⟨h1,rfl⟩,h2⟩,h3⟩,rfl⟩,h4⟩,h5⟩:=h;obtain⟨hg,hdb⟩:=g.glob h1;obtain⟨hm,hn⟩:=g.tab.gbl _ (g.hT▸h2);intro Y s U H Q I q;obtain⟨hc,q⟩:=(show G.cm=.calm/\wE G a U H (λx H1=>sv tp x H1 Q) (E U) from q);refine C6 tp (g.cm hc) hg hm (PE.bL (sE a g h3)) (bt h4 _ _ _) h5 Y s U H Q I ⟨_,q,λx H1 z=>?_⟩;unfold sv at z;exact z
 | .disp ks es,G,X,S,E,g,e,h=>by
  sleep 1
  simp only[nb,decide_eq_true_eq]at h;obtain⟨⟨⟨⟨h1,h2⟩,h3⟩,h4⟩,h5⟩:=h;intro Y s U H Q I q;have hk:=rF h1;have hv:=AY h2;refine Ea (MR es g h1 h2 h3) (sr h1) nofun (λz=>by rw[z]at hk;simp at hk;omega) nofun Y s U H Q I λp hp=>?_
  refine⟨_,q p hp,λxs H2 hl z=>?_⟩;unfold pk at z;exact⟨z.1,FN ks xs,AQ,by have:=wD (ks:=ks) (xs:=xs);omega,z.2⟩
 | .dzip a b,G,X,S,E,g,e,h=>by
  sleep 8
  simp only[nb,decide_eq_true_eq]at h;obtain⟨⟨⟨⟨⟨⟨⟨⟨⟨h1,rfl⟩,h2⟩,h3⟩,rfl⟩,h4⟩,h5⟩,h6⟩,n1⟩,n2⟩:=h;obtain⟨hg,hdb⟩:=g.glob h1;obtain⟨hm,hn⟩:=g.tab.gbl _ (g.hT▸h2);obtain⟨hg',hdb'⟩:=g.glob h3;obtain⟨hm',hn'⟩:=g.tab.gbl _ (g.hT▸h4);intro Y s U H Q I q;obtain⟨hc,q⟩:=(show G.cm=.calm/\wE G a U H (λx H1=>wE G b U H1 (λy H2=>KY G.R.K x y H2 Q) (E U)) (E U) from q);refine CQ (g.cm hc) hg hm hg' hm' (jL (PE.bL (sE a g h5)) (jL (PE.bL (sE b g h6)) fe n2) n1) (af n1) (by rw[af n2];rfl) Y s U H Q I ⟨_,q,λx H1 z=>⟨_,z,λy H2 z=>?_⟩⟩;unfold KY at z;exact⟨_,_,rfl,g.hK▸z⟩
termination_by structural x=>x
theorem sI:∀ (x:Dx){G:Gx}{X:Cx}{S:Sn}{E:St->XK},Gd X G S k E->∀ {t e:Expr},mI S x t e=true->PI X t e (λU H R=>wI G x U H R (E U))
 | .rng1 a,G,X,S,E,g,t,e,h=>by
  sleep 4
  simp only[nb,decide_eq_true_eq]at h;obtain⟨⟨⟨⟨h1,rfl⟩,h2⟩,h3⟩,n1⟩:=h;obtain⟨hg,hdb⟩:=g.glob h1;obtain⟨hm,hn⟩:=g.tab.gbl _ (g.hT▸h2);intro Y s U H R I q;refine yC hg hm (jL (PE.bL (sE a g h3)) fe n1) (af n1) Y s U H R I ⟨_,q,λx H1 z=>?_⟩
  split at z
  .exact⟨_,rfl,z.1,z.2.1,z.2.2⟩
  .exact z.elim
 | .rng2 a b,G,X,S,E,g,t,e,h=>by
  sleep 4
  simp only[nb,decide_eq_true_eq]at h;obtain⟨⟨⟨⟨⟨⟨h1,rfl⟩,h2⟩,h3⟩,h4⟩,n1⟩,n2⟩:=h;obtain⟨hg,hdb⟩:=g.glob h1;obtain⟨hm,hn⟩:=g.tab.gbl _ (g.hT▸h2);intro Y s U H R I q;refine xQ hg hm (jL (PE.bL (sE a g h3)) (jL (PE.bL (sE b g h4)) fe n2) n1) (by rw[af n1,af n2];rfl) (by rw[af n2];rfl) Y s U H R I ⟨_,q,λx H1 z=>⟨_,z,λy H2 z=>?_⟩⟩
  split at z
  .exact⟨_,_,rfl,z.1,z.2⟩
  .exact z.elim
 | .rng3 a b c,G,X,S,E,g,t,e,h=>by cases(show false=true from h)
 | .enm a,G,X,S,E,g,t,e,h=>by
  sleep 4
  simp only[nb,decide_eq_true_eq]at h;obtain⟨⟨⟨⟨⟨h1,rfl⟩,h2⟩,h3⟩,n1⟩,h5⟩:=h;obtain⟨hg,hdb⟩:=g.glob h1;obtain⟨hm,hn⟩:=g.tab.gbl _ (g.hT▸h2)
  split at h5
  .intro Y s U H R I q;refine Dz hg hm (jL (PE.bL (sE a g h3)) fe n1) (af n1) Y s U H R I ⟨_,q,λx H1 z=>?_⟩
   split at z
   .unfold D5 at z;exact⟨_,rfl,z.1,z.2⟩
   .exact z.elim
  .cases h5
 | .enf a,G,X,S,E,g,t,e,h=>by cases(show false=true from h)
 | .seq a,G,X,S,E,g,t,e,h=>by
  conv at h=>lhs;whnf
  intro Y s U H R I q;have q':wE G a U H (λx H1=>match x with| .ref p=>vi G.R.K p H1 R|_=>False) (E U):=q;rw[g.hK]at q';refine cR (sE a g h Y s U H _ I q') λv s1 x H1 I1 r1 z=>?_
  split at z
  .unfold vi at z;rcases z with⟨⟨xs,hx⟩,z⟩|⟨⟨xs,hx⟩,z⟩|z
   .exact yD I1 r1 hx z
   .exact Ae I1 r1 hx z
   .exact z.elim
  .exact z.elim
 | .zip a b,G,X,S,E,g,t,e,h=>by
  sleep 4
  simp only[nb,decide_eq_true_eq]at h;obtain⟨⟨⟨⟨⟨⟨⟨h1,rfl⟩,h2⟩,h3⟩,h4⟩,n1⟩,n2⟩,h5⟩:=h;obtain⟨hg,hdb⟩:=g.glob h1;obtain⟨hm,hn⟩:=g.tab.gbl _ (g.hT▸h2)
  split at h5
  .intro Y s U H R I q;refine FT hg hm (jL (PE.bL (sE a g h3)) (jL (PE.bL (sE b g h4)) fe n2) n1) (af n1) (by rw[af n2];rfl) Y s U H R I ⟨_,q,λx H1 z=>⟨_,z,λy H2 z=>?_⟩⟩;unfold DI at z;exact⟨_,_,rfl,g.hK▸z⟩
  .cases h5
 | .zip3 a b c,G,X,S,E,g,t,e,h=>by cases(show false=true from h)
termination_by structural x=>x
theorem sO:∀ (x:K7){G:Gx}{X:Cx}{S:Sn}{E:St->XK},Gd X G S k E->∀ {e:Option Expr},mO S x e=true->PO X e (λU H Q=>wO G x U H Q (E U))
 | .no,G,X,S,E,g,none,h=>D3
 | .no,G,X,S,E,g,some _,h=>by cases(show false=true from h)
 | .yes x,G,X,S,E,g,none,h=>by cases(show false=true from h)
 | .yes x,G,X,S,E,g,some e,h=>by
  conv at h=>lhs;whnf
  intro Y s U H Q I q;refine Dt (PE.bL (sE x g h)) Y s U H Q I ⟨_,q,λy H1 z=>?_⟩
  split at z
  .exact⟨_,rfl,z⟩
  .exact z.elim
termination_by structural x=>x
theorem sT:∀ (x:Tx){G:Gx}{X:Cx}{S:Sn}{E:St->XK},Gd X G S k E->∀ {e:Expr},mT S x e=true->PT X e (λU H Q=>wT G x U H Q (E U))
 | .not a,G,X,S,E,g,e,h=>by
  sleep 2
  exact Im (sT a g h)
 | .and a b,G,X,S,E,g,e,h=>by
  sleep 3
  simp only[nb]at h;exact PT.imp (G4 (PT.bL (sT a g h.1)) (AS (sT b g h.2))).pt λU H Q q=>⟨_,q,λk H1 z=>by rwa [cw]at z⟩
 | .or a b,G,X,S,E,g,e,h=>by
  sleep 3
  simp only[nb]at h;exact PT.imp (Jj (PT.bL (sT a g h.1)) (AN (sT b g h.2))).pt λU H Q q=>⟨_,q,λk H1 z=>by rwa [cw]at z⟩
 | .cmp op a b,G,X,S,E,g,e,h=>by
  sleep 3
  simp only[nb,decide_eq_true_eq]at h;obtain⟨⟨⟨rfl,ha⟩,hb⟩,hn⟩:=h;refine PT.imp (El (cF.bL (g.cmp op)) (PE.bL (sE a g ha)) (PE.bL (sE b g hb)) (dH hn _)) λU H Q q=>5e8
  split at q3
  .exact⟨_,rfl,q3⟩
  .exact q3.elim
 | .cmp2 o1 o2 a b c,G,X,S,E,g,e,h=>by
  sleep 3
  simp only[nb,decide_eq_true_eq]at h;obtain⟨⟨⟨⟨⟨rfl,rfl⟩,ha⟩,hb⟩,hc⟩,hn⟩:=h;refine PT.imp (zL (cF.bL (g.cmp o1)) (cF.bL (g.cmp o2)) (PE.bL (sE a g ha)) (PE.bL (sE b g hb)) (PE.bL (sE c g hc)) (mC hn)) λU H Q q=>5e8
  split at q3
  .refine⟨_,rfl,?_⟩;rw[cw]at q3
   split at q3
   .rename_i hk;rw[if_pos hk];refine⟨_,q3,λw H4 q4=>⟨_,q4,λz H5 q5=>?_⟩⟩
    split at q5
    .exact⟨_,rfl,q5⟩
    .exact q5.elim
   .rename_i hk;rw[if_neg hk];exact⟨_,rfl,q3⟩
  .exact q3.elim
 | .cmp3 o1 o2 o3 a b c d,G,X,S,E,g,e,h=>by
  sleep 3
  simp only[nb,decide_eq_true_eq]at h;obtain⟨⟨⟨⟨⟨⟨⟨rfl,rfl⟩,rfl⟩,ha⟩,hb⟩,hc⟩,hd⟩,hn⟩:=h;refine PT.imp (yS (cF.bL (g.cmp o1)) (cF.bL (g.cmp o2)) (cF.bL (g.cmp o3)) (PE.bL (sE a g ha)) (PE.bL (sE b g hb)) (PE.bL (sE c g hc)) (PE.bL (sE d g hd)) (mZ hn)) λU H Q q=>5e8
  split at q3
  .refine⟨_,rfl,?_⟩;rw[cw]at q3
   split at q3
   .rename_i hk;rw[if_pos hk];refine⟨_,q3,λw H4 q4=>⟨_,q4,λz' H5 q5=>?_⟩⟩
    split at q5
    .refine⟨_,rfl,?_⟩;rw[cw]at q5
     split at q5
     .rename_i hk';rw[if_pos hk'];refine⟨_,q5,λw2 H6 q6=>⟨_,q6,λz2 H7 q7=>?_⟩⟩
      split at q7
      .exact⟨_,rfl,q7⟩
      .exact q7.elim
     .rename_i hk';rw[if_neg hk'];exact⟨_,rfl,q5⟩
    .exact q5.elim
   .rename_i hk;rw[if_neg hk];exact⟨_,rfl,q3⟩
  .exact q3.elim
 | .val x,G,X,S,E,g,e,h=>by
  have h:(mE S x e&&plainT e)=true:=h;simp only[nb]at h;refine PT.imp (zN (PE.bL (sE x g h.1)) (plainT_ok h.2 _)) λU H Q q=>⟨_,q,λy H1 z=>?_⟩
  exact g.hK▸HU z
termination_by structural x=>x
theorem MR:∀ (x:iY){G:Gx}{X:Cx}{S:Sn}{E:St->XK},Gd X G S k E->∀ {ks:List Str}{keys:List (Option Expr)}{e:List Expr}{pos:Pos},qI ks keys=true->ku S x e=true->x.len=ks.length->PQ X pos keys e (λU H R=>∃ Q,wEs G x U H Q (E U)/\∀ xs H1,xs.length=x.len->Q xs H1->R (Lv ks xs) H1)
 | .nil,G,X,S,E,g,ks,keys,[],pos,h1,h,hl=>by
  obtain rfl:ks=[]:=List.eq_nil_of_length_eq_zero hl.symm;rw[lZ h1];exact λY s U H R I ⟨Q,q,i⟩=>Gj Y s U H R I (i [] H rfl q)
 | .nil,G,X,S,E,g,_,_,_::_,pos,h1,h,hl=>by cases(show false=true from h)
 | .cons x xs,G,X,S,E,g,_,_,[],pos,h1,h,hl=>by cases(show false=true from h)
 | .cons x xs,G,X,S,E,g,[],keys,e::es,pos,h1,h,hl=>by cases hl
 | .cons x xs,G,X,S,E,g,c::ks,keys,e::es,pos,h1,h,hl=>by
  have h:(mE S x e&&notStar e&&ku S xs es)=true:=h;simp only[nb]at h;obtain⟨j,p,r,rfl,h2⟩:=ki h1;intro Y s U H R I ⟨Q,q,i⟩;refine DU BN (PE.bL (sE x g h.1.1)) (MR xs g h2 h.2 (Nat.succ.inj hl)) Y s U H R I ?_;exact⟨_,q,λy H2 z=>⟨_,z,λys H3 hy w=>i (y::ys) H3 (congrArg Nat.succ hy) w⟩⟩
termination_by structural x=>x
theorem uZ:∀ (x:iY){G:Gx}{X:Cx}{S:Sn}{E:St->XK},Gd X G S k E->∀ {e:List Expr},ku S x e=true->PA X e (λU H Q=>wEs G x U H Q (E U))
 | .nil,G,X,S,E,g,[],h=>fe
 | .nil,G,X,S,E,g,_::_,h=>by cases(show false=true from h)
 | .cons x xs,G,X,S,E,g,[],h=>by cases(show false=true from h)
 | .cons x xs,G,X,S,E,g,e::es,h=>by
  have h:(mE S x e&&notStar e&&ku S xs es)=true:=h;simp only[nb]at h;exact jL (sE x g h.1.1) (uZ xs g h.2) h.1.2
termination_by structural x=>x
end
end
end L3
namespace L2
open PySem PySem.Spec PyProof.Rows
variable {ok:Cx->Prop}{scope:Scope}{cl:List (Str×Addr)}{fr:List Str}{sel:List Nat}{U:St}{s:Shared}
section
variable {X:Cx}
abbrev MX (X:Cx)(U:St)(st:Stmt)(t:TS):Prop:=∀ (Y:NY) (s:Shared) (H:Hp) (D:Ends),Inv X Y U H s->t D U H->wpAny 0e0 X.A (exec st X.env) (SP X Y D) X.xe s
set_option tactic.hygienic true in
def i5 {elt iter tgt:Expr}{ifs:List Expr}{xs:List Str}{y:Str}{py pos spos:Pos}{wi:TI}{tg:TG}{tc:TT}{te:TE}{ni:Nat}{E:XK}(hc:∀ {Y:NY}{U:St}{H:Hp}{s:Shared}{fp:List Addr},Inv X Y U H s->ok (fQ X scope cl (xs++fr) s H fp E)) (hx:pB X U E) (S:bU X scope cl xs fr sel) (hi:Fp ok X tgt iter wi)
  (hg:∀ (s:Shared) (H:Hp) (fp:List Addr),PG (fQ X scope cl (xs++fr) s H fp E) tgt tg) (ht:∀ (s:Shared) (H:Hp) (fp:List Addr),Lp (fQ X scope cl (xs++fr) s H fp E) ifs tc)
  (he:∀ (s:Shared) (H:Hp) (fp:List Addr),PE (fQ X scope cl (xs++fr) s H fp E) elt te) (hs:∀ x,foldedSetIterable iter X.env x=pure x) (hN:X.N.Nodup) (hni:X.N[ni]? =some y) (hy:X.env.scope.names.lookup y=some .local)
  (hsw:swapsWith 4e2 (some (.Name y py)) spos.line X.env=pure true):MX X U (.Assign [.Name y py] 4e2 spos) (λD U H=>Kl wi tg tc te xs sel U H λv H1=>D.nx (U.set ni (some v)) H1):=by
 intro Y s H DD I h;rw[exec_Assign_Name_used _ _ _ _ hsw];refine ad (wpAny_standAt (ad ?_));show wpAny _ _ (do let _ <-comprehension 4e2 scope X.env _ (newList []) false (eval iter X.env) (some (assign (.Name y py) X.env))) _ _ s;refine ad (wpAny_mono (wpAny_comprehension_free (use:=some (assign (.Name y py) X.env)) (Q:=λ_ s'=>SP X Y DD .next s') rfl hs S.clos S.kind S.names ?_) (λ_ s' hq=>am (am hq)) λ_ _ e=>e);refine bW (hi Y s U H _ I h) λv s1 h1=>bW h1 λitv s2 h2=>?_
 obtain⟨it,fp,tn,J,H2,e,I2,T,qW,f2,h2⟩:=h2;subst e;refine wpAny_newObj_type ?_;have hD:H2 s2.heap.objs.size=none:=I2.hok.fresh (pi _);have I3:Inv X Y U (upd H2 s2.heap.objs.size (.lst [])) { s2 with heap:=s2.heap.push 2e2 }:=
  I2.laid (t':=s2.toks) (λb u e=>sK _ e) (pi _) ⟨Nat.zero_le _,[],0,.nil,ul _ rfl⟩
 have fo2:∀ b ∈ fp,b<s2.heap.objs.size:=λb hb=>by
  obtain⟨o,ho,_⟩:=T.obj _ _ qW b hb;exact tz ho
 have f3:∀ b ∈ fp,jr X Y (upd H2 s2.heap.objs.size (.lst [])) b:=λb hb=>⟨by rw[aj (pc (fo2 b hb))];exact(f2 b hb).1,(f2 b hb).2⟩
 have st3:tn 0 (s2.heap.push 2e2):=T.keep _ _ _ qW λb hb o e=>sK _ e
 have fo3:∀ b ∈ fp,b<(s2.heap.push 2e2).objs.size:=λb hb=>by
  rw[Heap.size_push];exact Nat.lt_succ_of_lt (fo2 b hb)
 obtain⟨W,⟨m0,w0⟩,turn⟩:=h2 _ hD;generalize s2.heap.objs.size=D at*;generalize hs3:({ s2 with heap:=s2.heap.push 2e2 }:Shared)=s3 at*;have st3':tn 0 s3.heap:=by rw[<-hs3];exact st3
 have fo3':∀ b ∈ fp,b<s3.heap.objs.size:=by rw[<-hs3];exact fo3
 refine wpAny_newFunctionEnv S.nocell (by intro y hy;simp at hy) (λh' hns hsb=>?_) S.kind;have keep:∀ b o,s3.heap.get? b=some o->h'.get? b=some o:=λb o e=>(hsb.2 b (pc (tz e))).trans (sK _ e)
 have I4:=sC (E:=E) (tk:=s3.toks+([]:List (Str×Value)).length) S I3 f3 fo3' hns keep;have st4:tn 0 h':=T.keep _ _ _ st3' λb hb o e=>keep b o e
 have stat:∀ {H':Hp},(∀ b ∈ fp,H' b=none)->∀ b ∈ fp,jr 0e5 Y H' b:=λ{H'} hn b hb=>
  ⟨hn b hb,pc (fo3' b hb),λz=>(mo.mp (I3.jW b z)).elim (f3 b hb).2.1 (f3 b hb).2.2.1,.inl hb,λy c hy=>(f3 b hb).2.2.2.2.1 y c (S.sub y c hy),λp hp=>(f3 b hb).2.2.2.2.2 p hp⟩
 have loop:codeAny 0e0 X.A (.compLoop 4e2 0 (.ref it) (.ref D) (compEnvC scope cl s3.heap.objs.size X.env))
   (compPost 0e0 X.A X.xe (some (assign (.Name y py) X.env)) (λ_ s'=>SP X Y DD .next s') (.ref D) s3.heap.objs.size) { s3 with heap:=h',toks:=s3.toks+([]:List (Str×Value)).length }:=by
  refine codeAny_loop rfl (λn s'=>∃ i σ' H',Inv 0e5 Y σ' H' s'/\tn i s'.heap/\(∀ b ∈ fp,H' b=none)/\W i n σ' H') (λn s5 hI=>?_) m0 ⟨0,_,_,I4,st4,λb hb=>(f3 b hb).1,w0⟩;show wpAny _ _ ((compTurn 4e2 0 (.ref it) (.ref D) (compEnvC scope cl s3.heap.objs.size X.env)).onRaise (λx=>do noteFrame x (compEnvC scope cl s3.heap.objs.size X.env);theTreesLotGoes x)) _ _ s5;refine wpAny_noted ?_;refine wR (ht s3 (upd H2 D (.lst [])) fp).1 ?_;have bad:=vz (scope:=scope) (cl:=cl) (xs:=xs) (fr:=fr) (P:=λ_ s'=>SP X Y DD .next s') (use:=some (assign (.Name y py) X.env)) (D:=D) hx I3 f3;obtain⟨i,σ5,H5,I5,st5,fr5,w5⟩:=hI;rcases turn i n σ5 H5 w5 with⟨stop,q⟩|⟨go,Nn,hNn,step⟩
  .refine bW (T.done 0e5 rfl rfl rfl (hc I3) i _ s5 σ5 H5 _ I5 (stat fr5) st5 stop) λr s6 ⟨hr,I6⟩=>?_
   subst hr;obtain⟨m,hn,_⟩:=I6.loc;have J:Inv X Y U H5 s6:=I3.wt (ch:=fp) I6.os I6.base I6.hok I6.bare λb hb=>⟨(f3 b hb).2.2.2.1,(f3 b hb).2.1,(f3 b hb).2.2.2.2.1,(f3 b hb).2.2.2.2.2⟩
   have fC:H5 s3.heap.objs.size=none:=I6.free;have nL:s3.heap.objs.size≠X.env.locals:=Ne.symm (pc I3.lt);have nC:∀ z c,X.env.cells.lookup z=some c->c≠s3.heap.objs.size:=λz c e=>by
    obtain⟨v,o,ho,_⟩:=I3.cell z c e;exact pc (tz ho)
   show wpAny _ _ (assign (.Name y py) X.env (.ref D)) _ _ s6;refine wpAny_assign_Name (oH J hN hni (.inl hy) (v:=.ref D) rfl (λs7 J7 hsb=>?_) (.inr hy));obtain⟨a,sb,ha⟩:=hsb;have hne:s3.heap.objs.size≠a:=by
    rcases ha with ha|ha
    .rw[ha];exact nL
    .exact Ne.symm (nC _ _ ha)
   refine⟨m,hn.sameBut sb hne,λh'' hs''=>⟨_,H5,?_,q⟩⟩;exact J7.turned (h':=h'') (t':=s7.toks) (it:=s3.heap.objs.size) (λb o hb e=>(hs''.2 b hb).trans e) fC nL (.inr I3.sz) nC λp hp=>pc (tz (I3.pin p hp).1)
  .have fin:∀ {σ8:St}{H10:Hp}{s10:Shared},Inv 0e5 Y σ8 H10 s10/\tn (i+1) s10.heap/\(∀ b ∈ fp,H10 b=none)->Nn σ8 H10->∃ m',m'<n/\∃ i σ' H',Inv 0e5 Y σ' H' s10/\tn i s10.heap/\(∀ b ∈ fp,H' b=none)/\W i m' σ' H':=λ⟨I,t,f⟩ nn=>by
    obtain⟨m',hm,w10⟩:=hNn _ _ nn;exact⟨m',hm,i+1,_,_,I,t,f,w10⟩
   refine bW (T.item 0e5 rfl rfl rfl (hc I3) i _ s5 σ5 H5 _ I5 (stat fr5) st5 go) λr s6 ⟨u,hr,h6⟩=>?_
   subst hr;refine bW h6 λ_ s7 ⟨xv,H7,I7,r7,y7,st7,fr7⟩=>?_
   have I7':=I7.pinned (stat fr7) (T.obj _ _ st7);refine wpAny_mono (hg s3 _ fp _ s7 σ5 H7 xv u _ I7' r7 (step xv _ y7)) (λ_ s8 ⟨σ8,H8,I8,q8⟩=>?_) bad;refine wpAny_mono ((ht s3 _ fp).2 _ s8 σ8 H8 _ I8 q8) (λok s9 ⟨H9,I9,q9⟩=>?_) bad;have back:∀ {H10:Hp}{s10:Shared},Inv 0e5 _ σ8 H10 s10->Inv 0e5 Y σ8 H10 s10/\tn (i+1) s10.heap/\(∀ b ∈ fp,H10 b=none):=λ{H10 s10} I10=>⟨I10.gf,T.keep _ _ _ st7 λb hb o e=>(I10.pin (b,o) (ii _ (ii _ (cu hb e)))).1,λb hb=>by
    obtain⟨o,e,d⟩:=T.obj _ _ st7 b hb;exact(I10.pin (b,o) (ii _ (ii _ (cu hb e)))).2.1⟩
   refine⟨λek=>?_,λek=>am ⟨rfl,fin (back I9) (q9.2 ek)⟩⟩;refine wpAny_mono (he s3 _ fp _ s9 _ _ _ I9 (q9.1 ek)) (λuv s10 ⟨vv,H10,I10,r10,zs,hz,hzl,n10⟩=>?_) bad;refine wpAny_mono (kj (X:=fQ X scope cl (xs++fr) s3 (upd H2 D (.lst [])) fp E) _ s10 _ H10 (.ref D) [vv] (.ref D) [uv] (λ_ H'=>H'=upd H10 D (.lst (zs++[vv]))) I10 rfl (.cons r10 .nil) ⟨D,zs,vv,rfl,rfl,hz,hzl,rfl⟩) (λ_ s11 ⟨_,H11,I11,_,e11⟩=>?_) bad;subst e11;exact am ⟨rfl,fin (back I11) n10⟩
 exact codeAny_compStart_list loop (T.self _ 0 _ _ _ st4 loop)
def x8 {elt iter:Expr}{x y:Str}{px py pos spos:Pos}{wi:TI}{te:TE}{ni:Nat}{E:XK}(hc:∀ {Y:NY}{U:St}{H:Hp}{s:Shared}{fp:List Addr},Inv X Y U H s->ok (fQ X scope cl (x::fr) s H fp E)) (hx:pB X U E) (S:bU X scope cl [x] fr sel) (hi:Fp ok X (.Name x px) iter wi)
  (he:∀ (s:Shared) (H:Hp) (fp:List Addr),PE (fQ X scope cl (x::fr) s H fp E) elt te) (hs:∀ x,foldedSetIterable iter X.env x=pure x) (hN:X.N.Nodup) (hni:X.N[ni]? =some y) (hy:X.env.scope.names.lookup y=some .local)
  (hsw:swapsWith (.ListComp elt [⟨.Name x px,iter,[],0⟩] scope pos) (some (.Name y py)) spos.line X.env=pure true):MX X U (.Assign [.Name y py] (.ListComp elt [⟨.Name x px,iter,[],0⟩] scope pos) spos) (λD U H=>Nr wi te sel U H λv H1=>D.nx (U.set ni (some v)) H1):=λY s H D I h=>
 i5 (ok:=ok) hc hx S hi.up (λs H fp=>uJ S) (λ_ _ _=>lM) he hs hN hni hy hsw Y s H D I ⟨_,h,λ_ _ q=>q.g⟩
section
variable {prog:Program}{w:World}{A:Around}{E:NX}
def oz {it t:Addr}{items:Array Value}(hne:t≠it):∀ (n i:Nat) (s:Shared) (Q:List Value->Shared->Prop),s.heap.IsListIter it t i->s.heap.IsList t items->i+n<=items.size->
  (∀ h',h'.IsListIter it t (i+n)->Heap.SameBut it s.heap h'->Q ((items.toList.drop i).take n) 1e5)->wpAny 0e7 A (draw (.ref it) n) Q E s
 |0,i,s,Q,hit,_,_,hQ=>by
  show wpAny _ _ (pure []) Q E s;exact am (by simpa using hQ s.heap hit (Heap.SameBut.refl ..))
 |n+1,i,s,Q,hit,ht,hle,hQ=>by
  have hlt:i<items.size:=by omega
  show wpAny _ _ (pyNext (.ref it) >>= _) Q E s;refine ad (wpAny_pyNext_list_item hit ht (x:=items[i]) (by simp[hlt]) λh₁ hit₁ hs₁=>?_);refine ad (bd (oz hne n (i+1) _ _ hit₁ (ht.extBut hs₁.extBut hne) nofun λh₂ hit₂ hs₂=>am ?_));have hd:items.toList.drop i=items[i]::items.toList.drop (i+1):=by simp[List.drop_eq_getElem_cons,hlt]
  have:=hQ h₂ (by rw[show i+(n+1)=i+1+n by omega];exact hit₂) (hs₁.trans hs₂);rw[hd,List.take_succ_cons]at this;exact this
def kx {t:Addr}{items:Array Value}{Q:List Value->Shared->Prop}(hh:A.handled=none)(ht:s.heap.IsList t items)(hty:s.TypeIs (.ref t) "list")
  (hQ:∀ h',Heap.ExtBut s.heap.objs.size s.heap h'->Q items.toList 1e5):wpAny 0e7 A (unpackItems (.ref t) items.size none) Q E s:=by
 have hlt:t≠s.heap.objs.size:=by obtain⟨o,ho,_⟩:=id ht;exact pc (tz ho)
 unfold unpackItems;refine ad ?_
 .unfold notIterableAtAll;refine ad (wpAny_specialOf hty PySem.F.slot_list_iter.lookup ?_);refine am ?_;simp only[Bool.false_eq_true,if_false];refine ad (bd (wpAny_pyIter_list ht ?_));refine ad (bd (oz hlt items.size 0 _ _ ⟨_,ul _ rfl,rfl,rfl⟩ (ht.push _) nofun λh₁ hit₁ hs₁=>?_));have hall:List.take items.size (List.drop 0 items.toList)=items.toList:=by
   rw[drop_zero];exact take_of_length_le 2e5
  rw[hall];rw[if_neg 2e5];have ht₁:h₁.IsList t items:=(ht.push _).extBut hs₁.extBut hlt;refine ad (bd (wpAny_pyNext_list_end hh hit₁ ht₁ 2e5 λh₂ he₂=>?_));simp only[Option.isSome_none,Bool.false_eq_true,if_false];refine am (hQ h₂ λb o hb e=>he₂ b o hb (hs₁.extBut b o hb (sK _ e)))
end
def F9 {es:List Expr}{k:Nat}{pos:Pos}{t:DM}{n:Nat}(hc:X.calm=true)(h:HZ X es t)
  (hn:(assignEach es X.env).length=n) (hst:(assignEach es X.env).findIdx? (·.1)=none){Y:NY}{H:Hp}{a:Addr}{u:Value}{xs:List V}{Q:St->Hp->Prop}(I:Inv X Y U H s) (r:RelV 3e6 u)
  (hq:bB X.K H a xs) (hl:xs.length=n) (hw:t xs U H Q):wpAny 0e0 X.A (assign (.Tuple es k pos) X.env u) (λ_ s'=>∃ σ' H',Inv X Y σ' H' s'/\Q σ' H') X.xe s:=by
 cases r;obtain⟨its,rv,p,hz⟩:=I.list hq;rw[assign_Tuple];refine ad (wpAny_standAt ?_);unfold unpack;have e1:(assignEach es X.env).length=its.toArray.size:=by
  rw[hn,<-hl];simp[rv.length]
 rw[e1,hst];refine ad (bd (kx (I.ok.hd hc) p.isList p.isList.typeIs λh' hx=>?_));have I1:Inv X Y U H 1e5:=I.kept (t':=s.toks) λb o e=>hx b o (pc (tz e)) e
 exact h Y _ U H xs _ Q I1 (by simpa using rv) hw
end
end L2
namespace L3
open PySem PySem.Spec L2
set_option maxHeartbeats 2000000
abbrev ET:Expr->Bool
 | .Tuple ..=>false
 |_=>true
abbrev yY (S:Sn):List Nat->List Expr->Bool
 | [],[]=>true
 |i::is,.Name x _::r=>S.loc i x&&yY S is r
 |_,_=>false
abbrev Mf (S:Sn):Ll->Expr->Bool
 | .nm i,e=>match e with| .Name x _=>S.loc i x|_=>false
 | .tp is,e=>match e with| .Tuple ts _ _=>yY S is ts|_=>false
 | .nt i is,e=>match e with| .Tuple y1 _ _=>(match y1 with| [y2,y3]=>(match y2 with| .Name x _=>(match y3 with| .Tuple ts _ _=>S.loc i x&&yY S is ts|_=>false)|_=>false)|_=>false)|_=>false
abbrev Sn.uz (S:Sn)(i:Nat)(x:Str):Bool:=decide (S.N[i]? =some x)&&decide (S.sc.names.lookup x=some .local)
abbrev JX (S:Sn)(is:List Nat)(ts:List Expr):Bool:=match is with
 | [i,j]=>(match ts with| [a,b]=>(match a with| .Name x _=>(match b with| .Name y _=>S.uz i x&&(S.uz j y&&decide (i≠j))|_=>false)|_=>false)|_=>false)
 | [i,j,l]=>(match ts with| [a,b,c]=>(match a with| .Name x _=>(match b with| .Name y _=>(match c with| .Name z _=>S.uz i x&&(S.uz j y&&(S.uz l z&&(decide (i≠j)&&(decide (i≠l)&&decide (j≠l)))))|_=>false)|_=>false)|_=>false)|_=>false)
 |_=>false
mutual
noncomputable def mS (S:Sn):Sx->Stmt->Bool
 | .asg i e,s=>match s with| .Assign y1 e' _=>(match y1 with| [y2]=>(match y2 with| .Name x _=>S.loc i x&&mE S e e'|_=>false)|_=>false)|_=>false
 | .asgT is e,s=>match s with| .Assign y1 e' _=>(match y1 with| [y2]=>(match y2 with| .Tuple ts _ _=>yY S is ts&&mE S e e'&&ET e'|_=>false)|_=>false)|_=>false
 | .par is es,s=>match s with| .Assign y1 y2 _=>(match y1 with| [y3]=>(match y3 with| .Tuple ts kt pt=>(match y2 with| .Tuple vs k2 p2=>JX S is ts&&ku S es vs&&Hq S.sc (.Tuple ts kt pt) (.Tuple vs k2 p2) (is.filterMap λi=>S.N[i]?)|_=>false)|_=>false)|_=>false)|_=>false
 | .sub o i v,s=>match s with| .Assign y1 v' _=>(match y1 with| [y2]=>(match y2 with| .Subscript o' i' _=>mE S o o'&&mE S i i'&&mE S v v'&&gW i'|_=>false)|_=>false)|_=>false
 | .fld o f v,s=>match s with| .Assign y1 v' _=>(match y1 with| [y2]=>(match y2 with| .Attribute o' f' _=>mE S o o'&&decide (f=f')&&mE S v v'|_=>false)|_=>false)|_=>false
 | .aug i op e,s=>match s with| .AugAssign y1 op' e' _=>(match y1 with| .Name x _=>S.loc i x&&decide (op=op')&&mE S e e'|_=>false)|_=>false
 | .augS o i op e,s=>match s with| .AugAssign y1 op' e' _=>(match y1 with| .Subscript o' i' _=>mE S o o'&&mE S i i'&&decide (op=op')&&mE S e e'&&gW i'|_=>false)|_=>false
 | .augF o f op e,_=>false
 | .ret e,s=>match s with| .Return y1 _=>(match y1 with|some e'=>mE S e e'|_=>false)|_=>false
 | .retN,_=>false
 | .pass,_=>false
 | .brk,_=>false
 | .cont,_=>false
 | .expr e,s=>match s with| .Expr e' _=>mE S e e'&&vg e'|_=>false
 | .ife c a b,s=>match s with| .If c' a' b' _=>mT S c c'&&mB S a a'&&mB S b b'|_=>false
 | .whl c b,s=>match s with| .While c' b' y1 _=>(match y1 with| []=>mT S c c'&&mB S b b'|_=>false)|_=>false
 | .for t it b,s=>match s with| .For t' it' b' y1 _=>(match y1 with| []=>Mf S t t'&&mI S it t' it'&&mB S b b'&&cI it'|_=>false)|_=>false
 | .rais e,s=>match s with| .Raise y1 y2 _=>(match y1 with|some e'=>(match y2 with|none=>mE S e e'|_=>false)|_=>false)|_=>false
 | .tryx b hs,s=>match s with| .Try b' y1 y2 y3 _=>(match y1 with|h0::hs'=>(match y2 with| []=>(match y3 with| []=>mB S b b'&&mH S hs (h0::hs')|_=>false)|_=>false)|_=>false)|_=>false
noncomputable def mB (S:Sn):lx->List Stmt->Bool
 | .nil,l=>l.isEmpty
 | .cons s r,l=>match l with|s'::r'=>mS S s s'&&mB S r r'| []=>false
noncomputable def mH (S:Sn):Co->List ExceptHandler->Bool
 | .nil,l=>l.isEmpty
 | .cons c i b hs,l=>match l with| .ExceptHandler (some (.Name x _)) (some n) (b0::bs) _::r=>S.oB x&&decide (S.T.gcl.lookup x=some c)&&decide (S.N[i]? =some n)&&decide (S.sc.names.lookup n=some .local)&&mB S b (b0::bs)&&mH S hs r|_=>false
end
structure Gs (X:Cx) (G:Gx) (S:Sn) (k:Nat) (E:St->XK):Prop extends Gd X G S k E where
 own:PassesOwn 0e0 X.A X.env X.xe
 stk:X.stack=X.env::X.outer
 fr:X.env.frame=some X.env.locals
 fn:∀ x,X.fn x=true
variable {e elt:Expr}{ts:List Expr}{p:Pos}{gs:List Comprehension}{scope:Scope}
section
variable {X:Cx}{G:Gx}{S:Sn}{k:Nat}{E:St->XK}
def Gs.iT (g:Gs X G S k E){Y:NY}{xe:NX}{E':St->XK}(hx:Hy (X.iT Y xe) E')(ho:PassesOwn 0e0 X.A X.env xe):Gs (X.iT Y xe) G S k E' where
 hK:=g.hK
 hT:=g.hT
 sc:=g.sc
 N:=g.N
 nd:=g.nd
 pass:=gZ hx
 hd:=g.hd
 xok:=hx
 xst:=g.xst
 room:=g.room
 un:=g.un
 tab:=g.tab
 fns:=g.fns
 fnsU:=g.fnsU
 own:=ho
 stk:=g.stk
 fr:=g.fr
 fn:=g.fn
def Gs.bg (g:Gs X G S k E)(hc:G.cm=.calm)(e:Addr):Gs (X.bg (.ref e)) { G with cm:=.bg e } S k (λ_ _ _=>False) where
 hK:=g.hK
 hT:=g.hT
 sc:=g.sc
 N:=g.N
 nd:=g.nd
 pass:=λY U H s e s' I h=>by
  obtain⟨e,H',C,dx,fs,T,_,_,_,_,_,_,_,_,_,q⟩:=h;exact q.elim
 hd:=rfl
 xok:=λ_ _ _ _ _ _ _ _ _ _ z=>z.elim
 xst:=g.xst
 room:=⟨g.room.dp,g.room.un⟩
 un:=g.un
 tab:=g.tab
 fns:=λf d h=>(g.fnsU hc f d h).imp λ_ _ _ _ z=>z.2
 fnsU:=λz=>by cases z
 own:=PassesOwn.never
 stk:=g.stk
 fr:=g.fr
 fn:=g.fn
set_option tactic.hygienic true in
def mx (env:Env):∀ {is:List Nat}{ts:List Expr},yY S is ts=true->(assignEach ts env).length=is.length/\(assignEach ts env).findIdx? (·.1)=none
 | [],[],_=>⟨rfl,rfl⟩
 | [],_::_,h=>by simp[yY]at h
 |_::_,[],h=>by simp[yY]at h
 |i::is,t::ts,h=>by
  cases t<;>simp[yY]at h
  rename_i x p;obtain⟨h1,h2⟩:=mx env h.2;have e:assignEach (.Name x p::ts) env=(false,assign (.Name x p) env)::assignEach ts env:=rfl;rw[e];refine⟨by simp[h1],?_⟩;rw[List.findIdx?_cons];simp[h2]
set_option tactic.hygienic true in
def qg (g:Gs X G S k E):∀ {is:List Nat}{ts:List Expr},yY S is ts=true->HZ X ts (gl is)
 | [],[],_=>λY s U H vs us Q I r h=>pN Y s U H vs us Q I r ⟨length_eq_zero_iff.mp h.1,by
   have:=h.2;have e:vs=[]:=length_eq_zero_iff.mp h.1;subst e;exact this⟩
 | [],_::_,h=>by simp[yY]at h
 |_::_,[],h=>by simp[yY]at h
 |i::is,t::ts,h=>by
  cases t<;>simp[yY]at h
  rename_i x p;obtain⟨hi,hx⟩:=g.loc h.1;have h1:PG X (.Name x p) (ja i):=jb (by rw[g.N];exact g.nd) hi hx (.inl (g.fn x));have h2:=qg g h.2;intro Y s U H vs us Q I r q;refine jd h1 h2 rfl Y s U H vs us Q I r ?_;obtain⟨hl,q⟩:=q;cases vs with
  |nil=>simp at hl
  |cons v vs=>exact⟨v,vs,rfl,by simpa using hl,q⟩
def EY (g:Gs X G S k E)(hc:G.cm=.calm){t:Ll}(h:Mf S t e=true):PG X e (λv U H Q=>wG U t G.R.K v H λσ1=>Q σ1 H):=by
 cases t with
 |nm i=>
  conv at h=>lhs;whnf
  split at h
  .obtain⟨hi,hx⟩:=g.loc h;exact jb (by rw[g.N];exact g.nd) hi hx (.inl (g.fn _))
  .cases h
 |tp is=>
  conv at h=>lhs;whnf
  split at h
  .intro Y s U H v u Q I r q;obtain⟨a,xs,rfl,hq,hl,q⟩:=q;obtain⟨e1,e2⟩:=mx X.env h;rw[g.hK]at hq;rcases hq with hq|hq
   .exact qx (g.cm hc) (qg g h) e1 e2 Y s U H _ u Q I r ⟨a,xs,rfl,hq,hl,hl,q⟩
   .exact F9 (g.cm hc) (qg g h) e1 e2 I r hq hl ⟨hl,q⟩
  .cases h
 |nt i is=>
  conv at h=>lhs;whnf
  split at h
  .split at h
   .split at h
    .split at h
     .intro Y s U H v u Q I r q;simp only[nb]at h;obtain⟨a,y,b,ys,rfl,hq,hb,hl,q⟩:=q;obtain⟨e1,e2⟩:=mx X.env h.2;obtain⟨hi,hx⟩:=g.loc h.1;rw[g.hK]at hq hb;refine qx (n:=2) (g.cm hc) (jd (jb (by rw[g.N];exact g.nd) hi hx (.inl (g.fn _))) (jd (qx (g.cm hc) (qg g h.2) e1 e2) pN rfl) rfl) rfl rfl Y s U H _ u Q I r ⟨a,_,rfl,hq,rfl,y,_,rfl,.ref b,_,rfl,b,ys,rfl,hb,hl,hl,rfl,q⟩
     .cases h
    .cases h
   .cases h
  .cases h
def f9 {kk:Nat}(n:Nat)(env:Env):swapsWithSole [.Tuple ts kk p] e n env=pure false:=by
 cases e<;>rfl
def yK {o i:Expr}(n:Nat)(env:Env):swapsWithSole [.Subscript o i p] e n env=pure false:=by
 cases e<;>rfl
def xy {o:Expr}{f:Str}(n:Nat)(env:Env):swapsWith e (some (.Attribute o f p)) n env=pure false:=by
 cases e<;>rfl
def uO {kk:Nat}(env:Env)(h:ET e=true):swappedStores [.Tuple ts kk p] e env=pure none:=by
 cases e<;>first|rfl|cases h
def vp {o i:Expr}(env:Env):swappedStores [.Subscript o i p] e env=pure none:=by
 cases e<;>rfl
def uR {o i:Expr}{pos:Pos}{env:Env}(h:gW i=true):∀ v,assign (.Subscript o i pos) env v=(do
   let ov <-holding [v] (eval o env)
   let iv <-holding [v,ov] (eval i env)
   standAt pos
   holding [v,ov,iv] (setItem ov iv v)
   release [v,ov,iv] []):=by
 intro v;cases i<;>first|rfl|cases h
set_option tactic.hygienic true in
def EE {i:Expr}(h:gW i=true):∀ ov iv new,augStore i ov iv new=(do holding [new,ov,iv] (setItem ov iv new);release [new,ov,iv] [];pure .next):=by
 intro ov iv new;cases i<;>first|rfl|cases h
def Fz (op:Operator):JA X op (Lw op):=by
 intro Y s U H x y v u Q I r1 r2 h;unfold Lw at h
 split at h
 .exact F4 Y s U H _ _ v u Q I r1 r2 ⟨_,_,rfl,rfl,h⟩
 .exact GY Y s U H _ _ v u Q I r1 r2 ⟨_,_,rfl,rfl,h⟩
 .exact h.elim
def GA (g:Gd X G S k E):GF X (zX G.R.K):=by
 intro Y s U H x y v u Q I r1 r2 h;unfold zX at h;rw[g.hK]at h
 split at h
 .obtain⟨xs,w,h1,h2,h3,q⟩:=h;exact Ay Y s U H _ _ v u Q I r1 r2 ⟨_,xs,_,w,rfl,rfl,h1,h2,h3,q⟩
 .exact h.elim
def uh {py:Pos}{y:Str}{n:Nat}{env:Env}(hk:env.scope.kind=.function):∃ b,swapsWith (.ListComp elt gs scope p) (some (.Name y py)) n env=pure b/\(b=true->env.scope.names.lookup y=some .local):=by
 refine⟨_,rfl,λh=>?_⟩;simp only[nb]at h;have:=h.1.1.2;exact beq_iff_eq.mp this
end
set_option maxHeartbeats 2000000
variable {S:Sn}{α:Type}
section
variable {k:Nat}
abbrev NM (S:Sn)(x:Ex)(elt:Expr)(gs:List Comprehension)(scope:Scope):Prop:=(∃ e' sel it y py iter,x=.lc e' sel it/\gs=[⟨.Name y py,iter,[],0⟩]/\
  iI S scope [y] sel=true/\mI S it (.Name y py) iter=true/\mE { S with sc:=fu S.sc scope,N:=y::sel.filterMap λi=>S.N[i]? } e' elt=true/\cI iter=true)\/
  (∃ e' c sel it y py iter c',x=.lci e' c sel it/\gs=[⟨.Name y py,iter,[c'],0⟩]/\
  iI S scope [y] sel=true/\mI S it (.Name y py) iter=true/\mE { S with sc:=fu S.sc scope,N:=y::sel.filterMap λi=>S.N[i]? } e' elt=true/\mT { S with sc:=fu S.sc scope,N:=y::sel.filterMap λi=>S.N[i]? } c c'=true/\cI iter=true)\/
  ∃ e' n sel it ts kt pt iter,x=.lct e' n sel it/\gs=[⟨.Tuple ts kt pt,iter,[],0⟩]/\
  iI S scope (Dg ts) sel=true/\zf { S with sc:=fu S.sc scope,N:=Dg ts++sel.filterMap λi=>S.N[i]? } (List.range n) ts=true/\(Dg ts).length=n/\mI S it (.Tuple ts kt pt) iter=true/\mE { S with sc:=fu S.sc scope,N:=Dg ts++sel.filterMap λi=>S.N[i]? } e' elt=true/\cI iter=true
def KH {x:Ex}(h:mE S x (.ListComp elt gs scope p)=true):NM S x elt gs scope:=by
 cases x<;>(try (cases(show false=true from h);done))
 all_goals (conv at h=>lhs;whnf)
 all_goals (iterate 5 (split at h<;>first|(cases h;done)|skip))
 all_goals (simp only[nb,decide_eq_true_eq]at h)
 all_goals first
  |exact .inl ⟨_,_,_,_,_,_,rfl,rfl,h.1.1.1,h.1.1.2,h.1.2,h.2⟩
  |exact .inr (.inl ⟨_,_,_,_,_,_,_,_,rfl,rfl,h.1.1.1.1,h.1.1.1.2,h.1.1.2,h.1.2,h.2⟩)
  |exact .inr (.inr ⟨_,_,_,_,_,_,_,_,rfl,rfl,h.1.1.1.1.1,h.1.1.1.1.2,h.1.1.1.2,h.1.1.2,h.1.2,h.2⟩)
def uT (e:Expr){x:Ex}(h:mE S x e=true):vg e=true\/∃ elt gs scope p,e=.ListComp elt gs scope p:=by
 cases e<;>first|exact .inl rfl|exact .inr ⟨_,_,_,_,rfl⟩|(cases x<;>cases(show false=true from h))
def Kc {G:Gx}{X:Cx}{E:St->XK}(g:Gs X G S k E){i:Nat}{x:Str}{e:Ex}{e':Expr}{px:Pos}(hx:S.loc i x=true)(h:mE S e e'=true):PS X (.Assign [.Name x px] e' p) (λD U H=>wS (.asg i e) G D E U H):=by
 obtain⟨hi,hl⟩:=g.loc hx;have hN:X.N.Nodup:=by rw[g.N];exact g.nd
 rcases uT e' h with hn|⟨elt,gs,scope,pp,rfl⟩
 .exact BU hN hi hl (sE e g.toGd h) (ji hn _ _ _) (.inl (g.fn x))
 .intro Y s U H D I q;obtain⟨b,hb,hb2⟩:=uh (elt:=elt) (gs:=gs) (scope:=scope) (p:=pp) (py:=px) (y:=x) (n:=p.line) (env:=X.env) I.ok.kind;cases b with
  |false=>exact BU hN hi hl (sE e g.toGd h) hb (.inl (g.fn x)) Y s U H D I q
  |true=>
   rcases KH h with⟨e2,sel,it,y,py,iter,rfl,rfl,h1,h2,h3,h4⟩|⟨e2,c,sel,it,y,py,iter,c',rfl,rfl,h1,h2,h3,h5,h4⟩|⟨e2,n,sel,it,ts,kt,pt,iter,rfl,rfl,h1,h5,h6,h2,h3,h4⟩
   .rcases BL (show K9 G.cm (wI G it U H (λJ H1=>tR (λσ' H' Q'=>wE G e2 σ' H' Q' (E U)) J (none::gF U sel) H1 (λx H1=>D.nx (U.set i (some x)) H1)) (E U)) (LL G it U H (λJ H1=>tR (λσ' H' Q'=>wE { G with cm:=.mute } e2 σ' H' Q' (E U)) J (none::gF U sel) H1 (λx H1=>D.nx (U.set i (some x)) H1)) (E U)) from q) with⟨hc,q⟩|q
    .rw[Cj]at q;obtain⟨cl,C⟩:=dq g.toGd I.ok h1;exact x8 (ok:=Calm) (λ_=>g.cm hc) (g.toGd.cx U) C (sI it g.toGd h2) (λs H fp=>sE e2 (g.toGd.comp hc C (E U) s H fp) h3) (cq h4 _) hN hi (hb2 rfl) hb Y s H D I q
    .exact q.elim
   .cases(show false=true from h)
   .obtain⟨hc,q⟩:=(show G.cm=.calm/\wI G it U H (λJ H1=>LCt G.R.K n (λσ' H' Q'=>wE G e2 σ' H' Q' (E U)) J (sn n none++gF U sel) H1 (λx H1=>D.nx (U.set i (some x)) H1)) (E U) from q);rw[zm,<-wM h6]at q;obtain⟨cl,C⟩:=dq g.toGd I.ok h1;exact i5 (ok:=Calm) (λ_=>g.cm hc) (g.toGd.cx U) C (sI it g.toGd h2) (λs H fp=>wo (g.toGd.comp hc C (E U) s H fp) hc h5) (λs H fp=>lM) (λs H fp=>sE e2 (g.toGd.comp hc C (E U) s H fp) h3) (cq h4 _) hN hi (hb2 rfl) hb Y s H D I q
def DJ {xs:List α}{i j:Nat}(h:xs.length=[i,j].length):∃ a b,xs=[a,b]:=by
 match xs,h with
 | [a,b],_=>exact⟨a,b,rfl⟩
def yu {xs:List α}{i j l:Nat}(h:xs.length=[i,j,l].length):∃ a b c,xs=[a,b,c]:=by
 match xs,h with
 | [a,b,c],_=>exact⟨a,b,c,rfl⟩
set_option tactic.hygienic true in
mutual
theorem sS:∀ (x:Sx){G:Gx}{X:Cx}{S:Sn}{E:St->XK},Gs X G S k E->∀ {st:Stmt},mS S x st=true->PS X st (λD U H=>wS x G D E U H)
 | .asg i e,G,X,S,E,g,st,h=>by
  sleep 3
  simp only[nb]at h;exact Kc g h.1 h.2
 | .asgT is e,G,X,S,E,g,st,h=>by
  sleep 3
  simp only[nb]at h;obtain⟨⟨h1,h2⟩,h3⟩:=h;intro Y s U H D I q;obtain⟨hc,q⟩:=(show G.cm=.calm/\wE G e U H (λx H1=>wG U (.tp is) G.R.K x H1 λσ1=>D.nx σ1 H1) (E U) from q);exact zj (sE e g.toGd h2) (EY g hc (t:=.tp is) (by simp only[Mf];exact h1)) (f9 _ _) (uO _ h3) rfl Y s U H D I q
 | .par is es,G,X,S,E,g,st,h=>by
  sleep 4
  rename_i pos _ _ ts kt pt _ vs k2 p2;simp only[nb]at h;obtain⟨⟨h1,h2⟩,h3⟩:=h;intro Y s U H D I q;obtain⟨hc,q⟩:=(show G.cm=.calm/\wEs G es U H (λxs H1=>xs.length=is.length/\D.nx (yv U is xs) H1) (E U) from q);have hN:X.N.Nodup:=by rw[g.N];exact g.nd
  rw[<-g.sc]at h3;unfold JX at h1
  split at h1
  .iterate 3 (split at h1;rotate_left;cases h1)
   rename_i i j _ _ x px _ y py;simp only[Sn.uz,nb,decide_eq_true_eq]at h1;obtain⟨⟨a1,a2⟩,⟨b1,b2⟩,c1⟩:=h1;rw[filterMap_cons,a1,filterMap_cons,b1,List.filterMap_nil]at h3;obtain⟨v1,v2,rfl⟩:=Ew h3;rw[<-g.N]at a1 b1;rw[<-g.sc]at a2 b2;exact CF (g.cm hc) hN a1 b1 c1 a2 b2 (PA.bL (uZ es g.toGd h2)) (BZ h3) (f9 _ _) Y s U H D I ⟨_,q,λxs H1 z=>by
    obtain⟨z1,z2⟩:=z;obtain⟨u1,u2,rfl⟩:=DJ z1;exact⟨u1,u2,rfl,z2⟩⟩
  .iterate 4 (split at h1;rotate_left;cases h1)
   rename_i i j l _ _ x px _ y py _ z pz;simp only[Sn.uz,nb,decide_eq_true_eq]at h1;obtain⟨⟨a1,a2⟩,⟨b1,b2⟩,⟨d1,d2⟩,c1,c2,c3⟩:=h1;rw[filterMap_cons,a1,filterMap_cons,b1,filterMap_cons,d1,List.filterMap_nil]at h3;obtain⟨v1,v2,v3,rfl⟩:=yI h3;rw[<-g.N]at a1 b1 d1;rw[<-g.sc]at a2 b2 d2;exact DR (g.cm hc) hN a1 b1 d1 c1 c2 c3 a2 b2 d2 (PA.bL (uZ es g.toGd h2)) (BZ h3) (f9 _ _) Y s U H D I ⟨_,q,λxs H1 z=>by
    obtain⟨z1,z2⟩:=z;obtain⟨u1,u2,u3,rfl⟩:=yu z1;exact⟨u1,u2,u3,rfl,z2⟩⟩
  .cases h1
 | .sub o i v,G,X,S,E,g,st,h=>by
  sleep 3
  simp only[nb]at h;obtain⟨⟨⟨h1,h2⟩,h3⟩,h4⟩:=h;exact zj (sE v g.toGd h3) (IA (sE o g.toGd h1) (sE i g.toGd h2) (vy g.un) (uR h4)) (yK _ _) (vp _) rfl
 | .fld o f v,G,X,S,E,g,st,h=>by
  sleep 3
  simp only[nb,decide_eq_true_eq]at h;obtain⟨⟨h1,rfl⟩,h3⟩:=h;intro Y s U H D I q;have q':wE G v U H (λy H1=>wE G o U H1 (λx H2=>Ei G f x y H2 (λH3=>D.nx U H3)) (E U)) (E U):=q;refine plainObj_wpAny_Assign_Attribute (cR (sE v g.toGd h3 Y s U H _ I q') λu s1 y H1 I1 ry q=>cR (sE o g.toGd h1 Y s1 U H1 _ I1 q) λov s2 x H2 I2 rx q2=>?_) (xy _ _);unfold Ei at q2;obtain⟨a,i,rfl,hna,q2⟩:=q2;obtain rfl:ov=Value.ref a:=rx;have n:=g.tab.na i f hna;rcases q2 with⟨dx,fs,ho,ea,l,q2⟩|⟨d,fs,ho,ea,l,q2⟩|⟨ho,ea,q2⟩
  .exact vk I2 ea (g.tab.oc i ho).1 n l ry λs3 I3=>⟨U,_,I3,q2⟩
  .exact uB I2 ea (g.tab.xc i ho).1 n l ry λs3 I3=>⟨U,_,I3,q2⟩
  .exact ua I2 ea (g.tab.xc i ho).1 n ry λd s3 hd I3=>⟨U,_,I3,q2 d hd⟩
 | .aug i op e,G,X,S,E,g,st,h=>by
  sleep 2
  simp only[nb,decide_eq_true_eq]at h;obtain⟨⟨h1,rfl⟩,h3⟩:=h;obtain⟨hi,hl⟩:=g.loc h1;refine PS.imp (F7 (by rw[g.N];exact g.nd) hi hl (sE e g.toGd h3) (Fz op) (.inl (g.fn _))) λD U H q=>?_
  conv at q=>whnf
  split at q
  .rename_i e;exact⟨_,e,q⟩
  .exact q.elim
 | .augS o i op e,G,X,S,E,g,st,h=>by
  sleep 2
  simp only[nb,decide_eq_true_eq]at h;obtain⟨⟨⟨⟨h1,h2⟩,rfl⟩,h3⟩,h4⟩:=h;exact Dk (sE o g.toGd h1) (sE i g.toGd h2) (GA g.toGd) (sE e g.toGd h3) (Fz op) (vy g.un) (EE h4)
 | .augF o f op e,G,X,S,E,g,st,h=>by cases(show false=true from h)
 | .ret e,G,X,S,E,g,st,h=>by
  sleep 2
  exact Hr (sE e g.toGd h)
 | .retN,G,X,S,E,g,st,h=>by cases(show false=true from h)
 | .pass,G,X,S,E,g,st,h=>by cases(show false=true from h)
 | .brk,G,X,S,E,g,st,h=>by cases(show false=true from h)
 | .cont,G,X,S,E,g,st,h=>by cases(show false=true from h)
 | .expr e,G,X,S,E,g,st,h=>by
  sleep 1
  simp only[nb]at h;exact CO (sE e g.toGd h.1) (ji h.2 _ _ _)
 | .ife c a b,G,X,S,E,g,st,h=>by
  sleep 1
  simp only[nb]at h;exact PS.imp (KN (PT.bL (sT c g.toGd h.1.1)) (sB a g h.1.2) (sB b g h.2)) λD U H q=>⟨_,q,λk H1 z=>by rwa [cw]at z⟩
 | .whl c b,G,X,S,E,g,st,h=>by
  sleep 2
  simp only[nb]at h;refine PS.imp (BI g.own (PT.bL (sT c g.toGd h.1)) (sB b g h.2)) λD U H q=>?_
  obtain⟨W,w0,w1⟩:=q;exact⟨W,w0,λm U H w=>⟨_,w1 m U H w,λk H1 z=>by rwa [cw]at z⟩⟩
 | .for t it b,G,X,S,E,g,st,h=>by
  sleep 2
  simp only[nb]at h;obtain⟨⟨⟨h1,h2⟩,h3⟩,h4⟩:=h;intro Y s U H D I q
  conv at q=>whnf
  obtain⟨hc,q⟩:=q;unfold nW at q;exact GP g.own (g.cm hc) (sI it g.toGd h2) (EY g hc h1) (sB b g h3) (cq h4 _) Y s U H D I q
 | .rais e,G,X,S,E,g,st,h=>by
  sleep 3
  intro Y s U H D I q
  conv at q=>whnf
  obtain⟨hc,q⟩:=q;refine Bw g.xok (g.cm hc) (PE.bL (sE e g.toGd h)) Y s U H D I ⟨_,q,λv H1 z=>?_⟩;obtain⟨a,i,dx,fs,ev,ea,hi,q⟩:=z;exact⟨a,_,dx,fs,ev,ea,(g.tab.xc i hi).1,q⟩
 | .tryx b hs,G,X,S,E,g,st,h=>by
  sleep 4
  simp only[nb]at h;intro Y s U H D I q;obtain⟨hc,q⟩:=(show G.cm=.calm/\wB b G D (λσ' e H'=>wH hs G D σ' e H') U H from q);refine GB (E':=λσ' e H'=>wH hs G D σ' e H') I g.stk g.fr (λxe hx ho=>?_) λσ' H' s' e C dx fs T J he hT hH hp st q'=>?_
  .exact sB b (g.iT hx ho) h.1 [] s U H D (I.iT xe) q
  .exact sH hs g hc h.2 J he hT hH hp st q'
theorem sB:∀ (x:lx){G:Gx}{X:Cx}{S:Sn}{E:St->XK},Gs X G S k E->∀ {st:List Stmt},mB S x st=true->Ds X st (λD U H=>wB x G D E U H)
 | .nil,G,X,S,E,g,[],h=>Cy
 | .nil,G,X,S,E,g,_::_,h=>by cases(show false=true from h)
 | .cons x xs,G,X,S,E,g,[],h=>by cases(show false=true from h)
 | .cons x xs,G,X,S,E,g,st::sts,h=>by
  have h:(mS S x st&&mB S xs sts)=true:=h;simp only[nb]at h;exact B7 (sS x g h.1) (sB xs g h.2)
theorem sH:∀ (x:Co){G:Gx}{X:Cx}{S:Sn}{E:St->XK},Gs X G S k E->G.cm=.calm->∀ {hs:List ExceptHandler},mH S x hs=true->∀ {Y:NY}{U:St}{H:Hp}{s:Shared}{e C:Addr}{dx:Option Addr}{fs:List (Str×V)}{T:Addr}{D:Ends},
  L2.Inv X Y U H s->H e=some 5e2->X.s₀.heap.objs.size<=T->H T=none->(∀ p ∈ X.pn++Y,p.1≠T)->xG s.heap e T .none->wH x G D U e H->wpAny 0e0 X.A (handleBy (.ref e) X.env hs) (SP X Y D) X.xe s
 | .nil,G,X,S,E,g,hc,hs,h,Y,U,H,s,e,C,dx,fs,T,D,I,he,hT,hH,hp,st,q=>by
  simp only[wH]at q
 | .cons c i b hs,G,X,S,E,g,hc,l,h,Y,U,H,s,e,C,dx,fs,T,D,I,he,hT,hH,hp,st,q=>by
  conv at h=>lhs;whnf
  split at h
  .simp only[nb,decide_eq_true_eq]at h;obtain⟨⟨⟨⟨⟨h1,h2⟩,h3⟩,h4⟩,h5⟩,h6⟩:=h;obtain⟨hg,hdb⟩:=g.glob h1;have hm:=g.tab.gcl _ _ (g.hT▸h2);obtain⟨j,dx',fs',kk,he',hxc,hsub,q⟩:=(show ∃ j dx fs k,H e=some (.exc (G.R.cad j) dx fs false)/\G.T.xc.contains j=true/\G.T.sub.lookup (j,c)=some k/\_ from q);have ee:=he.symm.trans he'
   injection ee with ee
   injection ee with e1 e2 e3 e4
   subst e1;obtain⟨_,hs2⟩:=g.tab.sub j c kk hsub;obtain⟨hs3,hs4⟩:=hs2 hxc;refine su (i:=i) I he hT hH hp st (g.tab.xc j hxc).1 hs4 hs3 hg hm (by rw[g.N];exact g.nd) (by rw[g.N];exact h3) (by rw[g.sc];exact h4) hdb (λhk s2 J=>?_) λhk=>?_
   .rw[hk]at q;unfold i7 at q;exact sB b (g.bg hc e) h5 Y s2 _ H _ J q
   .rw[hk]at q;unfold i7 at q;exact sH hs g hc h6 I he hT hH hp st q
  .cases h
end
end
abbrev bX (T:Tab)(R:Rt):Nat->Nat->Sp
 |0,_=>λ_ _ _ _=>False
 |k+1,f=>λvs H Q E=>match T.fns[f]? with
  |some d=>vs.length=d.ps.length/\wB d.body ⟨T,R,bX T R k,.calm⟩ { nx:=λ_ H'=>Q .non H',rt:=Q } (λ_=>E) (start d.N vs) H
  |none=>match T.fns[f-T.fns.length]? with
   |some d=>vs.length=d.ps.length/\wB d.body ⟨T,R,λg=>bX T R k (g+T.fns.length),.soft⟩ { nx:=λ_ H'=>Q .non H',rt:=Q } (λ_=>E) (start d.N vs) H
   |none=>False
structure yP (K:W.Frag) (T:Tab) (f:Addr) (d:aB):Prop where
 ex:∃ (name qual:Str) (params:Arguments) (body:List Stmt) (scope:Scope) (dV kV doc pm cdv ct oc:Value) (od an:Option Addr) (osl:Array (Option Value)),
  K.lookup f=some ⟨oc,od,.func (W.fnOf name qual params body scope dV kV doc pm an cdv ct),osl⟩/\W.codeIn K cdv qual=true/\lS d.N d.ps scope/\mB ⟨T,scope,d.N⟩ d.body body=true/\
  ∀ j,∃ ds,Binds K (W.fnOf name qual params body scope dV kV doc pm an cdv ct) d.ps ds/\Vals (d.dfl.drop j) ds
def pM {P:Program}{w:World}{K:W.Frag}{mg:NZ}{base:Heap}{T:Tab}{R:Rt}(tab:Er K mg T R)(hK:R.K=K)(fs:∀ f d,T.fns[f]? =some d->yP K T (R.fad f) d):
  ∀ (k f:Nat) (d:aB),T.fns[f]? =some d->dP true P w K mg base (2*k) (R.fad f) d (bX T R k f)/\dP false P w K mg base (2*k) (R.fad f) d (bX T R k (f+T.fns.length))
 |0,f,d,hd=>by
  obtain⟨name,qual,params,body,scope,dV,kV,doc,pm,cdv,ct,oc,od,an,osl,lk,hcd,S,hm,hb⟩:=(fs f d hd).ex;exact⟨⟨⟨_,⟨λ_ _ _ _ h=>h.elim,λ_ _ _ _ _ _ _ _ _ _ _ _ _ _ h=>h.elim⟩,hb⟩,λ_ _ _ _ _=>⟨λ_ _ _ _ h=>h.elim,λ_ _ _ _ _ _ _ _ _ _ _ _ _ _ h=>h.elim⟩⟩,⟨⟨_,⟨λ_ _ _ _ h=>h.elim,λ_ _ _ _ _ _ _ _ _ _ _ _ _ _ h=>h.elim⟩,hb⟩,λ_ _ _ _ _=>⟨λ_ _ _ _ h=>h.elim,λ_ _ _ _ _ _ _ _ _ _ _ _ _ _ h=>h.elim⟩⟩⟩
 |k+1,f,d,hd=>by
  obtain⟨name,qual,params,body,scope,dV,kV,doc,pm,cdv,ct,oc,od,an,osl,lk,hcd,S,hm,hb⟩:=(fs f d hd).ex;have e1:T.fns[f+T.fns.length]? =none:=getElem?_eq_none (Nat.le_add_left ..);have e2:T.fns[f+T.fns.length-T.fns.length]? =some d:=by rw[Nat.add_sub_cancel];exact hd
  have all:∀ (c:Bool) (f0:Nat) (m:Md) (Ψ:Nat->Sp),(∀ vs H Q E,bX T R (k+1) f0 vs H Q E->vs.length=d.ps.length/\wB d.body ⟨T,R,Ψ,m⟩ { nx:=λ_ H'=>Q .non H',rt:=Q } (λ_=>E) (start d.N vs) H)->m.b=c->(c=true->m=.calm)->(c=false->m=.soft)->
    (∀ f' d',T.fns[f']? =some d'->dP c P w K mg base (2*k) (R.fad f') d' (Ψ f'))->(c=true->∀ f' d',T.fns[f']? =some d'->dP false P w K mg base (2*k) (R.fad f') d' (Ψ (f'+T.fns.length)))->dP c P w K mg base (2*(k+1)) (R.fad f) d (bX T R (k+1) f0):=λc f0 m Ψ h0 hm1 hm2 hm3 F1 F2=>by
   have F:=JR (c:=c) (P:=P) (w:=w) (mg:=mg) (base:=base) (CX:=zP P w) (k:=2*k+1) (sp:=bX T R (k+1) f0) lk hcd S (λvs H Q E h=>(h0 vs H Q E h).1) (λA outer s H vs Q E hr hh h=>?_)
   .refine⟨⟨_,F,hb⟩,λfd oc' od' osl' lk'=>?_⟩;have e:=lk.symm.trans lk'
    injection e with e
    injection e with e1 e2 e3 e4
    injection e3 with e3
    subst e3;exact F
   .refine⟨λD U H=>wB d.body ⟨T,R,Ψ,m⟩ D (λ_=>E) U H,?_,(h0 vs H Q E h).2⟩;have hx:=yO (c:=c) (P:=P) (w:=w) (K:=K) (mg:=mg) (base:=base) (N:=d.N) (qual:=qual) (scope:=scope) (f:=R.fad f) (cd:=cdv) (A:=A) (outer:=outer) (E:=E) (s:=s) (H:=H);cases c with
    |true=>
     obtain rfl:=hm2 rfl;refine sB (k:=2*k) d.body (G:=⟨T,R,Ψ,.calm⟩) (S:=⟨T,scope,d.N⟩) { hK:=hK,hT:=rfl,sc:=rfl,N:=rfl,nd:=S.nd,pass:=gZ hx,hd:=rfl,xst:=⟨_,_,_,rfl,rfl,rfl⟩,room:=hr,un:= ?_,tab:=tab,fns:=F1,fnsU:=λ_=>F2 rfl,xok:=hx,own:=PassesOwn.leaving,stk:=rfl,fr:=rfl,fn:=λ_=>rfl } hm;have:=hr.un;show(A.deeper _).units+200<cLine
     omega
    |false=>
     obtain rfl:=hm3 rfl;refine sB (k:=2*k) d.body (G:=⟨T,R,Ψ,.soft⟩) (S:=⟨T,scope,d.N⟩) { hK:=hK,hT:=rfl,sc:=rfl,N:=rfl,nd:=S.nd,pass:=gZ hx,hd:=hh,xst:=⟨_,_,_,rfl,rfl,rfl⟩,room:=hr,un:= ?_,tab:=tab,fns:=F1,fnsU:=(λz=>by cases z),xok:=hx,own:=PassesOwn.leaving,stk:=rfl,fr:=rfl,fn:=λ_=>rfl } hm;have:=hr.un;show(A.deeper _).units+200<cLine
     omega
  refine⟨all true f .calm (bX T R k) (λvs H Q E h=>?_) rfl (λ_=>rfl) (λz=>by cases z) (λf' d' hd'=>(pM tab hK fs k f' d' hd').1) (λ_ f' d' hd'=>(pM tab hK fs k f' d' hd').2),all false (f+T.fns.length) .soft (λg=>bX T R k (g+T.fns.length)) (λvs H Q E h=>?_) rfl (λz=>by cases z) (λ_=>rfl) (λf' d' hd'=>(pM tab hK fs k f' d' hd').2) (λz=>by cases z)⟩
  .simp only[bX,hd]at h;exact h
  .simp only[bX,e1,e2]at h;exact h
abbrev k6 (K:W.Frag)(n:Nat):Sp:=λvs H Q _=>∃ (a:Addr) (ns:List Int),vs=[.ref a]/\bB K H a (ns.map V.int)/\ns.length<=n/\∀ H',Q (.bl true) H'
variable {P:Program}
def B0 {w:World}{H:Hp}{s:Shared}{e:Value}{s':Shared}(h:zP P w [] H s (λ_ _=>False) e s'):False:=by
 obtain⟨e,H',C,dx,fs,T,_,_,_,_,_,_,_,_,_,q⟩:=h;exact q
variable {K:W.Frag}{fd:FuncData}{ps:List Str}
def Gm (h:Binds K fd ps []):∀ j:Nat,∃ ds,Binds K fd ps ds/\Vals (([]:List V).drop j) ds:=λj=>⟨[],h,by simp;exact .nil⟩
def C3 {ds:List Value}{T:Addr}{o:Obj}{items:Array Value}{c n:Nat}(hd:fd.defaults=.ref T)(ho:K.lookup T=some o)(hs:o.data=.seq items c)(hn:n+ds.length=ps.length)
  (h:∀ us:List Value,us.length=n->∃ k:Option (Array Value)->Sem (List (Str×Value)),bindArgs fd ⟨us,[]⟩=seqItems? fd.defaults >>= k/\k (some items)=pure (ps.zip (us++ds))):Binds K fd ps ds:=λs us X hl=>by
 obtain⟨k,h1,h2⟩:=h us (by rw[ci]at hl;omega);exact W.binds_K X hd ho hs h1 h2
def ph:∀ {vs:List V}{us:List Value}(j:Nat),Vals vs us->Vals (vs.drop j) (us.drop j)
 |_,_,0,h=>h
 |_,_,j+1,.nil=>by simp;exact .nil
 |_::_,_::_,j+1,.cons _ h=>by simpa using ph j h
def ug {α β:Type} [BEq α] [LawfulBEq α] {x:α}{y:β}:∀ {l:List (α×β)},l.lookup x=some y->(x,y) ∈ l
 | [],h=>by simp at h
 |(a,b)::l,h=>by
  rw[lookup_cons]at h;cases e:x ==a with
  |true=>
   rw[e]at h;have:=beq_iff_eq.mp e;subst this
   injection h with h
   subst h;exact lw
  |false=>
   rw[e]at h;exact dl _ (ug h)
def m8 {β:Type} [BEq α] [LawfulBEq α] {P:α->β->Prop}{l:List (α×β)}(h:∀ p ∈ l,P p.1 p.2):∀ x y,l.lookup x=some y->P x y:=λx y e=>h (x,y) (ug e)
def jM {β γ:Type} [BEq α] [LawfulBEq α] [BEq β] [LawfulBEq β] {P:α->β->γ->Prop}{l:List ((α×β)×γ)}(h:∀ p ∈ l,P p.1.1 p.1.2 p.2):∀ x y z,l.lookup (x,y)=some z->P x y z:=λx y z e=>h ((x,y),z) (ug e)
def kg  [BEq α] [LawfulBEq α] {P:α->Prop}{l:List α}(h:∀ p ∈ l,P p):∀ x,l.contains x=true->P x:=λx e=>h x (by simpa using e)
def Cs {β:Type} [BEq α] [LawfulBEq α] [BEq β] [LawfulBEq β] {P:α->β->Prop}{l:List (α×β)}(h:∀ p ∈ l,P p.1 p.2):∀ x y,l.contains (x,y)=true->P x y:=λx y e=>h (x,y) (by simpa using e)
abbrev wW (P:Nat->aB->Prop):Nat->List aB->Prop
 |_,[]=>True
 |n,d::r=>P n d/\wW P (n+1) r
def Fy {P:Nat->aB->Prop}:∀ {l:List aB}{n:Nat},wW P n l->∀ f d,l[f]? =some d->P (n+f) d
 | [],_,_,f,d,e=>by simp at e
 |a::l,n,h,0,d,e=>by
  have:a=d:=by simpa using e
  subst this;exact h.1
 |a::l,n,h,f+1,d,e=>by
  have:=Fy h.2 f d (by simpa using e)
  rwa [Nat.add_assoc,Nat.add_comm 1 f]at this
def uM {P:Nat->aB->Prop}{l:List aB}(h:wW P 0 l):∀ f d,l[f]? =some d->P f d:=λf d e=>by
 have:=Fy h f d e
 rwa [Nat.zero_add]at this
def IE {w:World}{mg:NZ}{base:Heap}{T:Tab}{R:Rt}(tab:Er K mg T R)(hK:R.K=K)(fs:∀ f d,T.fns[f]? =some d->yP K T (R.fad f) d) (k fl:Nat) (d:aB) (hd:T.fns[fl]? =some d)
  {oc:Value}{od:Option Addr}{osl:Array (Option Value)}(lk:K.lookup (R.fad fl)=some ⟨oc,od,.func fd,osl⟩) (h:∀ vs H Q E,k6 K 63 vs H Q E->bX T R k fl vs H Q E):dQ true P w K mg base (zP P w) (2*k) (R.fad fl) fd d.ps (k6 K 63):=
 ((pM tab hK fs k fl d hd).1.own _ _ _ _ lk).imp h
end L3
namespace L3
open PySem L2
abbrev nA:HO->HO
 | .lst _=>.lst []
 | .dK _=>.dK []
 | .dT _=>.dT []
 | .nu _ (.dK _)=>.dK []
 | .ins C dx _=>.ins C dx []
 | .exc C _ _ _=>.exc C none [] false
 |o=>o
abbrev kd:HO->Option String
 | .lst _=>some "list"
 | .tup _=>some "tuple"
 | .dK _=>some "dict"
 | .nu _ (.dK _)=>some "dict"
 |_=>none
set_option tactic.hygienic true in
def vT (o:HO):kd (nA o)=kd o:=by
 cases o<;>first|rfl|(rename_i u;cases u<;>rfl)
abbrev lB (H H':Hp):Prop:=∀ a o,H a=some o->∃ o',H' a=some o'/\nA o'=nA o
set_option tactic.hygienic true in
def lB.tup {H H':Hp}(g:lB H H'){t:Addr}{xs:List V}(h:H t=some (.tup xs)):H' t=some (.tup xs):=by
 obtain⟨o',h1,h2⟩:=g t _ h;have key:∀ u:HO,nA u=.tup xs->u=.tup xs:=λu=>by cases u<;>intro e<;>first|exact e|cases e|(rename_i v;cases v<;>cases e)
 rw[key o' h2]at h1;exact h1
variable {H:Hp}{t:String}
set_option tactic.hygienic true in
def lB.ty {H':Hp}(g:lB H H'){v:V}(h:tyName v H=some t):tyName v H'=some t:=by
 cases v<;>try exact h
 rename_i a;have h':(match H a with|some (.lst _)=>some "list"|some (.tup _)=>some "tuple"|some (.dK _)=>some "dict"|some (.nu _ (.dK _))=>some "dict"|_=>none)=some t:=h;show(match H' a with|some (.lst _)=>some "list"|some (.tup _)=>some "tuple"|some (.dK _)=>some "dict"|some (.nu _ (.dK _))=>some "dict"|_=>none)=some t;cases e:H a with
 |none=>rw[e]at h';cases h'
 |some o=>
  rw[e]at h';obtain⟨o',h1,h2⟩:=g a _ e;rw[h1];have key:kd o'=kd o:=by rw[<-vT o',<-vT o,h2]
  have k1:∀ u:HO,(match some u with|some (HO.lst _)=>some "list"|some (.tup _)=>some "tuple"|some (.dK _)=>some "dict"|some (.nu _ (.dK _))=>some "dict"|_=>none)=kd u:=λu=>by cases u<;>first|rfl|(rename_i v;cases v<;>rfl)
  rw[k1]at h'⊢;rw[key];exact h'
variable {a:Addr}{xs:List V}
def Jf (e:H a=some 4e8):tyName 3e6 H=some "list":=by
 show(match H a with|some (.lst _)=>some "list"|some (.tup _)=>some "tuple"|some (.dK _)=>some "dict"|some (.nu _ (.dK _))=>some "dict"|_=>none)=_;rw[e]
def lB.upd {o o':HO}(h:H a=some o)(e:nA o'=nA o):lB H (L2.upd H a o'):=λb u hb=>by
 by_cases z:b=a
 .subst z;rw[h]at hb;cases hb;exact⟨o',aL,e⟩
 .exact⟨u,(aj z).trans hb,rfl⟩
def lB.new {o':HO}(h:H a=none):lB H (L2.upd H a o'):=λb u hb=>⟨u,(aj λz=>by rw[z,h]at hb;cases hb).trans hb,rfl⟩
structure ay where
 p:Hp->(Addr->Prop)->Prop
 st:∀ H H' D,p H D->(∀ a,D a->H' a=H a)->lB H H'->p H' D
 up:∀ H D D',p H D->(∀ a,D a->D' a)->p H D'
abbrev pt (a:Addr)(o:HO):ay:=⟨λH D=>D a/\H a=some o,λH H' D h k _=>⟨h.1,(k a h.1).trans h.2⟩,λH D D' h k=>⟨k a h.1,h.2⟩⟩
abbrev tu (t:Addr)(xs:List V):ay:=⟨λH _=>H t=some (.tup xs),λH H' D h _ k=>k.tup h,λH D D' h _=>h⟩
abbrev tys (xs:List V):ay:=⟨λH _=>∀ x ∈ xs,∃ t,tyName x H=some t,λH H' D h _ k x hx=>let⟨t,e⟩:=h x hx;⟨t,k.ty e⟩,λH D D' h _=>h⟩
abbrev pu (φ:Prop):ay:=⟨λ_ _=>φ,λ_ _ _ h _ _=>h,λ_ _ _ h _=>h⟩
abbrev ex {α:Type}(f:α->ay):ay:=⟨λH D=>∃ x,(f x).p H D,λH H' D ⟨x,h⟩ k t=>⟨x,(f x).st H H' D h k t⟩,λH D D' ⟨x,h⟩ k=>⟨x,(f x).up H D D' h k⟩⟩
abbrev qW (A B:ay):ay:=⟨λH D=>∃ D1 D2:Addr->Prop,(∀ a,D1 a->D a)/\(∀ a,D2 a->D a)/\(∀ a,D1 a->D2 a->False)/\A.p H D1/\B.p H D2,
 λH H' D ⟨D1,D2,s1,s2,dj,h1,h2⟩ k t=>⟨D1,D2,s1,s2,dj,A.st H H' D1 h1 (λa z=>k a (s1 a z)) t,B.st H H' D2 h2 (λa z=>k a (s2 a z)) t⟩,
 λH D D' ⟨D1,D2,s1,s2,dj,h1,h2⟩ k=>⟨D1,D2,λa z=>k a (s1 a z),λa z=>k a (s2 a z),dj,h1,h2⟩⟩
abbrev bO:List ay->Hp->(Addr->Prop)->Prop
 | [],_,_=>True
 |A::O,H,D=>∃ D1 D2:Addr->Prop,(∀ a,D1 a->D a)/\(∀ a,D2 a->D a)/\(∀ a,D1 a->D2 a->False)/\A.p H D1/\bO O H D2
abbrev Sep (O:List ay)(H:Hp):Prop:=∃ D:Addr->Prop,(∀ a,D a->H a≠none)/\bO O H D
inductive ag (A:ay):List ay->List ay->Prop where
 |e {O:List ay}:ag A (A::O) O
 |t {B:ay}{O Γ':List ay}(h:ag A O Γ'):ag A (B::O) (B::Γ')
variable {g:List ay}
section
variable {A B:ay}{O Γ':List ay}{H H':Hp}{a b p t:Addr}{o o':HO}{xs:List V}{φ:Prop}
def bO.st:∀ {O:List ay}{H H':Hp}{D:Addr->Prop},bO O H D->(∀ a,D a->H' a=H a)->lB H H'->bO O H' D
 | [],_,_,_,_,_,_=>True.intro
 |A::O,H,H',D,⟨D1,D2,s1,s2,dj,h1,h2⟩,k,t=>⟨D1,D2,s1,s2,dj,A.st H H' D1 h1 (λa z=>k a (s1 a z)) t,bO.st h2 (λa z=>k a (s2 a z)) t⟩
def bO.up:∀ {O:List ay}{H:Hp}{D D':Addr->Prop},bO O H D->(∀ a,D a->D' a)->bO O H D'
 | [],_,_,_,_,_=>True.intro
 |A::O,H,D,D',⟨D1,D2,s1,s2,dj,h1,h2⟩,k=>⟨D1,D2,λa z=>k a (s1 a z),λa z=>k a (s2 a z),dj,h1,h2⟩
def Sep.nil:Sep [] H:=⟨λ_=>False,λ_ z=>z.elim,True.intro⟩
def bO.pull:∀ {O Γ':List ay}{D:Addr->Prop},ag A O Γ'->bO O H D->bO (A::Γ') H D:=by
 intro O Γ' D h
 induction h generalizing D with
 |e=>exact λz=>z
 |t h ih=>
  rintro⟨D1,D2,s1,s2,dj,h1,h2⟩;obtain⟨E1,E2,t1,t2,ej,k1,k2⟩:=ih h2;refine⟨E1,λa=>D1 a\/E2 a,λa z=>s2 a (t1 a z),λa z=>z.elim (s1 a) λz=>s2 a (t2 a z),λa z1 z2=>?_,k1,D1,E2,λa z=>.inl z,λa z=>.inr z,λa z1 z2=>dj a z1 (t2 a z2),h1,k2⟩;rcases z2 with z2|z2
  .exact dj a z2 (t1 a z1)
  .exact ej a z1 z2
def Sep.pull (h:ag A O Γ')(s:Sep O H):Sep (A::Γ') H:=let⟨D,k,z⟩:=s;⟨D,k,bO.pull h z⟩
def bO.push:∀ {O Γ':List ay}{D:Addr->Prop},ag A O Γ'->bO (A::Γ') H D->bO O H D:=by
 intro O Γ' D h
 induction h generalizing D with
 |e=>exact λz=>z
 |t h ih=>
  rintro⟨D1,D2,s1,s2,dj,h1,E1,E2,t1,t2,ej,k1,k2⟩;refine⟨E1,λa=>D1 a\/E2 a,λa z=>s2 a (t1 a z),λa z=>z.elim (s1 a) λz=>s2 a (t2 a z),λa z1 z2=>?_,k1,ih ⟨D1,E2,λa z=>.inl z,λa z=>.inr z,λa z1 z2=>dj a z1 (t2 a z2),h1,k2⟩⟩;rcases z2 with z2|z2
  .exact dj a z2 (t1 a z1)
  .exact ej a z1 z2
def Sep.push (h:ag A O Γ')(s:Sep (A::Γ') H):Sep O H:=let⟨D,k,z⟩:=s;⟨D,k,bO.push h z⟩
def Sep.drop (s:Sep (A::O) H):Sep O H:=let⟨D,k,D1,D2,s1,s2,dj,h1,h2⟩:=s;⟨D2,λa z=>k a (s2 a z),h2⟩
def Sep.at (s:Sep (pt a o::O) H):H a=some o:=let⟨D,k,D1,D2,s1,s2,dj,h1,h2⟩:=s;h1.2
def Sep.atT (s:Sep (tu t xs::O) H):H t=some (.tup xs):=let⟨D,k,D1,D2,s1,s2,dj,h1,h2⟩:=s;h1
def Sep.pure (s:Sep (pu φ::O) H):φ:=let⟨D,k,D1,D2,s1,s2,dj,h1,h2⟩:=s;h1
def Sep.sX (h:φ)(s:Sep O H):Sep (pu φ::O) H:=let⟨D,k,h2⟩:=s;⟨D,k,λ_=>False,D,λ_ z=>z.elim,λ_ z=>z,λ_ z _=>z,h,h2⟩
def Sep.IJ (h:H t=some (.tup xs))(s:Sep O H):Sep (tu t xs::O) H:=let⟨D,k,h2⟩:=s;⟨D,k,λ_=>False,D,λ_ z=>z.elim,λ_ z=>z,λ_ z _=>z,h,h2⟩
def Sep.ne (s:Sep (pt a o::pt b o'::O) H):a≠b:=by
 obtain⟨D,k,D1,D2,s1,s2,dj,h1,E1,E2,t1,t2,ej,k1,k2⟩:=s;rintro rfl;exact dj a h1.1 (t1 a k1.1)
def Sep.set (s:Sep (pt a o::O) H)(n:nA o'=nA o):Sep (pt a o'::O) (upd H a o'):=by
 obtain⟨D,k,D1,D2,s1,s2,dj,h1,h2⟩:=s;refine⟨D,λb z=>?_,D1,D2,s1,s2,dj,⟨h1.1,aL⟩,bO.st h2 (λb z=>aj λe=>dj a h1.1 (e▸z)) (lB.upd h1.2 n)⟩
 by_cases e:b=a
 .rw[e,aL];exact λz=>by cases z
 .rw[aj e];exact k b z
def Sep.new (s:Sep O H)(h:H p=none):Sep (pt p o::O) (upd H p o):=by
 obtain⟨D,k,z⟩:=s;have ne:∀ b,D b->b≠p:=λb hb e=>k b hb (e▸h)
 refine⟨λb=>b=p\/D b,λb hb=>?_,λb=>b=p,D,λb e=>.inl e,λb e=>.inr e,λb e z=>ne b z e,⟨rfl,aL⟩,bO.st z (λb hb=>aj (ne b hb)) (lB.new h)⟩;rcases hb with rfl|hb
 .rw[aL];exact λz=>by cases z
 .rw[aj (ne b hb)];exact k b hb
def Sep.qt (s:Sep O H)(h:H p=none):Sep (tu p xs::O) (upd H p (.tup xs)):=Sep.IJ aL (Sep.drop (s.new (o:=.tup xs) h))
def Sep.toT (s:Sep (pt t (.tup xs)::O) H):Sep (tu t xs::O) H:=Sep.IJ s.at s.drop
def Sep.star:Sep (qW A B::O) H ↔ Sep (A::B::O) H:=by
 constructor
 .rintro⟨D,k,D1,D2,s1,s2,dj,⟨E1,E2,t1,t2,ej,k1,k2⟩,h2⟩;refine⟨D,k,E1,λa=>E2 a\/D2 a,λa z=>s1 a (t1 a z),λa z=>z.elim (λz=>s1 a (t2 a z)) (s2 a),λa z1 z2=>?_,k1,E2,D2,λa z=>.inl z,λa z=>.inr z,λa z1 z2=>dj a (t2 a z1) z2,k2,h2⟩;rcases z2 with z2|z2
  .exact ej a z1 z2
  .exact dj a (t1 a z1) z2
 .rintro⟨D,k,D1,D2,s1,s2,dj,h1,E1,E2,t1,t2,ej,k1,k2⟩;refine⟨D,k,λa=>D1 a\/E1 a,E2,λa z=>z.elim (s1 a) λz=>s2 a (t1 a z),λa z=>s2 a (t2 a z),λa z1 z2=>?_,⟨D1,E1,λa z=>.inl z,λa z=>.inr z,λa z1 z2=>dj a z1 (t1 a z2),h1,k1⟩,k2⟩;rcases z1 with z1|z1
  .exact dj a z1 (t2 a z2)
  .exact ej a z1 z2
def Sep.IQ {α:Type}{f:α->ay}:Sep (ex f::O) H ↔ ∃ x,Sep (f x::O) H:=by
 constructor
 .rintro⟨D,k,D1,D2,s1,s2,dj,⟨x,h1⟩,h2⟩;exact⟨x,D,k,D1,D2,s1,s2,dj,h1,h2⟩
 .rintro⟨x,D,k,D1,D2,s1,s2,dj,h1,h2⟩;exact⟨D,k,D1,D2,s1,s2,dj,⟨x,h1⟩,h2⟩
def Sep.KO (s:Sep (tys xs::O) H):∀ x ∈ xs,∃ t,tyName x H=some t:=let⟨D,k,D1,D2,s1,s2,dj,h1,h2⟩:=s;h1
def Sep.free (h:∀ D,A.p H D) (s:Sep O H):Sep (A::O) H:=let⟨D,k,h2⟩:=s;⟨D,k,λ_=>False,D,λ_ z=>z.elim,λ_ z=>z,λ_ z _=>z,h _,h2⟩
def Sep.JF (h:∀ x ∈ xs,∃ t,tyName x H=some t) (s:Sep O H):Sep (tys xs::O) H:=s.free λ_=>h
def Sep.get (s:Sep O H)(h:ag (pt a o) O Γ'):H a=some o:=(s.pull h).at
def Sep.tX (s:Sep O H)(h:ag (tu t xs) O Γ'):H t=some (.tup xs):=(s.pull h).atT
inductive aO (A B:ay):List ay->List ay->Prop where
 |e {O:List ay}:aO A B (A::O) (B::O)
 |t {C:ay}{O Γ':List ay}(h:aO A B O Γ'):aO A B (C::O) (C::Γ')
def ag.k1 {b:ay}:ag A (b::A::g) (b::g):=.t .e
def ag.k2 {b c:ay}:ag A (b::c::A::g) (b::c::g):=.t .k1
def ag.k3 {b c d:ay}:ag A (b::c::d::A::g) (b::c::d::g):=.t .k2
def ag.j2 {b c:ay}{f:List ay}(h:ag A g f):ag A (b::c::g) (b::c::f):=.t (.t h)
def aO.k1 {b:ay}:aO A B (b::A::g) (b::B::g):=.t .e
def aO.k2 {b c:ay}:aO A B (b::c::A::g) (b::c::B::g):=.t .k1
def aO.k3 {b c d:ay}:aO A B (b::c::d::A::g) (b::c::d::B::g):=.t .k2
def aO.j2 {b c:ay}{f:List ay}(h:aO A B g f):aO A B (b::c::g) (b::c::f):=.t (.t h)
def aO.bp (h:aO A B O Γ'):∃ Δ,ag A O Δ/\ag B Γ' Δ:=by
 induction h with
 |e=>exact⟨_,.e,.e⟩
 |t h ih=>
  obtain⟨Δ,h1,h2⟩:=ih;exact⟨_,.t h1,.t h2⟩
def Sep.put (s:Sep O H)(h:aO (pt a o) (pt a o') O Γ')(n:nA o'=nA o):Sep Γ' (upd H a o'):=by
 obtain⟨Δ,h1,h2⟩:=h.bp;exact((s.pull h1).set n).push h2
inductive Sub:List ay->List ay->Prop where
 |refl {O:List ay}:Sub O O
 |nil {O:List ay}:Sub [] O
 |cons {A:ay}{O Γ' Δ:List ay}(h:ag A O Δ) (r:Sub Γ' Δ):Sub (A::Γ') O
 |drop {A:ay}{O Γ':List ay}(r:Sub Γ' O):Sub Γ' (A::O)
def bO.sub:∀ {O Γ':List ay}{D:Addr->Prop},Sub Γ' O->bO O H D->bO Γ' H D:=by
 intro O Γ' D h
 induction h generalizing D with
 |refl=>exact λz=>z
 |nil=>exact λ_=>True.intro
 |cons h r ih=>
  intro z;obtain⟨D1,D2,s1,s2,dj,h1,h2⟩:=bO.pull h z;exact⟨D1,D2,s1,s2,dj,h1,ih h2⟩
 |drop r ih=>
  rintro⟨D1,D2,s1,s2,dj,h1,h2⟩;exact(ih h2).up s2
def Sep.sub (h:Sub Γ' O)(s:Sep O H):Sep Γ' H:=let⟨D,k,z⟩:=s;⟨D,k,bO.sub h z⟩
end
@[irreducible] noncomputable def aa (T:Tab) (R:Rt) (k f:Nat):Sp:=bX T R k f
def tB:aa=bX:=by
 funext T R k f
 unfold aa
 rfl
variable {Q:VK}
def wc {T:Tab}{R:Rt}{k f:Nat}{d:aB}{vs:List V}{E:XK}(hk:0<k)(hd:T.fns[f]? =some d)(hl:vs.length=d.ps.length)
  (h:wB d.body ⟨T,R,aa T R (k-1),.calm⟩ { nx:=λ_ H'=>Q .non H',rt:=Q } (λ_=>E) (start d.N vs) H):aa T R k f vs H Q E:=by
 rw[tB]at h⊢;cases k with
 |zero=>exact absurd hk 1e1
 |succ k=>
  show(match T.fns[f]? with|some d=>_|none=>_);rw[hd];exact⟨hl,h⟩
variable {c:Bool}
def bZ {A B:Prop}(h1:c=true->A)(h2:c=false->B):i7 c A B:=by
 unfold i7;cases c
 .exact h2 rfl
 .exact h1 rfl
def aJ {A B:Prop}(h:c=true)(h1:A):i7 c A B:=by subst h;unfold i7;exact h1
def au {A B:Prop}(h:c=false)(h1:B):i7 c A B:=by subst h;unfold i7;exact h1
def Hz {A B:Prop}(h:i7 c B A):i7 (!c) A B:=by
 unfold i7 at h⊢;cases c
 .exact h
 .exact h
def aG {p:Prop} [Decidable p] {A B:Prop}(h1:p->A)(h2:¬ p->B):i7 (decide p) A B:=bZ (λh=>h1 (of_decide_eq_true h)) λh=>h2 (of_decide_eq_false h)
def aE {i j:Int}{A B:Prop}(h1:i=j->A)(h2:i≠j->B):i7 (dD (.int i) (.int j)) A B:=by
 show i7 (i ==j) A B;exact bZ (λh=>h1 (by simpa using h)) λh=>h2 (by simpa using h)
variable {dx:Addr}{n:Nat}{fs:List (Str×V)}{es:List V}{R:Hp->Prop}
section
variable {K:W.Frag}{G:Gx}{O Γ':List ay}{H:Hp}{Q:VK}{a p:Addr}{o:HO}{xs ys:List V}{v w:V}{i:Int}{f:Str}
def al (s:Sep O H)(h:∀ p H',Sep (pt p o::O) H'->Q (.ref p) H'):∀ p,H p=none->Q (.ref p) (upd H p o):=λp hp=>h p _ (s.new hp)
def g6 {C x:Addr}(s:Sep O H)(h1:H x=none)(h2:H dx=none)(h3:dx≠x):Sep (pt x (.ins C dx [])::pt dx (.own x)::O) (upd (upd H dx (.own x)) x (.ins C dx [])):=(s.new h2).new (by rw[aj h3.symm];exact h1)
def dM {dx:Option Addr}{E:XK}(s:Sep O H)(r:aO (pt a (.exc (G.R.cad n) dx fs true)) (pt a (.exc (G.R.cad n) dx fs false)) O Γ')(ho:G.T.xc.contains n=true)(h:∀ H',Sep Γ' H'->E a H'):
  ∃ b i dx fs,V.ref a=.ref b/\H b=some (.exc (G.R.cad i) dx fs true)/\G.T.xc.contains i=true/\E b (upd H b (.exc (G.R.cad i) dx fs false)):=by
 obtain⟨Δ,h1,h2⟩:=r.bp;exact⟨a,n,dx,fs,rfl,s.get h1,ho,h _ (s.put r rfl)⟩
def NL (s:Sep O H)(h:∀ p H',Sep (tu p xs::O) H'->Q (.ref p) H'):∀ p,H p=none->Q (.ref p) (upd H p (.tup xs)):=λp hp=>h p _ (s.qt hp)
def iU (s:Sep O H)(hl:es.length<=10000)(h:∀ p H',Sep (pt p (.lst es)::O) H'->Q (.ref p) H'):D8 es H Q:=by unfold D8;exact⟨hl,al s h⟩
def Ak (s:Sep O H)(hl:es.length<=10000)(h:∀ p H',Sep (pt p (.tup es)::O) H'->Q (.ref p) H'):qt es H Q:=by unfold qt;exact⟨hl,al s h⟩
def aX (e:H a=some 4e8)(hv:oa xs i=some v)(q:Q v H):tH K 3e6 (.int i) H Q:=by unfold tH;exact .inl ⟨xs,i,v,rfl,.inl (bB.of e),hv,q⟩
def Jm (e:H a=some (.tup xs))(hv:oa xs i=some v)(q:Q v H):tH K 3e6 (.int i) H Q:=by unfold tH;exact .inl ⟨xs,i,v,rfl,.inr (bP.of e),hv,q⟩
def fD {j:Nat}(s:Sep O H)(r:aO (pt a 4e8) (pt a (.lst ys)) O Γ')(hj:y0 xs.length i=some j)(hx:xs.set j v=ys)(h:∀ H',Sep Γ' H'->R H'):jl 3e6 (.int i) v H R:=by
 obtain⟨Δ,h1,h2⟩:=r.bp;subst hx;unfold jl;exact .inl ⟨xs,i,j,rfl,s.get h1,hj,h _ (s.put r rfl)⟩
def K5 (e:H a=some 4e8)(h0:0<=i)(hv:xs[i.toNat]? =some v)(q:Q v H):zX K 3e6 (.int i) H Q:=by unfold zX;exact⟨xs,v,bB.of e,h0,hv,q⟩
def az (e:H a=some (.ins (G.R.cad n) dx fs))(ho:G.T.oc.contains n=true)(hn:G.T.na.contains (n,f)=true)(hl:fs.lookup f=some v)(q:Q v H):uL G f 3e6 H Q:=by unfold uL;exact⟨a,n,fs,v,rfl,.inl ⟨ho,dx,e⟩,hn,hl,q⟩
def Jg {fr:Bool}(e:H a=some (.exc (G.R.cad n) (some dx) fs fr))(ho:G.T.xc.contains n=true)(hn:G.T.na.contains (n,f)=true)(hl:fs.lookup f=some v)(q:Q v H):uL G f 3e6 H Q:=by unfold uL;exact⟨a,n,fs,v,rfl,.inr ⟨ho,dx,fr,e⟩,hn,hl,q⟩
def LY {fs':List (Str×V)}(s:Sep O H)(r:aO (pt a (.ins (G.R.cad n) dx fs)) (pt a (.ins (G.R.cad n) dx fs')) O Γ')(ho:G.T.oc.contains n=true)(hn:G.T.na.contains (n,f)=true)(hl:fs.length<1000)(hf:dv f v fs=fs')(h:∀ H',Sep Γ' H'->R H'):Ei G f 3e6 v H R:=by
 obtain⟨Δ,h1,h2⟩:=r.bp;subst hf;unfold Ei;exact⟨a,n,rfl,hn,.inl ⟨dx,fs,ho,s.get h1,hl,h _ (s.put r rfl)⟩⟩
def DA {d:Addr}{fs':List (Str×V)}(s:Sep O H)(r:aO (pt a (.exc (G.R.cad n) (some d) fs true)) (pt a (.exc (G.R.cad n) (some d) fs' true)) O Γ')(ho:G.T.xc.contains n=true)(hn:G.T.na.contains (n,f)=true)(hl:fs.length<1000)(hf:dv f v fs=fs')(h:∀ H',Sep Γ' H'->R H'):Ei G f 3e6 v H R:=by
 obtain⟨Δ,h1,h2⟩:=r.bp;subst hf;unfold Ei;exact⟨a,n,rfl,hn,.inr (.inl ⟨d,fs,ho,s.get h1,hl,h _ (s.put r rfl)⟩)⟩
def vG (s:Sep (pt a (.exc (G.R.cad n) none [] true)::O) H)(ho:G.T.xc.contains n=true)(hn:G.T.na.contains (n,f)=true)(h:∀ d H',Sep (pt a (.exc (G.R.cad n) (some d) [(f,v)] true)::pt d (.own a)::O) H'->R H'):Ei G f 3e6 v H R:=by
 unfold Ei;refine⟨a,n,rfl,hn,.inr (.inr ⟨ho,s.at,λd hd=>h d _ ?_⟩)⟩;exact((s.new (o:=.own a) hd).pull (.t .e)).set rfl
def lj {n:String}{b:Bool}(ht:tyName v H=some t)(hb:G.T.subB.lookup (t,n)=some b)(q:Q (.bl b) H):nv G (.ty n) v H Q:=by unfold nv;exact .inl ⟨t,b,ht,hb,q⟩
def Bp {j:Nat}{b:Bool}(e:H a=some (.ins (G.R.cad j) dx fs))(ho:G.T.oc.contains j=true)(hb:G.T.sub.lookup (j,n)=some b)(q:Q (.bl b) H):nv G (.own n) 3e6 H Q:=by unfold nv;exact .inr ⟨a,j,b,rfl,.inl ⟨ho,dx,fs,e⟩,hb,q⟩
def jV (e:H a=some 4e8)(q:Q (.int xs.length) H):qq G .len [.ref a] H Q:=by unfold qq;exact⟨_,xs.length,rfl,.inl ⟨xs,bB.of e,rfl⟩,q⟩
def FL {j:Int}(hc:G.cm=.calm)(q:Q (.int (min i j)) H):qq G .min [.int i,.int j] H Q:=by
 unfold qq;refine⟨hc,.inl ⟨i,j,rfl,?_⟩⟩;have e:(if j<i then j else i)=min i j:=by split<;>omega
 rw[e];exact q
def dR (h0:0<=i)(h1:i<n):y0 n i=some i.toNat:=by
 unfold y0;rw[if_pos h0,if_pos h1]
def qH (s:Sep O H)(e:H a=some 4e8)(h:∀ p H',Sep (pt p 4e8::O) H'->Q (.ref p) H'):qq G .list [.ref a] H Q:=by unfold qq;exact .inl ⟨_,xs,rfl,.inl (bB.of e),al s h⟩
def FR (s:Sep O H)(e:H a=some 4e8)(h:∀ p H',Sep (tu p xs::O) H'->Q (.ref p) H'):qq G .tuple [.ref a] H Q:=by unfold qq;exact⟨_,xs,rfl,.inl ⟨bB.of e,NL s h⟩⟩
def JG (s:Sep O H)(e:H a=some 4e8)(h1: -1000<=i)(h2:i<=1000)(h3:xs.length<=1000)(h:∀ p H',Sep (pt p (.lst (sn i.toNat xs).flatten)::O) H'->Q (.ref p) H'):Cv K a i H Q:=by unfold Cv;exact .inl ⟨xs,e,h1,h2,h3,al s h⟩
def zp {y:V}(s:Sep O H)(r:aO (pt a 4e8) (pt a (.lst (xs++[y]))) O Γ')(hl:xs.length<=10000)(h:∀ H',Sep Γ' H'->Q .non H'):IY .append a xs [y] H Q:=by unfold IY;exact⟨_,rfl,hl,h _ (s.put r rfl)⟩
def LU {lo hi:Option Int}(s:Sep O H)(e:bB K H a xs)(h:∀ p H',Sep (pt p (.lst (sM xs lo hi))::O) H'->Q (.ref p) H'):IU K 3e6 lo hi H Q:=by unfold IU;exact .inl ⟨xs,e,al s h⟩
def LQ {R:It->Hp->Prop}(e:H a=some 4e8)(h:R (Ef K a) H):vi K a H R:=by unfold vi;exact .inl ⟨⟨xs,bB.of e⟩,h⟩
def Jb {R:It->Hp->Prop}(e:H a=some 4e8)(h:R (Ka a) H):D5 a H R:=by unfold D5;exact⟨⟨xs,e⟩,h⟩
end
variable {x:V}
section
variable {K:W.Frag}{H:Hp}{Q:VK}
def jn (f:aI x=true):dD x x=true:=by
 cases x<;>simp[aI]at f<;>simp[dD]
def wa {y:V}(fx:aI x=true)(fy:aI y=true)(q:Q (.bl (dD x y)) H):iL K false x y H Q:=by unfold iL;exact .inr ⟨0,_,.flat fx fy,by decide,.inl fx,q⟩
def DW {y:V}(fx:aI x=true)(fy:aI y=true)(q:Q (.bl (!dD x y)) H):iL K true x y H Q:=by unfold iL;exact .inr ⟨0,_,.flat fx fy,by decide,.inl fx,q⟩
def uf {b:Addr}(h:dz K H n 3e6 (.ref b) c)(hn:n<=100)(ne:a≠b)(q:Q (.bl c) H):iL K false 3e6 (.ref b) H Q:=by unfold iL;exact .inr ⟨n,c,h,hn,.inr (.inl λz=>ne (V.ref.inj z)),q⟩
def qp {b:Addr}(h:dz K H n 3e6 (.ref b) c)(hn:n<=100)(ne:a≠b)(q:Q (.bl (!c)) H):iL K true 3e6 (.ref b) H Q:=by unfold iL;exact .inr ⟨n,c,h,hn,.inr (.inl λz=>ne (V.ref.inj z)),q⟩
def AZ (h:tyName x H=some t):dz K H (n+1) x x true:=by
 have key:aI x=true->dz K H (n+1) x x true:=λf=>by
  have:=dz.flat (K:=K) (H:=H) (n:=n+1) f f
  rwa [jn f]at this
 cases x<;>first|exact key rfl|exact .same _|(cases h)
def all_true (n:Nat):(List.range n).all (λ_=>true)=true:=by simp
def m9 {b:Addr}(h1:H a=some 4e8)(h2:H b=some 4e8)(h:∀ x ∈ xs,∃ t,tyName x H=some t):dz K H (n+2) 3e6 (.ref b) true:=by
 have:=dz.ll (K:=K) (n:=n) (e:=λ_=>true) (bB.of h1) (bB.of h2) rfl λj x y e1 e2=>by
  rw[e1]at e2;cases e2;obtain⟨t,ht⟩:=h x (cr e1);exact AZ ht
 rwa [all_true]at this
def Gp {b:Addr}{ys:List V}(h1:H a=some 4e8)(h2:H b=some (.lst ys))(hl:xs.length=ys.length)(h:∀ (j:Nat) x y,xs[j]? =some x->ys[j]? =some y->dz K H (n+1) x y true):dz K H (n+2) 3e6 (.ref b) true:=by
 have:=dz.ll (K:=K) (n:=n) (e:=λ_=>true) (bB.of h1) (bB.of h2) hl h
 rwa [all_true]at this
end
variable {K:W.Frag}{rest:St}{te:TE}
section
variable {D:Ends}{F:(St->Hp->Prop)->V->St->Hp->Prop}{U:St}{H:Hp}
def gU {lo:Int}(I:Nat->St->Hp->Prop)(h0:I 0 U H)(hs:∀ j U H,j<n->I j U H->F (I (j+1)) (.int (lo+j)) U H) (hd:∀ U H,I n U H->D.nx U H):nW (FC lo n) D F U H:=by
 unfold nW;refine⟨λi m U H=>m=n-i/\i<=n/\I i U H,⟨n,by simp,Nat.zero_le _,h0⟩,λi m U H ⟨e,hi,h⟩=>?_⟩
 by_cases hlt:i<n
 .refine .inr ⟨hlt,I (i+1),λσ' H' h'=>⟨n-(i+1),by omega,rfl,hlt,h'⟩,λx H' y=>?_⟩;obtain⟨rfl,rfl⟩:=y;exact hs i U H' hlt h
 .have:i=n:=by omega
  subst this;exact .inl ⟨pi _,hd U H h⟩
def lI (I:Nat->St->Hp->Prop)(h0:I 0 U H)(hl:∀ j U H,I j U H->bB K H a xs)
  (hs:∀ j x U H,xs[j]? =some x->I j U H->F (I (j+1)) x U H) (hd:∀ U H,I xs.length U H->D.nx U H):nW (Ef K a) D F U H:=by
 unfold nW;refine⟨λi m U H=>m=xs.length-i/\i<=xs.length/\I i U H,⟨xs.length,by simp,Nat.zero_le _,h0⟩,λi m U H ⟨e,hi',h⟩=>?_⟩
 by_cases hlt:i<xs.length
 .refine .inr ⟨⟨xs,xs[i],hl i U H h,li hlt⟩,I (i+1),λσ' H' h'=>⟨xs.length-(i+1),by omega,rfl,hlt,h'⟩,λx H' y=>?_⟩;obtain⟨rfl,hy⟩:=y;exact hs i x U H' (hy xs (hl i U H' h)) h
 .have:i=xs.length:=by omega
  subst this;exact .inl ⟨⟨xs,hl _ U H h,pi _⟩,hd U H h⟩
def vH (I:Nat->St->Hp->Prop)(h0:I 0 U H)(hl:∀ j U H,I j U H->H a=some 4e8) (hs:∀ j x T U H,xs[j]? =some x->I j U H->H T=none->F (I (j+1)) (.ref T) U (upd H T (.tup [.int j,x])))
  (hd:∀ U H,I xs.length U H->D.nx U H):nW (Ka a) D F U H:=by
 unfold nW;refine⟨λi m U H=>m=xs.length-i/\i<=xs.length/\I i U H,⟨xs.length,by simp,Nat.zero_le _,h0⟩,λi m U H ⟨e,hi',h⟩=>?_⟩
 by_cases hlt:i<xs.length
 .refine .inr ⟨⟨xs,xs[i],hl i U H h,li hlt⟩,I (i+1),λσ' H' h'=>⟨xs.length-(i+1),by omega,rfl,hlt,h'⟩,λx H' y=>?_⟩;obtain⟨T,z,hT,rfl,rfl,hy⟩:=y;exact hs i z T U H (hy xs (hl i U H h)) h hT
 .have:i=xs.length:=by omega
  subst this;exact .inl ⟨⟨xs,hl _ U H h,pi _⟩,hd U H h⟩
@[irreducible] noncomputable def qY (I:Addr->List V->Hp->Prop) (D:Addr) (ys:List V) (rest:St) (x:Option V):VK:=λv H3=>∃ zs,H3 D=some (.lst zs)/\zs.length<bn/\∃ ys2 x2,x::rest=x2::rest/\ys2.length=ys.length+1/\I D ys2 (upd H3 D (.lst (zs++[v])))
def qY.mk {I:Addr->List V->Hp->Prop}{D:Addr}{ys:List V}{x:Option V}{v:V}{H3:Hp}(h1:H3 D=some (.lst ys))(hl:ys.length<=999)(h2:I D (ys++[v]) (upd H3 D (.lst (ys++[v])))):qY I D ys rest x v H3:=
 by unfold qY;exact⟨ys,h1,eC nofun,ys++[v],x,rfl,by simp,h2⟩
def qV (hn:n<=1000)(I:Addr->List V->Hp->Prop)(h0:∀ D,H D=none->I D [] (upd H D (.lst [])))
  (hs:∀ D ys H',ys.length<n->I D ys H'->te (some (.int (0+(ys.length:Nat)))::rest) H' (qY I D ys rest (some (.int (0+(ys.length:Nat))))))
  (hd:∀ D ys H',ys.length=n->I D ys H'->Q (.ref D) H'):tR te (FC 0 n) (none::rest) H Q:=by
 unfold tR;intro D hD;refine⟨λi m σ' H'=>m=n-i/\i<=n/\∃ ys x0,σ'=x0::rest/\ys.length=i/\I D ys H',⟨n,by simp,Nat.zero_le _,[],none,rfl,rfl,h0 D hD⟩,λi m σ' H' ⟨e,hi,ys,x0,e1,e2,h⟩=>?_⟩;subst e1 e2
 by_cases hlt:ys.length<n
 .refine .inr ⟨hlt,λσ2 H2=>∃ ys2 x2,σ2=x2::rest/\ys2.length=ys.length+1/\I D ys2 H2,λσ2 H2 ⟨ys2,x2,f1,f2,f3⟩=>⟨n-(ys.length+1),by omega,rfl,hlt,ys2,x2,f1,f2,f3⟩,λx H'' y=>?_⟩;obtain⟨e1,e2⟩:=y;subst e1 e2;have z:=hs D ys H'' hlt h;unfold qY at z;exact z
 .have:ys.length=n:=by omega
  exact .inl ⟨Nat.le_of_eq this.symm,hd D ys H' this h⟩
def qO (hn:xs.length<=1000)(I:Addr->List V->Hp->Prop)(hl:∀ D ys H,I D ys H->bB K H a xs) (h0:∀ D,H D=none->I D [] (upd H D (.lst [])))
  (hs:∀ D ys x H',xs[ys.length]? =some x->I D ys H'->te (some x::rest) H' (qY I D ys rest (some x)))
  (hd:∀ D ys H',ys.length=xs.length->I D ys H'->Q (.ref D) H'):tR te (Ef K a) (none::rest) H Q:=by
 unfold tR;intro D hD;refine⟨λi m σ' H'=>m=xs.length-i/\i<=xs.length/\∃ ys x0,σ'=x0::rest/\ys.length=i/\I D ys H',⟨xs.length,by simp,Nat.zero_le _,[],none,rfl,rfl,h0 D hD⟩,λi m σ' H' ⟨e,hi,ys,x0,e1,e2,h⟩=>?_⟩;subst e1 e2
 by_cases hlt:ys.length<xs.length
 .refine .inr ⟨⟨xs,xs[ys.length],hl D ys H' h,li hlt⟩,λσ2 H2=>∃ ys2 x2,σ2=x2::rest/\ys2.length=ys.length+1/\I D ys2 H2,λσ2 H2 ⟨ys2,x2,f1,f2,f3⟩=>⟨xs.length-(ys.length+1),by omega,rfl,hlt,ys2,x2,f1,f2,f3⟩,λx H'' y=>?_⟩;obtain⟨e1,hy⟩:=y;subst e1;have z:=hs D ys x H'' (hy xs (hl D ys H'' h)) h;unfold qY at z;exact z
 .have:ys.length=xs.length:=by omega
  exact .inl ⟨⟨xs,hl D ys H' h,Nat.le_of_eq this.symm⟩,hd D ys H' this h⟩
def cH (q:Q (.bl (decide (x=.non))) H):Cn false x .non H Q:=by unfold Cn;exact q
def bN (q:Q (.bl (!decide (x=.non))) H):Cn true x .non H Q:=by unfold Cn;exact q
def g5 (e:bP K H a xs)(fx:aI x=true)(fs:xs.all aI=true)(q:Q (.bl (IK x xs)) H):Jl K false x 3e6 H Q:=by unfold Jl;exact .inl ⟨xs,.inr e,fx,fs,q⟩
end
variable {kvs:List (Key×V)}{k:Key}
section
variable {K:W.Frag}{G:Gx}{O Γ':List ay}{H:Hp}{Q:VK}{a b:Addr}{xs ys:List V}{v:V}
def ML {tp1 tp2:Bool}{R:It->Hp->Prop}(h1:Sq K tp1 H a xs)(h2:Sq K tp2 H b ys)(h:R (Ln K tp1 a tp2 b) H):DI K 3e6 (.ref b) H R:=by unfold DI;exact⟨tp1,a,tp2,b,rfl,rfl,⟨xs,h1⟩,⟨ys,h2⟩,h⟩
def DL {D:Ends}{F:(St->Hp->Prop)->V->St->Hp->Prop}{U:St}{tp1 tp2:Bool}(I:Nat->St->Hp->Prop)(hn:xs.length=ys.length)(h0:I 0 U H)(hl:∀ j U H,I j U H->Sq K tp1 H a xs/\Sq K tp2 H b ys)
  (hs:∀ j x y T U H,xs[j]? =some x->ys[j]? =some y->I j U H->H T=none->F (I (j+1)) (.ref T) U (upd H T (.tup [x,y]))) (hd:∀ U H,I xs.length U H->D.nx U H):nW (Ln K tp1 a tp2 b) D F U H:=by
 unfold nW;refine⟨λi m U H=>m=xs.length-i/\i<=xs.length/\I i U H,⟨xs.length,by simp,Nat.zero_le _,h0⟩,λi m U H ⟨e,hi',h⟩=>?_⟩
 by_cases hlt:i<xs.length
 .obtain⟨g1,g2⟩:=hl i U H h;refine .inr ⟨⟨xs,ys,xs[i],ys[i]'(hn▸hlt),g1,g2,li hlt,li (hn▸hlt)⟩,I (i+1),λσ' H' h'=>⟨xs.length-(i+1),by omega,rfl,hlt,h'⟩,λx H' y=>?_⟩;obtain⟨T,z,z',hT,rfl,rfl,hy,hy'⟩:=y;exact hs i z z' T U H (hy xs g1) (hy' ys g2) h hT
 .have:i=xs.length:=by omega
  subst this;obtain⟨g1,g2⟩:=hl _ U H h;exact .inl ⟨⟨xs,ys,g1,g2,.inl (pi _)⟩,hd U H h⟩
def Kb {tp1 tp2:Bool}{ks:List Key}(s:Sep O H)(h1:Sq K tp1 H a (ks.map kV))(h2:Sq K tp2 H b ys)(hn:ks.Nodup)(hl:ks.length=ys.length)(hz:ks.length<=1000)(h:∀ p H',Sep (pt p (.dK (ks.zip ys))::O) H'->Q (.ref p) H'):KY K 3e6 (.ref b) H Q:=by unfold KY;exact⟨tp1,a,tp2,b,ks,ys,rfl,rfl,h1,h2,hn,hl,hz,al s h⟩
def qr (e:H a=some (.dK kvs))(hv:g8 kvs k=some v)(q:Q v H):tH K 3e6 (kV k) H Q:=by unfold tH;exact .inr (.inl ⟨v,.inl ⟨kvs,k,.inl e,rfl,hv.symm⟩,q⟩)
def wq {kvs':List (Key×V)}(s:Sep O H)(r:aO (pt a (.dK kvs)) (pt a (.dK kvs')) O Γ')(hl:kvs.length<=10000)(hx:putK kvs k v=kvs')(h:∀ H',Sep Γ' H'->R H'):jl 3e6 (kV k) v H R:=by
 obtain⟨Δ,h1,h2⟩:=r.bp;subst hx;unfold jl;exact .inr ⟨_,.inl ⟨kvs,k,s.get h1,rfl,Nat.lt_of_le_of_lt hl 1e1,rfl⟩,h _ (s.put r rfl)⟩
def w8 (s:Sep O H)(e:H a=some (.dK kvs))(h:∀ p H',Sep (pt p (.dK kvs)::O) H'->Q (.ref p) H'):qq G .dict [.ref a] H Q:=by unfold qq;exact⟨_,kvs,rfl,e,al s h⟩
def G7 (hn:xs.length<=1000)(I:Addr->List V->Hp->Prop)(hl:∀ D ys H,I D ys H->bP K H a xs) (h0:∀ D,H D=none->I D [] (upd H D (.lst [])))
  (hs:∀ D ys x H',xs[ys.length]? =some x->I D ys H'->te (some x::rest) H' (qY I D ys rest (some x)))
  (hd:∀ D ys H',ys.length=xs.length->I D ys H'->Q (.ref D) H'):tR te (K4 K a) (none::rest) H Q:=by
 unfold tR;intro D hD;refine⟨λi m σ' H'=>m=xs.length-i/\i<=xs.length/\∃ ys x0,σ'=x0::rest/\ys.length=i/\I D ys H',⟨xs.length,by simp,Nat.zero_le _,[],none,rfl,rfl,h0 D hD⟩,λi m σ' H' ⟨e,hi,ys,x0,e1,e2,h⟩=>?_⟩;subst e1 e2
 by_cases hlt:ys.length<xs.length
 .refine .inr ⟨⟨xs,xs[ys.length],hl D ys H' h,li hlt⟩,λσ2 H2=>∃ ys2 x2,σ2=x2::rest/\ys2.length=ys.length+1/\I D ys2 H2,λσ2 H2 ⟨ys2,x2,f1,f2,f3⟩=>⟨xs.length-(ys.length+1),by omega,rfl,hlt,ys2,x2,f1,f2,f3⟩,λx H'' y=>?_⟩;obtain⟨e1,hy⟩:=y;subst e1;have z:=hs D ys x H'' (hy xs (hl D ys H'' h)) h;unfold qY at z;exact z
 .have:ys.length=xs.length:=by omega
  exact .inl ⟨⟨xs,hl D ys H' h,Nat.le_of_eq this.symm⟩,hd D ys H' this h⟩
def Js {R:It->Hp->Prop}(e:bP K H a xs)(h:R (K4 K a) H):vi K a H R:=by unfold vi;exact .inr (.inl ⟨⟨xs,e⟩,h⟩)
def LR {p:Addr}{w:V}(e:H p=some (.dK kvs))(q:Q ((g8 kvs k).getD w) H):C9 p (kV k) w H Q:=by unfold C9;exact⟨kvs,k,e,rfl,q⟩
def Mb {p:Addr}{y:V}{j:Nat}(e:V->Bool)(h1:H p=some 4e8)(hl:xs.length<=10000)(he:∀ x ∈ xs,∃ n,n<=100/\dz K H n x y (e x)) (hj:xs[j]? =some x) (ej:e x=true) (hm:∀ (m:Nat) x,m<j->xs[m]? =some x->e x=false) (q:Q (.int (j:Int)) H):zt K p y H Q:=by unfold zt;exact⟨xs,e,j,x,h1,hl,he,hj,ej,hm,q⟩
def yy {C:Addr}(s:Sep O H)(h:∀ x dx H',Sep (pt x (.ins C dx [])::pt dx (.own x)::O) H'->Q (.ref x) H'):Ac C H Q:=by unfold Ac;exact λx dx h1 h2 h3=>h x dx _ (g6 s h1 h2 h3)
end
end L3
namespace L3
open PySem PySem.Spec PySem.W L2
variable {ps:List Str}
def AR:∀ {us:List Value}{n:Str},us.length=ps.length->n ∈ ps->((ps.zip us).lookup n).isNone=false:=by
 induction ps with
 |nil=>intro us n _ h;cases h
 |cons p ps ih=>
  intro us n hl h;cases us with
  |nil=>cases hl
  |cons u us=>
   rw[zip_cons_cons,lookup_cons];cases e:n ==p with
   |true=>rfl
   |false=>
    rcases mo.mp h with rfl|h
    .rw[beq_self_eq_true]at e;cases e
    .exact ih (Nat.succ.inj hl) h
def uV:∀ {ps:List Str}{us:List Value},ps.Nodup->us.length=ps.length->∀ {L:List (Str×Value)},(∀ n ∈ ps,L.lookup n=(ps.zip us).lookup n)->ps.filterMap (λn=>(L.lookup n).map (n,·))=ps.zip us
 | [],us,_,_,L,_=>rfl
 |p::ps,[],_,hl,L,_=>by cases hl
 |p::ps,u::us,nd,hl,L,hL=>by
  have h0:L.lookup p=some u:=by rw[hL p lw,zip_cons_cons,lookup_cons,beq_self_eq_true]
  rw[filterMap_cons,h0,zip_cons_cons];show(p,u)::_=_;rw[uV (nodup_cons.mp nd).2 (Nat.succ.inj hl) (L:=L)];intro n hn;rw[hL n (dl _ hn),zip_cons_cons,lookup_cons];have:(n ==p)=false:=by
   cases e:n ==p with
   |false=>rfl
   |true=>
    have:=beq_iff_eq.mp e;subst this;exact absurd hn (nodup_cons.mp nd).1
  rw[this]
variable {fd:FuncData}
def tD (nd:ps.Nodup)(h1:fd.params.posonlyargs=[])(h2:fd.params.args.map (·.arg)=ps)(h3:fd.params.kwonlyargs=[])(h4:fd.params.vararg=none)(h5:fd.params.kwarg=none)(h6:fd.defaults=.none)(us:List Value)(hl:us.length=ps.length):
  bindArgs fd ⟨us,[]⟩=pure (ps.zip us):=by
 obtain⟨name,qual,⟨po,as,va,ko,kd,ka,df⟩,body,scope,glo,bL,dV,kV,doc,pm,an,cdv,ct,bu⟩:=fd;dsimp only at h1 h2 h3 h4 h5 h6;subst h1 h2 h3 h4 h5 h6;generalize hps:as.map (·.arg)=ps at nd hl⊢;have e1:seqItems? (Value.none)=(pure none:Sem (Option (Array Value))):=rfl;have e2:∀ f:Str->Bool,(∀ n ∈ ps,f n=false)->ps.filter f=[]:=λf h=>List.filter_eq_nil_iff.mpr λa ha=>by rw[h a ha];decide
 have e3:¬ (us.length>ps.length):=by omega
 have e4:=e2 (λn=>((ps.zip us).lookup n).isNone) λn hn=>AR hl hn
 have e5:=uV nd hl (L:=ps.zip us) λ_ _=>rfl
 unfold bindArgs;dsimp only[List.map_nil,nil_append,append_nil];rw[hps];simp[e1,e3,e4,e5]
abbrev gD (S:List (Str×Value))(x:Str×Value):List (Str×Value):=if(S.lookup x.1).isNone=true then S++[x] else S
def E3:∀ {L:List (Str×Value)}{S:List (Str×Value)},(∀ x ∈ L,(S.lookup x.1).isNone=false)->L.foldl gD S=S
 | [],_,_=>rfl
 |x::L,S,h=>by
  have h0:gD S x=S:=by
   unfold gD;rw[if_neg (by rw[h x lw];decide)]
  rw[foldl_cons,h0];exact E3 λy hy=>h y (dl _ hy)
def EL:∀ {L:List (Str×Value)}{S:List (Str×Value)},(L.map (·.1)).Nodup->(∀ x ∈ L,S.lookup x.1=none)->L.foldl gD S=S++L
 | [],S,_,_=>by rw[append_nil];rfl
 |x::L,S,nd,h=>by
  have h0:gD S x=S++[x]:=by
   unfold gD;rw[if_pos (by rw[h x lw];rfl)]
  rw[map_cons]at nd;rw[foldl_cons,h0,EL (nodup_cons.mp nd).2]
  .rw[jp];rfl
  .intro y hy;have hne:(y.1 ==x.1)=false:=by
    cases e:y.1 ==x.1 with
    |false=>rfl
    |true=>
     have e:=beq_iff_eq.mp e;exact absurd (List.mem_map_of_mem (f:=(·.1)) hy) (e▸(nodup_cons.mp nd).1)
   obtain⟨a,b⟩:=x;rw[List.lookup_append,h y (dl _ hy),lookup_cons,hne]
   rfl
def EZ {n:Str}:∀ {L:List (Str×Value)},(∀ x ∈ L,x.1≠n)->L.lookup n=none
 | [],_=>rfl
 |(a,b)::L,h=>by
  have:(n ==a)=false:=by
   cases e:n ==a with
   |false=>rfl
   |true=>exact absurd (beq_iff_eq.mp e).symm (h (a,b) lw)
  rw[lookup_cons,this];exact EZ λx hx=>h x (dl _ hx)
variable {A:List Str}{B:List Value}
def qG {x:Str×Value}(h:x ∈ A.zip B):x.1 ∈ A:=by
 obtain⟨a,b⟩:=x;exact(of_mem_zip h).1
def zip_map (h:A.length<=B.length):(A.zip B).map (·.1)=A:=List.map_fst_zip h
def pL {B:List Str}{us:List Value}(h:A.length=us.length):(A++B).zip us=A.zip us:=by
 have:=zip_append (l₁:=A) (l₂:=us) (r₁:=B) (r₂:=[]) h;rw[append_nil,List.zip_nil_right,append_nil]at this;exact this
def CS {B:List Str}{us D1 D2:List Value}(nd:(A++B).Nodup)(h1:A.length=us.length)(h2:B.length=D2.length)(h3:D1.length<=A.length):
  (((A++B).drop (A.length-D1.length)).zip (D1++D2)).foldl gD ((A++B).zip us)=(A++B).zip (us++D2):=by
 have a:=E3 (L:=(A.drop (A.length-D1.length)).zip D1) (S:=(A++B).zip us) λx hx=>by
  rw[pL h1];exact AR h1.symm (List.mem_of_mem_drop (qG hx))
 have b:=EL (L:=B.zip D2) (S:=(A++B).zip us) (by rw[zip_map nofun];exact(List.nodup_append.mp nd).2.1) λx hx=>by
  refine EZ λy hy e=>?_
  rw[pL h1]at hy;exact(List.nodup_append.mp nd).2.2 y.1 (qG hy) x.1 (qG hx) e
 rw[List.drop_append_of_le_length nofun,zip_append (by rw[io];omega),List.foldl_append,a,b,pL h1,zip_append h1]
def BE {us ds:List Value}(nd:ps.Nodup)(h1:us.length<=ps.length)(h2:ds.length<=ps.length)(h3:ps.length<=us.length+ds.length):
  ((ps.drop (ps.length-ds.length)).zip ds).foldl gD (ps.zip us)=ps.zip (us++ds.drop (us.length+ds.length-ps.length)):=by
 have nd2:(ps.take us.length++ps.drop us.length).Nodup:=by rw[take_append_drop];exact nd
 have:=CS (A:=ps.take us.length) (B:=ps.drop us.length) (us:=us) (D1:=ds.take (us.length+ds.length-ps.length)) (D2:=ds.drop (us.length+ds.length-ps.length)) nd2 (by rw[db];omega) (by rw[io,io];omega) (by rw[db,db];omega);rw[take_append_drop,take_append_drop,db,db]at this;rw[show min us.length ps.length-min (us.length+ds.length-ps.length) ds.length=ps.length-ds.length by omega]at this;exact this
def sx:∀ {L:List (Str×Value)}{S:List (Str×Value)},(forIn L S λx r=>(match x with|(name,d)=>if(r.lookup name).isNone=true then pure (ForInStep.yield (r++[(name,d)])) else pure (ForInStep.yield r):Sem (ForInStep (List (Str×Value)))))=pure (L.foldl gD S)
 | [],S=>by simp
 |(a,b)::L,S=>by
  rw[forIn_cons,foldl_cons,<-sx];unfold gD
  by_cases e:(S.lookup a).isNone=true
  .simp only[e,if_true,pure_bind]
  .simp only[e,if_false,pure_bind,Bool.false_eq_true]
def Bl {T:Addr}{items:Array Value}(nd:ps.Nodup)(h1:fd.params.posonlyargs=[])(h2:fd.params.args.map (·.arg)=ps)(h3:fd.params.kwonlyargs=[])(h4:fd.params.vararg=none)(h5:fd.params.kwarg=none)(h6:fd.defaults=.ref T)(us:List Value)(l1:us.length<=ps.length)(l2:items.toList.length<=ps.length)(l3:ps.length<=us.length+items.toList.length):
  ∃ k:Option (Array Value)->Sem (List (Str×Value)),bindArgs fd ⟨us,[]⟩=seqItems? fd.defaults >>= k/\k (some items)=pure (ps.zip (us++items.toList.drop (us.length+items.toList.length-ps.length))):=by
 obtain⟨name,qual,⟨po,as,va,ko,kd,ka,df⟩,body,scope,glo,bL,dV,kV,doc,pm,an,cdv,ct,bu⟩:=fd;dsimp only at h1 h2 h3 h4 h5 h6;subst h1 h2 h3 h4 h5 h6;generalize hps:as.map (·.arg)=ps at nd l1 l2 l3⊢;have e2:∀ f:Str->Bool,(∀ n ∈ ps.take (ps.length-items.toList.length),f n=false)->(ps.take (ps.length-items.toList.length)).filter f=[]:=λf h=>List.filter_eq_nil_iff.mpr λa ha=>by rw[h a ha];decide
 have e3:¬ (us.length>ps.length):=by omega
 have ez:ps.zip us=(ps.take us.length).zip us:=by
  have:=pL (A:=ps.take us.length) (B:=ps.drop us.length) (us:=us) (by rw[db];omega);rw[take_append_drop]at this;exact this
 have e4:=e2 (λn=>((ps.zip us).lookup n).isNone) λn hn=>by
  rw[ez];refine AR (by rw[db];omega) ?_;have:ps.take (ps.length-items.toList.length)=(ps.take us.length).take (ps.length-items.toList.length):=by rw[List.take_take,Nat.min_eq_left nofun]
  rw[this]at hn;exact List.mem_of_mem_take hn
 have e6:=BE (us:=us) (ds:=items.toList) nd l1 l2 l3;have e5:=uV (us:=us++items.toList.drop (us.length+items.toList.length-ps.length)) nd (by rw[ci,io];omega) λ_ _=>rfl
 have e7:items.toList.length-ps.length=0:=by omega
 unfold bindArgs;dsimp only[List.map_nil,nil_append,append_nil];rw[hps];refine⟨_,rfl,?_⟩;simp only[Option.getD_some,List.map_nil,nil_append,e7,drop_zero,e4,e3,List.isEmpty_nil,Bool.not_true,decide_false,Bool.false_and,Bool.false_eq_true,if_false,forIn_nil,append_nil];rw[sx,e6,pure_bind,pure_bind];simp only[e5,List.isEmpty_nil,Bool.not_true,Bool.false_eq_true,if_false]
abbrev E6 (x:Option (Option Value))(a:Addr):Bool:=match x with
 |some (some (.ref b))=>b ==a
 |_=>false
variable {x:Option (Option Value)}
def iV {a:Addr}(h:E6 x a=true):x=some (some 3e6):=by
 unfold E6 at h
 split at h
 .rw[beq_iff_eq.mp h]
 .cases h
abbrev tQ (x:Option (Option Value))(a:String):Bool:=match x with
 |some (some (.builtin b))=>b ==a
 |_=>false
variable {a:String}
def c8 (h:tQ x a=true):x=some (some (.builtin a)):=by
 unfold tQ at h
 split at h
 .rw[beq_iff_eq.mp h]
 .cases h
abbrev Mj (x:Option Value)(a:String):Bool:=match x with
 |some (.type b)=>b ==a
 |_=>false
def FQ {x:Option Value}(h:Mj x a=true):x=some (.type a):=by
 unfold Mj at h
 split at h
 .rw[beq_iff_eq.mp h]
 .cases h
abbrev zJ (x:Option (Option Value)):Bool:=match x with
 |some none=>true
 |_=>false
def pV (h:zJ x=true):x=some none:=by
 unfold zJ at h
 split at h
 .rfl
 .cases h
abbrev Dd (x:Option Bool)(b:Bool):Bool:=match x with
 |some c=>c ==b
 |none=>false
def fV {x:Option Bool}{b:Bool}(h:Dd x b=true):x=some b:=by
 unfold Dd at h
 split at h
 .rw[beq_iff_eq.mp h]
 .cases h
abbrev MO (v:V)(x:Option (Option Value)):Bool:=match v,x with
 | .int i,some (some (.int j _))=>i ==j
 | .str s,some (some (.str s' _))=>s ==s'
 | .ref a,y=>E6 y a
 |_,_=>false
def GQ {v:V}(h:MO v x=true):∃ u,x=some (some u)/\RelV v u:=by
 unfold MO at h
 split at h
 .rw[<-beq_iff_eq.mp h];exact⟨_,rfl,_,rfl⟩
 .rw[<-beq_iff_eq.mp h];exact⟨_,rfl,_,rfl⟩
 .rw[iV h];exact⟨_,rfl,rfl⟩
 .cases h
section
variable (K:Frag) (C:Addr)
abbrev Ee:Bool:=plainGet K C Str.empty&&(hasDictIn K C&&(plainOver K C&&tQ (findIn K 2e4 "__setattr__") "object.__setattr__"))
def vL {K:Frag}{C:Addr}(h:Ee K C=true):Dm K C:=by
 unfold Ee at h;simp only[nb]at h;exact⟨h.1,h.2.1,h.2.2.1,c8 h.2.2.2⟩
abbrev Ep:Bool:=tQ (findIn K 2e4 "__class__") "object.__class__"&&(tQ (specialIn K 4e3 "__get__") "getset_descriptor.__get__"&&Dd (takesIn K 4e3) true)
abbrev sj:Bool:=Mj (typeIn K 2e4) "type"&&((clsIn K C).any (λcd=>eT cd.mro)&&(hasDictIn K C&&(tQ (findIn K 2e4 "__getattribute__") "BaseException.__getattribute__"&&(zJ (findIn K 2e4 "__getattr__")&&tQ (findIn K 2e4 "__setattr__") "object.__setattr__"))))
def lX {K:Frag}{C:Addr}(h:sj K C=true):dw K C:=by
 unfold sj at h;simp only[nb]at h;exact⟨FQ h.1,h.2.1,h.2.2.1,c8 h.2.2.2.1,pV h.2.2.2.2.1,c8 h.2.2.2.2.2⟩
end
abbrev all2 {α:Type}(l:List α)(p:α->Bool):Bool:=match l with
 | []=>true
 |a::r=>p a&&all2 r p
def aM {α:Type}{p:α->Bool}:∀ {l:List α},all2 l p=true->∀ a ∈ l,p a=true
 | [],_,_,h=>by cases h
 |a::r,h,b,hb=>by
  unfold all2 at h;rw[nb]at h;rcases mo.mp hb with rfl|hb
  .exact h.1
  .exact aM h.2 b hb
abbrev G8 (K:Frag)(fs cs:List Addr)(gs:List (Str×V)):Rt:=⟨K,λi=>fs.getD i 0,λi=>cs.getD i 0,λx=>gs.lookup x⟩
section
variable (K:Frag) (T:Tab) (fs cs:List Addr) (gs:List (Str×V))
abbrev Cr:Bool:=
 (all2 T.gfn (λp=>E6 (nsIn K mainGlobals p.1) (fs.getD p.2 0)&&(keepIn K (.ref (fs.getD p.2 0))&&(T.fns[p.2]?).isSome))&&
 (all2 T.gcl (λp=>E6 (nsIn K mainGlobals p.1) (cs.getD p.2 0))&&
 (all2 T.gbl (λx=>zJ (nsIn K mainGlobals x)&& !(x ==("__name__":Str)))&&
 (all2 T.gbi (λx=>match nsIn K mainGlobals x with
  |some (some (.ref B))=>tQ (specialIn K (.ref B) "__getattribute__") "type.__getattribute__"&&(readsIn K B (.type "type")&&(match findCls K (.ref B) (.type "type") "__init__" with|some (.val (.builtin n))=>n =="ValueError.__init__"|_=>false))
  |_=>false)&&
 (all2 gs (λp=>MO p.2 (nsIn K mainGlobals p.1))&&
 (all2 T.na (λp=>zJ (findIn K (.ref (cs.getD p.1 0)) p.2))&&
 (all2 T.me (λp=>Ee K (cs.getD p.1.1 0)&&(E6 (findIn K (.ref (cs.getD p.1.1 0)) p.1.2) (fs.getD p.2 0)&&(isFn K (.ref (fs.getD p.2 0))&&(keepIn K (.ref (fs.getD p.2 0))&&(T.fns[p.2]?).isSome)))))))))))&&
 (all2 T.ini0 (λc=>cE K (cs.getD c 0)&&(tQ (findIn K (.ref (cs.getD c 0)) "__init__") "ValueError.__init__"&&(keepIn K (.ref (cs.getD c 0))&&sj K (cs.getD c 0))))&&
 (all2 T.inip (λc=>makesIn K (cs.getD c 0)&&(tQ (findIn K (.ref (cs.getD c 0)) "__init__") "object.__init__"&&keepIn K (.ref (cs.getD c 0))))&&
 (all2 T.ini (λp=>(T.fns[p.2]?).isSome&&((if T.xc.contains p.1=true then cE K (cs.getD p.1 0) else makesIn K (cs.getD p.1 0))&&(E6 (findIn K (.ref (cs.getD p.1 0)) "__init__") (fs.getD p.2 0)&&(isFn K (.ref (fs.getD p.2 0))&&keepIn K (.ref (cs.getD p.1 0))))))&&
 (all2 T.oc (λc=>Ee K (cs.getD c 0)&&(Ep K (cs.getD c 0)&&Dd (mroIn K (cs.getD c 0) (.type "object")) true))&&
 (all2 T.xc (λc=>sj K (cs.getD c 0)&&Ep K (cs.getD c 0))&&
 (all2 T.sub (λp=>Dd (kitOne K (.ref (cs.getD p.1.1 0)) (.ref (cs.getD p.1.2 0))) p.2&&(!T.xc.contains p.1.1||(Dd (mroIn K (cs.getD p.1.1 0) (.ref (cs.getD p.1.2 0))) p.2&&sj K (cs.getD p.1.2 0))))&&
 (all2 T.subT (λp=>Dd (kitOne K (.ref (cs.getD p.1.1 0)) (.type p.1.2)) p.2)&&
 (all2 T.subB (λp=>Dd (kitOne K (.type p.1.1) (.type p.1.2)) p.2)&&
 (all2 T.subO (λp=>Dd (kitOne K (.type p.1.1) (.ref (cs.getD p.1.2 0))) p.2)&&
  all2 T.cin (λp=>tQ (specialIn K (.ref (cs.getD p.1 0)) "__getattribute__") "type.__getattribute__"&&(readsIn K (cs.getD p.1 0) (.type "type")&&((match findCls K (.ref (cs.getD p.1 0)) (.type "type") "__init__" with|some (.val (.ref f))=>f ==fs.getD p.2 0|_=>false)&&(keepIn K (.ref (fs.getD p.2 0))&&(T.fns[p.2]?).isSome)))))))))))))
end
def lH {α:Type}{x:Option α}(h:x.isSome=true):∃ d,x=some d:=Option.isSome_iff_exists.mp h
variable {K:Frag}{T:Tab}{fs:List Addr}{gs:List (Str×V)}{mg:NZ}
set_option tactic.hygienic true in
def EH {cs:List Addr}{h:Heap}(X:K.In h)(G:h.Ns mainGlobals mg)(z:Cr K T fs cs gs=true):Er K mg T (G8 K fs cs gs):=by
 unfold Cr at z;simp only[nb]at z;obtain⟨⟨z1,z2,z3,z4,z5,z6,z7⟩,z8,z9,z10,z11,z12,z13,z14,z15,z16,z17⟩:=z;exact {
  gfn:=m8 λp hp=>by
   have:=aM z1 p hp;simp only[nb]at this;exact⟨mg_of X G (iV this.1),this.2.1,lH this.2.2⟩
  gcl:=m8 λp hp=>mg_of X G (iV (aM z2 p hp))
  gbl:=kg λx hx=>by
   have:=aM z3 x hx;simp only[nb]at this;exact⟨mg_none_of X G (pV this.1),by simpa using this.2⟩
  gbi:=kg λx hx=>by
   have:=aM z4 x hx
   split at this
   .rename_i B e;simp only[nb]at this;refine⟨B,mg_of X G e,c8 this.1,this.2.1,?_⟩;have t:=this.2.2
    split at t
    .rename_i n e2;rw[e2,beq_iff_eq.mp t]
    .cases t
   .cases this
  gl:=m8 λp hp=>by
   obtain⟨u,e,r⟩:=GQ (aM z5 p hp);exact⟨u,mg_of X G e,r⟩
  na:=Cs λp hp=>pV (aM z6 p hp)
  me:=jM λp hp=>by
   have:=aM z7 p hp;simp only[nb]at this;exact⟨vL this.1,⟨iV this.2.1,this.2.2.1,this.2.2.2.1⟩,lH this.2.2.2.2⟩
  ini0:=kg λc hc=>by
   have:=aM z8 c hc;simp only[nb]at this;exact⟨this.1,c8 this.2.1,this.2.2.1,lX this.2.2.2⟩
  inip:=kg λc hc=>by
   have:=aM z9 c hc;simp only[nb]at this;exact⟨this.1,c8 this.2.1,this.2.2⟩
  ini:=m8 λp hp=>by
   have:=aM z10 p hp;simp only[nb]at this;refine⟨lH this.1,?_⟩;have t:=this.2
   by_cases e:T.xc.contains p.1=true
   .rw[if_pos e]at t⊢;exact⟨t.1,iV t.2.1,t.2.2.1,t.2.2.2⟩
   .rw[if_neg e]at t⊢;exact⟨t.1,iV t.2.1,t.2.2.1,t.2.2.2⟩
  oc:=kg λc hc=>by
   have:=aM z11 c hc;simp only[Ep,nb]at this;exact⟨vL this.1,c8 this.2.1.1,c8 this.2.1.2.1,fV this.2.1.2.2,fV this.2.2⟩
  xc:=kg λc hc=>by
   have:=aM z12 c hc;simp only[Ep,nb]at this;exact⟨lX this.1,c8 this.2.1,c8 this.2.2.1,fV this.2.2.2⟩
  sub:=jM λp hp=>by
   have:=aM z13 p hp;simp only[nb]at this;refine⟨fV this.1,λe=>?_⟩;have t:=this.2;rw[e,Bool.not_true,Bool.false_or,nb]at t;exact⟨fV t.1,lX t.2⟩
  subT:=jM λp hp=>fV (aM z14 p hp)
  subB:=jM λp hp=>fV (aM z15 p hp)
  subO:=jM λp hp=>fV (aM z16 p hp)
  cin:=m8 λp hp=>by
   have:=aM z17 p hp;simp only[nb]at this;refine⟨⟨c8 this.1,this.2.1,?_,this.2.2.2.1⟩,lH this.2.2.2.2⟩;have t:=this.2.2.1
   split at t
   .rename_i f e2;rw[beq_iff_eq.mp t]at e2;exact e2
   .cases t }
abbrev Lo:List Str->Bool
 | []=>true
 |a::r=>!r.contains a&&Lo r
def Bd:∀ {l:List Str},Lo l=true->l.Nodup
 | [],_=>List.nodup_nil
 |a::r,h=>by
  unfold Lo at h;rw[nb]at h;exact nodup_cons.mpr ⟨by simpa using h.1,Bd h.2⟩
abbrev LA (N P:List Str)(sc:Scope):Bool:=decide (sc.kind=.function)&&(!sc.isCoroutine&&(!sc.isGenerator&&(Lo N&&(N.take P.length ==P&&(all2 P (λx=>match sc.names.lookup x with|some .local=>true|some .cell=>true|_=>false)&&all2 sc.names (λy=>match y.2 with| .free=>false|_=>true))))))
set_option tactic.hygienic true in
def uC {N P:List Str}{sc:Scope}(h:LA N P sc=true):lS N P sc:=by
 unfold LA at h;simp only[nb,decide_eq_true_eq]at h;refine⟨h.1,by simpa using h.2.1,by simpa using h.2.2.1,Bd h.2.2.2.1,beq_iff_eq.mp h.2.2.2.2.1,λx hx=>?_,λy hy e=>?_⟩
 .have:=aM h.2.2.2.2.2.1 x hx
  split at this
  .rename_i e;exact .inl e
  .rename_i e;exact .inr e
  .cases this
 .have:=aM h.2.2.2.2.2.2 y hy;rw[e]at this;cases this
abbrev Mr:V->Value->Bool
 | .non,.none=>true
 | .bl b,.bool c=>b ==c
 | .int i,.int j _=>i ==j
 | .str s,.str s' _=>s ==s'
 |_,_=>false
def Iw {v:V}{u:Value}(h:Mr v u=true):RelV v u:=by
 unfold Mr at h
 split at h
 .rfl
 .rw[beq_iff_eq.mp h];rfl
 .rw[beq_iff_eq.mp h];exact⟨_,rfl⟩
 .rw[beq_iff_eq.mp h];exact⟨_,rfl⟩
 .cases h
abbrev zD:List V->List Value->Bool
 | [],[]=>true
 |v::vs,u::us=>Mr v u&&zD vs us
 |_,_=>false
def pX:∀ {vs:List V}{us:List Value},zD vs us=true->Vals vs us
 | [],[],_=>.nil
 |v::vs,u::us,h=>by
  unfold zD at h;rw[nb]at h;exact .cons (Iw h.1) (pX h.2)
 | [],_::_,h=>by cases h
 |_::_,[],h=>by cases h
abbrev Mv (K:Frag)(fd:FuncData)(d:aB):Bool:=match fd.defaults with
 | .none=>d.dfl.isEmpty
 | .ref T=>!d.dfl.isEmpty&&(match K.lookup T with
  |some o=>(match o.data with| .seq items _=>zD d.dfl items.toList&&decide (items.toList.length<=d.ps.length)|_=>false)
  |none=>false)
 |_=>false
abbrev E9 (K:Frag)(T:Tab)(f:Addr)(d:aB):Bool:=match K.lookup f with
 |some ⟨_,_,.func fd,_⟩=>(match fd.body with
  | .stmts body=>decide (fd.globals=mainGlobals)&&(fd.closure.isEmpty&&(decide (fd.builtins=builtinsNs)&&(codeIn K fd.code fd.qualname&&(LA d.N d.ps fd.scope&&(mB ⟨T,fd.scope,d.N⟩ d.body body&&
   (fd.params.posonlyargs.isEmpty&&(fd.params.args.map (·.arg) ==d.ps&&(fd.params.kwonlyargs.isEmpty&&(fd.params.vararg.isNone&&(fd.params.kwarg.isNone&&Mv K fd d))))))))))
  |_=>false)
 |_=>false
variable {d:aB}
set_option tactic.hygienic true in
def FO {f:Addr}(h:E9 K T f d=true):yP K T f d:=by
 unfold E9 at h
 split at h
 .rename_i oc od fd sl e;obtain⟨name,qual,params,body,scope,glo,bL,dV,kV,doc,pm,an,cdv,ct,bu⟩:=fd;dsimp only at h
  split at h
  .rename_i body;simp only[nb,decide_eq_true_eq,isEmpty_iff,Option.isNone_iff_eq_none]at h;obtain⟨h1,h2,h3,h4,h5,h6,h7,h8,h9,h10,h11,h12⟩:=h;subst h1 h2 h3;have S:=uC h5;have nd:d.ps.Nodup:=by
    rw[<-S.pre];exact S.nd.sublist (take_sublist _ _)
   refine⟨⟨name,qual,params,body,scope,dV,kV,doc,pm,cdv,ct,oc,od,an,sl,e,h4,S,h6,?_⟩⟩;unfold Mv at h12;dsimp only at h12
   split at h12
   .rw[isEmpty_iff.mp h12];exact Gm (.all λus hl=>tD nd h7 (beq_iff_eq.mp h8) h9 h10 h11 rfl us hl)
   .rename_i T0;rw[nb]at h12;have h12:=h12.2
    split at h12
    .rename_i o ho
     split at h12
     .rename_i items c hs;rw[nb,decide_eq_true_eq]at h12;intro j;refine⟨items.toList.drop j,?_,ph j (pX h12.1)⟩;refine C3 (n:=d.ps.length-(items.toList.drop j).length) rfl ho hs (by rw[io];omega) λus hl=>?_
      rw[io]at hl;obtain⟨k,k1,k2⟩:=Bl (fd:=fnOf name qual params body scope (.ref T0) kV doc pm an cdv ct) (items:=items) nd h7 (beq_iff_eq.mp h8) h9 h10 h11 rfl us nofun h12.2 nofun;refine⟨k,k1,?_⟩;rw[k2]
      by_cases e:j<=items.toList.length
      .rw[show us.length+items.toList.length-d.ps.length=j by omega]
      .rw[show us.length+items.toList.length-d.ps.length=items.toList.length by omega,List.drop_length,List.drop_eq_nil_of_le (by omega:items.toList.length<=j)]
     .cases h12
    .cases h12
   .cases h12
  .cases h
 .cases h
abbrev nG (K:Frag)(T:Tab)(fs:List Addr):Nat->List aB->Bool
 |_,[]=>true
 |n,d::r=>E9 K T (fs.getD n 0) d&&nG K T fs (n+1) r
def wA {K:Frag}{T:Tab}{fs:List Addr}:∀ {l:List aB}{n:Nat},nG K T fs n l=true->wW (λf d=>yP K T (fs.getD f 0) d) n l
 | [],_,_=>True.intro
 |d::r,n,h=>by
  unfold nG at h;rw[nb]at h;exact⟨FO h.1,wA h.2⟩
def Ej (h:nG K T fs 0 T.fns=true):∀ f d,T.fns[f]? =some d->yP K T (fs.getD f 0) d:=uM (P:=λf d=>yP K T (fs.getD f 0) d) (wA h)
def wV {K:Frag}{T:Tab}{fs:List Addr}:∀ {l:List aB}{n f:Nat}{d:aB},nG K T fs n l=true->l[f]? =some d->E9 K T (fs.getD (n+f) 0) d=true
 | [],_,_,_,_,e=>by simp at e
 |a::r,n,0,d,h,e=>by
  unfold nG at h;rw[nb]at h;have:a=d:=by simpa using e
  subst this;exact h.1
 |a::r,n,f+1,d,h,e=>by
  unfold nG at h;rw[nb]at h;have:=wV h.2 (f:=f) (d:=d) (by simpa using e)
  rwa [Nat.add_assoc,Nat.add_comm 1 f]at this
set_option tactic.hygienic true in
def D7 {fl:Nat}(z:nG K T fs 0 T.fns=true)(hd:T.fns[fl]? =some d)(hp:d.ps=[("_law_script":Str)]) (hf:d.dfl=[]):
  ∃ oc od fd sl,K.lookup (fs.getD fl 0)=some ⟨oc,od,.func fd,sl⟩/\∀ (s:Shared) (v:Value),BindsTo s fd ⟨[v],[]⟩ [("_law_script",v)]:=by
 have h:=wV z hd;rw[Nat.zero_add]at h;unfold E9 at h
 split at h
 .rename_i oc od fd sl e;refine⟨oc,od,fd,sl,e,λs v=>?_⟩
  split at h
  .rename_i body hb;simp only[nb,decide_eq_true_eq,isEmpty_iff,Option.isNone_iff_eq_none]at h;obtain⟨h1,h2,h3,h4,h5,h6,h7,h8,h9,h10,h11,h12⟩:=h;have nd:d.ps.Nodup:=by
    rw[<-(uC h5).pre];exact(uC h5).nd.sublist (take_sublist _ _)
   unfold Mv at h12;rw[hf]at h12;have e6:fd.defaults=.none:=by
    split at h12
    .rename_i e;exact e
    .rw[nb]at h12;cases h12.1
    .cases h12
   have:=tD nd h7 (beq_iff_eq.mp h8) h9 h10 h11 e6 [v] (by rw[hp];rfl);rw[hp]at this;exact .of_eq this
  .cases h
 .cases h
def CZ {P:Program}{w:World}{h:Heap}{fa:Addr}{cs:List Addr}{fl k:Nat}(X:K.In h)(G:h.Ns mainGlobals mg)(hfa:mg "law"=some (.ref fa))
  (z1:Cr K T fs cs gs=true) (z2:nG K T fs 0 T.fns=true) (z3:E6 (nsIn K mainGlobals "law") (fs.getD fl 0)=true) (hd:T.fns[fl]? =some d) (hp:d.ps=[("_law_script":Str)]) (hf:d.dfl=[])
  (ht:∀ vs H Q E,k6 K 63 vs H Q E->aa T (G8 K fs cs gs) k fl vs H Q E):
  ∃ fd:FuncData,(∀ (s:Shared) (v:Value),BindsTo s fd ⟨[v],[]⟩ [("_law_script",v)])/\∀ base:Heap,K.In base->base.Ns mainGlobals mg->dQ true P w K mg base (zP P w) (2*k) fa fd ["_law_script"] (k6 K 63):=by
 have e0:fs.getD fl 0=fa:=by
  have e:=hfa.symm.trans (mg_of X G (iV z3))
  injection e with e
  injection e with e
  exact e.symm
 have fn:=Ej z2;have tk:=EH X G z1;have N:=fn fl d hd;have hN:=D7 z2 hd;obtain⟨oc,od,fd,sl,e,hb⟩:=hN hp hf;refine⟨fd,hb,λbase hb hg=>?_⟩;have F:=IE (P:=P) (w:=w) (base:=base) (R:=G8 K fs cs gs) tk rfl fn k fl d hd (fd:=fd) (lk:=e) (tB▸ht);rw[hp]at F;rw[<-e0];exact F
abbrev M9 (K:Frag)(a:Addr)(vs:List V):Bool:=match K.lookup a with
 |some ⟨.type t,_,.seq items _,_⟩=>t =="tuple"&&(decide (items.size<=1000)&&zD vs items.toList)
 |_=>false
set_option tactic.hygienic true in
def BY {a:Addr}{vs:List V}(h:M9 K a vs=true)(H:Hp):bP K H a vs:=by
 unfold M9 at h
 split at h
 .rename_i t od items n sl e;simp only[nb,decide_eq_true_eq]at h;refine .inr ⟨_,items,n,e,?_,rfl,?_,pX h.2.2⟩
  .show Value.type t=_;rw[beq_iff_eq.mp h.1]
  .exact Nat.le_of_lt (eC h.2.1)
 .cases h
end L3
namespace L3
open PySem L2
noncomputable abbrev iY.c (e:Ex)(r:iY):iY:=.cons e r
noncomputable abbrev iY.n:iY:=.nil
noncomputable abbrev lx.c (e:Sx)(r:lx):lx:=.cons e r
noncomputable abbrev lx.n:lx:=.nil
noncomputable abbrev Co.c (a b:Nat)(e:lx)(r:Co):Co:=.cons a b e r
noncomputable abbrev Co.n:Co:=.nil
noncomputable abbrev Ex.i (x:Int):Ex:=.int x
noncomputable abbrev Ex.s (x:Str):Ex:=.str x
noncomputable abbrev Ex.k (x:Nat)(e:iY):Ex:=.call x e
noncomputable abbrev Ex.m (a:Ex)(x:Str)(e:iY):Ex:=.meth a x e
noncomputable abbrev Ex.f (c:Tx)(a b:Ex):Ex:=.ife c a b
noncomputable abbrev Ex.q (o:CmpOp)(a b:Ex):Ex:=.cmp o a b
noncomputable abbrev Tx.q (o:CmpOp)(a b:Ex):Tx:=.cmp o a b
noncomputable abbrev Sx.a (x:Nat)(e:Ex):Sx:=.asg x e
noncomputable abbrev Sx.r (e:Ex):Sx:=.ret e
noncomputable abbrev Sx.f (c:Tx)(a b:lx):Sx:=.ife c a b
noncomputable abbrev Sx.e (e:Ex):Sx:=.expr e
end L3
set_option Elab.async false
set_option maxHeartbeats 8000000
open PySem PySem.Spec L2 L3
namespace My
open PySem L2 L3
set_option hygiene false
local macro_rules|`(#[])=>`(.n)|`(#[$x:term])=>`(.c $x .n)|`(#[$x:term,$xs:term,*])=>`(.c $x #[$xs,*])
set_option hygiene true
abbrev cX:aB:=⟨["self","at"],["self","at"],[],#[.e (.bini #[.v 0,.s "no list of 1 to 60 contents"]),.fld 0e6 "at" 2e0]⟩
abbrev dh:aB:=⟨["self","low","behind","word"],["self","low","behind","word"],[],#[.e (.bini #[.v 0,.s "no stretch of the store, or no word for a leave"]),.fld 0e6 "low" 2e0,.fld 0e6 "behind" 4e9,.fld 0e6 "word" (.v 3)]⟩
abbrev fK:aB:=⟨["self","deed","cell"],["self","deed","cell"],[],#[.e (.bini #[.v 0,.s "a cell that is not there, or may not be looked at or put"]),.fld 0e6 "deed" 2e0,.fld 0e6 "cell" 4e9]⟩
abbrev dZ:aB:=⟨["self","box","number"],["self","box","number"],[],#[.e (.bini #[.v 0,.s "a box can't hold this"]),.fld 0e6 "box" 2e0,.fld 0e6 "number" 4e9]⟩
abbrev kh:aB:=⟨["self","box"],["self","box"],[],#[.e (.bini #[.v 0,.s "no box of that name"]),.fld 0e6 "box" 2e0]⟩
abbrev jq:aB:=⟨["self","word"],["self","word"],[],#[.e (.bini #[.v 0,.s "a deed can't be made of this"]),.fld 0e6 "word" 2e0]⟩
abbrev jk:aB:=⟨["self","at"],["self","at"],[],#[.e (.bini #[.v 0,.s "no list of 1 to 24 deeds"]),.fld 0e6 "at" 2e0]⟩
abbrev iX:aB:=⟨["self","at"],["self","at"],[],#[.e (.bini #[.v 0,.s "no place to stand at"]),.fld 0e6 "at" 2e0]⟩
abbrev mQ:aB:=⟨["thing"],["thing"],[],#[.r (.and (.isi 0e6 (.ty "int")) (.not (.isi 0e6 (.ty "bool"))))]⟩
abbrev jB:aB:=⟨["thing"],["thing"],[],#[.r (.and (.k 8 #[.v 0]) (.cmp2 .LtE .LtE (.i 0) 0e6 (.gl "BOUND")))]⟩
abbrev mU:aB:=⟨["thing"],["thing"],[],#[.r (.and (.isi 0e6 (.ty "str")) (.q .In 0e6 (.gl "NAMES")))]⟩
abbrev kG:aB:=⟨["thing"],["thing"],[],#[.r (.and (.k 8 #[.v 0]) (.cmp2 .LtE .LtE (.neg (.gl "BOUND")) 0e6 (.gl "BOUND")))]⟩
abbrev B6:aB:=⟨["box","thing"],["box","thing"],[],#[.f (.or (.q .Eq 0e6 (.s "here")) (.q .Eq 0e6 (.s "there"))) #[.r (.k 11 #[.v 1])] .n,.f (.q .Eq 0e6 (.s "way")) #[.r (.and (.k 8 #[.v 1]) (.or (.q .Eq 2e0 4e1) (.q .Eq 2e0 (.neg 4e1))))] .n,.f (.q .Eq 0e6 (.s "met")) #[.r (.and (.k 8 #[.v 1]) (.or (.q .Eq 2e0 (.i 0)) (.q .Eq 2e0 4e1)))] .n,.r (.k 9 #[.v 1])]⟩
abbrev eG:aB:=⟨["self","here","there","left","way","sign","met"],["self","here","there","left","way","sign","met","handed","box","number"],[.int 0,.int 0,.int 0,.int 1,.int 0,.int 0],#[.a 7 (.tup #[.v 1,.v 2,.v 3,.v 4,.v 5,.v 6]),.for (.tp [8,9]) (.zip (.gl "NAMES") (.v 7)) #[.f (.not (.val (.k 12 #[.v 8,.v 9]))) #[.rais (.make 4 #[.v 8,.v 9])] .n],.fld 0e6 "numbers" (.dzip (.gl "NAMES") (.v 7))]⟩
abbrev ip:aB:=⟨["self","box"],["self","box"],[],#[.f (.not (.val (.k 10 #[.v 1]))) #[.rais (.make 5 #[.v 1])] .n,.r (.ix (.fld 0e6 "numbers") 2e0)]⟩
abbrev fj:aB:=⟨["self","box","number"],["self","box","number"],[],#[.f (.not (.val (.k 10 #[.v 1]))) #[.rais (.make 5 #[.v 1])] .n,.f (.not (.val (.k 12 #[.v 1,.v 2]))) #[.rais (.make 4 #[.v 1,.v 2])] .n,.sub (.fld 0e6 "numbers") 2e0 4e9]⟩
abbrev jG:aB:=⟨["self"],["self"],[],#[.r (.bf .tuple #[.lc (.ix (.fld 2e0 "numbers") 0e6) [0] (.seq (.gl "NAMES"))])]⟩
abbrev gN:aB:=⟨["self"],["self","other"],[],#[.a 1 (.make 9 .n),.fld 2e0 "numbers" (.bf .dict #[.fld 0e6 "numbers"]),.r 2e0]⟩
abbrev kO:aB:=⟨["word","box"],["word","box"],[],#[.f (.not (.val (.k 10 #[.v 1]))) #[.rais (.make 6 #[.v 0])] .n]⟩
abbrev gA:aB:=⟨["word","number"],["word","number"],[],#[.f (.not (.val (.k 11 #[.v 1]))) #[.rais (.make 6 #[.v 0])] .n]⟩
abbrev fR:aB:=⟨["self","box","number"],["self","box","number"],[],#[.e (.k 18 #[.s "set",.v 1]),.e (.k 19 #[.s "set",.v 2]),.fld 0e6 "box" 2e0,.fld 0e6 "number" 4e9]⟩
abbrev iK:aB:=⟨["self","boxes","store"],["self","boxes","store"],[],#[.e (.m 2e0 "give" #[.fld 0e6 "box",.fld 0e6 "number"]),.r 4e1]⟩
abbrev kS:aB:=⟨["self"],["self"],[],#[.r (.lst #[.s "set",.fld 0e6 "box",.bf .str #[.fld 0e6 "number"]])]⟩
abbrev gr:aB:=⟨["self","box","number"],["self","box","number"],[],#[.e (.k 18 #[.s "add",.v 1]),.e (.k 19 #[.s "add",.v 2]),.fld 0e6 "box" 2e0,.fld 0e6 "number" 4e9]⟩
abbrev i4:aB:=⟨["self","boxes","store"],["self","boxes","store"],[],#[.e (.m 2e0 "give" #[.fld 0e6 "box",.bin .Add (.m 2e0 "holds" #[.fld 0e6 "box"]) (.fld 0e6 "number")]),.r 4e1]⟩
abbrev kH:aB:=⟨["self"],["self"],[],#[.r (.lst #[.s "add",.fld 0e6 "box",.bf .str #[.fld 0e6 "number"]])]⟩
abbrev fz:aB:=⟨["self","box","other"],["self","box","other"],[],#[.e (.k 18 #[.s "take",.v 1]),.e (.k 18 #[.s "take",.v 2]),.fld 0e6 "box" 2e0,.fld 0e6 "other" 4e9]⟩
abbrev gJ:aB:=⟨["self","boxes","store"],["self","boxes","store"],[],#[.e (.m 2e0 "give" #[.fld 0e6 "box",.m 2e0 "holds" #[.fld 0e6 "other"]]),.r 4e1]⟩
abbrev jO:aB:=⟨["self"],["self"],[],#[.r (.lst #[.s "take",.fld 0e6 "box",.fld 0e6 "other"])]⟩
abbrev fq:aB:=⟨["self","box"],["self","box"],[],#[.e (.k 18 #[.s "read",.v 1]),.fld 0e6 "box" 2e0]⟩
abbrev gd:aB:=⟨["self","boxes","store"],["self","boxes","store"],[],#[.e (.m 2e0 "give" #[.fld 0e6 "box",.m 4e9 "look" #[.m 2e0 "holds" #[.s "here"]]]),.r 4e1]⟩
abbrev jy:aB:=⟨["self"],["self"],[],#[.r (.lst #[.s "read",.fld 0e6 "box"])]⟩
abbrev eD:aB:=⟨["self","box"],["self","box"],[],#[.e (.k 18 #[.s "write",.v 1]),.fld 0e6 "box" 2e0]⟩
abbrev eX:aB:=⟨["self","boxes","store"],["self","boxes","store","number"],[],#[.a 3 (.m 2e0 "holds" #[.fld 0e6 "box"]),.f (.not (.val (.k 9 #[.v 3]))) #[.rais (.make 4 #[.fld 0e6 "box",.v 3])] .n,.e (.m 4e9 "put" #[.m 2e0 "holds" #[.s "there"],.v 3]),.r 4e1]⟩
abbrev ie:aB:=⟨["self"],["self"],[],#[.r (.lst #[.s "write",.fld 0e6 "box"])]⟩
abbrev jx:aB:=⟨["rows"],["rows","at","thing"],[],#[.f (.or (.not (.val (.isi 0e6 (.ty "list")))) (.not (.cmp2 .LtE .LtE 4e1 (.bf .len #[.v 0]) (.gl "MOST_ROWS")))) #[.rais (.make 7 #[.neg 4e1])] .n,.for (.tp [1,2]) (.enm 0e6) #[.f (.not (.val (.isi 4e9 (.own 10)))) #[.rais (.make 7 #[.v 1])] .n]]⟩
abbrev ij:aB:=⟨["at","many"],["at","many"],[],#[.f (.or (.not (.val (.k 8 #[.v 0]))) (.not (.cmp2 .LtE .LtE (.i 0) 0e6 2e0))) #[.rais (.make 8 #[.v 0])] .n]⟩
abbrev qe:aB:=⟨["deed","boxes","store"],["deed","boxes","store","stop","refusal"],[],#[.tryx #[.r (.tup #[.m 0e6 "step" #[.v 1,.v 2],.non])] (.c 3 3 #[.r (.tup #[.non,.tup #[.fld (.v 3) "deed",.fld (.v 3) "cell"]])] (.c 4 4 #[.r (.tup #[.non,.tup #[.s "fit",.fld (.v 4) "box"]])] .n))]⟩
abbrev bQ:aB:=⟨["self","rows","store","boxes","at"],["self","rows","store","boxes","at"],[.int 0],#[.e (.k 35 #[.v 1]),.e (.k 36 #[.v 4,.bf .len #[.v 1]]),.fld 0e6 "deeds" (.bf .list #[.v 1]),.fld 0e6 "store" (.m 4e9 "copied" .n),.fld 0e6 "boxes" (.m (.v 3) "copied" .n),.fld 0e6 "at" (.v 4)]⟩
abbrev ft:aB:=⟨["self"],["self"],[],#[.r (.q .Eq (.fld 0e6 "at") (.bf .len #[.fld 0e6 "deeds"]))]⟩
abbrev cf:aB:=⟨["self","store"],["self","store","by"],[],#[.f (.val (.m 0e6 "ended" .n)) #[.r (.s "end")] .n,.a 2 (.ix (.k 37 #[.ix (.fld 0e6 "deeds") (.fld 0e6 "at"),.fld 0e6 "boxes",.v 1]) (.i 0)),.f (.q .Is 4e9 .non) #[.r (.s "stop")] .n,.fld 0e6 "at" (.bf .min #[.bin .Add (.fld 0e6 "at") 4e9,.bf .len #[.fld 0e6 "deeds"]]),.r (.s "on")]⟩
abbrev fT:aB:=⟨["self"],["self"],[],#[.r (.m 0e6 "step_on" #[.fld 0e6 "store"])]⟩
abbrev bF:aB:=⟨["self","most"],["self","most","steps"],[],#[.a 2 (.i 0),.whl (.and (.q .Lt 4e9 2e0) (.q .Eq (.m 0e6 "step" .n) (.s "on"))) #[.aug 2 .Add 4e1],.f (.val (.m 0e6 "ended" .n)) #[.r (.tup #[.s "end",.v 2])] .n,.f (.q .GtE 4e9 2e0) #[.r (.tup #[.s "bell",.v 2])] .n,.r (.tup #[.s "stop",.v 2])]⟩
abbrev iy:aB:=⟨["self"],["self","cause"],[],#[.f (.val (.m 0e6 "ended" .n)) #[.r .non] .n,.a 1 (.ix (.k 37 #[.ix (.fld 0e6 "deeds") (.fld 0e6 "at"),.m (.fld 0e6 "boxes") "copied" .n,.m (.fld 0e6 "store") "copied" .n]) 4e1),.f (.q .Is 2e0 .non) #[.r .non] .n,.r (.tup #[.fld 0e6 "at",.ix 2e0 (.i 0),.ix 2e0 4e1])]⟩
abbrev fm:aB:=⟨["self"],["self"],[],#[.r (.tup #[.fld 0e6 "at",.m (.fld 0e6 "boxes") "told" .n,.m (.fld 0e6 "store") "told" .n])]⟩
abbrev eK:aB:=⟨["self"],["self"],[],#[.r (.m (.fld 0e6 "store") "leaves" .n)]⟩
abbrev fJ:aB:=⟨["self","low","behind","word"],["self","low","behind","word"],[],#[.e (.m (.fld 0e6 "store") "leave" #[.v 1,.v 2,.v 3])]⟩
abbrev gE:aB:=⟨["self"],["self"],[],#[.r (.lc (.m 0e6 "words" .n) [] (.seq (.fld 0e6 "deeds")))]⟩
abbrev eI:aB:=⟨["self"],["self"],[],#[.r (.make 16 #[.fld 0e6 "deeds",.fld 0e6 "store",.fld 0e6 "boxes",.fld 0e6 "at"])]⟩
abbrev dX:aB:=⟨["self","store"],["self","store"],[],#[.fld 0e6 "store" 2e0,.fld 0e6 "before" (.m 2e0 "told" .n),.fld 0e6 "changes" (.lst .n)]⟩
abbrev kZ:aB:=⟨["self","deed","cell"],["self","deed","cell"],[],#[.r (.m (.fld 0e6 "store") "may" #[.v 1,.v 2])]⟩
abbrev je:aB:=⟨["self","cell"],["self","cell"],[],#[.r (.m (.fld 0e6 "store") "look" #[.v 1])]⟩
abbrev kM:aB:=⟨["self","cell","content"],["self","cell","content"],[],#[.e (.m (.fld 0e6 "store") "put" #[.v 1,.v 2]),.e (.lm .append (.fld 0e6 "changes") #[.tup #[.v 1,.ix (.fld 0e6 "before") 2e0,.v 2]])]⟩
abbrev dg:aB:=⟨["self","rows","store","boxes","at"],["self","rows","store","boxes","at"],[.int 0],#[.e (.cini 16 #[.v 0,.v 1,.v 2,.v 3,.v 4]),.fld 0e6 "entries" (.lst .n)]⟩
abbrev fN:aB:=⟨["self"],["self","row","ahead","noted","word"],[],#[.a 1 (.fld 0e6 "at"),.a 2 (.m (.fld 0e6 "boxes") "told" .n),.a 3 (.make 17 #[.fld 0e6 "store"]),.a 4 (.m 0e6 "step_on" #[.v 3]),.f (.q .Eq (.v 4) (.s "on")) #[.e (.lm .append (.fld 0e6 "entries") #[.tup #[.v 1,.v 2,.fld (.v 3) "changes"]])] .n,.r (.v 4)]⟩
abbrev iz:aB:=⟨["self"],["self"],[],#[.r (.lct (.tup #[.v 0,.v 1,.bf .list #[.v 2]]) 3 [] (.seq (.fld 0e6 "entries")))]⟩
abbrev eJ:aB:=⟨["self"],["self","other"],[],#[.a 1 (.make 18 #[.fld 0e6 "deeds",.fld 0e6 "store",.fld 0e6 "boxes",.fld 0e6 "at"]),.fld 2e0 "entries" (.m 0e6 "log" .n),.r 2e0]⟩
abbrev nY:aB:=⟨["thing"],["thing"],[],#[.r (.and (.k 8 #[.v 0]) (.cmp2 .LtE .LtE (.i 0) 0e6 (.gl "MOST_HOPPED")))]⟩
abbrev vZ:aB:=⟨["thing"],["thing"],[],#[.r (.or (.q .Is 0e6 .non) (.and (.k 8 #[.v 0]) (.or (.q .Eq 0e6 (.i 0)) (.q .Eq 0e6 4e1))))]⟩
abbrev gq:aB:=⟨["self","many","on"],["self","many","on"],[.non],#[.f (.or (.not (.val (.k 57 #[.v 1]))) (.not (.val (.k 58 #[.v 2])))) #[.rais (.make 6 #[.s "hop"])] .n,.fld 0e6 "many" 2e0,.fld 0e6 "on" 4e9]⟩
abbrev nh:aB:=⟨["self","boxes","store"],["self","boxes","store"],[],#[.f (.or (.q .Is (.fld 0e6 "on") .non) (.q .Eq (.fld 0e6 "on") (.m 2e0 "holds" #[.s "met"]))) #[.r (.bin .Add 4e1 (.fld 0e6 "many"))] .n,.r 4e1]⟩
abbrev kX:aB:=⟨["self"],["self","told"],[],#[.a 1 (.lst #[.s "hop",.bf .str #[.fld 0e6 "many"]]),.f (.q .IsNot (.fld 0e6 "on") .non) #[.e (.lm .extend 2e0 #[.lst #[.s "if",.bf .str #[.fld 0e6 "on"]]])] .n,.r 2e0]⟩
abbrev qh:aB:=⟨["boxes","box","by"],["boxes","box","by"],[],#[.e (.m 0e6 "give" #[.v 1,.bin .Add (.m 0e6 "holds" #[.v 1]) 4e9])]⟩
abbrev gw:aB:=⟨["boxes","box"],["boxes","box"],[],#[.e (.k 62 #[.v 0,.v 1,.m 0e6 "holds" #[.s "way"]])]⟩
abbrev kP:aB:=⟨["boxes","by"],["boxes","by"],[],#[.e (.k 62 #[.v 0,.s "left",.neg 2e0]),.r (.f (.q .Eq (.m 0e6 "holds" #[.s "left"]) (.i 0)) 4e1 (.i 0))]⟩
abbrev kB:aB:=⟨["store","cell"],["store","cell"],[],#[.f (.not (.val (.m 0e6 "may" #[.s "put",.v 1]))) #[.rais (.make 3 #[.s "put",.v 1])] .n]⟩
abbrev ue:aB:=⟨["store","source","target"],["store","source","target","content"],[],#[.a 3 (.m 0e6 "look" #[.v 1]),.e (.m 0e6 "put" #[.v 2,.v 3])]⟩
abbrev iD:aB:=⟨["store","one","other"],["store","one","other","first","second"],[],#[.a 3 (.m 0e6 "look" #[.v 1]),.a 4 (.m 0e6 "look" #[.v 2]),.e (.k 65 #[.v 0,.v 1]),.e (.k 65 #[.v 0,.v 2]),.e (.m 0e6 "put" #[.v 1,.v 4]),.e (.m 0e6 "put" #[.v 2,.v 3])]⟩
abbrev gB:aB:=⟨["self","boxes","store"],["self","boxes","store"],[],#[.f (.q .Eq (.m 2e0 "holds" #[.s "left"]) (.i 0)) #[.r 4e1] .n,.e (.k 66 #[.v 2,.m 2e0 "holds" #[.s "here"],.m 2e0 "holds" #[.s "there"]]),.e (.k 63 #[.v 1,.s "here"]),.e (.k 63 #[.v 1,.s "there"]),.r (.k 64 #[.v 1,.i 1])]⟩
abbrev jD:aB:=⟨["self"],["self"],[],#[.r (.lst #[.s "copy"])]⟩
abbrev gz:aB:=⟨["self","boxes","store"],["self","boxes","store"],[],#[.f (.q .Eq (.m 2e0 "holds" #[.s "left"]) (.i 0)) #[.r 4e1] .n,.e (.m 4e9 "put" #[.m 2e0 "holds" #[.s "there"],.m 2e0 "holds" #[.s "sign"]]),.e (.k 63 #[.v 1,.s "there"]),.r (.k 64 #[.v 1,.i 1])]⟩
abbrev jQ:aB:=⟨["self"],["self"],[],#[.r (.lst #[.s "fill"])]⟩
abbrev gy:aB:=⟨["self","boxes","store"],["self","boxes","store"],[],#[.f (.q .Eq (.m 2e0 "holds" #[.s "left"]) (.i 0)) #[.e (.m 2e0 "give" #[.s "met",.i 0]),.r 4e1] .n,.f (.q .Eq (.m 4e9 "look" #[.m 2e0 "holds" #[.s "here"]]) (.m 2e0 "holds" #[.s "sign"])) #[.e (.m 2e0 "give" #[.s "met",.i 1]),.r 4e1] .n,.e (.m 2e0 "give" #[.s "met",.i 0]),.e (.k 63 #[.v 1,.s "here"]),.r (.k 64 #[.v 1,.i 1])]⟩
abbrev jh:aB:=⟨["self"],["self"],[],#[.r (.lst #[.s "seek"])]⟩
abbrev eW:aB:=⟨["self","boxes","store"],["self","boxes","store","content"],[],#[.f (.q .Eq (.m 2e0 "holds" #[.s "left"]) (.i 0)) #[.e (.m 2e0 "give" #[.s "met",.i 1]),.r 4e1] .n,.a 3 (.m 4e9 "look" #[.m 2e0 "holds" #[.s "here"]]),.f (.q .NotEq (.v 3) (.m 4e9 "look" #[.m 2e0 "holds" #[.s "there"]])) #[.e (.m 2e0 "give" #[.s "met",.i 0]),.r 4e1] .n,.e (.m 2e0 "give" #[.s "met",.i 1]),.e (.k 63 #[.v 1,.s "here"]),.e (.k 63 #[.v 1,.s "there"]),.r (.k 64 #[.v 1,.i 1])]⟩
abbrev ic:aB:=⟨["self"],["self"],[],#[.r (.lst #[.s "match"])]⟩
abbrev eU:aB:=⟨["self","boxes","store"],["self","boxes","store","left","here","there"],[],#[.a 3 (.m 2e0 "holds" #[.s "left"]),.f (.q .Eq (.v 3) (.i 0)) #[.r 4e1] .n,.a 4 (.m 2e0 "holds" #[.s "here"]),.a 5 (.m 2e0 "holds" #[.s "there"]),.f (.q .LtE (.v 5) (.v 4)) #[.e (.k 66 #[.v 2,.v 4,.v 5]),.e (.k 62 #[.v 1,.s "here",.i 1]),.e (.k 62 #[.v 1,.s "there",.i 1])] #[.e (.k 66 #[.v 2,.bin .Sub (.bin .Add (.v 4) (.v 3)) 4e1,.bin .Sub (.bin .Add (.v 5) (.v 3)) 4e1])],.r (.k 64 #[.v 1,.i 1])]⟩
abbrev iq:aB:=⟨["self"],["self"],[],#[.r (.lst #[.s "shift"])]⟩
abbrev gu:aB:=⟨["self","boxes","store"],["self","boxes","store","left","here"],[],#[.a 3 (.m 2e0 "holds" #[.s "left"]),.f (.q .Eq (.v 3) (.i 0)) #[.r 4e1] .n,.f (.q .Eq (.v 3) 4e1) #[.r (.k 64 #[.v 1,.i 1])] .n,.a 4 (.m 2e0 "holds" #[.s "here"]),.e (.k 67 #[.v 2,.v 4,.bin .Sub (.bin .Add (.v 4) (.v 3)) 4e1]),.e (.k 62 #[.v 1,.s "here",.i 1]),.r (.k 64 #[.v 1,.i 2])]⟩
abbrev jH:aB:=⟨["self"],["self"],[],#[.r (.lst #[.s "turn"])]⟩
abbrev hJ:aB:=⟨["cells"],["cells","at","thing"],[],#[.f (.or (.not (.val (.isi 0e6 (.ty "list")))) (.not (.cmp2 .LtE .LtE 4e1 (.bf .len #[.v 0]) (.gl "MOST_CELLS")))) #[.rais (.make 1 #[.neg 4e1])] .n,.for (.tp [1,2]) (.enm 0e6) #[.f (.not (.val (.k 9 #[.v 2]))) #[.rais (.make 1 #[.v 1])] .n]]⟩
abbrev mL:aB:=⟨["word"],["word"],[],#[.r (.and (.isi 0e6 (.ty "str")) (.q .In 0e6 (.gl "LEAVES")))]⟩
abbrev kJ:aB:=⟨["low","behind","size"],["low","behind","size"],[],#[.r (.and (.k 8 #[.v 0]) (.and (.k 8 #[.v 1]) (.cmp3 .LtE .LtE .LtE (.i 0) 0e6 2e0 4e9)))]⟩
abbrev d8:aB:=⟨["self","cells"],["self","cells"],[],#[.e (.k 80 #[.v 1]),.fld 0e6 "contents" (.bf .list #[.v 1]),.fld 0e6 "permits" (.bin .Mult (.lst #[.s "open"]) (.bf .len #[.v 1]))]⟩
abbrev jg:aB:=⟨["self"],["self"],[],#[.r (.bf .len #[.fld 0e6 "contents"])]⟩
abbrev jC:aB:=⟨["self"],["self"],[],#[.r (.bf .list #[.fld 0e6 "contents"])]⟩
abbrev gH:aB:=⟨["self"],["self"],[],#[.r (.bf .list #[.fld 0e6 "permits"])]⟩
abbrev hW:aB:=⟨["self","low","behind","word"],["self","low","behind","word","cell"],[],#[.f (.or (.not (.val (.k 82 #[.v 1,.v 2,.m 0e6 "size" .n]))) (.not (.val (.k 81 #[.v 3])))) #[.rais (.make 2 #[.v 1,.v 2,.v 3])] .n,.for (.nm 4) (.rng2 2e0 4e9) #[.sub (.fld 0e6 "permits") (.v 4) (.v 3)]]⟩
abbrev kE:aB:=⟨["self","deed","cell"],["self","deed","cell"],[],#[.f (.not (.cmp2 .LtE .Lt (.i 0) 4e9 (.m 0e6 "size" .n))) #[.r (.bl false)] .n,.f (.q .Eq (.ix (.fld 0e6 "permits") 4e9) (.s "look")) #[.r (.q .Eq 2e0 (.s "look"))] .n,.r (.q .Eq (.ix (.fld 0e6 "permits") 4e9) (.s "open"))]⟩
abbrev jz:aB:=⟨["self","cell"],["self","cell"],[],#[.f (.not (.val (.m 0e6 "may" #[.s "look",.v 1]))) #[.rais (.make 3 #[.s "look",.v 1])] .n,.r (.ix (.fld 0e6 "contents") 2e0)]⟩
abbrev kU:aB:=⟨["self","cell","content"],["self","cell","content"],[],#[.f (.not (.val (.m 0e6 "may" #[.s "put",.v 1]))) #[.rais (.make 3 #[.s "put",.v 1])] .n,.sub (.fld 0e6 "contents") 2e0 4e9]⟩
abbrev gI:aB:=⟨["self"],["self","other"],[],#[.a 1 (.make 26 #[.lst #[.i 0]]),.fld 2e0 "contents" (.bf .list #[.fld 0e6 "contents"]),.fld 2e0 "permits" (.bf .list #[.fld 0e6 "permits"]),.r 2e0]⟩
abbrev lq:aB:=⟨["_law_script"],["_law_script","_law_cells_here","_law_fold","_law_cell"],[],#[.a 1 (.bf .list #[.sl 0e6 .no (.yes (.i 63))]),.a 2 (.bf .len #[.v 1]),.for (.nm 3) (.seq 2e0) #[.a 2 (.bin .Mod (.bin .Add (.bin .Add (.bin .Mult 4e9 (.i 48271)) (.bin .Mod (.v 3) (.i 2147483647))) 4e1) (.i 2147483629))],.r (.lst #[.v 1,.v 2,.i 0,.i 0,.i 0])]⟩
abbrev kN:aB:=⟨["_law_hand_here","_law_many"],["_law_hand_here","_law_many","_law_rest","_law_cell","_law_one","_law_two"],[],#[.augS 0e6 (.i 4) .Add 4e1,.a 2 (.ix 0e6 (.i 3)),.a 3 (.ix 0e6 4e1),.f (.q .Gt 4e9 (.i 0)) #[.sub 0e6 (.i 3) (.bin .FloorDiv 4e9 2e0),.r (.bin .Mod 4e9 2e0)] .n,.f (.q .Lt (.ix 0e6 (.i 2)) (.bf .len #[.ix 0e6 (.i 0)])) #[.a 3 (.ix (.ix 0e6 (.i 0)) (.ix 0e6 (.i 2))),.augS 0e6 (.i 2) .Add 4e1,.f (.q .GtE (.v 3) (.bin .Pow (.i 10) (.i 18))) #[.sub 0e6 (.i 3) (.bin .FloorDiv (.v 3) 2e0),.r (.bin .Mod (.v 3) 2e0)] .n] .n,.a 4 (.bin .Mod (.bin .Pow (.bin .Add (.bin .Mod (.v 3) (.i 998244353)) (.bin .Mult (.i 7919) (.ix 0e6 (.i 4)))) (.i 5)) (.i 2147483647)),.a 5 (.bin .Mod (.bin .Pow (.bin .Add (.bin .Add (.v 4) (.bin .Mult (.i 104729) (.ix 0e6 (.i 4)))) (.ix 0e6 4e1)) (.i 3)) (.i 2147483629)),.r (.bin .Mod (.bin .FloorDiv (.v 5) (.i 7)) 2e0)]⟩
abbrev fP:aB:=⟨["_law_hand_here"],["_law_hand_here","_law_way","_law_few"],[],#[.a 1 (.k 93 #[.v 0,.i 4]),.a 2 (.k 93 #[.v 0,.ix (.lst #[.i 3,.i 2,.i 100,.i 100000]) 2e0]),.f (.q .Eq 2e0 4e1) #[.r (.bin .Sub (.bin .Pow (.i 10) (.i 9)) 4e9)] .n,.f (.q .Eq 2e0 (.i 3)) #[.r (.bin .Mod (.bin .Add (.bin .Mult 4e9 (.i 10001)) (.k 93 #[.v 0,.i 10001])) (.bin .Add (.bin .Pow (.i 10) (.i 9)) 4e1))] .n,.r 4e9]⟩
abbrev jS:aB:=⟨["_law_hand_here","_law_most"],["_law_hand_here","_law_most","_law_way","_law_many"],[],#[.a 2 (.k 93 #[.v 0,.i 3]),.a 3 (.bin .Add 4e1 (.k 93 #[.v 0,.v 1])),.f (.q .Eq 4e9 (.i 0)) #[.r (.lc (.k 93 #[.v 1,.i 3]) [0] (.rng1 (.v 3)))] .n,.f (.q .Eq 4e9 4e1) #[.r (.lc (.bin .Add (.bin .Mult (.i 1000) 0e6) (.k 93 #[.v 1,.i 1000])) [0] (.rng1 (.v 3)))] .n,.r (.lc (.k 94 #[.v 1]) [0] (.rng1 (.v 3)))]⟩
abbrev iB:aB:=⟨["_law_hand_here","_law_many"],["_law_hand_here","_law_many","_law_leaves_here","_law_k","_law_word","_law_low","_law_cell"],[],#[.a 2 (.bin .Mult (.lst #[.s "open"]) 2e0),.for (.nm 3) (.rng1 (.ix (.lst #[.i 0,.i 0,.i 1,.i 2,.i 4]) (.k 93 #[.v 0,.i 5]))) #[.a 4 (.ix (.lst #[.s "look",.s "shut",.s "look",.s "open"]) (.k 93 #[.v 0,.i 4])),.a 5 (.k 93 #[.v 0,.v 1]),.for (.nm 6) (.rng2 (.v 5) (.bin .Add (.v 5) (.k 93 #[.v 0,.bin .Add (.bin .Sub 2e0 (.v 5)) 4e1]))) #[.sub 4e9 (.v 6) (.v 4)]],.r 4e9]⟩
abbrev lp:aB:=⟨["_law_hand_here","_law_many"],["_law_hand_here","_law_many","_law_way"],[],#[.a 2 (.k 93 #[.v 0,.i 8]),.f (.q .Lt 4e9 (.i 4)) #[.r (.k 93 #[.v 0,.v 1])] .n,.f (.q .Lt 4e9 (.i 6)) #[.r (.ix (.lst #[.i 0,.bin .Sub 2e0 4e1]) (.bin .Sub 4e9 (.i 4)))] .n,.f (.q .Eq 4e9 (.i 6)) #[.r (.ix (.lst #[.bin .Sub (.neg 4e1) (.k 93 #[.v 0,.i 3]),.bin .Add 2e0 (.k 93 #[.v 0,.i 3])]) (.k 93 #[.v 0,.i 2]))] .n,.r (.ix (.lst #[.bin .Sub (.bin .Pow (.i 10) (.i 9)) (.k 93 #[.v 0,.i 2]),.bin .Sub (.k 93 #[.v 0,.i 2]) (.bin .Pow (.i 10) (.i 9)),.k 93 #[.v 0,.v 1]]) (.k 93 #[.v 0,.i 3]))]⟩
abbrev iO:aB:=⟨["_law_hand_here","_law_cells_here"],["_law_hand_here","_law_cells_here","_law_many","_law_way","_law_left","_law_sign","_law_here","_law_there"],[],#[.a 2 (.bf .len #[.v 1]),.a 3 (.k 93 #[.v 0,.i 8]),.a 4 (.ix (.lst #[.k 93 #[.v 0,.bin .Add 4e9 4e1],.k 93 #[.v 0,.i 4],.bin .Add 4e9 (.k 93 #[.v 0,.i 3])]) (.bin .Mod (.v 3) (.i 3))),.f (.q .Eq (.v 3) (.i 7)) #[.a 4 (.bin .Sub (.bin .Pow (.i 10) (.i 9)) (.k 93 #[.v 0,.i 2]))] .n,.a 5 (.ix (.lst #[.ix 2e0 (.k 93 #[.v 0,.v 2]),.k 94 #[.v 0]]) (.bin .FloorDiv (.k 93 #[.v 0,.i 4]) (.i 3))),.a 6 (.k 97 #[.v 0,.v 2]),.a 7 (.k 97 #[.v 0,.v 2]),.a 3 (.bin .Sub 4e1 (.bin .Mult (.i 2) (.k 93 #[.v 0,.i 2]))),.r (.disp ["here","there","left","way","sign","met"] #[.v 6,.v 7,.v 4,.v 3,.v 5,.k 93 #[.v 0,.i 2]])]⟩
abbrev kL:aB:=⟨["_law_hand_here","_law_size"],["_law_hand_here","_law_size","_law_way","_law_names","_law_box","_law_pick"],[],#[.a 2 (.k 93 #[.v 0,.i 14]),.a 3 (.lst #[.s "here",.s "there",.s "left",.s "way",.s "sign",.s "met"]),.a 4 (.ix (.v 3) (.k 93 #[.v 0,.i 6])),.f (.q .Lt 4e9 (.i 6)) #[.r (.tup #[.ix (.lst #[.s "copy",.s "fill",.s "seek",.s "match",.s "shift",.s "turn"]) 4e9])] .n,.f (.q .Lt 4e9 (.i 9)) #[.a 4 (.ix (.lst #[.s "here",.s "there",.s "left",.v 4]) (.k 93 #[.v 0,.i 4])),.a 5 (.bin .FloorDiv (.k 93 #[.v 0,.i 8]) (.i 3)),.r (.tup #[.s "set",.v 4,.ix (.lst #[.k 93 #[.v 0,.bin .Add 2e0 4e1],.bin .Sub (.k 93 #[.v 0,.i 5]) (.i 2),.bin .Sub (.bin .Pow (.i 10) (.i 9)) (.k 93 #[.v 0,.i 2])]) (.v 5)])] .n,.f (.q .Eq 4e9 (.i 9)) #[.a 5 (.bin .FloorDiv (.k 93 #[.v 0,.i 7]) (.i 3)),.r (.tup #[.s "add",.v 4,.ix (.lst #[.bin .Sub (.k 93 #[.v 0,.i 7]) (.i 3),.k 93 #[.v 0,.bin .Add 2e0 4e1],.neg (.bin .Pow (.i 10) (.i 9))]) (.v 5)])] .n,.f (.q .Eq 4e9 (.i 10)) #[.r (.tup #[.s "take",.v 4,.ix (.v 3) (.k 93 #[.v 0,.i 6])])] .n,.f (.q .Lt 4e9 (.i 13)) #[.r (.tup #[.ix (.lst #[.s "read",.s "write"]) (.bin .Sub 4e9 (.i 11)),.v 4])] .n,.r (.tup #[.s "hop",.k 93 #[.v 0,.i 4],.ix (.lst #[.non,.i 0,.i 1]) (.k 93 #[.v 0,.i 3])])]⟩
abbrev kK:aB:=⟨["_law_spec_here"],["_law_spec_here","_law_word"],[],#[.a 1 (.ix 0e6 (.i 0)),.f (.q .Eq 2e0 (.s "set")) #[.r (.make 11 #[.ix 0e6 4e1,.ix 0e6 (.i 2)])] .n,.f (.q .Eq 2e0 (.s "add")) #[.r (.make 12 #[.ix 0e6 4e1,.ix 0e6 (.i 2)])] .n,.f (.q .Eq 2e0 (.s "take")) #[.r (.make 13 #[.ix 0e6 4e1,.ix 0e6 (.i 2)])] .n,.f (.q .Eq 2e0 (.s "read")) #[.r (.make 14 #[.ix 0e6 4e1])] .n,.f (.q .Eq 2e0 (.s "write")) #[.r (.make 15 #[.ix 0e6 4e1])] .n,.f (.q .Eq 2e0 (.s "hop")) #[.r (.make 19 #[.ix 0e6 4e1,.ix 0e6 (.i 2)])] .n,.r (.k 101 #[.v 1])]⟩
abbrev kY:aB:=⟨["_law_word"],["_law_word","_law_made"],[],#[.a 1 (.lst #[.mk0 20,.mk0 21,.mk0 22,.mk0 23,.mk0 24,.mk0 25]),.r (.ix 2e0 (.lix (.lst #[.s "copy",.s "fill",.s "seek",.s "match",.s "shift",.s "turn"]) 0e6))]⟩
abbrev nq:aB:=⟨["_law_leaves_here","_law_deed_here","_law_cell"],["_law_leaves_here","_law_deed_here","_law_cell"],[],#[.f (.or (.q .Lt 4e9 (.i 0)) (.q .GtE 4e9 (.bf .len #[.v 0]))) #[.r (.bl false)] .n,.r (.or (.q .Eq (.ix 0e6 4e9) (.s "open")) (.and (.q .Eq (.ix 0e6 4e9) (.s "look")) (.q .Eq 2e0 (.s "look"))))]⟩
abbrev eZ:aB:=⟨["_law_spec_here","_law_boxes_here"],["_law_spec_here","_law_boxes_here","_law_here","_law_there","_law_left","_law_word","_law_far","_law_found"],[],#[.par [2,3,4] #[.ix 2e0 (.s "here"),.ix 2e0 (.s "there"),.ix 2e0 (.s "left")],.a 5 (.ix 0e6 (.i 0)),.f (.q .Eq (.v 5) (.s "write")) #[.r (.tup #[.lst .n,.lst #[.v 3]])] .n,.f (.q .Eq (.v 5) (.s "read")) #[.r (.tup #[.lst #[.v 2],.lst .n])] .n,.f (.or (.q .Eq (.v 4) (.i 0)) (.and (.q .Eq (.v 5) (.s "turn")) (.q .Eq (.v 4) 4e1))) #[.r (.tup #[.lst .n,.lst .n])] .n,.a 6 (.bin .Mult (.bin .Sub (.v 4) 4e1) (.bf .int #[.q .Gt (.v 3) 4e9])),.a 7 (.disp ["copy","fill","seek","match"] #[.tup #[.lst #[.v 2],.lst #[.v 3]],.tup #[.lst .n,.lst #[.v 3]],.tup #[.lst #[.v 2],.lst .n],.tup #[.lst #[.v 2,.v 3],.lst .n]]),.sub (.v 7) (.s "shift") (.tup #[.lst #[.bin .Add 4e9 (.v 6)],.lst #[.bin .Add (.v 3) (.v 6)]]),.sub (.v 7) (.s "turn") (.tup #[.lst #[.v 2,.bin .Sub (.bin .Add 4e9 (.v 4)) 4e1],.lst #[.v 2,.bin .Sub (.bin .Add 4e9 (.v 4)) 4e1]]),.r (.dget (.v 7) (.v 5) (.tup #[.lst .n,.lst .n]))]⟩
abbrev kD:aB:=⟨["_law_box","_law_number"],["_law_box","_law_number"],[],#[.f (.or (.q .Eq 0e6 (.s "here")) (.q .Eq 0e6 (.s "there"))) #[.r (.cmp2 .LtE .LtE (.neg (.bin .Pow (.i 10) (.i 9))) 2e0 (.bin .Pow (.i 10) (.i 9)))] .n,.f (.or (.q .Eq 0e6 (.s "left")) (.q .Eq 0e6 (.s "sign"))) #[.r (.cmp2 .LtE .LtE (.i 0) 2e0 (.bin .Pow (.i 10) (.i 9)))] .n,.f (.q .Eq 0e6 (.s "way")) #[.r (.or (.q .Eq 2e0 4e1) (.q .Eq 2e0 (.neg 4e1)))] .n,.r (.or (.q .Eq 2e0 (.i 0)) (.q .Eq 2e0 4e1))]⟩
abbrev cB:aB:=⟨["_law_spec_here","_law_boxes_here","_law_leaves_here"],["_law_spec_here","_law_boxes_here","_law_leaves_here","_law_looks","_law_puts","_law_cell"],[],#[.f (.and (.q .Eq (.ix 0e6 (.i 0)) (.s "write")) (.not (.cmp2 .LtE .LtE (.i 0) (.ix 2e0 (.ix 0e6 4e1)) (.bin .Pow (.i 10) (.i 9))))) #[.r (.tup #[.s "fit",.ix 0e6 4e1,.ix 2e0 (.ix 0e6 4e1)])] .n,.asgT [3,4] (.k 103 #[.v 0,.v 1]),.for (.nm 5) (.seq (.v 3)) #[.f (.not (.val (.k 102 #[.v 2,.s "look",.v 5]))) #[.r (.tup #[.s "look",.v 5,.i 0])] .n],.for (.nm 5) (.seq (.v 4)) #[.f (.not (.val (.k 102 #[.v 2,.s "put",.v 5]))) #[.r (.tup #[.s "put",.v 5,.i 0])] .n],.r .non]⟩
abbrev k9:aB:=⟨["_law_spec_here","_law_boxes_here","_law_cells_here","_law_leaves_here"],["_law_spec_here","_law_boxes_here","_law_cells_here","_law_leaves_here","_law_barred_here","_law_word","_law_number"],[],#[.a 4 (.k 105 #[.v 0,.v 1,.v 3]),.f (.q .IsNot (.v 4) .non) #[.r (.v 4)] .n,.a 5 (.ix 0e6 (.i 0)),.f (.q .In (.v 5) (.tup #[.s "set",.s "add",.s "take",.s "read"])) #[.a 6 (.ix 0e6 (.neg 4e1)),.f (.q .Eq (.v 5) (.s "add")) #[.a 6 (.bin .Add (.ix 2e0 (.ix 0e6 4e1)) (.v 6))] .n,.f (.q .Eq (.v 5) (.s "take")) #[.a 6 (.ix 2e0 (.ix 0e6 (.i 2)))] .n,.f (.q .Eq (.v 5) (.s "read")) #[.a 6 (.ix 4e9 (.ix 2e0 (.s "here")))] .n,.f (.not (.val (.k 104 #[.ix 0e6 4e1,.v 6]))) #[.r (.tup #[.s "fit",.ix 0e6 4e1,.v 6])] .n,.sub 2e0 (.ix 0e6 4e1) (.v 6),.r (.tup #[.s "on",.i 1,.i 0])] .n,.f (.q .Eq (.v 5) (.s "write")) #[.sub 4e9 (.ix 2e0 (.s "there")) (.ix 2e0 (.ix 0e6 4e1)),.r (.tup #[.s "on",.i 1,.i 0])] .n,.f (.q .Eq (.v 5) (.s "hop")) #[.r (.tup #[.s "on",.bin .Add 4e1 (.bin .Mult (.ix 0e6 4e1) (.bf .int #[.or (.q .Is (.ix 0e6 (.i 2)) .non) (.q .Eq (.ix 0e6 (.i 2)) (.ix 2e0 (.s "met")))])),.i 0])] .n,.r (.tup #[.s "on",.k 107 #[.v 5,.v 1,.v 2],.i 0])]⟩
abbrev jN:aB:=⟨["_law_word","_law_boxes_here","_law_cells_here"],["_law_word","_law_boxes_here","_law_cells_here","_law_here","_law_there","_law_left","_law_way","_law_size","_law_content_here"],[],#[.par [3,4,5] #[.ix 2e0 (.s "here"),.ix 2e0 (.s "there"),.ix 2e0 (.s "left")],.a 6 (.ix 2e0 (.s "way")),.f (.q .In 0e6 (.tup #[.s "seek",.s "match"])) #[.r (.k 108 #[.v 0,.v 1,.v 2])] .n,.f (.q .Eq (.v 5) (.i 0)) #[.r 4e1] .n,.a 7 4e1,.f (.q .Eq 0e6 (.s "copy")) #[.sub 4e9 (.v 4) (.ix 4e9 (.v 3)),.sub 2e0 (.s "here") (.bin .Add (.v 3) (.v 6)),.sub 2e0 (.s "there") (.bin .Add (.v 4) (.v 6))] .n,.f (.q .Eq 0e6 (.s "fill")) #[.sub 4e9 (.v 4) (.ix 2e0 (.s "sign")),.sub 2e0 (.s "there") (.bin .Add (.v 4) (.v 6))] .n,.f (.and (.q .Eq 0e6 (.s "shift")) (.q .LtE (.v 4) (.v 3))) #[.sub 4e9 (.v 4) (.ix 4e9 (.v 3)),.sub 2e0 (.s "here") (.bin .Add (.v 3) 4e1),.sub 2e0 (.s "there") (.bin .Add (.v 4) 4e1)] #[.f (.q .Eq 0e6 (.s "shift")) #[.sub 4e9 (.bin .Sub (.bin .Add (.v 4) (.v 5)) 4e1) (.ix 4e9 (.bin .Sub (.bin .Add (.v 3) (.v 5)) 4e1))] .n],.f (.and (.q .Eq 0e6 (.s "turn")) (.q .Gt (.v 5) 4e1)) #[.a 7 (.i 2),.a 8 (.ix 4e9 (.v 3)),.sub 4e9 (.v 3) (.ix 4e9 (.bin .Sub (.bin .Add (.v 3) (.v 5)) 4e1)),.sub 4e9 (.bin .Sub (.bin .Add (.v 3) (.v 5)) 4e1) (.v 8),.sub 2e0 (.s "here") (.bin .Add (.v 3) 4e1)] .n,.sub 2e0 (.s "left") (.bin .Sub (.v 5) (.v 7)),.r (.bf .int #[.q .Eq (.ix 2e0 (.s "left")) (.i 0)])]⟩
abbrev ir:aB:=⟨["_law_word","_law_boxes_here","_law_cells_here"],["_law_word","_law_boxes_here","_law_cells_here","_law_here","_law_there","_law_left","_law_way","_law_other"],[],#[.par [3,4,5] #[.ix 2e0 (.s "here"),.ix 2e0 (.s "there"),.ix 2e0 (.s "left")],.a 6 (.ix 2e0 (.s "way")),.f (.q .Eq (.v 5) (.i 0)) #[.sub 2e0 (.s "met") (.bf .int #[.q .Eq 0e6 (.s "match")]),.r 4e1] .n,.a 7 (.ix 2e0 (.s "sign")),.f (.q .Eq 0e6 (.s "match")) #[.a 7 (.ix 4e9 (.v 4))] .n,.f (.q .Eq (.q .Eq (.ix 4e9 (.v 3)) (.v 7)) (.q .Eq 0e6 (.s "seek"))) #[.sub 2e0 (.s "met") (.bf .int #[.q .Eq 0e6 (.s "seek")]),.r 4e1] .n,.sub 2e0 (.s "met") (.bf .int #[.q .Eq 0e6 (.s "match")]),.sub 2e0 (.s "here") (.bin .Add (.v 3) (.v 6)),.f (.q .Eq 0e6 (.s "match")) #[.sub 2e0 (.s "there") (.bin .Add (.v 4) (.v 6))] .n,.sub 2e0 (.s "left") (.bin .Sub (.v 5) 4e1),.r (.bf .int #[.q .Eq (.v 5) 4e1])]⟩
abbrev jv:aB:=⟨["_law_cells_here","_law_leaves_here"],["_law_cells_here","_law_leaves_here","_law_store_here","_law_cell"],[],#[.a 2 (.make 26 #[.bf .list #[.v 0]]),.for (.nm 3) (.rng1 (.bf .len #[.v 0])) #[.e (.m 4e9 "leave" #[.v 3,.bin .Add (.v 3) 4e1,.ix 2e0 (.v 3)])],.r 4e9]⟩
abbrev jU:aB:=⟨["_law_six_here"],["_law_six_here"],[],#[.r (.make 9 #[.ix 0e6 (.s "here"),.ix 0e6 (.s "there"),.ix 0e6 (.s "left"),.ix 0e6 (.s "way"),.ix 0e6 (.s "sign"),.ix 0e6 (.s "met")])]⟩
abbrev eY:aB:=⟨["_law_hand_here","_law_most","_law_shut"],["_law_hand_here","_law_most","_law_shut","_law_cells_here","_law_leaves_here","_law_six_here","_law_many","_law_specs"],[],#[.a 3 (.k 95 #[.v 0,.v 1]),.a 4 (.bin .Mult (.lst #[.s "open"]) (.bf .len #[.v 3])),.f (.val 4e9) #[.a 4 (.k 96 #[.v 0,.bf .len #[.v 3]])] .n,.a 5 (.k 98 #[.v 0,.v 3]),.a 6 (.ix (.lst #[.i 3,.i 8,.i 24]) (.k 93 #[.v 0,.i 3])),.a 7 (.lc (.k 99 #[.v 1,.bf .len #[.v 2]]) [0,3] (.rng1 (.bin .Add 4e1 (.k 93 #[.v 0,.v 6])))),.r (.lst #[.v 7,.bin .Mult (.bin .FloorDiv (.k 93 #[.v 0,.i 4]) (.i 3)) (.k 93 #[.v 0,.bin .Add (.bf .len #[.v 7]) 4e1]),.v 5,.v 3,.v 4,.lst .n])]⟩
abbrev n9:aB:=⟨["_law_own_here"],["_law_own_here","_law_specs","_law_at","_law_six_here","_law_cells_here","_law_leaves_here","_law_log","_law_boxes_here","_law_puts","_law_old","_law_told"],[],#[.asgT [1,2,3,4,5,6] 0e6,.f (.q .Eq 4e9 (.bf .len #[.v 1])) #[.r (.s "end")] .n,.a 7 (.vals true (.v 3)),.a 8 (.ix (.k 103 #[.ix 2e0 4e9,.v 3]) 4e1),.a 9 (.bf .list #[.v 4]),.a 10 (.k 106 #[.ix 2e0 4e9,.v 3,.v 4,.v 5]),.f (.q .NotEq (.ix (.v 10) (.i 0)) (.s "on")) #[.r (.s "stop")] .n,.e (.lm .append (.v 6) #[.tup #[.v 2,.v 7,.lc (.tup #[.v 0,.ix 2e0 0e6,.ix 4e9 0e6]) [9,4] (.seq (.v 8))]]),.sub 0e6 4e1 (.bf .min #[.bin .Add 4e9 (.ix (.v 10) 4e1),.bf .len #[.v 1]]),.r (.s "on")]⟩
abbrev jT:aB:=⟨["_law_own_here"],["_law_own_here"],[],#[.r (.tup #[.ix 0e6 4e1,.vals true (.ix 0e6 (.i 2)),.bf .list #[.ix 0e6 (.i 3)]])]⟩
abbrev il:aB:=⟨["_law_machine","_law_own_here"],["_law_machine","_law_own_here"],[],#[.f (.or (.q .NotEq (.m 0e6 "state" .n) (.k 113 #[.v 1])) (.q .NotEq (.m 0e6 "leaves" .n) (.ix 2e0 (.i 4)))) #[.r (.bl false)] .n,.r (.q .Eq (.m 0e6 "log" .n) (.ix 2e0 (.i 5)))]⟩
abbrev iG:aB:=⟨["_law_own_here","_law_most"],["_law_own_here","_law_most","_law_done"],[],#[.a 2 (.i 0),.whl (.and (.q .Lt 4e9 2e0) (.q .Eq (.k 112 #[.v 0]) (.s "on"))) #[.aug 2 .Add 4e1],.f (.q .Eq (.ix 0e6 4e1) (.bf .len #[.ix 0e6 (.i 0)])) #[.r (.tup #[.s "end",.v 2])] .n,.r (.tup #[.ix (.lst #[.s "stop",.s "bell"]) (.bf .int #[.q .Eq 4e9 2e0]),.v 2])]⟩
abbrev mi:aB:=⟨["_law_own_here"],["_law_own_here","_law_told"],[],#[.f (.q .Eq (.ix 0e6 4e1) (.bf .len #[.ix 0e6 (.i 0)])) #[.r .non] .n,.a 1 (.k 106 #[.ix (.ix 0e6 (.i 0)) (.ix 0e6 4e1),.bf .dict #[.ix 0e6 (.i 2)],.bf .list #[.ix 0e6 (.i 3)],.ix 0e6 (.i 4)]),.f (.q .Eq (.ix 2e0 (.i 0)) (.s "on")) #[.r .non] .n,.r (.tup #[.ix 0e6 4e1,.ix 2e0 (.i 0),.ix 2e0 4e1])]⟩
abbrev ff:aB:=⟨["_law_hand_here","_law_pair","_law_own_here"],["_law_hand_here","_law_pair","_law_own_here","_law_low","_law_behind","_law_word","_law_machine","_law_cell"],[],#[.a 3 (.k 93 #[.v 0,.bf .len #[.ix 4e9 (.i 3)]]),.a 4 (.bin .Add (.v 3) (.k 93 #[.v 0,.bin .Add (.bin .Sub (.bf .len #[.ix 4e9 (.i 3)]) (.v 3)) 4e1])),.a 5 (.ix (.lst #[.s "open",.s "look",.s "shut"]) (.k 93 #[.v 0,.i 3])),.for (.nm 6) (.seq 2e0) #[.e (.m (.v 6) "leave" #[.v 3,.v 4,.v 5])],.for (.nm 7) (.rng2 (.v 3) (.v 4)) #[.sub (.ix 4e9 (.i 4)) (.v 7) (.v 5)]]⟩
abbrev jA:aB:=⟨["_law_script"],["_law_script","_law_hand_here","_law_own_here","_law_rows","_law_store_here","_law_boxes_here","_law_pair","_law_turn","_law_way","_law_most","_law_due","_law_told"],[],#[.a 1 (.k 92 #[.v 0]),.a 2 (.k 111 #[.v 1,.i 24,.bl true]),.a 3 (.lc (.k 100 #[.v 0]) [] (.seq (.ix 4e9 (.i 0)))),.a 4 (.k 109 #[.ix 4e9 (.i 3),.ix 4e9 (.i 4)]),.a 5 (.k 110 #[.ix 4e9 (.i 2)]),.a 6 (.lst #[.make 16 #[.v 3,.v 4,.v 5,.ix 4e9 4e1],.make 18 #[.v 3,.v 4,.v 5,.ix 4e9 4e1]]),.for (.nm 7) (.rng1 (.i 10)) #[.a 8 (.k 93 #[.v 1,.i 6]),.a 9 (.ix (.lst #[.i 0,.i 1,.k 93 #[.v 1,.i 20],.i 60]) (.k 93 #[.v 1,.i 4])),.a 10 (.k 116 #[.v 2]),.f (.q .NotEq (.lc (.m 0e6 "why" .n) [] (.seq (.v 6))) (.lst #[.v 10,.v 10])) #[.r (.bl false)] .n,.f (.q .Lt (.v 8) (.i 2)) #[.a 11 (.k 112 #[.v 2]),.f (.q .NotEq (.lc (.m 0e6 "step" .n) [] (.seq (.v 6))) (.lst #[.v 11,.v 11])) #[.r (.bl false)] .n] #[.f (.q .Lt (.v 8) (.i 4)) #[.a 11 (.k 115 #[.v 2,.v 9]),.f (.q .NotEq (.lc (.m 0e6 "run" #[.v 1]) [9] (.seq (.v 6))) (.lst #[.v 11,.v 11])) #[.r (.bl false)] .n] #[.f (.q .Eq (.v 8) (.i 4)) #[.e (.k 117 #[.v 1,.v 6,.v 2])] #[.a 6 (.lst #[.m (.ix (.v 6) (.i 0)) "copied" .n,.m (.ix (.v 6) 4e1) "copied" .n])]]],.f (.or (.q .NotEq (.m (.ix (.v 6) (.i 0)) "state" .n) (.k 113 #[.v 2])) (.not (.val (.k 114 #[.ix (.v 6) 4e1,.v 2])))) #[.r (.bl false)] .n],.f (.or (.not (.val (.isi (.ix (.v 6) 4e1) (.own 16)))) (.not (.val (.isi (.ix (.v 6) 4e1) (.own 18))))) #[.r (.bl false)] .n,.r (.and (.q .Eq (.m (.ix (.v 6) (.i 0)) "rows" .n) (.m (.ix (.v 6) 4e1) "rows" .n)) (.q .Eq (.m (.ix (.v 6) (.i 0)) "leaves" .n) (.m (.ix (.v 6) 4e1) "leaves" .n)))]⟩
abbrev tab:Tab where
  fns:=(cX::dh::fK::dZ::kh::jq::jk::iX::mQ::jB::mU::kG::B6::eG::ip::fj::jG::gN::kO::gA::fR::iK::kS::gr::i4::kH::fz::gJ::jO::fq::gd::jy::eD::eX::ie::jx::ij::qe::bQ::ft::cf::fT::bF::iy::fm::eK::fJ::gE::eI::dX::kZ::je::kM::dg::fN::iz::eJ::nY::vZ::gq::nh::kX::qh::gw::kP::kB::ue::iD::gB::jD::gz::jQ::gy::jh::eW::ic::eU::iq::gu::jH::hJ::mL::kJ::d8::jg::jC::gH::hW::kE::jz::kU::gI::lq::kN::fP::jS::iB::lp::iO::kL::kK::kY::nq::eZ::kD::cB::k9::jN::ir::jv::jU::eY::n9::jT::il::iG::mi::ff::jA::[])
  gfn:=(("is_whole",8)::("is_content",9)::("is_box",10)::("is_number",11)::("fits",12)::("check_box",18)::("check_number",19)::("check_rows",35)::("check_place",36)::("tried",37)::("is_many",57)::("is_on",58)::("more",62)::("go_by_way",63)::("less_left",64)::("ask_put",65)::("haul",66)::("exchange",67)::("check_cells",80)::("is_leave",81)::("is_within",82)::("_law_hand",92)::("_law_draw",93)::("_law_content",94)::("_law_cells",95)::("_law_leaves",96)::("_law_spot",97)::("_law_six",98)::("_law_spec",99)::("_law_deed",100)::("_law_long",101)::("_law_let",102)::("_law_reach",103)::("_law_fits",104)::("_law_barred",105)::("_law_step",106)::("_law_moved",107)::("_law_looked",108)::("_law_store",109)::("_law_boxes",110)::("_law_own",111)::("_law_go",112)::("_law_state",113)::("_law_stands",114)::("_law_run",115)::("_law_why",116)::("_law_leave",117)::("law",118)::[])
  gcl:=[("HaulError",0),("NoStore",1),("NoLeave",2),("Stop",3),("NoFit",4),("NoBox",5),("NoDeed",6),("NoRows",7),("NoPlace",8),("Boxes",9),("Deed",10),("Set",11),("Add",12),("Take",13),("Read",14),("Write",15),("Machine",16),("Noted",17),("Watched",18),("Hop",19),("Copy",20),("Fill",21),("Seek",22),("Match",23),("Shift",24),("Turn",25),("Store",26)]
  gbl:=["bool","dict","enumerate","int","isinstance","len","list","min","range","str","tuple","zip"]
  gbi:=["HaulError"]
  na:=((1,"at")::(2,"behind")::(2,"low")::(2,"word")::(3,"cell")::(3,"deed")::(4,"box")::(4,"number")::(5,"box")::(6,"word")::(7,"at")::(8,"at")::(9,"numbers")::(11,"box")::(11,"number")::(12,"box")::(12,"number")::(13,"box")::(13,"other")::(14,"box")::(15,"box")::(16,"at")::(16,"boxes")::(16,"deeds")::(16,"store")::(17,"before")::(17,"changes")::(17,"store")::(18,"at")::(18,"boxes")::(18,"deeds")::(18,"entries")::(18,"store")::(19,"many")::(19,"on")::(26,"contents")::(26,"permits")::[])
  me:=(((9,"copied"),17)::((9,"give"),15)::((9,"holds"),14)::((9,"told"),16)::((11,"step"),21)::((11,"words"),22)::((12,"step"),24)::((12,"words"),25)::((13,"step"),27)::((13,"words"),28)::((14,"step"),30)::((14,"words"),31)::((15,"step"),33)::((15,"words"),34)::((16,"copied"),48)::((16,"ended"),39)::((16,"leave"),46)::((16,"leaves"),45)::((16,"rows"),47)::((16,"run"),42)::((16,"state"),44)::((16,"step"),41)::((16,"step_on"),40)::((16,"why"),43)::((17,"look"),51)::((17,"may"),50)::((17,"put"),52)::((18,"copied"),56)::((18,"ended"),39)::((18,"leave"),46)::((18,"leaves"),45)::((18,"log"),55)::((18,"rows"),47)::((18,"run"),42)::((18,"state"),44)::((18,"step"),54)::((18,"step_on"),40)::((18,"why"),43)::((19,"step"),60)::((19,"words"),61)::((20,"step"),68)::((20,"words"),69)::((21,"step"),70)::((21,"words"),71)::((22,"step"),72)::((22,"words"),73)::((23,"step"),74)::((23,"words"),75)::((24,"step"),76)::((24,"words"),77)::((25,"step"),78)::((25,"words"),79)::((26,"copied"),91)::((26,"leave"),87)::((26,"leaves"),86)::((26,"look"),89)::((26,"may"),88)::((26,"put"),90)::((26,"size"),84)::((26,"told"),85)::[])
  ini:=[(1,0),(2,1),(3,2),(4,3),(5,4),(6,5),(7,6),(8,7),(9,13),(11,20),(12,23),(13,26),(14,29),(15,32),(16,38),(17,49),(18,53),(19,59),(26,83)]
  ini0:=[]
  inip:=[20,21,22,23,24,25]
  oc:=[9,10,11,12,13,14,15,16,17,18,19,20,21,22,23,24,25,26]
  xc:=[0,1,2,3,4,5,6,7,8]
  sub:=(((0,4),false)::((0,3),false)::((1,4),false)::((1,3),false)::((2,4),false)::((2,3),false)::((3,4),false)::((3,3),true)::((4,4),true)::((4,3),false)::((5,4),false)::((5,3),false)::((6,4),false)::((6,3),false)::((7,4),false)::((7,3),false)::((8,4),false)::((8,3),false)::((9,10),false)::((9,16),false)::((9,18),false)::((10,10),true)::((10,16),false)::((10,18),false)::((11,10),true)::((11,16),false)::((11,18),false)::((12,10),true)::((12,16),false)::((12,18),false)::((13,10),true)::((13,16),false)::((13,18),false)::((14,10),true)::((14,16),false)::((14,18),false)::((15,10),true)::((15,16),false)::((15,18),false)::((16,10),false)::((16,16),true)::((16,18),false)::((17,10),false)::((17,16),false)::((17,18),false)::((18,10),false)::((18,16),true)::((18,18),true)::((19,10),true)::((19,16),false)::((19,18),false)::((20,10),true)::((20,16),false)::((20,18),false)::((21,10),true)::((21,16),false)::((21,18),false)::((22,10),true)::((22,16),false)::((22,18),false)::((23,10),true)::((23,16),false)::((23,18),false)::((24,10),true)::((24,16),false)::((24,18),false)::((25,10),true)::((25,16),false)::((25,18),false)::((26,10),false)::((26,16),false)::((26,18),false)::[])
  subT:=[]
  subB:=[(("NoneType","bool"),false),(("NoneType","int"),false),(("NoneType","list"),false),(("NoneType","str"),false),(("bool","bool"),true),(("bool","int"),true),(("bool","list"),false),(("bool","str"),false),(("int","bool"),false),(("int","int"),true),(("int","list"),false),(("int","str"),false),(("str","bool"),false),(("str","int"),false),(("str","list"),false),(("str","str"),true),(("list","bool"),false),(("list","int"),false),(("list","list"),true),(("list","str"),false),(("tuple","bool"),false),(("tuple","int"),false),(("tuple","list"),false),(("tuple","str"),false),(("dict","bool"),false),(("dict","int"),false),(("dict","list"),false),(("dict","str"),false)]
  subO:=[]
  cin:=[(16,38)]
/-- what the proofs ask of the addresses -/
structure Ro (K:W.Frag) (R:Rt):Prop where
  hK:R.K=K
  g_BOUND:R.gl "BOUND"=some (.int 1000000000)
  g_MOST_ROWS:R.gl "MOST_ROWS"=some (.int 24)
  g_MOST_HOPPED:R.gl "MOST_HOPPED"=some (.int 24)
  g_MOST_CELLS:R.gl "MOST_CELLS"=some (.int 60)
  g_NAMES:∃ a,R.gl "NAMES"=some 3e6/\∀ H,bP K H a [.str "here",.str "there",.str "left",.str "way",.str "sign",.str "met"]
  g_LEAVES:∃ a,R.gl "LEAVES"=some 3e6/\∀ H,bP K H a [.str "open",.str "look",.str "shut"]
end My
set_option Elab.async false
set_option maxHeartbeats 8000000
namespace My
open PySem L2 L3
open L2.V renaming ref→ut,int→v0,str→v4,non→wf
open L2.HO renaming lst→wp,tup→wr,ins→wv
local macro_rules|`(tactic|delta $x:ident)=>`(tactic|refine wc (d:=$x) nofun rfl rfl ?_)
variable {h a d dx lv:Addr}{m i r l c at_:Int}{ns cs' c0:List Int}{n N:Nat}{v:V}{t:String}{xs ds ss:List V}{α:Type}{G:Gx}{A:ay}{Γf:Int->Int->List ay}{P:V->Prop}{kvs:List (Key×V)}{sp:Sp}{o:Option Int}{ts:List Addr}{rest:St}{te:TE}{D:Ends}{u7 u10 u11:Option V}{y:Option (V×V)}
section
variable {K:W.Frag}{R:Rt}{k:Nat}{H:Hp}{Q:VK}{E:XK}{O Γ' Δ:List ay}
local macro_rules| `(tactic|walk_at "w")=>`(tactic|conv=>whnf)
local macro_rules| `(tactic|left)=>`(tactic|walk_at "w")
local macro_rules| `(tactic|symm)=>`(tactic|((with_reducible (repeat(first|exact ag.e|apply ag.t)));done))
local macro_rules| `(tactic|ac_rfl)=>`(tactic|((with_reducible (repeat(first|exact aO.e|apply aO.t)));done))
local macro_rules| `(tactic|ac_nf)=>`(tactic|first|(with_reducible exact Sub.refl)|(refine' Sub.cons ?h ?r;(case h=>symm);(case r=>ac_nf))|(with_reducible exact Sub.nil)|(with_reducible apply Sub.drop;(ac_nf)))
local macro_rules| `(tactic|walk_at "sp")=>`(tactic|(refine Sep.sub ?_ (by with_reducible assumption);(ac_nf)))
local macro_rules| `(tactic|grind)=>`(tactic|first|exact Sep.get (by with_reducible assumption) (by symm)|exact Sep.tX (by with_reducible assumption) (by symm))
local macro_rules| `(tactic|walk_at "ar")=>`(tactic|first|lia|omega|decide|exact ol rfl|(unfold sD;omega)|(unfold Eg;omega)|(unfold Eg;decide)|(unfold sD;decide)|(simp only[ce,length_set,length_replicate];omega))
local macro_rules| `(tactic|walk_at "ls")=>`(tactic|first|(conv=>lhs;simp only[List.set_cons_succ,List.set_cons_zero,Int.reduceToNat])|rfl)
local macro_rules| `(tactic|walk_at "pf")=>`(tactic|first|(conv=>lhs;simp (decide:=true) only [dv,if_true,if_false])|rfl)
local macro_rules| `(tactic|walk_at "st")=>`(tactic|first
  |(with_reducible refine And.intro rfl ?_)
  |(with_reducible refine aJ rfl ?_)
  |(with_reducible refine au rfl ?_)
  |(with_reducible refine Hz ?_)
  |((with_reducible refine' aX ?e ?v ?_);(case e=>grind);(case v=>exact rfl))
  |((with_reducible refine' Jm ?e ?v ?_);(case e=>grind);(case v=>exact rfl))
  |((with_reducible refine' K5 ?e ?i ?v ?_);(case e=>grind);(case i=>omega);(case v=>exact rfl))
  |(with_reducible refine FL rfl ?_)
  |(with_reducible refine bf_max rfl ?_)
  |((with_reducible refine' jV ?e ?_);(case e=>grind))
  |((with_reducible refine' bf_lenT ?e ?_);(case e=>grind))
  |((with_reducible refine' fD ?s ?r ?j ?x (λH hs=>?_));(case s=>with_reducible assumption);(case r=>ac_rfl);(case j=>exact rfl);(case x=>walk_at "ls"))
  |((with_reducible refine' iU ?s ?l (λp H hs=>?_));(case s=>with_reducible assumption);(case l=>exact ol rfl))
  |((with_reducible refine' Ak ?s ?l (λp H hs=>?_));(case s=>with_reducible assumption);(case l=>exact ol rfl))
  |((with_reducible refine' al_dct ?s (λp H hs=>?_));(case s=>with_reducible assumption))
  |((with_reducible refine' LQ ?e ?_);(case e=>grind))
  |((with_reducible refine' Jb ?e ?_);(case e=>grind))
  |((with_reducible refine' cat_l ?s ?e ?f ?l (λp H hs=>?_));(case s=>with_reducible assumption);(case e=>grind);(case f=>grind);(case l=>walk_at "ar"))
  |((with_reducible refine' JG ?s ?e ?f ?g ?l (λp H hs=>?_));(case s=>with_reducible assumption);(case e=>grind);(case f=>walk_at "ar");(case g=>walk_at "ar");(case l=>walk_at "ar"))
  |((with_reducible refine' LY ?s ?r ?o ?n ?l ?x (λH hs=>?_));(case s=>with_reducible assumption);(case r=>ac_rfl);(case o=>exact rfl);(case n=>exact rfl);(case l=>walk_at "ar");(case x=>walk_at "pf"))
  |((with_reducible refine' az ?e ?o ?n ?l ?_);(case e=>grind);(case o=>exact rfl);(case n=>exact rfl);(case l=>exact rfl))
  |((with_reducible refine' Jg ?e ?o ?n ?l ?_);(case e=>grind);(case o=>exact rfl);(case n=>exact rfl);(case l=>exact rfl))
  |((with_reducible refine' isi_x ?e ?o ?b ?_);(case e=>grind);(case o=>exact rfl);(case b=>exact rfl))
  |((with_reducible refine' isi_xt ?e ?o ?b ?_);(case e=>grind);(case o=>exact rfl);(case b=>exact rfl))
  |((with_reducible refine' lj ?t ?b ?_);(case t=>exact rfl);(case b=>exact rfl))
  |((with_reducible refine' wa ?a ?b ?_);(case a=>exact rfl);(case b=>exact rfl))
  |((with_reducible refine' DW ?a ?b ?_);(case a=>exact rfl);(case b=>exact rfl))
  |((with_reducible refine' qH ?s ?e (λp H hs=>?_));(case s=>with_reducible assumption);(case e=>grind))
  |((with_reducible refine' sl_l ?s ?e (λp H hs=>?_));(case s=>with_reducible assumption);(case e=>grind))
  |(refine And.intro (by walk_at "ar") ?_))
local macro_rules| `(tactic|walk_at "go")=>`(tactic|(walk_at "w";repeat(walk_at "st";walk_at "w")))
local macro_rules| `(tactic|right)=>`(tactic|walk_at "go")
abbrev hand (h:Addr)(m:Int):ay:=ex λx:Addr×List Int×Int×Int×Int×Int=>qW (pt h (wp [ut x.1,v0 x.2.2.1,v0 x.2.2.2.1,v0 x.2.2.2.2.1,v0 x.2.2.2.2.2])) (qW (pt x.1 (wp (x.2.1.map v0)))
 (pu (x.2.1.length<=63/\0<=x.2.2.1/\x.2.2.1<2147483629/\0<=x.2.2.2.1/\0<=x.2.2.2.2.1/\0<=x.2.2.2.2.2/\x.2.2.2.2.2<=m)))
def BM (s:Sep (hand h m::O) H):∃ (c:Addr) (ns:List Int) (fo i r n:Int),Sep (pt h (wp [ut c,v0 fo,v0 i,v0 r,v0 n])::pt c (wp (ns.map v0))::O) H/\ns.length<=63/\0<=fo/\fo<2147483629/\0<=i/\0<=r/\0<=n/\n<=m:=by
 obtain⟨⟨c,ns,fo,i,r,n⟩,s⟩:=Sep.IQ.mp s;have s2:=Sep.star.mp ((Sep.star.mp s).pull .k1);have p:=(s2.pull .k1).pure;exact⟨c,ns,fo,i,r,n,((s2.pull .k1).drop).pull .k1,p⟩
def j4 {c:Addr}{fo n:Int}(s:Sep (pt h (wp [ut c,v0 fo,v0 i,v0 r,v0 n])::pt c (wp (ns.map v0))::O) H)(p:ns.length<=63/\0<=fo/\fo<2147483629/\0<=i/\0<=r/\0<=n/\n<=m):Sep (hand h m::O) H:=by
 refine Sep.IQ.mpr ⟨⟨c,ns,fo,i,r,n⟩,Sep.star.mpr ?_⟩;exact(Sep.star.mpr (((s.pull .k1).pull .e |> λs=>(Sep.sX p s).pull .k1))).pull .k1
def K3:(10:Int) ^ Int.toNat 18=1000000000000000000:=by decide
set_option tactic.hygienic true in
def uw {n:Int}(hk:1<=k)(s:Sep (hand h m::O) H)(hm:m<=1099511627776)(hn0:0<n)(hn1:n<1073741824)
  (q:∀ (r:Int) (H':Hp),0<=r->r<n->Sep (hand h (m+1)::O) H'->Q (v0 r) H'):aa tab R k 93 [ut h,v0 n] H Q E:=by
 obtain⟨c,ns,fo,i,r,j,hs,h63,f0,f1,i0,r0,k0,k1⟩:=BM s;clear s;have nn:n≠0:=by omega
 delta kN;right;refine aG (λhr=>?_) (λhr=>?_)
 .right;rename_i H1 hs1 H2 hs2;exact q _ _ (Int.emod_nonneg _ nn) (Int.emod_lt_of_pos _ hn0) (j4 hs2 ⟨h63,f0,f1,i0,Int.ediv_nonneg r0 nofun,by omega,by omega⟩)
 right;refine aG (λhc=>?_) (λhc=>?_)
 .right;obtain⟨z,hz⟩:∃ z,oa (ns.map v0) i=some (v0 z):=B9 i0 (by rw[ce]at hc;exact hc);refine aX 2e8 hz ?_;right;refine aG (λhz18=>?_) (λhz18=>?_)
  .rw[K3]at hz18;right;rename_i H1 hs1 H2 hs2 H3 hs3;exact q _ _ (Int.emod_nonneg _ nn) (Int.emod_lt_of_pos _ hn0) (j4 hs3 ⟨h63,f0,f1,by omega,Int.ediv_nonneg nofun nofun,by omega,by omega⟩)
  .right;rename_i H1 hs1 H2 hs2;exact q _ _ (Int.emod_nonneg _ nn) (Int.emod_lt_of_pos _ hn0) (j4 hs2 ⟨h63,f0,f1,by omega,r0,by omega,by omega⟩)
 .right;rename_i H1 hs1;exact q _ _ (Int.emod_nonneg _ nn) (Int.emod_lt_of_pos _ hn0) (j4 hs1 ⟨h63,f0,f1,by omega,r0,by omega,by omega⟩)
set_option tactic.hygienic true in
def F8 (hk:1<=k)(s:Sep O H)(hS:bB R.K H a (ns.map v0))(h63:ns.length<=63)(q:∀ h H',Sep (hand h 0::O) H'->Q (ut h) H'):aa tab R k 92 [ut a] H Q E:=by
 delta lq;right;refine LU s hS (λp H1 hs1=>?_);rw[JZ ns h63]at hs1;right;rename_i c H2 hs2;refine lI (xs:=ns.map v0) (λj U H=>∃ (fo:Int) (v:Option V),U=[some (ut a),some (ut c),some (v0 fo),v]/\0<=fo/\fo<2147483629/\Sep (pt c (wp (ns.map v0))::pt p (wp (ns.map v0))::O) H) ?_ ?_ ?_ ?_
 .exact⟨_,none,rfl,by rw[ce];omega,by rw[ce];omega,hs2⟩
 .rintro j U H ⟨fo,v,rfl,h0,h2,hs⟩;exact bB.of hs.at
 .rintro j x U H hx ⟨fo,v,rfl,h0,h2,hs⟩;obtain⟨z,rfl⟩:=t9 hx;right;exact⟨_,_,rfl,by omega,by omega,hs⟩
 .rintro U H ⟨fo,v,rfl,h0,h2,hs⟩;right;rename_i l H3 hs3;exact q l _ (j4 ((hs3.pull .k2).drop) ⟨h63,h0,h2,by omega,by omega,by omega,by omega⟩)
def aw {n:Int}(s:Sep (hand h m::O) H)(e:m<=n):Sep (hand h n::O) H:=by
 obtain⟨c,ns,fo,i,r,j,hs,h63,f0,f1,i0,r0,k0,k1⟩:=BM s;exact j4 hs ⟨h63,f0,f1,i0,r0,k0,by omega⟩
inductive Kd (H:Hp):V->String->Prop where
 |non:Kd H wf "NoneType"
 |bl (b:Bool):Kd H (.bl b) "bool"
 |int (i:Int):Kd H (v0 i) "int"
 |str (x:Str):Kd H (v4 x) "str"
 |lst {a:Addr}{xs:List V}(e:H a=some (wp xs)):Kd H (ut a) "list"
 |tup {a:Addr}{xs:List V}(e:H a=some (wr xs)):Kd H (ut a) "tuple"
 |dct {a:Addr}{kvs:List (Key×V)}(e:Rd H a (.dK kvs)):Kd H (ut a) "dict"
set_option tactic.hygienic true in
def fW (h:tyName v H=some t):Kd H v t:=by
 unfold tyName at h
 split at h
 .cases h;exact .non
 .cases h;exact .bl _
 .cases h;exact .int _
 .cases h;exact .str _
 .split at h
  .rename_i e;cases h;exact .lst e
  .rename_i e;cases h;exact .tup e
  .rename_i e;cases h;exact .dct (.inl e)
  .rename_i e;cases h;exact .dct (.inr ⟨_,e⟩)
  .cases h
 .cases h
abbrev HP:V->Bool
 | v0 _=>true
 |_=>false
abbrev fA:V->Bool
 | v0 i=>decide (0<=i)&&decide (i<=1000000000)
 |_=>false
def a8 (hk:1<=k)(ht:tyName v H=some t)(q:Q (.bl (HP v)) H):aa tab R k 8 [v] H Q E:=by
 delta mQ;right;cases fW ht
 all_goals
  refine lj ht rfl ?_;right
  first
   |exact q
   |(refine lj ht rfl ?_;right;exact q)
set_option tactic.hygienic true in
def b9 (ro:Ro K R)(hk:2<=k)(ht:tyName v H=some t)(q:Q (.bl (fA v)) H):aa tab R k 9 [v] H Q E:=by
 delta jB;right;refine a8 nofun ht ?_;cases fW ht
 case int i=>
  right;refine aG 5e6 5e6
  .left;simp only[ro.g_BOUND];right;have e:fA (v0 i)=decide (i<=1000000000):=by simp[fA,h0]
   rw[e]at q;exact q
  .right;have e:fA (v0 i)=false:=by simp[fA,h0]
   rw[e]at q;exact q
 all_goals
  right;exact q
abbrev bad (xs:List V):Option Int:=if xs.length<1\/60<xs.length then some (-1) else(xs.findIdx? λx=>!fA x).map λn=>(n:Int)
def Ip (h:¬ (1<=xs.length/\xs.length<=60)):bad xs=some (-1):=by
 unfold bad;rw[if_pos nofun]
def FF {j:Nat}{x:V}(h:1<=xs.length/\xs.length<=60)(hx:xs[j]? =some x)(hc:fA x=false)(hb:∀ i y,i<j->xs[i]? =some y->fA y=true):bad xs=some j:=by
 unfold bad;rw[if_neg nofun];have:xs.findIdx? (λx=>!fA x)=some j:=by
  rw[List.findIdx?_eq_some_iff_getElem];obtain⟨hj,e⟩:=sw.mp hx;refine⟨hj,by rw[e,hc];rfl,λi hi=>?_⟩;rw[hb i xs[i] hi (li _)]
  decide
 rw[this]
 rfl
def so (h:1<=xs.length/\xs.length<=60)(hb:∀ (i:Nat) y,xs[i]? =some y->fA y=true):bad xs=none:=by
 unfold bad;rw[if_neg nofun];have:xs.findIdx? (λx=>!fA x)=none:=by
  rw[List.findIdx?_eq_none_iff];intro x hx;obtain⟨i,hi⟩:=List.mem_iff_getElem?.mp hx;rw[hb i x hi]
  rfl
 rw[this]
 rfl
def DC (h:bad xs=none):1<=xs.length/\xs.length<=60:=by
 unfold bad at h
 split at h
 .cases h
 .omega
def vA {x:V}:(sn (Int.toNat (n:Int)) [x]).flatten=sn n x:=by
 rw[re]
 induction n with
 |zero=>rfl
 |succ n ih=>rw[replicate_succ,flatten_cons,ih];rfl
abbrev fB (C:Addr)(fs:List (Str×V))(x:Addr)(fr:Bool):ay:=ex λd:Addr=>qW (pt x (.exc C (some d) fs fr)) (pt d (.own x))
def hU {C x:Addr}{fs:List (Str×V)}{fr:Bool}(s:Sep (pt x (.exc C (some d) fs fr)::pt d (.own x)::O) H):Sep (fB C fs x fr::O) H:=Sep.IQ.mpr ⟨d,Sep.star.mpr s⟩
def wF {C x:Addr}{fs:List (Str×V)}{fr:Bool}(s:Sep (fB C fs x fr::O) H):∃ d,Sep (pt x (.exc C (some d) fs fr)::pt d (.own x)::O) H:=let⟨d,s⟩:=Sep.IQ.mp s;⟨d,Sep.star.mp s⟩
def fY {x:Addr}(hk:1<=k)(s:Sep (pt x (.exc (R.cad 1) none [] true)::O) H)(q:∀ d H',Sep (pt x (.exc (R.cad 1) (some d) [("at",v)] true)::pt d (.own x)::O) H'->Q wf H'):aa tab R k 0 [ut x,v] H Q E:=by
 delta cX;right;refine⟨_,1,_,_,_,_,rfl,by grind,rfl,?_⟩;right;refine vG s rfl rfl (λd H hs=>?_);right;exact q d H hs
def Eu (ro:Ro K R)(hk:3<=k)(s:Sep (pt a (wp xs)::tys xs::O) H)(q0:bad xs=none->∀ H',Sep (pt a (wp xs)::tys xs::O) H'->Q wf H')
  (q1:∀ at',bad xs=some at'->∀ x H',Sep (fB (R.cad 1) [("at",v0 at')] x false::pt a (wp xs)::tys xs::O) H'->E x H'):aa tab R k 80 [ut a] H Q E:=by
 delta hJ;right;refine lj (t:="list") (Jf s.at) rfl ?_;right
 by_cases hl:1<=xs.length/\xs.length<=60
 .refine aJ (decide_eq_true nofun) ?_;left;simp only[ro.g_MOST_CELLS];right;refine aJ (c:=decide ((xs.length:Int)<=60)) (decide_eq_true nofun) ?_;right;refine vH (xs:=xs) (λj U H=>∃ y z,U=[some (ut a),y,z]/\(∀ i w,i<j->xs[i]? =some w->fA w=true)/\Sep (pt a (wp xs)::tys xs::O) H) ?_ ?_ ?_ ?_
  .exact⟨none,none,rfl,λi w h=>absurd h nofun,s⟩
  .rintro j U H ⟨y,z,rfl,_,hs⟩;exact hs.at
  .rintro j x T U H hx ⟨y,z,rfl,hb,hs⟩ hT;have hs1:=hs.qt (xs:=[v0 j,x]) hT;left;refine⟨T,_,rfl,.inl (bP.of hs1.atT),rfl,?_⟩;right;obtain⟨t,ht⟩:=(hs1.pull .k2).KO x (cr hx);refine b9 ro nofun ht ?_;right;refine bZ (λhc=>?_) (λhc=>?_)
   .right;refine⟨_,_,rfl,λi w hi hw=>?_,hs1.drop⟩
    by_cases e:i=j
    .subst e;rw[hx]at hw;cases hw;exact hc
    .exact hb i w nofun hw
   .right;intro p hp;refine fY nofun (hs1.drop.new hp) (λd H hs=>?_);right;refine dM hs (by ac_rfl) rfl (λH hs=>?_);exact q1 _ (FF hl hx hc hb) p H (hU hs)
  .rintro U H ⟨y,z,rfl,hb,hs⟩;right;exact q0 (so hl λi w hi=>hb i w (sw.mp hi).1 hi) _ hs
 .have fin:∀ p,H p=none->aa tab R (k-1) 0 [ut p,v0 (-1)] (upd H p (.exc (R.cad 1) none [] true)) (λv H2=>v=wf/\∃ b i dx fs,ut p=ut b/\H2 b=some (.exc (R.cad i) dx fs true)/\tab.xc.contains i=true/\E b (upd H2 b (.exc (R.cad i) dx fs false))) E:=by
   intro p hp;refine fY nofun (s.new hp) (λd H hs=>?_);refine⟨rfl,?_⟩;refine dM (G:=⟨tab,R,aa tab R 0,.calm⟩) hs (by ac_rfl) rfl (λH hs=>?_);exact q1 _ (Ip hl) p H (hU hs)
  by_cases h1:1<=xs.length
  .refine aJ (decide_eq_true nofun) ?_;left;simp only[ro.g_MOST_CELLS];right;refine au (c:=decide ((xs.length:Int)<=60)) (decide_eq_false nofun) ?_;right;exact fin
  .refine au (decide_eq_false nofun) ?_;right;exact fin
abbrev aV (C p:Addr)(cs ws:List V):ay:=ex λx:Addr×Addr×Addr=>qW (pt p (wv C x.1 [("contents",ut x.2.1),("permits",ut x.2.2)])) (qW (pt x.1 (.own p)) (qW (pt x.2.1 (wp cs)) (pt x.2.2 (wp ws))))
def bK {C p:Addr}{cs ws:List V}(s:Sep (aV C p cs ws::O) H):∃ dx a b,Sep (pt p (wv C dx [("contents",ut a),("permits",ut b)])::pt dx (.own p)::pt a (wp cs)::pt b (wp ws)::O) H:=by
 obtain⟨⟨dx,a,b⟩,s⟩:=Sep.IQ.mp s;refine⟨dx,a,b,?_⟩;have s1:=Sep.star.mp s;have s2:=Sep.star.mp (s1.pull .k1);have s3:=Sep.star.mp (s2.pull .k1);exact((s3.pull .k2).pull .k3)
def du {C p b:Addr}{cs ws:List V}(s:Sep (pt p (wv C dx [("contents",ut a),("permits",ut b)])::pt dx (.own p)::pt a (wp cs)::pt b (wp ws)::O) H):Sep (aV C p cs ws::O) H:=by
 refine Sep.IQ.mpr ⟨(dx,a,b),Sep.star.mpr ?_⟩;have s3:=Sep.star.mpr ((s.pull .k3).pull .k3);have s2:=Sep.star.mpr (s3.pull .k2);exact s2.pull .k1
set_option tactic.hygienic true in
def qu {p:Addr}(ro:Ro K R)(hk:4<=k)(s:Sep (pt p (wv (R.cad 26) dx [])::pt dx (.own p)::pt a (wp xs)::tys xs::O) H)
  (q0:bad xs=none->∀ H',Sep (aV (R.cad 26) p xs (sn xs.length (v4 "open"))::pt a (wp xs)::tys xs::O) H'->Q wf H')
  (q1:∀ at',bad xs=some at'->∀ x H',Sep (fB (R.cad 1) [("at",v0 at')] x false::pt a (wp xs)::tys xs::O) H'->E x H'):aa tab R k 83 [ut p,ut a] H Q E:=by
 delta d8;right;refine Eu (O:=pt p (wv (R.cad 26) dx [])::pt dx (.own p)::O) ro nofun (s.sub 0e1) (λhb H hs=>?_) (λat' hb x H hs=>?_)
 .have hl:=DC hb;right;rename_i l H1 hs1 H2 hs2 m H3 hs3 w H4 hs4 H5 hs5;rw[vA]at hs5;exact q0 hb _ (du (hs5.sub 0e1))
 .exact q1 at' hb x H (hs.sub 0e1)
def gT {C p:Addr}{cs ws:List V}(s:Sep O H)(h:ag (aV C p cs ws) O Δ):∃ dx a b,H p=some (wv C dx [("contents",ut a),("permits",ut b)]):=by
 obtain⟨dx,a,b,hs⟩:=bK (s.pull h);exact⟨dx,a,b,hs.at⟩
def BD {p:Addr}{cs ws:List V}(hk:1<=k)(s:Sep (aV (R.cad 26) p cs ws::O) H)(q:Q (v0 cs.length) H):aa tab R k 84 [ut p] H Q E:=by
 obtain⟨dx,a,b,hs⟩:=bK s;delta jg;right;exact q
set_option tactic.hygienic true in
def FW {p:Addr}{cs ws:List V}(hk:1<=k)(s:Sep (aV (R.cad 26) p cs ws::O) H)(q:∀ l H',Sep (pt l (wp cs)::aV (R.cad 26) p cs ws::O) H'->Q (ut l) H'):aa tab R k 85 [ut p] H Q E:=by
 obtain⟨dx,a,b,hs⟩:=bK s;delta jC;right;rename_i l H1 hs1;exact q l H1 ((du (hs1.sub 0e1)).pull .k1)
set_option tactic.hygienic true in
def Cg {p:Addr}{cs ws:List V}(hk:1<=k)(s:Sep (aV (R.cad 26) p cs ws::O) H)(q:∀ l H',Sep (pt l (wp ws)::aV (R.cad 26) p cs ws::O) H'->Q (ut l) H'):aa tab R k 86 [ut p] H Q E:=by
 obtain⟨dx,a,b,hs⟩:=bK s;delta gH;right;rename_i l H1 hs1;exact q l H1 ((du (hs1.sub 0e1)).pull .k1)
def aW {xs:List α}{x:α}(h0:0<=i)(hx:xs[i.toNat]? =some x):oa xs i=some x:=by
 have h:=L2.pK hx
 rwa [Int.toNat_of_nonneg h0]at h
abbrev ah (ws:List Str)(d:Str)(i:Int):Bool:=decide (0<=i)&&(decide (i<ws.length)&&(match ws[i.toNat]? with
 |some w=>if w="look" then d =="look" else w =="open"
 |none=>false))
def ak {ws:List Str}{d:Str}(h:ah ws d i=true):0<=i/\i<ws.length:=by
 unfold ah at h;rw[nb,nb,decide_eq_true_eq,decide_eq_true_eq]at h;exact⟨h.1,h.2.1⟩
def zW {p:Addr}{cs:List V}{ws:List Str}{d:Str}(hk:2<=k)(s:Sep (aV (R.cad 26) p cs (ws.map v4)::O) H)(hl:cs.length=ws.length)(q:Q (.bl (ah ws d i)) H):aa tab R k 88 [ut p,v4 d,v0 i] H Q E:=by
 delta kE;right;refine aG 5e6 5e6
 .obtain⟨dx,a,b,e⟩:=gT s .e;right;refine⟨_,26,_,_,_,rfl,e,rfl,rfl,?_⟩;left;refine BD nofun s ?_;right;refine aG (λh1=>?_) (λh1=>?_)
  .obtain⟨dx,a,b,hs⟩:=bK s;have h2:i.toNat<ws.length:=by omega
   have e1:ws[i.toNat]? =some ws[i.toNat]:=li h2;generalize ws[i.toNat]=w at e1;have e2:(ws.map v4)[i.toNat]? =some (v4 w):=by rw[im,e1];rfl
   have e3:ah ws d i=(if w="look" then d =="look" else w =="open"):=by
    unfold ah;rw[e1,decide_eq_true h0,decide_eq_true (by omega:i<ws.length)]
    rfl
   rw[e3]at q;right;refine aX 2e8 (aW h0 e2) ?_;right;refine bZ (λhw=>?_) (λhw=>?_)
   .have hw:w="look":=by simpa[dD] using hw
    rw[if_pos hw]at q;right;exact q
   .have hw:¬ w="look":=by simpa[dD] using hw
    rw[if_neg hw]at q;right;refine aX 2e8 (aW h0 e2) ?_;right;exact q
  .have e3:ah ws d i=false:=by
    unfold ah;rw[decide_eq_false (by omega:¬ i<ws.length),Bool.false_and,Bool.and_false]
   rw[e3]at q;right;exact q
 .have e3:ah ws d i=false:=by
   unfold ah;rw[decide_eq_false h0,Bool.false_and]
  rw[e3]at q;right;exact q
def dA {x:Addr}{w:V}(hk:1<=k)(s:Sep (pt x (.exc (R.cad 3) none [] true)::O) H)(q:∀ d H',Sep (pt x (.exc (R.cad 3) (some d) [("deed",v),("cell",w)] true)::pt d (.own x)::O) H'->Q wf H'):aa tab R k 2 [ut x,v,w] H Q E:=by
 delta fK;right;refine⟨_,3,_,_,_,_,rfl,by grind,rfl,?_⟩;right;refine vG s rfl rfl (λd H hs=>?_);right;refine DA hs (by ac_rfl) rfl rfl (ol rfl) rfl (λH hs=>?_);right;exact q d H hs
def GZ {p:Addr}{cs:List V}{ws:List Str}(hk:3<=k)(s:Sep (aV (R.cad 26) p cs (ws.map v4)::O) H)(hl:cs.length=ws.length)(q0:ah ws "look" i=true->∀ x,cs[i.toNat]? =some x->Q x H)
  (q1:ah ws "look" i=false->∀ x H',Sep (fB (R.cad 3) [("deed",v4 "look"),("cell",v0 i)] x false::aV (R.cad 26) p cs (ws.map v4)::O) H'->E x H'):aa tab R k 89 [ut p,v0 i] H Q E:=by
 delta jz;obtain⟨dx,a,b,e⟩:=gT s .e;right;refine⟨_,26,_,_,_,rfl,e,rfl,rfl,?_⟩;left;refine zW nofun s hl ?_;right;refine bZ (λhm=>?_) (λhm=>?_)
 .obtain⟨h0,h1⟩:=ak hm;obtain⟨dx,a,b,hs⟩:=bK s;have h2:i.toNat<cs.length:=by omega
  have e1:cs[i.toNat]? =some cs[i.toNat]:=li h2;right;refine aX 2e8 (aW h0 e1) ?_;exact q0 hm _ e1
 .right;intro x hx;refine dA nofun (s.new hx) (λd H hs=>?_);right;refine dM hs (by ac_rfl) rfl (λH hs=>?_);exact q1 hm x H (hU hs)
def Kp {p:Addr}{cs:List V}{ws:List Str}(hk:3<=k)(s:Sep (aV (R.cad 26) p cs (ws.map v4)::O) H)(hl:cs.length=ws.length)(q0:ah ws "put" i=true->∀ H',Sep (aV (R.cad 26) p (cs.set i.toNat v) (ws.map v4)::O) H'->Q wf H')
  (q1:ah ws "put" i=false->∀ x H',Sep (fB (R.cad 3) [("deed",v4 "put"),("cell",v0 i)] x false::aV (R.cad 26) p cs (ws.map v4)::O) H'->E x H'):aa tab R k 90 [ut p,v0 i,v] H Q E:=by
 delta kU;obtain⟨dx,a,b,e⟩:=gT s .e;right;refine⟨_,26,_,_,_,rfl,e,rfl,rfl,?_⟩;left;refine zW nofun s hl ?_;right;refine bZ (λhm=>?_) (λhm=>?_)
 .obtain⟨h0,h1⟩:=ak hm;obtain⟨dx,a,b,hs⟩:=bK s;right;refine fD hs (by ac_rfl) (dR h0 nofun) rfl (λH hs=>?_);right;exact q0 hm H (du hs)
 .right;intro x hx;refine dA nofun (s.new hx) (λd H hs=>?_);right;refine dM hs (by ac_rfl) rfl (λH hs=>?_);exact q1 hm x H (hU hs)
def mR {x:Addr}{w z:V}(hk:1<=k)(s:Sep (pt x (.exc (R.cad 2) none [] true)::O) H)(q:∀ d H',Sep (pt x (.exc (R.cad 2) (some d) [("low",v),("behind",w),("word",z)] true)::pt d (.own x)::O) H'->Q wf H'):aa tab R k 1 [ut x,v,w,z] H Q E:=by
 delta dh;right;refine⟨_,2,_,_,_,_,rfl,by grind,rfl,?_⟩;right;refine vG s rfl rfl (λd H hs=>?_);right;refine DA hs (by ac_rfl) rfl rfl (ol rfl) rfl (λH hs=>?_);right;refine DA hs (by ac_rfl) rfl rfl (ol rfl) rfl (λH hs=>?_);right;exact q d H hs
abbrev fh (w:Str):Bool:="open" ==w||("look" ==w||("shut" ==w||false))
abbrev ql:V->Bool
 | v4 w=>fh w
 |_=>false
set_option tactic.hygienic true in
def uy (ro:Ro K R)(hk:1<=k)(ht:tyName v H=some t)(q:Q (.bl (ql v)) H):aa tab R k 81 [v] H Q E:=by
 delta mL;right;cases fW ht
 case str x=>
  right;obtain⟨a,hg,hs⟩:=ro.g_LEAVES;simp only[hg];right;exact g5 (xs:=[v4 "open",v4 "look",v4 "shut"]) (ro.hK▸hs _) rfl rfl q
 all_goals
  refine lj ht rfl ?_;right;exact q
abbrev bq (n:Nat):V->V->Bool
 | v0 a,v0 b=>decide (0<=a)&&(decide (a<=b)&&decide (b<=n))
 |_,_=>false
set_option tactic.hygienic true in
def sP {w:V}{u:String}(hk:2<=k)(ht:tyName v H=some t)(hu:tyName w H=some u)(q:Q (.bl (bq n v w)) H):aa tab R k 82 [v,w,v0 n] H Q E:=by
 delta kJ;right;refine a8 nofun ht ?_;cases fW ht
 case int i=>
  right;refine a8 nofun hu ?_;cases fW hu
  case int j=>
   right;refine aG 5e6 5e6
   .right;refine aG (λh1=>?_) (λh1=>?_)
    .right;have e:bq n (v0 i) (v0 j)=decide (j<=n):=by simp[bq,h0,h1]
     rw[e]at q;exact q
    .right;have e:bq n (v0 i) (v0 j)=false:=by simp[bq,h1]
     rw[e]at q;exact q
   .right;have e:bq n (v0 i) (v0 j)=false:=by simp[bq,h0]
    rw[e]at q;exact q
  all_goals
   right;exact q
 all_goals
  right;exact q
abbrev dJ (w:Str)(ws:List Str)(lo:Nat):Nat->List Str
 |0=>ws
 |n+1=>(dJ w ws lo n).set (lo+n) w
def eu {w:Str}{ws:List Str}{lo:Nat}:∀ n,(dJ w ws lo n).length=ws.length
 |0=>rfl
 |n+1=>by rw[dJ,length_set,eu n]
def C0 {p:Addr}{cs:List V}{ws:List Str}{v1 v2 v3:V}{t1 t2 t3:String}(ro:Ro K R)(hk:3<=k)(s:Sep (aV (R.cad 26) p cs (ws.map v4)::O) H)(hl:cs.length=ws.length)(h60:ws.length<=60)
  (ht1:tyName v1 H=some t1) (ht2:tyName v2 H=some t2) (ht3:tyName v3 H=some t3)
  (q0:∀ a b w,v1=v0 a->v2=v0 b->v3=v4 w->bq ws.length v1 v2=true->fh w=true->∀ H',Sep (aV (R.cad 26) p cs ((dJ w ws a.toNat (b-a).toNat).map v4)::O) H'->Q wf H')
  (q1:(bq ws.length v1 v2&&ql v3)=false->∀ x H',Sep (fB (R.cad 2) [("low",v1),("behind",v2),("word",v3)] x false::aV (R.cad 26) p cs (ws.map v4)::O) H'->E x H'):aa tab R k 87 [ut p,v1,v2,v3] H Q E:=by
 delta hW;obtain⟨dx,a,b,e⟩:=gT s .e;right;refine⟨_,26,_,_,_,rfl,e,rfl,rfl,?_⟩;left;refine BD nofun s ?_;left;rw[hl];refine sP nofun ht1 ht2 ?_;right;have fin:(bq ws.length v1 v2&&ql v3)=false->∀ x,H x=none->aa tab R (k-1) 1 [ut x,v1,v2,v3] (upd H x (.exc (R.cad 2) none [] true)) (λv H2=>v=wf/\∃ b i dx fs,ut x=ut b/\H2 b=some (.exc (R.cad i) dx fs true)/\tab.xc.contains i=true/\E b (upd H2 b (.exc (R.cad i) dx fs false))) E:=by
  intro hb x hx;refine mR nofun (s.new hx) (λd H hs=>?_);refine⟨rfl,?_⟩;refine dM (G:=⟨tab,R,aa tab R 0,.calm⟩) hs (by ac_rfl) rfl (λH hs=>?_);exact q1 hb x H (hU hs)
 refine bZ (λhw=>?_) (λhw=>?_)
 .right;refine uy ro nofun ht3 ?_;right;refine bZ (λhv=>?_) (λhv=>?_)
  .obtain⟨i,j,rfl,rfl⟩:∃ i j,v1=v0 i/\v2=v0 j:=by
    unfold bq at hw
    split at hw
    .exact⟨_,_,rfl,rfl⟩
    .cases hw
   obtain⟨w,rfl⟩:∃ w,v3=v4 w:=by
    unfold ql at hv
    split at hv
    .exact⟨_,rfl⟩
    .cases hv
   have hw':0<=i/\i<=j/\j<=ws.length:=by simpa[bq] using hw
   right;refine gU (λn U H=>∃ y,U=[some (ut p),some (v0 i),some (v0 j),some (v4 w),y]/\Sep (aV (R.cad 26) p cs ((dJ w ws i.toNat n).map v4)::O) H) ?_ ?_ ?_
   .exact⟨none,rfl,s⟩
   .rintro n U H hn ⟨y,rfl,hs⟩;obtain⟨dx,a,b,hs⟩:=bK hs;right;refine fD hs (by ac_rfl) (dR nofun (by rw[ce,eu];omega)) rfl (λH hs=>?_);right;refine⟨_,rfl,?_⟩;have e:((dJ w ws i.toNat n).map v4).set (i+(n:Int)).toNat (v4 w)=(dJ w ws i.toNat (n+1)).map v4:=by
     rw[dJ,List.map_set,show(i+(n:Int)).toNat=i.toNat+n by omega]
    rw[e]at hs;exact du hs
   .rintro U H ⟨y,rfl,hs⟩;right;exact q0 i j w rfl rfl rfl hw hv H hs
  .right;exact fin (by rw[hv,Bool.and_false])
 .right;exact fin (by rw[hw,Bool.false_and])
def gi:(10:Int) ^ Int.toNat 9=1000000000:=by decide
local macro_rules| `(tactic|walk_at "dr")=>`(tactic|(refine' uw ?k ?s ?m ?a ?b (λr H hr0 hr1 hs=>?_);(case s=>walk_at "sp");(case k=>exact nofun);(case m=>omega);(case a=>walk_at "ar");(case b=>walk_at "ar")))
local macro_rules| `(tactic|walk_at "gd")=>`(tactic|(walk_at "w";repeat(first|(walk_at "st";walk_at "w")|(walk_at "dr";walk_at "w"))))
set_option tactic.hygienic true in
def pq (hk:2<=k)(s:Sep (hand h m::O) H)(hm:m<=1099511000000)(q:∀ i H',0<=i->i<=1000000000->Sep (hand h (m+3)::O) H'->Q (v0 i) H'):aa tab R k 94 [ut h] H Q E:=by
 delta fP;walk_at "gd";rename_i r1 H1 r10 r11 z1 p H2 z2;clear s z1;rcases(by omega:r1=0\/r1=1\/r1=2\/r1=3) with rfl|rfl|rfl|rfl
 .walk_at "gd";rename_i f H3 f0 f1 z3;exact q _ _ f0 nofun (aw (z3.sub (Γ':=hand h (m+1+1)::O) 0e1) nofun)
 .walk_at "gd";rename_i f H3 f0 f1 z3;exact q _ _ (by rw[gi];omega) (by rw[gi];omega) (aw (z3.sub (Γ':=hand h (m+1+1)::O) 0e1) nofun)
 .walk_at "gd";rename_i f H3 f0 f1 z3;exact q _ _ f0 nofun (aw (z3.sub (Γ':=hand h (m+1+1)::O) 0e1) nofun)
 .walk_at "gd";rename_i f H3 f0 f1 z3 r' H5 r0' r1' z5;rw[gi];exact q _ _ nofun nofun (aw (z5.sub (Γ':=hand h (m+1+1+1)::O) 0e1) nofun)
abbrev aY (ns:List Int):Prop:=∀ i ∈ ns,0<=i/\i<=1000000000
def uE (h:aY ns)(h0:0<=i)(h1:i<=1000000000):aY (ns++[i]):=λj hj=>by
 rcases mem_append.mp hj with hj|hj
 .exact h j hj
 .rw[mem_singleton.mp hj];exact⟨h0,h1⟩
def eA (h:aY ns)(h0:0<=i)(h1:i<=1000000000):aY (ns.set n i):=λj hj=>by
 rcases List.mem_or_eq_of_mem_set hj with hj|rfl
 .exact h j hj
 .exact⟨h0,h1⟩
set_option tactic.hygienic true in
def CN {M:Int}(hk:3<=k)(s:Sep (hand h m::O) H)(hm:m<=1099510000000)(hM0:1<=M)(hM1:M<=60)(q:∀ p ns H',1<=ns.length->(ns.length:Int)<=M->aY ns->Sep (pt p (wp (ns.map v0))::hand h (m+300)::O) H'->Q (ut p) H'):aa tab R k 95 [ut h,v0 M] H Q E:=by
 delta jS;walk_at "gd";rename_i wy H1 wy0 wy1 hs1 mn H2 mn0 mn1 hs2;have st:∀ {D:Addr},H2 D=none->(∃ ns,([]:List V)=ns.map v0/\aY ns)/\Sep (pt D (wp [])::hand h (m+2+4*((([]:List V).length:Nat):Int))::O) (upd H2 D (wp [])):=λ{D} hD=>by
  refine⟨⟨[],rfl,λi hi=>absurd hi 2e5⟩,?_⟩;have s1:=hs2.new (o:=wp []) hD;exact(aw (s1.pull .k1) (by simp;omega)).pull .k1
 have sp:∀ {D:Addr}{ys:List V}{i n:Int}{x:Option V}{rest:St}{H:Hp},((ys.length:Nat):Int)<1+mn->(∃ ns,ys=ns.map v0/\aY ns)->0<=i->i<=1000000000->n<=m+2+4*((ys.length+1:Nat):Int)->Sep (hand h n::pt D (wp ys)::O) H->qY 4e5 D ys rest x (v0 i) H:=λ{D ys i n x rest H} hl hI h0 h1 hn hs=>by
  obtain⟨ns,e,hc⟩:=hI;refine qY.mk 2e8 nofun ⟨⟨ns++[i],by rw[e];simp,uE hc h0 h1⟩,?_⟩;have hs7:=(hs.pull .k1).set (o':=wp (ys++[v0 i])) rfl;refine(aw (hs7.pull .k1) ?_).pull .k1;rw[ci];exact hn
 have fi:∀ {D:Addr}{ys:List V}{H:Hp},ys.length=(1+mn).toNat->((∃ ns,ys=ns.map v0/\aY ns)/\Sep (pt D (wp ys)::hand h (m+2+4*((ys.length:Nat):Int))::O) H)->Q (ut D) H:=λ{D ys H} hl hI=>by
  obtain⟨⟨ns,rfl,hc⟩,hs⟩:=hI;rw[ce]at hl;refine q D ns H nofun nofun hc ?_;exact(aw (hs.pull .k1) 4e0).pull .k1
 refine aE 5e6 5e6
 .walk_at "gd";refine qV (n:=(1+mn).toNat) nofun 4e5 (λD hD=>st hD) (λD ys H hl hI=>?_) (λD ys H hl hI=>fi hl hI);obtain⟨hI,hs⟩:=hI;walk_at "gd";rename_i r H6 r0 r1 hs6;exact sp nofun hI nofun nofun nofun hs6
 walk_at "gd";refine aE (λh1=>?_) (λh1=>?_)
 .walk_at "gd";refine qV (n:=(1+mn).toNat) nofun 4e5 (λD hD=>st hD) (λD ys H hl hI=>?_) (λD ys H hl hI=>fi hl hI);obtain⟨hI,hs⟩:=hI;walk_at "gd";rename_i r H6 r0 r1 hs6;exact sp nofun hI nofun nofun nofun hs6
 walk_at "gd";refine qV (n:=(1+mn).toNat) nofun 4e5 (λD hD=>st hD) (λD ys H hl hI=>?_) (λD ys H hl hI=>fi hl hI);obtain⟨hI,hs⟩:=hI;walk_at "gd";refine pq nofun (hs.pull .k1) nofun (λi H i0 i1 hs=>?_);exact sp nofun hI i0 i1 nofun hs
abbrev bx (f:α->List ay):ay:=⟨λH D=>∃ x,bO (f x) H D,λH H' D ⟨x,h⟩ k t=>⟨x,bO.st h k t⟩,λH D D' ⟨x,h⟩ k=>⟨x,bO.up h k⟩⟩
def ju:∀ {O Δ:List ay}{D:Addr->Prop},bO (O++Δ) H D ↔ ∃ D1 D2:Addr->Prop,(∀ a,D1 a->D a)/\(∀ a,D2 a->D a)/\(∀ a,D1 a->D2 a->False)/\bO O H D1/\bO Δ H D2
 | [],Δ,D=>⟨λh=>⟨λ_=>False,D,λ_ z=>z.elim,λ_ z=>z,λ_ z _=>z,True.intro,h⟩,λ⟨_,_,_,s2,_,_,h⟩=>bO.up h s2⟩
 |A::O,Δ,D=>by
  constructor
  .rintro⟨E1,E2,s1,s2,dj,hA,h⟩;obtain⟨F1,F2,t1,t2,dk,h1,h2⟩:=ju.mp h;refine⟨λa=>E1 a\/F1 a,F2,λa z=>z.elim (s1 a) λz=>s2 a (t1 a z),λa z=>s2 a (t2 a z),λa z w=>z.elim (λz=>dj a z (t2 a w)) λz=>dk a z w,?_,h2⟩;exact⟨E1,F1,λa z=>.inl z,λa z=>.inr z,λa z w=>dj a z (t1 a w),hA,h1⟩
  .rintro⟨D1,D2,s1,s2,dj,⟨E1,E2,t1,t2,dk,hA,h1⟩,h2⟩;refine⟨E1,λa=>E2 a\/D2 a,λa z=>s1 a (t1 a z),λa z=>z.elim (λz=>s1 a (t2 a z)) (s2 a),λa z w=>w.elim (dk a z) λw=>dj a (t1 a z) w,hA,?_⟩;exact ju.mpr ⟨E2,D2,λa z=>.inl z,λa z=>.inr z,λa z w=>dj a (t2 a z) w,h1,h2⟩
def gp {f:α->List ay}(s:Sep (bx f::O) H):∃ x,Sep (f x++O) H:=by
 obtain⟨D,k,D1,D2,s1,s2,dj,⟨x,h1⟩,h2⟩:=s;exact⟨x,D,k,ju.mpr ⟨D1,D2,s1,s2,dj,h1,h2⟩⟩
def iH {f:α->List ay}(x:α)(s:Sep (f x++O) H):Sep (bx f::O) H:=by
 obtain⟨D,k,h⟩:=s;obtain⟨D1,D2,s1,s2,dj,h1,h2⟩:=ju.mp h;exact⟨D,k,D1,D2,s1,s2,dj,⟨x,h1⟩,h2⟩
abbrev qX:List Str:=["here","there","left","way","sign","met"]
abbrev yU:List Key:=[.inr "here",.inr "there",.inr "left",.inr "way",.inr "sign",.inr "met"]
abbrev fZ:V->Bool
 | v0 i=>decide (-1000000000<=i)&&decide (i<=1000000000)
 |_=>false
abbrev nV (a b:Int):V->Bool
 | v0 i=>i ==a||i ==b
 |_=>false
abbrev bS:Nat->V->Bool
 |0,v=>fZ v
 |1,v=>fZ v
 |3,v=>nV 1 (-1) v
 |5,v=>nV 0 1 v
 |_,v=>fA v
set_option tactic.hygienic true in
def gb (ro:Ro K R)(hk:2<=k)(ht:tyName v H=some t)(q:Q (.bl (fZ v)) H):aa tab R k 11 [v] H Q E:=by
 delta kG;right;refine a8 nofun ht ?_;cases fW ht
 case int i=>
  left;refine aJ rfl ?_;left;simp only[ro.g_BOUND];right;refine aG 5e6 5e6
  .left;simp only[ro.g_BOUND];right;have e:fZ (v0 i)=decide (i<=1000000000):=by simp[fZ,h0]
   rw[e]at q;exact q
  .right;have e:fZ (v0 i)=false:=by simp[fZ,h0]
   rw[e]at q;exact q
 all_goals
  right;exact q
def mX {j:Nat}{x:Str}(h:qX[j]? =some x):(j=0/\x="here")\/(j=1/\x="there")\/(j=2/\x="left")\/(j=3/\x="way")\/(j=4/\x="sign")\/(j=5/\x="met"):=by
 rcases j with _|_|_|_|_|_|j
 .cases h;exact .inl ⟨rfl,rfl⟩
 .cases h;exact .inr (.inl ⟨rfl,rfl⟩)
 .cases h;exact .inr (.inr (.inl ⟨rfl,rfl⟩))
 .cases h;exact .inr (.inr (.inr (.inl ⟨rfl,rfl⟩)))
 .cases h;exact .inr (.inr (.inr (.inr (.inl ⟨rfl,rfl⟩))))
 .cases h;exact .inr (.inr (.inr (.inr (.inr ⟨rfl,rfl⟩))))
 .exact absurd h (by simp[qX])
local macro_rules| `(tactic|walk_at "sc")=>`(tactic|first|(refine aJ (by decide+kernel) ?_;walk_at "go")|(refine au (by decide+kernel) ?_;walk_at "go"))
set_option tactic.hygienic true in
def tU {j:Nat}{x:Str}(ro:Ro K R)(hk:3<=k)(hj:qX[j]? =some x)(ht:tyName v H=some t)(q:Q (.bl (bS j v)) H):aa tab R k 12 [v4 x,v] H Q E:=by
 delta B6;rcases mX hj with⟨rfl,rfl⟩|⟨rfl,rfl⟩|⟨rfl,rfl⟩|⟨rfl,rfl⟩|⟨rfl,rfl⟩|⟨rfl,rfl⟩
 all_goals right
 all_goals repeat walk_at "sc"
 .exact gb ro nofun ht q
 .exact gb ro nofun ht q
 .exact b9 ro nofun ht q
 .refine a8 nofun ht ?_;cases fW ht
  case int i=>
   right;refine aE 5e6 5e6
   .right;have e:bS 3 (v0 i)=true:=by simp[bS,nV,h0]
    rw[e]at q;exact q
   .right;have e:bS 3 (v0 i)=(i == -1):=by simp[bS,nV,h0]
    rw[e]at q;exact q
  all_goals
   right;exact q
 .exact b9 ro nofun ht q
 .refine a8 nofun ht ?_;cases fW ht
  case int i=>
   right;refine aE 5e6 5e6
   .right;have e:bS 5 (v0 i)=true:=by simp[bS,nV,h0]
    rw[e]at q;exact q
   .right;have e:bS 5 (v0 i)=(i ==1):=by simp[bS,nV,h0]
    rw[e]at q;exact q
  all_goals
   right;exact q
abbrev boxes (R:Rt)(b:Addr)(ns:List Int):ay:=bx λx:Addr×Addr=>[pt b (wv (R.cad 9) x.1 [("numbers",ut x.2)]),pt x.1 (.own b),pt x.2 (.dK (yU.zip (ns.map v0))),pu (ns.length=6)]
def i8 {b:Addr}(s:Sep (boxes R b ns::O) H):∃ dx d,ns.length=6/\Sep (pt b (wv (R.cad 9) dx [("numbers",ut d)])::pt dx (.own b)::pt d (.dK (yU.zip (ns.map v0)))::O) H:=by
 obtain⟨⟨dx,d⟩,s⟩:=gp s;have s:Sep (pt b (wv (R.cad 9) dx [("numbers",ut d)])::pt dx (.own b)::pt d (.dK (yU.zip (ns.map v0)))::pu (ns.length=6)::O) H:=s;have p:=(s.pull .k3).pure;exact⟨dx,d,p,(s.pull .k3).drop⟩
def jJ {b:Addr}(hn:ns.length=6)(s:Sep (pt b (wv (R.cad 9) dx [("numbers",ut d)])::pt dx (.own b)::pt d (.dK (yU.zip (ns.map v0)))::O) H):Sep (boxes R b ns::O) H:=
 iH (dx,d) (Sep.push .k3 (Sep.sX hn s))
def six {ns:List α}(h:ns.length=6):∃ a b c d e f,ns=[a,b,c,d,e,f]:=by
 match ns,h with
 | [a,b,c,d,e,f],_=>exact⟨a,b,c,d,e,f,rfl⟩
def vP {j:Nat}{x:Str}(hn:ns.length=6)(hj:qX[j]? =some x):∃ i,ns[j]? =some i/\g8 (yU.zip (ns.map v0)) (.inr x)=some (v0 i):=by
 obtain⟨a,b,c,d,e,f,rfl⟩:=six hn;rcases mX hj with⟨rfl,rfl⟩|⟨rfl,rfl⟩|⟨rfl,rfl⟩|⟨rfl,rfl⟩|⟨rfl,rfl⟩|⟨rfl,rfl⟩<;>exact⟨_,rfl,rfl⟩
def C8 {b:Addr}(ro:Ro K R)(hk:1<=k)(s:Sep (boxes R b ns::O) H)(q:∀ t H',Sep (tu t (ns.map v0)::boxes R b ns::O) H'->Q (ut t) H'):aa tab R k 16 [ut b] H Q E:=by
 obtain⟨dx,d,hn,s⟩:=i8 s;delta jG;right;obtain⟨a,hg,hS⟩:=ro.g_NAMES;simp only[hg];rw[<-ro.hK]at hS;right;refine Js (hS H) ?_;refine G7 (xs:=qX.map v4) (ol rfl) (λD ys H=>ys=(ns.map v0).take ys.length/\Sep (pt D (wp ys)::pt b (wv (R.cad 9) dx [("numbers",ut d)])::pt dx (.own b)::pt d (.dK (yU.zip (ns.map v0)))::O) H) ?_ ?_ ?_ ?_
 .intro D ys H _;exact hS H
 .intro D hD;exact⟨rfl,s.new hD⟩
 .rintro D ys x H' hx ⟨e,hs⟩;rw[im]at hx;obtain⟨z,hz,rfl⟩:=nl.mp hx;obtain⟨i,h1,h2⟩:=vP hn hz;right;refine qr (k:=.inr z) 2e8 h2 ?_;have hlt:=(sw.mp h1).1;refine qY.mk 2e8 nofun ⟨?_,?_⟩
  .have e2:(ns.map v0)[ys.length]? =some (v0 i):=by rw[im,h1];rfl
   rw[ci,f8,take_succ,e2]
   conv=>lhs;rw[e]
   rfl
  .exact hs.set rfl
 .rintro D ys H' hl ⟨e,hs⟩;have e2:ys=ns.map v0:=by
   rw[e,hl];rw[take_of_length_le];simp[qX,hn]
  subst e2;right;refine FR hs 2e8 (λp H hs=>?_);right;refine q p H ?_;refine Sep.pull .k1 (jJ (dx:=dx) (d:=d) hn ?_);walk_at "sp"
set_option tactic.hygienic true in
def v8 {x:Addr}(ro:Ro K R)(hk:4<=k)(hn:ns.length=6)(hf:∀ (j:Nat) i,ns[j]? =some i->bS j (v0 i)=true) (s:Sep (pt x (wv (R.cad 9) dx [])::pt dx (.own x)::O) H) (q:∀ H',Sep (boxes R x ns::O) H'->Q wf H'):
  aa tab R k 13 (ut x::ns.map v0) H Q E:=by
 obtain⟨a0,a1,a2,a3,a4,a5,rfl⟩:=six hn;delta eG;right;rename_i p H1 hs1;obtain⟨na,hg,hS⟩:=ro.g_NAMES;simp only[hg];rw[<-ro.hK]at hS;right;refine ML (tp1:=true) (tp2:=true) (xs:=qX.map v4) (ys:=[v0 a0,v0 a1,v0 a2,v0 a3,v0 a4,v0 a5]) (hS _) (bP.of hs1.at) ?_;refine DL (xs:=qX.map v4) (ys:=[v0 a0,v0 a1,v0 a2,v0 a3,v0 a4,v0 a5]) (λj U H=>∃ v w,U=[some (ut x),some (v0 a0),some (v0 a1),some (v0 a2),some (v0 a3),some (v0 a4),some (v0 a5),some (ut p),v,w]/\Sep (pt p (wr [v0 a0,v0 a1,v0 a2,v0 a3,v0 a4,v0 a5])::pt x (wv (R.cad 9) dx [])::pt dx (.own x)::O) H) rfl ?_ ?_ ?_ ?_
 .exact⟨none,none,rfl,hs1⟩
 .rintro j U H ⟨v,w,rfl,hs⟩;exact⟨hS _,bP.of hs.at⟩
 .rintro j y z T U H hy hz ⟨v,w,rfl,hs⟩ hT;rw[im]at hy;obtain⟨nm,hnm,rfl⟩:=nl.mp hy;obtain⟨i,hi,rfl⟩:∃ i,([a0,a1,a2,a3,a4,a5]:List Int)[j]? =some i/\z=v0 i:=by
   have hz':(([a0,a1,a2,a3,a4,a5]:List Int).map v0)[j]? =some z:=hz;rw[im]at hz';obtain⟨i,h1,h2⟩:=nl.mp hz';exact⟨i,h1,h2.symm⟩
  have hs2:=hs.qt (xs:=[v4 nm,v0 i]) hT;left;refine⟨T,_,rfl,.inl (bP.of hs2.atT),rfl,?_⟩;right;refine tU ro nofun hnm rfl ?_;rw[hf j i hi];right;exact⟨_,_,rfl,hs2.drop⟩
 .rintro U H ⟨v,w,rfl,hs⟩;right;simp only[hg];right;refine Kb (tp1:=true) (tp2:=true) (ks:=yU) (ys:=([a0,a1,a2,a3,a4,a5]:List Int).map v0) hs (hS _) (bP.of hs.at) 2e6 rfl (ol rfl) (λd H2 hs2=>?_);right;rename_i H3 hs3;refine q _ ?_;refine jJ (dx:=dx) (d:=d) rfl ?_;walk_at "sp"
def BS {j:Nat}{x:Str}(ro:Ro K R)(hk:1<=k)(hj:qX[j]? =some x)(q:Q (.bl true) H):aa tab R k 10 [v4 x] H Q E:=by
 delta mU;right;obtain⟨a,hg,hs⟩:=ro.g_NAMES;simp only[hg];have hs':=hs H;rw[<-ro.hK]at hs';right;refine g5 hs' rfl rfl ?_;rcases mX hj with⟨rfl,rfl⟩|⟨rfl,rfl⟩|⟨rfl,rfl⟩|⟨rfl,rfl⟩|⟨rfl,rfl⟩|⟨rfl,rfl⟩<;>exact q
def eO {b:Addr}{j:Nat}{x:Str}(ro:Ro K R)(hk:2<=k)(s:Sep (boxes R b ns::O) H)(hj:qX[j]? =some x)(hi:ns[j]? =some i)(q:Q (v0 i) H):aa tab R k 14 [ut b,v4 x] H Q E:=by
 obtain⟨dx,d,hn,s⟩:=i8 s;delta ip;right;refine BS ro nofun hj ?_;right;obtain⟨i',h1,h2⟩:=vP hn hj;rw[hi]at h1;cases h1;exact qr (k:=.inr x) 2e8 h2 q
set_option tactic.hygienic true in
def xU {b:Addr}(ro:Ro K R)(hk:5<=k)(s:Sep (boxes R b ns::O) H)(q:∀ c H',Sep (boxes R c ns::boxes R b ns::O) H'->Q (ut c) H'):aa tab R k 17 [ut b] H Q E:=by
 delta gN;right;intro x dx h1 h2 h3;refine v8 (ns:=[0,0,0,1,0,0]) ro nofun rfl ?_ (g6 s h1 h2 h3) (λH1 hs1=>?_)
 .intro j i hi;rcases j with _|_|_|_|_|_|j<;>first|(cases hi;rfl)|exact absurd hi 2e5
 refine⟨rfl,?_⟩;obtain⟨dx1,d1,hn1,hs2⟩:=i8 hs1;obtain⟨dx2,d2,hn2,hs3⟩:=i8 (hs2.pull .k3);right;refine w8 hs3 2e8 (λd3 H3 hs4=>?_);right;rename_i H4 hs5;refine q _ _ ?_;refine jJ (dx:=dx1) (d:=d3) hn2 ?_;refine Sep.push .k3 (jJ (dx:=dx2) (d:=d2) hn2 ?_);walk_at "sp"
def fk {x:Addr}{w:V}(hk:1<=k)(s:Sep (pt x (.exc (R.cad 4) none [] true)::O) H)(q:∀ d H',Sep (pt x (.exc (R.cad 4) (some d) [("box",v),("number",w)] true)::pt d (.own x)::O) H'->Q wf H'):aa tab R k 3 [ut x,v,w] H Q E:=by
 delta dZ;right;refine⟨_,4,_,_,_,_,rfl,by grind,rfl,?_⟩;right;refine vG s rfl rfl (λd H hs=>?_);right;refine DA hs (by ac_rfl) rfl rfl (ol rfl) rfl (λH hs=>?_);right;exact q d H hs
abbrev Jv:V->Bool
 | v4 x=>IK (v4 x) (qX.map v4)
 |_=>false
set_option tactic.hygienic true in
def pR (ro:Ro K R)(hk:1<=k)(ht:tyName v H=some t)(q:Q (.bl (Jv v)) H):aa tab R k 10 [v] H Q E:=by
 delta mU;right;obtain⟨a,hg,hs⟩:=ro.g_NAMES;have hs':=hs H;rw[<-ro.hK]at hs';cases fW ht
 case str x=>
  refine lj ht rfl ?_;left;refine aJ rfl ?_;left;simp only[hg];right;exact g5 hs' rfl rfl q
 all_goals
  refine lj ht rfl ?_;right;exact q
def uF {j:Nat}{x:Str}(hj:qX[j]? =some x):Jv (v4 x)=true:=by
 rcases mX hj with⟨rfl,rfl⟩|⟨rfl,rfl⟩|⟨rfl,rfl⟩|⟨rfl,rfl⟩|⟨rfl,rfl⟩|⟨rfl,rfl⟩<;>rfl
def wJ {j:Nat}{x:Str}(hn:ns.length=6)(hj:qX[j]? =some x):putK (yU.zip (ns.map v0)) (.inr x) (v0 i)=yU.zip ((ns.set j i).map v0):=by
 obtain⟨a,b,c,d,e,f,rfl⟩:=six hn;rcases mX hj with⟨rfl,rfl⟩|⟨rfl,rfl⟩|⟨rfl,rfl⟩|⟨rfl,rfl⟩|⟨rfl,rfl⟩|⟨rfl,rfl⟩<;>rfl
def Ig {b:Addr}{j:Nat}{x:Str}(ro:Ro K R)(hk:4<=k)(s:Sep (boxes R b ns::O) H)(hj:qX[j]? =some x)(hf:bS j (v0 i)=true)(q:∀ H',Sep (boxes R b (ns.set j i)::O) H'->Q wf H'):aa tab R k 15 [ut b,v4 x,v0 i] H Q E:=by
 obtain⟨dx,d,hn,s⟩:=i8 s;delta fj;right;refine pR (t:="str") ro nofun rfl ?_;rw[uF hj];right;refine tU ro nofun hj rfl ?_;rw[hf];right;refine wq (k:=.inr x) (kvs':=yU.zip ((ns.set j i).map v0)) s (by ac_rfl) (by rw[length_zip,ce,hn];decide) (wJ hn hj) (λH1 hs1=>?_);right;exact q H1 (jJ (by rw[length_set];exact hn) hs1)
def uo {b:Addr}{j:Nat}{x:Str}(ro:Ro K R)(hk:4<=k)(s:Sep (boxes R b ns::O) H)(hj:qX[j]? =some x)(ht:tyName v H=some t)(hf:bS j v=false)(q:∀ e d H',Sep (pt e (.exc (R.cad 4) (some d) [("box",v4 x),("number",v)] false)::pt d (.own e)::boxes R b ns::O) H'->E e H'):aa tab R k 15 [ut b,v4 x,v] H Q E:=by
 delta fj;right;refine pR (t:="str") ro nofun rfl ?_;rw[uF hj];right;refine tU ro nofun hj ht ?_;rw[hf];right;intro e he;refine fk nofun (s.new he) (λd H3 hs3=>⟨rfl,?_⟩);exact dM (G:=⟨tab,R,aa tab R (k-1),.calm⟩) hs3 .e rfl (λH4 hs4=>q e d H4 hs4)
abbrev Ob (R:Rt)(A:ay)(b:Addr)(i:Nat)(fl:List Str):Prop:=∀ H D,A.p H D->∃ dx fs,H b=some (wv (R.cad i) dx fs)/\fs.map (·.1)=fl
def wm {m:Str}:∀ {fs:List (Str×V)},(fs.map (·.1)).all (λx=>!(m ==x))=true->fs.lookup m=none
 | [],_=>rfl
 |(x,v)::fs,h=>by
  simp only[map_cons,all_cons,nb]at h;have h1:(m ==x)=false:=by simpa using h.1
  rw[lookup_cons,h1];exact wm h.2
def ae {b:Addr}{i f:Nat}{fl:List Str}{m:Str}{X:Nat->Prop}(o:Ob G.R A b i fl)(s:Sep O H)(p:ag A O Δ)(hm:fl.all (λx=>!(m ==x))=true) (hf:G.T.me.lookup (i,m)=some f) (h:X f):
  ∃ p' i' dx fs f',ut b=ut p'/\H p'=some (wv (G.R.cad i') dx fs)/\fs.lookup m=none/\G.T.me.lookup (i',m)=some f'/\X f':=by
 obtain⟨D,k,D1,D2,s1,s2,dj,h1,h2⟩:=s.pull p;obtain⟨dx,fs,e1,e2⟩:=o H D1 h1;exact⟨b,i,dx,fs,f,rfl,e1,wm (e2▸hm),hf,h⟩
structure Bx where
 h:Int
 t:Int
 l:Int
 w:Int
 s:Int
 m:Int
abbrev Bx.ls (x:Bx):List Int:=[x.h,x.t,x.l,x.w,x.s,x.m]
abbrev Bx.ok (x:Bx):Prop:=(-1000000000<=x.h/\x.h<=1000000000)/\(-1000000000<=x.t/\x.t<=1000000000)/\(0<=x.l/\x.l<=1000000000)/\(x.w=1\/x.w= -1)/\(0<=x.s/\x.s<=1000000000)/\(x.m=0\/x.m=1)
abbrev ai (R:Rt)(b:Addr)(x:Bx):ay:=bx λ_:Unit=>[boxes R b x.ls,pu x.ok]
variable {x:Bx}
def fw {b:Addr}(s:Sep (ai R b x::O) H):x.ok/\Sep (boxes R b x.ls::O) H:=by
 obtain⟨_,s⟩:=gp s;have s:Sep (boxes R b x.ls::pu x.ok::O) H:=s;exact⟨(s.pull .k1).pure,(s.pull .k1).drop⟩
def pC {b:Addr}(hx:x.ok)(s:Sep (boxes R b x.ls::O) H):Sep (ai R b x::O) H:=iH () (Sep.push .k1 (Sep.sX hx s))
def fv {b:Addr}(s:Sep O H)(p:ag (ai R b x) O Δ):x.ok:=(fw (s.pull p)).1
def aN {b:Addr}:Ob R (ai R b x) b 9 ["numbers"]:=by
 rintro H D ⟨_,D1,D2,_,_,_,⟨⟨dx,d⟩,E1,E2,_,_,_,⟨_,h⟩,_⟩,_⟩;exact⟨dx,_,h,rfl⟩
def IC (h:x.ok):∀ (j:Nat) i,x.ls[j]? =some i->bS j (v0 i)=true:=by
 obtain⟨⟨h1,h2⟩,⟨h3,h4⟩,⟨h5,h6⟩,h7,⟨h8,h9⟩,h10⟩:=h;intro j i hi;rcases j with _|_|_|_|_|_|j
 .cases hi;simp[bS,fZ,h1,h2]
 .cases hi;simp[bS,fZ,h3,h4]
 .cases hi;simp[bS,fA,h5,h6]
 .cases hi;rcases h7 with e|e<;>rw[e]<;>rfl
 .cases hi;simp[bS,fA,h8,h9]
 .cases hi;rcases h10 with e|e<;>rw[e]<;>rfl
 .exact absurd hi (by simp[Bx.ls])
def vQ (h: -1000000000<=i/\i<=1000000000):fZ (v0 i)=true:=by simp[fZ,h.1,h.2]
def vJ (h:0<=i/\i<=1000000000):fA (v0 i)=true:=by simp[fA,h.1,h.2]
section
variable {b:Addr}{h t l w s m i:Int}
def Jh (ro:Ro K R)(hk:2<=k)(z:Sep O H)(p:ag 3e4 O Δ)(q:Q (v0 h) H):aa tab R k 14 [ut b,v4 "here"] H Q E:=eO (j:=0) ro hk (fw (z.pull p)).2 rfl rfl q
def KQ (ro:Ro K R)(hk:2<=k)(z:Sep O H)(p:ag 3e4 O Δ)(q:Q (v0 t) H):aa tab R k 14 [ut b,v4 "there"] H Q E:=eO (j:=1) ro hk (fw (z.pull p)).2 rfl rfl q
def HG (ro:Ro K R)(hk:2<=k)(z:Sep O H)(p:ag 3e4 O Δ)(q:Q (v0 l) H):aa tab R k 14 [ut b,v4 "left"] H Q E:=eO (j:=2) ro hk (fw (z.pull p)).2 rfl rfl q
def Gu (ro:Ro K R)(hk:2<=k)(z:Sep O H)(p:ag 3e4 O Δ)(q:Q (v0 w) H):aa tab R k 14 [ut b,v4 "way"] H Q E:=eO (j:=3) ro hk (fw (z.pull p)).2 rfl rfl q
def MH (ro:Ro K R)(hk:2<=k)(z:Sep O H)(p:ag 3e4 O Δ)(q:Q (v0 s) H):aa tab R k 14 [ut b,v4 "sign"] H Q E:=eO (j:=4) ro hk (fw (z.pull p)).2 rfl rfl q
def KG (ro:Ro K R)(hk:2<=k)(z:Sep O H)(p:ag 3e4 O Δ)(q:Q (v0 m) H):aa tab R k 14 [ut b,v4 "met"] H Q E:=eO (j:=5) ro hk (fw (z.pull p)).2 rfl rfl q
def rY {y:Bx}{j:Nat}{nm:Str}(ro:Ro K R)(hk:4<=k)(z:Sep O H)(r:aO (ai R b x) (ai R b y) O Γ')(hj:qX[j]? =some nm)(hf:bS j (v0 i)=true)(hx:x.ls.set j i=y.ls)(hy:x.ok->y.ok)(q:∀ H',Sep Γ' H'->Q wf H'):aa tab R k 15 [ut b,v4 nm,v0 i] H Q E:=by
 obtain⟨Δ,h1,h2⟩:=r.bp;obtain⟨hok,z2⟩:=fw (z.pull h1);refine Ig ro hk z2 hj hf (λH' z3=>q H' (Sep.push h2 (pC (hy hok) ?_)));rw[hx]at z3;exact z3
def Kt (ro:Ro K R)(hk:4<=k)(z:Sep O H)(r:aO 3e4 (ai R b ⟨i,t,l,w,s,m⟩) O Γ')(hi: -1000000000<=i/\i<=1000000000)(q:∀ H',Sep Γ' H'->Q wf H'):aa tab R k 15 [ut b,v4 "here",v0 i] H Q E:=
 rY (j:=0) ro hk z r rfl (vQ hi) rfl (λ⟨_,a⟩=>⟨hi,a⟩) q
def JI (ro:Ro K R)(hk:4<=k)(z:Sep O H)(r:aO 3e4 (ai R b ⟨h,i,l,w,s,m⟩) O Γ')(hi: -1000000000<=i/\i<=1000000000)(q:∀ H',Sep Γ' H'->Q wf H'):aa tab R k 15 [ut b,v4 "there",v0 i] H Q E:=
 rY (j:=1) ro hk z r rfl (vQ hi) rfl (λ⟨a1,_,a⟩=>⟨a1,hi,a⟩) q
def Kv (ro:Ro K R)(hk:4<=k)(z:Sep O H)(r:aO 3e4 (ai R b ⟨h,t,i,w,s,m⟩) O Γ')(hi:0<=i/\i<=1000000000)(q:∀ H',Sep Γ' H'->Q wf H'):aa tab R k 15 [ut b,v4 "left",v0 i] H Q E:=
 rY (j:=2) ro hk z r rfl (vJ hi) rfl (λ⟨a1,a2,_,a⟩=>⟨a1,a2,hi,a⟩) q
def MB (ro:Ro K R)(hk:4<=k)(z:Sep O H)(r:aO 3e4 (ai R b ⟨h,t,l,w,s,i⟩) O Γ')(hi:i=0\/i=1)(q:∀ H',Sep Γ' H'->Q wf H'):aa tab R k 15 [ut b,v4 "met",v0 i] H Q E:=
 rY (j:=5) ro hk z r rfl (by rcases hi with rfl|rfl<;>rfl) rfl (λ⟨a1,a2,a3,a4,a5,_⟩=>⟨a1,a2,a3,a4,a5,hi⟩) q
def wZ (ro:Ro K R)(hk:1<=k)(z:Sep O H)(p:ag (ai R b x) O Δ)(q:∀ t H',Sep (tu t (x.ls.map v0)::O) H'->Q (ut t) H'):aa tab R k 16 [ut b] H Q E:=by
 obtain⟨hok,z2⟩:=fw (z.pull p);exact C8 ro hk z2 (λt H' z3=>q t H' (Sep.push (.t p) (pC hok (z3.pull .k1))))
def D0 (ro:Ro K R)(hk:4<=k)(hx:x.ok)(z:Sep (pt b (wv (R.cad 9) dx [])::pt dx (.own b)::O) H)(q:∀ H',Sep (ai R b x::O) H'->Q wf H'):
  aa tab R k 13 (ut b::x.ls.map v0) H Q E:=v8 ro hk rfl (IC hx) z (λH' z2=>q H' (pC hx z2))
def zI (ro:Ro K R)(hk:4<=k)(hx:(Bx.mk h t l w s m).ok)(z:Sep (pt b (wv (R.cad 9) dx [])::pt dx (.own b)::O) H)(q:∀ H',Sep (ai R b ⟨h,t,l,w,s,m⟩::O) H'->Q wf H'):
  aa tab R k 13 [ut b,v0 h,v0 t,v0 l,v0 w,v0 s,v0 m] H Q E:=D0 (x:=⟨h,t,l,w,s,m⟩) ro hk hx z q
end
abbrev gt (cs:List Int)(i:Int):Int:=(cs[i.toNat]?).getD 0
def Ft {cs:List Int}{x:Int}(h:cs[i.toNat]? =some x):gt cs i=x:=by unfold gt;rw[h];rfl
def EF {cs:List Int}(h0:0<=i)(h1:i<cs.length):cs[i.toNat]? =some (gt cs i):=by
 unfold gt;rw[li nofun]
 rfl
def c9 {cs:List Int}(h0:0<=i)(h1:i<cs.length):oa (cs.map v0) i=some (v0 (gt cs i)):=aW h0 (by rw[im,EF h0 h1];rfl)
def cU {cs:List Int}(hc:aY cs):0<=gt cs i/\gt cs i<=1000000000:=by
 unfold gt;cases e:cs[i.toNat]? with
 |none=>exact⟨by decide,by decide⟩
 |some x=>exact hc x (cr e)
abbrev xS (cs:List Int)(ws:List Str):Prop:=cs.length=ws.length/\1<=cs.length/\cs.length<=60/\aY cs
abbrev ar (R:Rt)(a:Addr)(cs:List Int)(ws:List Str):ay:=bx λ_:Unit=>[aV (R.cad 26) a (cs.map v0) (ws.map v4),pu (xS cs ws)]
def jw {cs:List Int}{ws:List Str}(s:Sep (ar R a cs ws::O) H):xS cs ws/\Sep (aV (R.cad 26) a (cs.map v0) (ws.map v4)::O) H:=by
 obtain⟨_,s⟩:=gp s;have s:Sep (aV (R.cad 26) a (cs.map v0) (ws.map v4)::pu (xS cs ws)::O) H:=s;exact⟨(s.pull .k1).pure,(s.pull .k1).drop⟩
def jf {cs:List Int}{ws:List Str}(hx:xS cs ws)(s:Sep (aV (R.cad 26) a (cs.map v0) (ws.map v4)::O) H):Sep (ar R a cs ws::O) H:=iH () (Sep.push .k1 (Sep.sX hx s))
def cG {cs:List Int}{ws:List Str}(s:Sep O H)(p:ag (ar R a cs ws) O Δ):xS cs ws:=(jw (s.pull p)).1
def aZ {cs:List Int}{ws:List Str}:Ob R (ar R a cs ws) a 26 ["contents","permits"]:=by
 rintro H D ⟨_,D1,D2,_,_,_,⟨⟨dx,c,d⟩,E1,E2,_,_,_,⟨_,h⟩,_⟩,_⟩;exact⟨dx,_,h,rfl⟩
section
variable {a:Addr}{cs:List Int}{ws:List Str}{i v:Int}
def dI (hk:3<=k)(z:Sep O H)(p:ag (ar R a cs ws) O Δ)(q0:ah ws "look" i=true->Q (v0 (gt cs i)) H)
  (q1:ah ws "look" i=false->∀ e H',Sep (fB (R.cad 3) [("deed",v4 "look"),("cell",v0 i)] e false::O) H'->E e H'):aa tab R k 89 [ut a,v0 i] H Q E:=by
 obtain⟨hok,z2⟩:=jw (z.pull p);refine GZ hk z2 (by rw[ce];exact hok.1) (λhm x hx=>?_) (λhm e H' z3=>q1 hm e H' (Sep.push (.t p) (jf hok (z3.pull .k1))));rw[im]at hx;obtain⟨y,hy,rfl⟩:=nl.mp hx;rw[<-Ft hy];exact q0 hm
def jY (hk:3<=k)(z:Sep O H)(r:aO (ar R a cs ws) (ar R a (cs.set i.toNat v) ws) O Γ')(hv:0<=v/\v<=1000000000)(q0:ah ws "put" i=true->∀ H',Sep Γ' H'->Q wf H')
  (q1:ah ws "put" i=false->∀ e H',Sep (fB (R.cad 3) [("deed",v4 "put"),("cell",v0 i)] e false::O) H'->E e H'):aa tab R k 90 [ut a,v0 i,v0 v] H Q E:=by
 obtain⟨Δ,p,p'⟩:=r.bp;obtain⟨hok,z2⟩:=jw (z.pull p);refine Kp hk z2 (by rw[ce];exact hok.1) (λhm H' z3=>q0 hm H' ?_) (λhm e H' z3=>q1 hm e H' (Sep.push (.t p) (jf hok (z3.pull .k1))));refine Sep.push p' (jf ⟨by rw[length_set];exact hok.1,by rw[length_set];exact hok.2.1,by rw[length_set];exact hok.2.2.1,eA hok.2.2.2 hv.1 hv.2⟩ ?_);rw[List.map_set];exact z3
def AX {d:Str}(hk:2<=k)(z:Sep O H)(p:ag (ar R a cs ws) O Δ)(q:Q (.bl (ah ws d i)) H):aa tab R k 88 [ut a,v4 d,v0 i] H Q E:=by
 obtain⟨hok,z2⟩:=jw (z.pull p);exact zW hk z2 (by rw[ce];exact hok.1) q
def vM (hk:1<=k)(z:Sep O H)(p:ag (ar R a cs ws) O Δ)(q:∀ l H',Sep (pt l 0e9::O) H'->Q (ut l) H'):aa tab R k 85 [ut a] H Q E:=by
 obtain⟨hok,z2⟩:=jw (z.pull p);exact FW hk z2 (λl H' z3=>q l H' (Sep.push (.t p) (jf hok (z3.pull .k1))))
def yx (hk:1<=k)(z:Sep O H)(p:ag (ar R a cs ws) O Δ)(q:∀ l H',Sep (pt l 0e4::O) H'->Q (ut l) H'):aa tab R k 86 [ut a] H Q E:=by
 obtain⟨hok,z2⟩:=jw (z.pull p);exact Cg hk z2 (λl H' z3=>q l H' (Sep.push (.t p) (jf hok (z3.pull .k1))))
end
def xE {cs:List Int}(h1:1<=cs.length)(h60:cs.length<=60)(hc:aY cs):bad (cs.map v0)=none:=by
 refine so (by rw[ce];exact⟨h1,h60⟩) λi y hy=>?_
 rw[im]at hy;obtain⟨z,hz,rfl⟩:=nl.mp hy;exact vJ (hc z (cr hz))
def Bi {cs:List Int}(s:Sep O H):Sep (tys (cs.map v0)::O) H:=Sep.JF (λx hx=>by
 obtain⟨z,_,rfl⟩:=List.mem_map.mp hx;exact⟨"int",rfl⟩) s
def wj {p:Addr}{cs:List Int}(ro:Ro K R)(hk:4<=k)(h1:1<=cs.length)(h60:cs.length<=60)(hc:aY cs)(s:Sep (pt p (wv (R.cad 26) dx [])::pt dx (.own p)::O) H)(h:ag (pt a 0e9) O Δ)
  (q:∀ H',Sep (ar R p cs (sn cs.length "open")::O) H'->Q wf H'):aa tab R k 83 [ut p,ut a] H Q E:=by
 have s2:=Bi (cs:=cs) (s.pull (.j2 h));refine qu (a:=a) (dx:=dx) (O:=Δ) ro hk (s2.sub ?_) (λ_ H' z=>q H' ?_) (λat' hb=>absurd hb (by rw[xE h1 h60 hc];exact λz=>nomatch z))
 .ac_nf
 .refine Sep.push (.t h) ?_;have e:sn (cs.map v0).length (v4 "open")=(sn cs.length ("open":Str)).map v4:=by rw[ce,map_replicate]
  rw[e]at z;have z2:=jf (cs:=cs) ⟨by rw[length_replicate],h1,h60,hc⟩ z;exact z2.sub 0e1
def aC {T:Tab}{f:Nat}{vs vs':List V}(e:vs=vs')(h:aa T R k f vs' H Q E):aa T R k f vs H Q E:=e▸h
local macro_rules| `(tactic|walk_at "ag")=>`(tactic|first|refine aC (vs':=[_,_]) rfl ?_|refine aC (vs':=[_,_,_]) rfl ?_|refine aC (vs':=[_]) rfl ?_|refine aC (vs':=[_,_,_,_]) rfl ?_)
local macro_rules| `(tactic|walk_at "mt")=>`(tactic|first|((with_reducible refine' ae aN ?s ?p ?m ?f ?_);(case s=>with_reducible assumption);(case p=>symm);(case m=>exact rfl);(case f=>exact rfl))|((with_reducible refine' ae aZ ?s ?p ?m ?f ?_);(case s=>with_reducible assumption);(case p=>symm);(case m=>exact rfl);(case f=>exact rfl)))
local macro_rules| `(tactic|walk_at "hq")=>`(tactic|((with_reducible (first|refine' Jh ?r ?k ?s ?p ?_|refine' KQ ?r ?k ?s ?p ?_|refine' HG ?r ?k ?s ?p ?_|refine' Gu ?r ?k ?s ?p ?_|refine' MH ?r ?k ?s ?p ?_|refine' KG ?r ?k ?s ?p ?_));(case r=>with_reducible assumption);(case k=>exact nofun);(case s=>with_reducible assumption);(case p=>symm)))
local macro_rules| `(tactic|walk_at "gq")=>`(tactic|((with_reducible (first|refine' Kt ?r ?k ?s ?p ?i (λH hs=>?_)|refine' JI ?r ?k ?s ?p ?i (λH hs=>?_)|refine' Kv ?r ?k ?s ?p ?i (λH hs=>?_)|refine' MB ?r ?k ?s ?p ?i (λH hs=>?_)));(case r=>with_reducible assumption);(case k=>exact nofun);(case s=>with_reducible assumption);(case p=>ac_rfl);(case i=>omega)))
local macro_rules| `(tactic|walk_at "ws")=>`(tactic|(walk_at "w";repeat(first|(walk_at "st";walk_at "w")|(walk_at "mt";walk_at "w")|(walk_at "ag";(walk_at "hq");walk_at "w")|(walk_at "ag";(walk_at "gq");walk_at "w"))))
local macro_rules| `(tactic|walk_at "sc")=>`(tactic|first|(refine aJ (by decide+kernel) ?_;walk_at "go")|(refine au (by decide+kernel) ?_;walk_at "go"))
inductive Out where
 |on (r:Int) (x:Bx) (cs:List Int)
 |no (d:Str) (c:Int)
section
variable {b a:Addr}{h t l w s m i j by':Int}{cs:List Int}{ws:List Str}
def A9 (ro:Ro K R)(hk:5<=k)(z:Sep O H)(r:aO 3e4 (ai R b ⟨h+i,t,l,w,s,m⟩) O Γ')(hi: -1000000000<=h+i/\h+i<=1000000000)(q:∀ H',Sep Γ' H'->Q wf H'):aa tab R k 62 [ut b,v4 "here",v0 i] H Q E:=by
 obtain⟨Δ,p1,p2⟩:=r.bp;delta qh;left;refine⟨rfl,?_⟩;left;refine ae aN z p1 rfl rfl ?_;left;refine⟨rfl,?_⟩;left;refine ae aN z p1 rfl rfl ?_;left;refine Jh ro nofun z p1 ?_;left;exact Kt ro nofun z r hi q
def GN (ro:Ro K R)(hk:5<=k)(z:Sep O H)(r:aO 3e4 (ai R b ⟨h,t+i,l,w,s,m⟩) O Γ')(hi: -1000000000<=t+i/\t+i<=1000000000)(q:∀ H',Sep Γ' H'->Q wf H'):aa tab R k 62 [ut b,v4 "there",v0 i] H Q E:=by
 obtain⟨Δ,p1,p2⟩:=r.bp;delta qh;left;refine⟨rfl,?_⟩;left;refine ae aN z p1 rfl rfl ?_;left;refine⟨rfl,?_⟩;left;refine ae aN z p1 rfl rfl ?_;left;refine KQ ro nofun z p1 ?_;left;exact JI ro nofun z r hi q
def LJ (ro:Ro K R)(hk:5<=k)(z:Sep O H)(r:aO 3e4 (ai R b ⟨h,t,l+i,w,s,m⟩) O Γ')(hi:0<=l+i/\l+i<=1000000000)(q:∀ H',Sep Γ' H'->Q wf H'):aa tab R k 62 [ut b,v4 "left",v0 i] H Q E:=by
 obtain⟨Δ,p1,p2⟩:=r.bp;delta qh;left;refine⟨rfl,?_⟩;left;refine ae aN z p1 rfl rfl ?_;left;refine⟨rfl,?_⟩;left;refine ae aN z p1 rfl rfl ?_;left;refine HG ro nofun z p1 ?_;left;exact Kv ro nofun z r hi q
abbrev fin (l:Int):Int:=if l=0 then 1 else 0
def g7 (ro:Ro K R)(hk:6<=k)(z:Sep O H)(r:aO 3e4 (ai R b ⟨h,t,l+ -i,w,s,m⟩) O Γ')(hi:0<=l+ -i/\l+ -i<=1000000000)(q:∀ H',Sep Γ' H'->Q (v0 (fin (l+ -i))) H'):aa tab R k 64 [ut b,v0 i] H Q E:=by
 obtain⟨Δ,p1,p2⟩:=r.bp;delta kP;right;refine LJ ro nofun z r hi (λH1 z1=>?_);right;refine ae aN z1 p2 rfl rfl ?_;left;refine HG ro nofun z1 p2 ?_;right;refine aE 4e4 4e4
 .right;have q:=q H1 z1;rw[fin,if_pos e]at q;exact q
 .right;have q:=q H1 z1;rw[fin,if_neg e]at q;exact q
def tV (hk:4<=k)(z:Sep O H)(r:aO (ar R a cs ws) (ar R a (cs.set j.toNat (gt cs i)) ws) O Γ')(q0:ah ws "look" i=true->ah ws "put" j=true->∀ H',Sep Γ' H'->Q wf H')
  (q1:ah ws "look" i=false->∀ e H',Sep (fB (R.cad 3) [("deed",v4 "look"),("cell",v0 i)] e false::O) H'->E e H')
  (q2:ah ws "look" i=true->ah ws "put" j=false->∀ e H',Sep (fB (R.cad 3) [("deed",v4 "put"),("cell",v0 j)] e false::O) H'->E e H'):aa tab R k 66 [ut a,v0 i,v0 j] H Q E:=by
 obtain⟨Δ,p1,p2⟩:=r.bp;have ok:=cG z p1;delta ue;right;refine ae aZ z p1 rfl rfl ?_;left;refine dI nofun z p1 (λhm=>?_) q1;right;refine ae aZ z p1 rfl rfl ?_;left;refine jY nofun z r (cU ok.2.2.2) (λhp H1 z1=>?_) (q2 hm);right;exact q0 hm hp H1 z1
def om (hk:3<=k)(z:Sep O H)(p:ag (ar R a cs ws) O Δ)(q0:ah ws "put" i=true->Q wf H)
  (q1:ah ws "put" i=false->∀ e H',Sep (fB (R.cad 3) [("deed",v4 "put"),("cell",v0 i)] e false::O) H'->E e H'):aa tab R k 65 [ut a,v0 i] H Q E:=by
 delta kB;right;refine ae aZ z p rfl rfl ?_;left;refine AX nofun z p ?_;right;refine bZ (λhm=>?_) (λhm=>?_)
 .right;exact q0 hm
 .right;intro x hx;refine dA nofun (z.new hx) (λd H hs=>?_);right;exact dM hs (by ac_rfl) rfl (λH hs=>q1 hm x H (hU hs))
def t5 (hk:4<=k)(z:Sep O H)(r:∀ v w:Int,∃ Γ1,aO (ar R a cs ws) (ar R a (cs.set i.toNat v) ws) O Γ1/\aO (ar R a (cs.set i.toNat v) ws) (ar R a ((cs.set i.toNat v).set j.toNat w) ws) Γ1 (Γf v w)) (q0:ah ws "look" i=true->ah ws "look" j=true->ah ws "put" i=true->ah ws "put" j=true->∀ H',Sep (Γf (gt cs j) (gt cs i)) H'->Q wf H')
  (q1:ah ws "look" i=false->∀ e H',Sep (fB (R.cad 3) [("deed",v4 "look"),("cell",v0 i)] e false::O) H'->E e H')
  (q2:ah ws "look" i=true->ah ws "look" j=false->∀ e H',Sep (fB (R.cad 3) [("deed",v4 "look"),("cell",v0 j)] e false::O) H'->E e H')
  (q3:ah ws "look" i=true->ah ws "look" j=true->ah ws "put" i=false->∀ e H',Sep (fB (R.cad 3) [("deed",v4 "put"),("cell",v0 i)] e false::O) H'->E e H')
  (q4:ah ws "look" i=true->ah ws "look" j=true->ah ws "put" i=true->ah ws "put" j=false->∀ e H',Sep (fB (R.cad 3) [("deed",v4 "put"),("cell",v0 j)] e false::O) H'->E e H'):aa tab R k 67 [ut a,v0 i,v0 j] H Q E:=by
 obtain⟨Γ1,r1,r2⟩:=r (gt cs j) (gt cs i);obtain⟨Δ,p1,p2⟩:=r1.bp;obtain⟨Δ2,p3,p4⟩:=r2.bp;have ok:=cG z p1;delta iD;right;refine ae aZ z p1 rfl rfl ?_;left;refine dI nofun z p1 (λh1=>?_) q1;right;refine ae aZ z p1 rfl rfl ?_;left;refine dI nofun z p1 (λh2=>?_) (q2 h1);right;refine om nofun z p1 (λh3=>?_) (q3 h1 h2);right;refine om nofun z p1 (λh4=>?_) (q4 h1 h2 h3);right;refine ae aZ z p1 rfl rfl ?_;left;refine jY nofun z r1 (cU ok.2.2.2) (λhp H1 z1=>?_) (λhp=>absurd (h3.symm.trans hp) 1e1);right;refine ae aZ z1 p3 rfl rfl ?_;left;refine jY nofun z1 r2 (cU ok.2.2.2) (λhp H2 z2=>?_) (λhp=>absurd (h4.symm.trans hp) 1e1);right;exact q0 h1 h2 h3 h4 H2 z2
abbrev ub (R:Rt)(b a:Addr)(x:Bx)(cs:List Int)(ws:List Str)(O:List ay)(Q:VK)(E:XK):Out->Prop
 | .on r x' cs'=>∀ H',Sep (ai R b x'::ar R a cs' ws::O) H'->Q (v0 r) H'
 | .no d c=>∀ e H',Sep (fB (R.cad 3) [("deed",v4 d),("cell",v0 c)] e false::ai R b x::ar R a cs ws::O) H'->E e H'
abbrev hm (cs:List Int)(ws:List Str)(i j:Int)(f:List Int->Out):Out:=
 if ah ws "look" i=true then(if ah ws "put" j=true then f (cs.set j.toNat (gt cs i)) else .no "put" j) else .no "look" i
abbrev dN (x:Bx)(cs:List Int)(ws:List Str):Out:=
 if x.l=0 then .on 1 x cs else if x.t<=x.h then hm cs ws x.h x.t λcs'=>.on (fin (x.l+ -1)) ⟨x.h+1,x.t+1,x.l+ -1,x.w,x.s,x.m⟩ cs'
 else hm cs ws (x.h+x.l-1) (x.t+x.l-1) λcs'=>.on (fin (x.l+ -1)) ⟨x.h,x.t,x.l+ -1,x.w,x.s,x.m⟩ cs'
abbrev xm (cs:List Int)(ws:List Str)(i j:Int)(f:List Int->Out):Out:=
 if ah ws "look" i=true then(if ah ws "look" j=true then(if ah ws "put" i=true then(if ah ws "put" j=true then f ((cs.set i.toNat (gt cs j)).set j.toNat (gt cs i)) else .no "put" j) else .no "put" i) else .no "look" j) else .no "look" i
abbrev iw (x:Bx)(cs:List Int)(ws:List Str):Out:=
 if x.l=0 then .on 1 x cs else if x.l=1 then .on 1 ⟨x.h,x.t,0,x.w,x.s,x.m⟩ cs else xm cs ws x.h (x.h+x.l-1) λcs'=>.on (fin (x.l+ -2)) ⟨x.h+1,x.t,x.l+ -2,x.w,x.s,x.m⟩ cs'
def AL (ro:Ro K R)(hk:7<=k)(z:Sep (ai R b x::ar R a cs ws::O) H)(q:ub R b a x cs ws O Q E (dN x cs ws)):aa tab R k 76 [v,ut b,ut a] H Q E:=by
 have ok:=fv z .e;have sk:=cG z .k1;obtain⟨h,t,l,w,s,m⟩:=x;obtain⟨⟨o1,o2⟩,⟨o3,o4⟩,⟨o5,o6⟩,o7⟩:=ok;dsimp only at o1 o2 o3 o4 o5 o6;obtain⟨s1,s2,s3,s4⟩:=sk;delta eU;walk_at "ws";refine aE 4e4 4e4
 .walk_at "ws";rw[dN,if_pos e]at q;exact q H z
 rw[dN,if_neg e]at q;walk_at "ws";refine aG (λe2=>?_) (λe2=>?_)
 .rw[if_pos e2]at q;walk_at "ws";refine tV nofun z .k1 (λh1 h2 H1 z1=>?_) (λh1=>?_) (λh1 h2=>?_)
  .have g1:=ak h1;have g2:=ak h2;rw[hm,if_pos h1,if_pos h2]at q;walk_at "ws";refine A9 ro nofun z1 .e nofun (λH2 z2=>?_);walk_at "ws";refine GN ro nofun z2 .e nofun (λH3 z3=>?_);walk_at "ws";exact g7 ro nofun z3 .e nofun (λH4 z4=>q H4 z4)
  .rw[hm,if_neg (by rw[h1];decide)]at q;exact q
  .rw[hm,if_pos h1,if_neg (by rw[h2];decide)]at q;exact q
 .rw[if_neg e2]at q;walk_at "ws";refine tV nofun z .k1 (λh1 h2 H1 z1=>?_) (λh1=>?_) (λh1 h2=>?_)
  .rw[hm,if_pos h1,if_pos h2]at q;walk_at "ws";exact g7 ro nofun z1 .e nofun (λH4 z4=>q H4 z4)
  .rw[hm,if_neg (by rw[h1];decide)]at q;exact q
  .rw[hm,if_pos h1,if_neg (by rw[h2];decide)]at q;exact q
def DZ (ro:Ro K R)(hk:7<=k)(z:Sep (ai R b x::ar R a cs ws::O) H)(q:ub R b a x cs ws O Q E (iw x cs ws)):aa tab R k 78 [v,ut b,ut a] H Q E:=by
 have ok:=fv z .e;have sk:=cG z .k1;obtain⟨h,t,l,w,s,m⟩:=x;obtain⟨⟨o1,o2⟩,⟨o3,o4⟩,⟨o5,o6⟩,o7⟩:=ok;dsimp only at o1 o2 o3 o4 o5 o6;obtain⟨s1,s2,s3,s4⟩:=sk;delta gu;walk_at "ws";refine aE 4e4 4e4
 .walk_at "ws";rw[iw,if_pos e]at q;exact q H z
 rw[iw,if_neg e]at q;walk_at "ws";refine aE (λe2=>?_) (λe2=>?_)
 .rw[if_pos e2]at q;walk_at "ws";refine g7 ro nofun z .e nofun (λH4 z4=>?_);subst e2;exact q H4 z4
 .rw[if_neg e2]at q;walk_at "ws";refine t5 (Γf:=λv w'=>ai R b ⟨h,t,l,w,s,m⟩::ar R a ((cs.set h.toNat v).set (h+l-1).toNat w') ws::O) nofun z (λv w=>⟨_,.t .e,.t .e⟩) (λh1 h2 h3 h4 H1 z1=>?_) (λh1=>?_) (λh1 h2=>?_) (λh1 h2 h3=>?_) (λh1 h2 h3 h4=>?_)
  .have g1:=ak h1;rw[xm,if_pos h1,if_pos h2,if_pos h3,if_pos h4]at q;walk_at "ws";refine A9 ro nofun z1 .e nofun (λH2 z2=>?_);walk_at "ws";exact g7 ro nofun z2 .e nofun (λH4 z4=>q H4 z4)
  .rw[xm,if_neg (by rw[h1];decide)]at q;exact q
  .rw[xm,if_pos h1,if_neg (by rw[h2];decide)]at q;exact q
  .rw[xm,if_pos h1,if_pos h2,if_neg (by rw[h3];decide)]at q;exact q
  .rw[xm,if_pos h1,if_pos h2,if_pos h3,if_neg (by rw[h4];decide)]at q;exact q
end
section
variable {b a:Addr}{h t l w s m i j:Int}{cs:List Int}{ws:List Str}
def xA (ro:Ro K R)(hk:6<=k)(z:Sep O H)(r:aO 3e4 (ai R b ⟨h+w,t,l,w,s,m⟩) O Γ')(hi: -1000000000<=h+w/\h+w<=1000000000)(q:∀ H',Sep Γ' H'->Q wf H'):aa tab R k 63 [ut b,v4 "here"] H Q E:=by
 obtain⟨Δ,p1,p2⟩:=r.bp;delta gw;left;refine⟨rfl,?_⟩;left;refine⟨rfl,?_⟩;left;refine ae aN z p1 rfl rfl ?_;left;refine Gu ro nofun z p1 ?_;left;exact A9 ro nofun z r hi q
def yX (ro:Ro K R)(hk:6<=k)(z:Sep O H)(r:aO 3e4 (ai R b ⟨h,t+w,l,w,s,m⟩) O Γ')(hi: -1000000000<=t+w/\t+w<=1000000000)(q:∀ H',Sep Γ' H'->Q wf H'):aa tab R k 63 [ut b,v4 "there"] H Q E:=by
 obtain⟨Δ,p1,p2⟩:=r.bp;delta gw;left;refine⟨rfl,?_⟩;left;refine⟨rfl,?_⟩;left;refine ae aN z p1 rfl rfl ?_;left;refine Gu ro nofun z p1 ?_;left;exact GN ro nofun z r hi q
abbrev iu (x:Bx)(cs:List Int)(ws:List Str):Out:=
 if x.l=0 then .on 1 x cs else hm cs ws x.h x.t λcs'=>.on (fin (x.l+ -1)) ⟨x.h+x.w,x.t+x.w,x.l+ -1,x.w,x.s,x.m⟩ cs'
abbrev hV (x:Bx)(cs:List Int)(ws:List Str):Out:=
 if x.l=0 then .on 1 x cs else if ah ws "put" x.t=true then .on (fin (x.l+ -1)) ⟨x.h,x.t+x.w,x.l+ -1,x.w,x.s,x.m⟩ (cs.set x.t.toNat x.s) else .no "put" x.t
abbrev hX (x:Bx)(cs:List Int)(ws:List Str):Out:=
 if x.l=0 then .on 1 ⟨x.h,x.t,x.l,x.w,x.s,0⟩ cs else if ah ws "look" x.h=true then
  (if gt cs x.h=x.s then .on 1 ⟨x.h,x.t,x.l,x.w,x.s,1⟩ cs else .on (fin (x.l+ -1)) ⟨x.h+x.w,x.t,x.l+ -1,x.w,x.s,0⟩ cs) else .no "look" x.h
abbrev dO (x:Bx)(cs:List Int)(ws:List Str):Out:=
 if x.l=0 then .on 1 ⟨x.h,x.t,x.l,x.w,x.s,1⟩ cs else if ah ws "look" x.h=true then(if ah ws "look" x.t=true then
  (if gt cs x.h=gt cs x.t then .on (fin (x.l+ -1)) ⟨x.h+x.w,x.t+x.w,x.l+ -1,x.w,x.s,1⟩ cs else .on 1 ⟨x.h,x.t,x.l,x.w,x.s,0⟩ cs) else .no "look" x.t) else .no "look" x.h
def nt {c:Bool}(h:c=false):¬ c=true:=by rw[h];decide
def DQ (ro:Ro K R)(hk:8<=k)(z:Sep (ai R b x::ar R a cs ws::O) H)(q:ub R b a x cs ws O Q E (iu x cs ws)):aa tab R k 68 [v,ut b,ut a] H Q E:=by
 have ok:=fv z .e;have sk:=cG z .k1;obtain⟨h,t,l,w,s,m⟩:=x;obtain⟨⟨o1,o2⟩,⟨o3,o4⟩,⟨o5,o6⟩,o7,o8⟩:=ok;dsimp only at o1 o2 o3 o4 o5 o6 o7;obtain⟨s1,s2,s3,s4⟩:=sk;delta gB;walk_at "ws";refine aE 4e4 4e4
 .walk_at "ws";rw[iu,if_pos e]at q;exact q H z
 rw[iu,if_neg e]at q;walk_at "ws";refine tV nofun z .k1 (λh1 h2 H1 z1=>?_) (λh1=>?_) (λh1 h2=>?_)
 .have g1:=ak h1;have g2:=ak h2;rw[hm,if_pos h1,if_pos h2]at q;walk_at "ws";refine xA ro nofun z1 .e nofun (λH2 z2=>?_);walk_at "ws";refine yX ro nofun z2 .e nofun (λH3 z3=>?_);walk_at "ws";exact g7 ro nofun z3 .e nofun (λH4 z4=>q H4 z4)
 .rw[hm,if_neg (nt h1)]at q;exact q
 .rw[hm,if_pos h1,if_neg (nt h2)]at q;exact q
def Cu (ro:Ro K R)(hk:8<=k)(z:Sep (ai R b x::ar R a cs ws::O) H)(q:ub R b a x cs ws O Q E (hV x cs ws)):aa tab R k 70 [v,ut b,ut a] H Q E:=by
 have ok:=fv z .e;have sk:=cG z .k1;obtain⟨h,t,l,w,s,m⟩:=x;obtain⟨⟨o1,o2⟩,⟨o3,o4⟩,⟨o5,o6⟩,o7,o8,o9⟩:=ok;dsimp only at o1 o2 o3 o4 o5 o6 o7 o8;obtain⟨s1,s2,s3,s4⟩:=sk;delta gz;walk_at "ws";refine aE 4e4 4e4
 .walk_at "ws";rw[hV,if_pos e]at q;exact q H z
 rw[hV,if_neg e]at q;walk_at "ws";refine jY nofun z .k1 o8 (λh2 H1 z1=>?_) (λh2=>?_)
 .have g2:=ak h2;rw[if_pos h2]at q;walk_at "ws";refine yX ro nofun z1 .e nofun (λH3 z3=>?_);walk_at "ws";exact g7 ro nofun z3 .e nofun (λH4 z4=>q H4 z4)
 .rw[if_neg (nt h2)]at q;exact q
set_option tactic.hygienic true in
def CJ (ro:Ro K R)(hk:8<=k)(z:Sep (ai R b x::ar R a cs ws::O) H)(q:ub R b a x cs ws O Q E (hX x cs ws)):aa tab R k 72 [v,ut b,ut a] H Q E:=by
 have ok:=fv z .e;have sk:=cG z .k1;obtain⟨h,t,l,w,s,m⟩:=x;obtain⟨⟨o1,o2⟩,⟨o3,o4⟩,⟨o5,o6⟩,o7,o8⟩:=ok;dsimp only at o1 o2 o3 o4 o5 o6 o7;obtain⟨s1,s2,s3,s4⟩:=sk;delta gy;walk_at "ws";refine aE 4e4 4e4
 .rw[hX,if_pos e]at q;walk_at "ws";rename_i H1 z1;exact q _ z1
 rw[hX,if_neg e]at q;walk_at "ws";refine dI nofun z .k1 (λh1=>?_) (λh1=>?_)
 .have g1:=ak h1;rw[if_pos h1]at q;walk_at "ws";refine aE 4e4 4e4
  .rw[if_pos e]at q;walk_at "ws";rename_i H1 z1;exact q _ z1
  .rw[if_neg e]at q;walk_at "ws";rename_i H1 z1;refine xA ro nofun z1 .e nofun (λH3 z3=>?_);walk_at "ws";exact g7 ro nofun z3 .e nofun (λH4 z4=>q H4 z4)
 .rw[if_neg (nt h1)]at q;exact q
set_option tactic.hygienic true in
def zC (ro:Ro K R)(hk:8<=k)(z:Sep (ai R b x::ar R a cs ws::O) H)(q:ub R b a x cs ws O Q E (dO x cs ws)):aa tab R k 74 [v,ut b,ut a] H Q E:=by
 have ok:=fv z .e;have sk:=cG z .k1;obtain⟨h,t,l,w,s,m⟩:=x;obtain⟨⟨o1,o2⟩,⟨o3,o4⟩,⟨o5,o6⟩,o7,o8⟩:=ok;dsimp only at o1 o2 o3 o4 o5 o6 o7;obtain⟨s1,s2,s3,s4⟩:=sk;delta eW;walk_at "ws";refine aE 4e4 4e4
 .rw[dO,if_pos e]at q;walk_at "ws";rename_i H1 z1;exact q _ z1
 rw[dO,if_neg e]at q;walk_at "ws";refine dI nofun z .k1 (λh1=>?_) (λh1=>?_)
 .have g1:=ak h1;rw[if_pos h1]at q;walk_at "ws";refine dI nofun z .k1 (λh2=>?_) (λh2=>?_)
  .have g2:=ak h2;rw[if_pos h2]at q;walk_at "ws";refine aE 4e4 4e4
   .rw[if_pos e]at q;walk_at "ws";rename_i H1 z1;refine xA ro nofun z1 .e nofun (λH2 z2=>?_);walk_at "ws";refine yX ro nofun z2 .e nofun (λH3 z3=>?_);walk_at "ws";exact g7 ro nofun z3 .e nofun (λH4 z4=>q H4 z4)
   .rw[if_neg e]at q;walk_at "ws";rename_i H1 z1;exact q _ z1
  .rw[if_neg (nt h2)]at q;exact q
 .rw[if_neg (nt h1)]at q;exact q
end
abbrev b2i (c:Bool):Int:=match c with
 |true=>1
 |false=>0
def jt {c:Bool}(q:Q (v0 (b2i c)) H):qq G .int [.bl c] H Q:=by
 unfold qq;refine .inl (.inr ⟨c,rfl,?_⟩);cases c<;>exact q
section
variable {cs:List Int}{f g:Nat->Int}{i v:Int}
end
abbrev dd (R:Rt)(d:Addr)(c:Nat):ay:=bx λdx:Addr=>[pt d (wv (R.cad c) dx []),pt dx (.own d)]
def L7 {c:Nat}(s:Sep (pt d (wv (R.cad c) dx [])::pt dx (.own d)::O) H):Sep (dd R d c::O) H:=iH dx s
def J3 {c:Nat}:Ob R (dd R d c) d c []:=by
 rintro H D ⟨dx,D1,D2,_,_,_,⟨_,h⟩,_⟩;exact⟨dx,_,h,rfl⟩
def Ek {l p:Addr}{cs:List Int}(h1:H l=some 0e9)(h2:H p=some 0e9):dz R.K H 2 (ut l) (ut p) true:=
 m9 (n:=0) h1 h2 λx hx=>by
  obtain⟨z,_,rfl⟩:=List.mem_map.mp hx;exact⟨"int",rfl⟩
abbrev aA (d:Addr)(x:Bx):ay:=pt d (.dK (yU.zip (x.ls.map v0)))
section
variable {d:Addr}{h t l w s m i:Int}{P:Hp->Prop}
def Mc (z:Sep O H)(p:ag (aA d ⟨h,t,l,w,s,m⟩) O Δ)(q:Q (v0 h) H):tH K (ut d) (v4 "here") H Q:=qr (k:=.inr "here") (z.get p) rfl q
def L8 (z:Sep O H)(p:ag (aA d ⟨h,t,l,w,s,m⟩) O Δ)(q:Q (v0 t) H):tH K (ut d) (v4 "there") H Q:=qr (k:=.inr "there") (z.get p) rfl q
def MM (z:Sep O H)(p:ag (aA d ⟨h,t,l,w,s,m⟩) O Δ)(q:Q (v0 l) H):tH K (ut d) (v4 "left") H Q:=qr (k:=.inr "left") (z.get p) rfl q
def Mh (z:Sep O H)(p:ag (aA d ⟨h,t,l,w,s,m⟩) O Δ)(q:Q (v0 w) H):tH K (ut d) (v4 "way") H Q:=qr (k:=.inr "way") (z.get p) rfl q
def LN (z:Sep O H)(p:ag (aA d ⟨h,t,l,w,s,m⟩) O Δ)(q:Q (v0 s) H):tH K (ut d) (v4 "sign") H Q:=qr (k:=.inr "sign") (z.get p) rfl q
def MJ (z:Sep O H)(p:ag (aA d ⟨h,t,l,w,s,m⟩) O Δ)(q:Q (v0 m) H):tH K (ut d) (v4 "met") H Q:=qr (k:=.inr "met") (z.get p) rfl q
def rM {y:Bx}{j:Nat}{nm:Str}(z:Sep O H)(r:aO (aA d x) (aA d y) O Γ')(hj:qX[j]? =some nm)(hx:x.ls.set j i=y.ls)(q:∀ H',Sep Γ' H'->P H'):jl (ut d) (v4 nm) (v0 i) H P:=by
 refine wq (k:=.inr nm) z r (ol rfl) ?_ q;rw[<-hx];exact wJ rfl hj
def Ly (z:Sep O H)(r:aO (aA d ⟨h,t,l,w,s,m⟩) (aA d ⟨i,t,l,w,s,m⟩) O Γ')(q:∀ H',Sep Γ' H'->P H'):jl (ut d) (v4 "here") (v0 i) H P:=rM (j:=0) z r rfl rfl q
def MI (z:Sep O H)(r:aO (aA d ⟨h,t,l,w,s,m⟩) (aA d ⟨h,i,l,w,s,m⟩) O Γ')(q:∀ H',Sep Γ' H'->P H'):jl (ut d) (v4 "there") (v0 i) H P:=rM (j:=1) z r rfl rfl q
def Mq (z:Sep O H)(r:aO (aA d ⟨h,t,l,w,s,m⟩) (aA d ⟨h,t,i,w,s,m⟩) O Γ')(q:∀ H',Sep Γ' H'->P H'):jl (ut d) (v4 "left") (v0 i) H P:=rM (j:=2) z r rfl rfl q
def Mn (z:Sep O H)(r:aO (aA d ⟨h,t,l,w,s,m⟩) (aA d ⟨h,t,l,w,s,i⟩) O Γ')(q:∀ H',Sep Γ' H'->P H'):jl (ut d) (v4 "met") (v0 i) H P:=rM (j:=5) z r rfl rfl q
def Bg (z:Sep O H)(r:aO (pt d (.dK [])) (aA d ⟨h,t,l,w,s,m⟩) O Γ')(q:∀ H',Sep Γ' H'->Q (ut d) H'):pk ["here","there","left","way","sign","met"] d [v0 h,v0 t,v0 l,v0 w,v0 s,v0 m] H Q:=by
 obtain⟨Δ,p1,p2⟩:=r.bp;unfold pk;exact⟨z.get p1,q _ (z.put r rfl)⟩
end
local macro_rules| `(tactic|walk_at "sx")=>`(tactic|((with_reducible (first|refine' Mc ?s ?p ?_|refine' L8 ?s ?p ?_|refine' MM ?s ?p ?_|refine' Mh ?s ?p ?_|refine' LN ?s ?p ?_|refine' MJ ?s ?p ?_));(case s=>with_reducible assumption);(case p=>symm)))
local macro_rules| `(tactic|walk_at "sy")=>`(tactic|((with_reducible (first|refine' Ly ?s ?p (λH hs=>?_)|refine' MI ?s ?p (λH hs=>?_)|refine' Mq ?s ?p (λH hs=>?_)|refine' ds_w ?s ?p (λH hs=>?_)|refine' ds_s ?s ?p (λH hs=>?_)|refine' Mn ?s ?p (λH hs=>?_)));(case s=>with_reducible assumption);(case p=>ac_rfl)))
local macro_rules| `(tactic|walk_at "wd")=>`(tactic|(walk_at "w";repeat(first|(walk_at "sx";walk_at "w")|(walk_at "sy";walk_at "w")|(walk_at "st";walk_at "w")|(refine jt ?_;walk_at "w"))))
def Aq {ws:List Str}{d:Str}(hk:1<=k)(z:Sep O H)(p:ag (pt lv 0e4) O Δ)(q:Q (.bl (ah ws d i)) H):aa tab R k 102 [ut lv,v4 d,v0 i] H Q E:=by
 have e0:H lv=some 0e4:=z.get p;have no:(i<0\/¬ i<ws.length)->ah ws d i=false:=λh=>by
  unfold ah;rcases h with h|h
  .rw[decide_eq_false (by omega:¬ 0<=i),Bool.false_and]
  .rw[decide_eq_false h,Bool.false_and,Bool.and_false]
 delta nq;left;refine aG 5e6 5e6
 .right;rw[no (.inl h0)]at q;exact q
 left;refine jV e0 ?_;left;rw[ce];refine aG (λh1=>?_) (λh1=>?_)
 .right;rw[no (.inr nofun)]at q;exact q
 have h2:i.toNat<ws.length:=by omega
 have e1:ws[i.toNat]? =some ws[i.toNat]:=li h2;generalize ws[i.toNat]=w at e1;have e2:(ws.map v4)[i.toNat]? =some (v4 w):=by rw[im,e1];rfl
 have e3:ah ws d i=(if w="look" then d =="look" else w =="open"):=by
  unfold ah;rw[e1,decide_eq_true (by omega:0<=i),decide_eq_true (by omega:i<ws.length)]
  rfl
 left;refine aX e0 (aW nofun e2) ?_;right;refine bZ (λhw=>?_) (λhw=>?_)
 .have hw:w="open":=by simpa[dD] using hw
  subst hw;rw[e3,if_neg 2e6]at q;right;exact q
 .have hw:¬ w="open":=by simpa[dD] using hw
  left;refine aX e0 (aW nofun e2) ?_;right;refine bZ (λhl=>?_) (λhl=>?_)
  .have hl:w="look":=by simpa[dD] using hl
   rw[e3,if_pos hl]at q;right;exact q
  .have hl:¬ w="look":=by simpa[dD] using hl
   have e4:(w ==("open":Str))=false:=by simpa using hw
   rw[e3,if_neg hl,e4]at q;right;exact q
inductive Wd where
 |copy|fill|seek|mtch|shift|turn
abbrev Wd.s:Wd->Str
 | .copy=>"copy"
 | .fill=>"fill"
 | .seek=>"seek"
 | .mtch=>"match"
 | .shift=>"shift"
 | .turn=>"turn"
abbrev Et (h t l:Int):Wd->List Int
 | .copy=>[h]
 | .fill=>[]
 | .seek=>[h]
 | .mtch=>[h,t]
 | .shift=>if t<=h then[h+0] else[h+(l-1)]
 | .turn=>if l=1 then[] else[h,h+l-1]
abbrev A6 (h t l:Int):Wd->List Int
 | .copy=>[t]
 | .fill=>[t]
 | .seek=>[]
 | .mtch=>[]
 | .shift=>if t<=h then[t+0] else[t+(l-1)]
 | .turn=>if l=1 then[] else[h,h+l-1]
abbrev oY (wd:Wd)(x:Bx):List Int:=if x.l=0 then[] else Et x.h x.t x.l wd
abbrev l9 (wd:Wd)(x:Bx):List Int:=if x.l=0 then[] else A6 x.h x.t x.l wd
abbrev bj (ws:List Str)(d:Str):List Int->Option (Str×Int)
 | []=>none
 |c::r=>if ah ws d c=true then bj ws d r else some (d,c)
abbrev bV (ws:List Str)(ls ps:List Int):Option (Str×Int):=match bj ws "look" ls with
 |some r=>some r
 |none=>bj ws "put" ps
def lV {ws:List Str}{d:Str}:∀ {l:List Int},(∀ c ∈ l,ah ws d c=true)->bj ws d l=none
 | [],_=>rfl
 |c::r,h=>by
  unfold bj;rw[if_pos (h c lw)];exact lV λc hc=>h c (dl _ hc)
def qA {ws:List Str}{d:Str}{c:Int}:∀ {l:List Int}{j:Nat},(∀ i x,i<j->l[i]? =some x->ah ws d x=true)->l[j]? =some c->ah ws d c=false->bj ws d l=some (d,c)
 | [],_,_,h,_=>by simp at h
 |a::r,0,_,h,hc=>by
  have:a=c:=by simpa using h
  subst this;unfold bj;rw[if_neg (nt hc)]
 |a::r,j+1,hb,h,hc=>by
  unfold bj;rw[if_pos (hb 0 a (Nat.succ_pos _) rfl)];exact qA (λi x hi hx=>hb (i+1) x (Nat.succ_lt_succ hi) (by simpa using hx)) (by simpa using h) hc
abbrev bR:Wd->Bx->List Int->List Str->Out
 | .copy=>iu
 | .fill=>hV
 | .seek=>hX
 | .mtch=>dO
 | .shift=>dN
 | .turn=>iw
abbrev k7 (d p:Addr)(O:List ay)(Q:VK):Out->Prop
 | .on r x' cs'=>∀ H',Sep (aA d x'::pt p (wp (cs'.map v0))::O) H'->Q (v0 r) H'
 | .no _ _=>True
def aP {ws:List Str}{d:Str}{r:List Int}(h:bj ws d (c::r)=none):ah ws d c=true/\bj ws d r=none:=by
 unfold bj at h
 by_cases e:ah ws d c=true
 .rw[if_pos e]at h;exact⟨e,h⟩
 .rw[if_neg e]at h;cases h
set_option tactic.hygienic true in
def jc {ws:List Str}{ls ps:List Int}(h:bV ws ls ps=none):bj ws "look" ls=none/\bj ws "put" ps=none:=by
 unfold bV at h
 split at h
 .cases h
 .rename_i e;exact⟨e,h⟩
def og:b2i (dD (v0 l) (v0 0))=fin l:=by
 show b2i (l ==0)=_;unfold fin
 by_cases e:l=0
 .rw[if_pos e,e];rfl
 .rw[if_neg e,show(l ==0)=false by simpa using e];rfl
def dm {cs:List Int}{v:Int}:(cs.map v0).set n (v0 v)=(cs.set n v).map v0:=by rw[List.map_set]
def Al:b2i (dD (v0 l) (v0 1))=fin (l+ -1):=by
 show b2i (l ==1)=_;unfold fin
 by_cases e:l=1
 .rw[if_pos nofun,e];rfl
 .rw[if_neg nofun,show(l ==1)=false by simpa using e];rfl
def Cp:l-1=l+ -1:=by omega
def MW:l-2=l+ -2:=by omega
def Fd {j:Int}(h:i=j):dD (v0 i) (v0 j)=true:=by subst h;show(i ==i)=true;simp
def ES {j:Int}(h:i≠j):dD (v0 i) (v0 j)=false:=by show(i ==j)=false;simpa using h
section
variable {d p:Addr}{h t l w s m:Int}{cs:List Int}{ws:List Str}
set_option tactic.hygienic true in
def rK (wd:Wd)(hw:wd=.seek\/wd=.mtch)(hk:1<=k)(hl:cs.length=ws.length)(hb:bV ws (oY wd x) (l9 wd x)=none)(z:Sep (aA d x::pt p 0e9::O) H)
  (q:k7 d p O Q (bR wd x cs ws)):aa tab R k 108 [v4 wd.s,ut d,ut p] H Q E:=by
 obtain⟨h,t,l,w,s,m⟩:=x;obtain⟨b1,b2⟩:=jc hb;have f1:b2i (dD (v4 Wd.seek.s) (v4 "match"))=0:=by decide+kernel
 have f2:b2i (dD (v4 Wd.mtch.s) (v4 "match"))=1:=by decide+kernel
 have f3:b2i (dD (v4 Wd.seek.s) (v4 "seek"))=1:=by decide+kernel
 have f4:b2i (dD (v4 Wd.mtch.s) (v4 "seek"))=0:=by decide+kernel
 have f5:dD (v4 Wd.seek.s) (v4 "seek")=true:=by decide+kernel
 have f6:dD (v4 Wd.mtch.s) (v4 "seek")=false:=by decide+kernel
 delta ir;rcases hw with rfl|rfl
 .have q:k7 d p O Q (hX ⟨h,t,l,w,s,m⟩ cs ws):=q;walk_at "wd";refine aE 4e4 4e4
  .rw[hX,if_pos e]at q;walk_at "wd";rename_i H1 z1;rw[f1]at z1;exact q _ z1
  rw[hX,if_neg e]at q;have b1:bj ws "look" [h]=none:=(congrArg _ (if_neg e)).symm.trans b1;obtain⟨m1,_⟩:=aP b1;obtain⟨g1,g2⟩:=ak m1;rw[if_pos m1]at q;walk_at "wd"
  repeat walk_at "sc"
  refine aX 2e8 (c9 g1 nofun) ?_;walk_at "wd";rw[f5]
  by_cases e2:gt cs h=s
  .rw[if_pos e2]at q;rw[Fd e2];walk_at "wd";rename_i H1 z1;rw[f3]at z1;exact q _ z1
  .rw[if_neg e2]at q;rw[ES e2];walk_at "wd"
   repeat walk_at "sc"
   walk_at "wd";rename_i H1 z1 H2 z2 H3 z3;rw[f1,Cp]at z3;rw[Al];exact q _ z3
 .have q:k7 d p O Q (dO ⟨h,t,l,w,s,m⟩ cs ws):=q;walk_at "wd";refine aE 4e4 4e4
  .rw[dO,if_pos e]at q;walk_at "wd";rename_i H1 z1;rw[f2]at z1;exact q _ z1
  rw[dO,if_neg e]at q;have b1:bj ws "look" [h,t]=none:=(congrArg _ (if_neg e)).symm.trans b1;obtain⟨m1,b3⟩:=aP b1;obtain⟨m2,_⟩:=aP b3;obtain⟨g1,g2⟩:=ak m1;obtain⟨g3,g4⟩:=ak m2;rw[if_pos m1,if_pos m2]at q;walk_at "wd"
  repeat walk_at "sc"
  refine aX 2e8 (c9 g3 nofun) ?_;walk_at "wd";refine aX 2e8 (c9 g1 nofun) ?_;walk_at "wd";rw[f6]
  by_cases e2:gt cs h=gt cs t
  .rw[if_pos e2]at q;rw[Fd e2];walk_at "wd"
   repeat walk_at "sc"
   walk_at "wd";rename_i H1 z1 H2 z2 H3 z3 H4 z4;rw[f2,Cp]at z4;rw[Al];exact q _ z4
  .rw[if_neg e2]at q;rw[ES e2];walk_at "wd";rename_i H1 z1;rw[f4]at z1;exact q _ z1
set_option tactic.hygienic true in
def CM (wd:Wd)(hk:2<=k)(hx:0<=x.l)(hl:cs.length=ws.length)(hb:bV ws (oY wd x) (l9 wd x)=none)(z:Sep (aA d x::pt p 0e9::O) H)
  (q:k7 d p O Q (bR wd x cs ws)):aa tab R k 107 [v4 wd.s,ut d,ut p] H Q E:=by
 delta jN;obtain⟨h,t,l,w,s,m⟩:=x;obtain⟨b1,b2⟩:=jc hb;dsimp only at hx;cases wd
 case seek=>
  walk_at "wd";rename_i p0 H0 z0;refine g5 (bP.of z0.at) rfl rfl ?_;left;refine aJ 2e6 ?_;left;refine⟨rfl,?_⟩;left;exact rK .seek 3e9 nofun hl hb z0.drop q
 case mtch=>
  walk_at "wd";rename_i p0 H0 z0;refine g5 (bP.of z0.at) rfl rfl ?_;left;refine aJ 2e6 ?_;left;refine⟨rfl,?_⟩;left;exact rK .mtch (.inr rfl) nofun hl hb z0.drop q
 case copy=>
  have q:k7 d p O Q (iu ⟨h,t,l,w,s,m⟩ cs ws):=q;walk_at "wd";rename_i p0 H0 z0;refine g5 (bP.of z0.at) rfl rfl ?_;left;refine au 2e6 ?_
  replace z0:=z0.drop
  walk_at "wd";refine aE 4e4 4e4
  .rw[iu,if_pos e]at q;walk_at "wd";exact q _ z0
  have b1:bj ws "look" [h]=none:=(congrArg _ (if_neg e)).symm.trans b1;have b2:bj ws "put" [t]=none:=(congrArg _ (if_neg e)).symm.trans b2;have m1:=(aP b1).1;have m2:=(aP b2).1;obtain⟨g1,g2⟩:=ak m1;obtain⟨g3,g4⟩:=ak m2;rw[iu,if_neg e,hm,if_pos m1,if_pos m2]at q;walk_at "wd";refine aX 2e8 (c9 g1 nofun) ?_;walk_at "wd";refine fD z0 .k1 (dR g3 4e0) dm (λH1 z1=>?_);walk_at "wd"
  repeat walk_at "sc"
  walk_at "wd";rename_i H2 z2 H3 z3 H4 z4;rw[Cp]at z4;rw[og,Cp];exact q _ z4
 case fill=>
  have q:k7 d p O Q (hV ⟨h,t,l,w,s,m⟩ cs ws):=q;walk_at "wd";rename_i p0 H0 z0;refine g5 (bP.of z0.at) rfl rfl ?_;left;refine au 2e6 ?_
  replace z0:=z0.drop
  walk_at "wd";refine aE 4e4 4e4
  .rw[hV,if_pos e]at q;walk_at "wd";exact q _ z0
  have b2:bj ws "put" [t]=none:=(congrArg _ (if_neg e)).symm.trans b2;have m2:=(aP b2).1;obtain⟨g3,g4⟩:=ak m2;rw[hV,if_neg e,if_pos m2]at q;walk_at "wd";refine fD z0 .k1 (dR g3 4e0) dm (λH1 z1=>?_);walk_at "wd"
  repeat walk_at "sc"
  walk_at "wd";rename_i H2 z2 H3 z3;rw[Cp]at z3;rw[og,Cp];exact q _ z3
 case shift=>
  have q:k7 d p O Q (dN ⟨h,t,l,w,s,m⟩ cs ws):=q;walk_at "wd";rename_i p0 H0 z0;refine g5 (bP.of z0.at) rfl rfl ?_;left;refine au 2e6 ?_
  replace z0:=z0.drop
  walk_at "wd";refine aE 4e4 4e4
  .rw[dN,if_pos e]at q;walk_at "wd";exact q _ z0
  rw[dN,if_neg e]at q;have b1:bj ws "look" (Et h t l .shift)=none:=(congrArg _ (if_neg e)).symm.trans b1;have b2:bj ws "put" (A6 h t l .shift)=none:=(congrArg _ (if_neg e)).symm.trans b2;walk_at "wd"
  by_cases e2:t<=h
  .have b1:bj ws "look" [h+0]=none:=(congrArg _ (if_pos e2)).symm.trans b1;have b2:bj ws "put" [t+0]=none:=(congrArg _ (if_pos e2)).symm.trans b2;rw[Int.add_zero]at b1 b2;have m1:=(aP b1).1;have m2:=(aP b2).1;obtain⟨g1,g2⟩:=ak m1;obtain⟨g3,g4⟩:=ak m2;rw[if_pos e2,hm,if_pos m1,if_pos m2]at q;refine aJ (decide_eq_true e2) ?_;walk_at "wd";refine aX 2e8 (c9 g1 nofun) ?_;walk_at "wd";refine fD z0 .k1 (dR g3 4e0) dm (λH1 z1=>?_);walk_at "wd"
   repeat walk_at "sc"
   walk_at "wd";rename_i H2 z2 H3 z3 H4 z4;rw[Cp]at z4;rw[og,Cp];exact q _ z4
  .have b1:bj ws "look" [h+(l-1)]=none:=(congrArg _ (if_neg e2)).symm.trans b1;have b2:bj ws "put" [t+(l-1)]=none:=(congrArg _ (if_neg e2)).symm.trans b2;rw[show h+(l-1)=h+l-1 by omega]at b1;rw[show t+(l-1)=t+l-1 by omega]at b2;have m1:=(aP b1).1;have m2:=(aP b2).1;obtain⟨g1,g2⟩:=ak m1;obtain⟨g3,g4⟩:=ak m2;rw[if_neg e2,hm,if_pos m1,if_pos m2]at q;refine au (decide_eq_false e2) ?_;walk_at "wd";refine aX 2e8 (c9 g1 nofun) ?_;walk_at "wd";refine fD z0 .k1 (dR g3 4e0) dm (λH1 z1=>?_);walk_at "wd"
   repeat walk_at "sc"
   walk_at "wd";rename_i H2 z2;rw[Cp]at z2;rw[og,Cp];exact q _ z2
 case turn=>
  have q:k7 d p O Q (iw ⟨h,t,l,w,s,m⟩ cs ws):=q;walk_at "wd";rename_i p0 H0 z0;refine g5 (bP.of z0.at) rfl rfl ?_;left;refine au 2e6 ?_
  replace z0:=z0.drop
  walk_at "wd";refine aE 4e4 4e4
  .rw[iw,if_pos e]at q;walk_at "wd";exact q _ z0
  rw[iw,if_neg e]at q;have b1:bj ws "look" (Et h t l .turn)=none:=(congrArg _ (if_neg e)).symm.trans b1;have b2:bj ws "put" (A6 h t l .turn)=none:=(congrArg _ (if_neg e)).symm.trans b2;walk_at "wd"
  repeat walk_at "sc"
  refine aG (λe2=>?_) (λe2=>?_)
  .have b1:bj ws "look" [h,h+l-1]=none:=(congrArg _ (if_neg nofun)).symm.trans b1;have b2:bj ws "put" [h,h+l-1]=none:=(congrArg _ (if_neg nofun)).symm.trans b2;obtain⟨m1,b1⟩:=aP b1;obtain⟨m3,b2⟩:=aP b2;have m2:=(aP b1).1;have m4:=(aP b2).1;obtain⟨g1,g2⟩:=ak m1;obtain⟨g3,g4⟩:=ak m2;rw[if_neg (show ¬ l=1 by omega),xm,if_pos m1,if_pos m2,if_pos m3,if_pos m4]at q;walk_at "wd";refine aX 2e8 (c9 g1 nofun) ?_;walk_at "wd";refine aX 2e8 (c9 g3 nofun) ?_;walk_at "wd";refine fD z0 .k1 (dR g1 4e0) dm (λH1 z1=>?_);walk_at "wd";refine fD z1 .k1 (dR g3 (by rw[ce,length_set];omega)) dm (λH2 z2=>?_);walk_at "wd";rename_i H3 z3 H4 z4;rw[MW]at z4;rw[og,MW];exact q _ z4
  .have e1:l=1:=by omega
   subst e1;rw[if_pos rfl]at q;walk_at "wd";rename_i H3 z3;rw[og];exact q _ z3
def lr {ls ps:List Int}{v:Str×Int}{a:Out}(h:bV ws (c::ls) ps=some v)(k:bV ws ls ps=some v->a=.no v.1 v.2):(if ah ws "look" c=true then a else .no "look" c)=.no v.1 v.2:=by
 unfold bV at h k;rw[bj]at h
 by_cases e:ah ws "look" c=true
 .rw[if_pos e]at h⊢;exact k h
 .rw[if_neg e]at h⊢;cases h;rfl
def ou {ps:List Int}{v:Str×Int}{a:Out}(h:bV ws [] (c::ps)=some v)(k:bV ws [] ps=some v->a=.no v.1 v.2):(if ah ws "put" c=true then a else .no "put" c)=.no v.1 v.2:=by
 have h:bj ws "put" (c::ps)=some v:=h;unfold bj at h
 by_cases e:ah ws "put" c=true
 .rw[if_pos e]at h⊢;exact k h
 .rw[if_neg e]at h⊢;cases h;rfl
def kW {v:Str×Int}{a:Out}(h:bV ws [] []=some v):a=.no v.1 v.2:=nomatch (show none=some v from h)
def GG {wd:Wd}{dd:Str}(hx:0<=x.l)(hb:bV ws (oY wd x) (l9 wd x)=some (dd,c)):bR wd x cs ws=.no dd c:=by
 obtain⟨h,t,l,w,s,m⟩:=x
 by_cases e:l=0
 .have e1:oY wd ⟨h,t,l,w,s,m⟩=[]:=if_pos e;have e2:l9 wd ⟨h,t,l,w,s,m⟩=[]:=if_pos e;rw[e1,e2]at hb;cases hb
 have e1:oY wd ⟨h,t,l,w,s,m⟩=Et h t l wd:=if_neg e;have e2:l9 wd ⟨h,t,l,w,s,m⟩=A6 h t l wd:=if_neg e;rw[e1,e2]at hb;cases wd
 .exact(if_neg e).trans (lr hb λhb=>ou hb kW)
 .exact(if_neg e).trans (ou hb kW)
 .exact(if_neg e).trans (lr hb kW)
 .exact(if_neg e).trans (lr hb λhb=>lr hb kW)
 .refine(if_neg e).trans ?_
  by_cases e2:t<=h
  .rw[show Et h t l .shift=[h+0] from if_pos e2,show A6 h t l .shift=[t+0] from if_pos e2,Int.add_zero,Int.add_zero]at hb;exact(if_pos e2).trans (lr hb λhb=>ou hb kW)
  .rw[show Et h t l .shift=[h+(l-1)] from if_neg e2,show A6 h t l .shift=[t+(l-1)] from if_neg e2,<-Int.add_sub_assoc,<-Int.add_sub_assoc]at hb;exact(if_neg e2).trans (lr hb λhb=>ou hb kW)
 .refine(if_neg e).trans ?_
  by_cases e2:l=1
  .rw[show Et h t l .turn=[] from if_pos e2,show A6 h t l .turn=[] from if_pos e2]at hb;exact kW hb
  .rw[show Et h t l .turn=[h,h+l-1] from if_neg e2,show A6 h t l .turn=[h,h+l-1] from if_neg e2]at hb;exact(if_neg e2).trans (lr hb λhb=>lr hb λhb=>ou hb λhb=>ou hb kW)
end
def dW {xs:List α}(h0:0<=i)(h1:i<xs.length):∃ v,oa xs i=some v/\v ∈ xs:=by
 have hl:i.toNat<xs.length:=by omega
 refine⟨xs[i.toNat],?_,getElem_mem hl⟩;have:=L2.pK (li hl)
 rwa [Int.toNat_of_nonneg h0]at this
abbrev cL (ws:List Str):Prop:=∀ w ∈ ws,fh w=true
def rg {ws:List Str}{w:Str}(h:cL ws)(hw:fh w=true):cL (ws.set n w):=λx hx=>by
 rcases List.mem_or_eq_of_mem_set hx with hx|rfl
 .exact h x hx
 .exact hw
set_option tactic.hygienic true in
def xX (hk:2<=k)(hm:m<=1099511000000)(h1:1<=n)(h60:n<=60)(s:Sep (hand h m::O) H)
  (q:∀ p ws H',ws.length=n->cL ws->Sep (pt p 0e4::hand h (m+20)::O) H'->Q (ut p) H'):aa tab R k 96 [ut h,v0 n] H Q E:=by
 delta iB;walk_at "gd";rename_i l H1 hs1 b H2 hs2 l2 H3 hs3 r H4 r0 r1 hs4;rw[vA,show sn n (v4 "open")=(sn n ("open":Str)).map v4 by rw[map_replicate]]at hs4;obtain⟨v,hv,hmem⟩:=dW (xs:=[v0 0,v0 0,v0 1,v0 2,v0 4]) r0 (by simpa using r1);refine aX 2e8 hv ?_;obtain⟨M,rfl,M0,M1⟩:∃ M:Int,v=v0 M/\0<=M/\M<=4:=by
  simp only[mo,not_mem_nil,or_false]at hmem;rcases hmem with rfl|rfl|rfl|rfl|rfl
  .exact⟨_,rfl,by omega,by omega⟩
  .exact⟨_,rfl,by omega,by omega⟩
  .exact⟨_,rfl,by omega,by omega⟩
  .exact⟨_,rfl,by omega,by omega⟩
  .exact⟨_,rfl,by omega,by omega⟩
 have hs5:Sep (pt b (wp ((sn n ("open":Str)).map v4))::hand h (m+1)::O) H4:=hs4.sub 0e1;clear hs1 hs2 hs3 hs4 hv hmem;walk_at "gd";refine gU (n:=M.toNat) (λj U H=>∃ y3 y4 y5 y6,∃ ws:List Str,U=[some (ut h),some (v0 n),some (ut b),y3,y4,y5,y6]/\ws.length=n/\cL ws/\Sep (pt b 0e4::hand h (m+1+3*(j:Int))::O) H) ?_ ?_ ?_
 .refine⟨_,_,_,_,_,rfl,length_replicate ..,λw hw=>?_,(aw (n:=m+1+3*((0:Nat):Int)) (hs5.pull .k1) nofun).pull .k1⟩;rw[(List.mem_replicate.mp hw).2]
  decide
 .rintro j U H hj ⟨y3,y4,y5,y6,ws,rfl,hl,hw,hs⟩;clear hs5;walk_at "gd";rename_i l4 H5 hs5 x H6 x0 x1 hs6;obtain⟨v,hv,hmem⟩:=dW (xs:=[v4 "look",v4 "shut",v4 "look",v4 "open"]) x0 (by simpa using x1);refine aX 2e8 hv ?_;obtain⟨wd,rfl,hwd⟩:∃ wd,v=v4 wd/\fh wd=true:=by
   simp only[mo,not_mem_nil,or_false]at hmem;rcases hmem with rfl|rfl|rfl|rfl<;>exact⟨_,rfl,by decide⟩
  walk_at "gd";rename_i lo H7 lo0 lo1 hs7 d H8 d0 d1 hs8;have hs9:Sep (pt b 0e4::hand h (m+1+3*((j+1:Nat):Int))::O) H8:=(aw (n:=m+1+3*((j+1:Nat):Int)) (hs8.pull (A:=hand h (m+1+3*(j:Int)+1+1+1)) 1e6) nofun).sub 0e1;clear hs hs5 hs6 hs7 hs8 hv hmem;refine gU (λi U H=>∃ y6,∃ ws:List Str,U=[some (ut h),some (v0 n),some (ut b),some (v0 (0+(j:Int))),some (v4 wd),some (v0 lo),y6]/\ws.length=n/\cL ws/\Sep (pt b 0e4::hand h (m+1+3*((j+1:Nat):Int))::O) H) ?_ ?_ ?_
  .exact⟨_,ws,rfl,hl,hw,hs9⟩
  .rintro i U H hi ⟨y6,ws,rfl,hl,hw,hs⟩;right;refine fD hs (by ac_rfl) (dR nofun 4e0) rfl (λH hs=>?_);right;rw[<-List.map_set]at hs;exact⟨_,_,rfl,by rw[length_set];exact hl,rg hw hwd,hs⟩
  .rintro U H ⟨y6,ws,rfl,hl,hw,hs⟩;right;exact⟨_,_,_,_,ws,rfl,hl,hw,hs⟩
 .rintro U H ⟨y3,y4,y5,y6,ws,rfl,hl,hw,hs⟩;right;exact q b ws H hl hw ((aw (n:=m+20) (hs.pull .k1) nofun).pull .k1)
def ik (h0:0<=r)(h1:r<xs.length)(h:∀ v ∈ xs,P v):∃ v,oa xs r=some v/\P v:=by
 obtain⟨v,hv,hm⟩:=dW h0 h1;exact⟨v,hv,h v hm⟩
abbrev inR (lo hi:Int)(v:V):Prop:=∃ i,v=v0 i/\lo<=i/\i<=hi
def inR.mk {lo hi:Int}(h0:lo<=i)(h1:i<=hi):inR lo hi (v0 i):=⟨i,rfl,h0,h1⟩
def Ml {a b:V}(ha:P a)(hb:P b):∀ v ∈ [a,b],P v:=λv hv=>by
 simp only[mo,not_mem_nil,or_false]at hv;rcases hv with rfl|rfl<;>assumption
def Ju {a b c:V}(ha:P a)(hb:P b)(hc:P c):∀ v ∈ [a,b,c],P v:=λv hv=>by
 simp only[mo,not_mem_nil,or_false]at hv;rcases hv with rfl|rfl|rfl<;>assumption
def Nh {a b c d:V}(ha:P a)(hb:P b)(hc:P c)(hd:P d):∀ v ∈ [a,b,c,d],P v:=λv hv=>by
 simp only[mo,not_mem_nil,or_false]at hv;rcases hv with rfl|rfl|rfl|rfl<;>assumption
set_option tactic.hygienic true in
def BA {M:Int}(hk:2<=k)(s:Sep (hand h m::O) H)(hm:m<=1099510000000)(hM0:1<=M)(hM1:M<=60)(q:∀ i H',-1000000000<=i->i<=1000000000->Sep (hand h (m+6)::O) H'->Q (v0 i) H'):aa tab R k 97 [ut h,v0 M] H Q E:=by
 delta lp;walk_at "gd";rename_i wy H1 w0 w1 hs1;refine aG 4e4 4e4
 .walk_at "gd";rename_i r H2 r0 r1 hs2;exact q _ _ nofun nofun (aw hs2 nofun)
 walk_at "gd";refine aG (λe2=>?_) (λe2=>?_)
 .walk_at "gd";rename_i l H2 hs2;obtain⟨v,hv,i,rfl,i0,i1⟩:=ik (xs:=[v0 0,v0 (M-1)]) (P:=inR (-1000000000) 1000000000) (r:=wy-4) nofun (by simp;omega) (Ml (.mk nofun nofun) (.mk nofun nofun));refine aX 2e8 hv ?_;exact q _ _ i0 i1 (aw (hs2.sub 0e1) nofun)
 walk_at "gd";refine aE (λe3=>?_) (λe3=>?_)
 .walk_at "gd";rename_i a H2 a0 a1 hs2 b H3 b0 b1 hs3 l H4 hs4 c H5 c0 c1 hs5;obtain⟨v,hv,i,rfl,i0,i1⟩:=ik (xs:=[v0 (-1-a),v0 (M+b)]) (P:=inR (-1000000000) 1000000000) (r:=c) c0 (by simp;omega) (Ml (.mk nofun nofun) (.mk nofun nofun));refine aX 2e8 hv ?_;exact q _ _ i0 i1 (aw (hs5.sub 0e1) nofun)
 walk_at "gd";rename_i a H2 a0 a1 hs2 b H3 b0 b1 hs3 c H4 c0 c1 hs4 l H5 hs5 d H6 d0 d1 hs6;rw[gi]at hs6;obtain⟨v,hv,i,rfl,i0,i1⟩:=ik (xs:=[v0 (1000000000-a),v0 (b-1000000000),v0 c]) (P:=inR (-1000000000) 1000000000) (r:=d) d0 (by simp;omega) (Ju (.mk nofun nofun) (.mk nofun nofun) (.mk nofun nofun));refine aX 2e8 hv ?_;exact q _ _ i0 i1 (aw (hs6.sub 0e1) nofun)
abbrev bJ:Nat->lx->lx
 |0,b=>b
 |n+1,.cons _ r=>bJ n r
 |_+1,.nil=>.nil
set_option tactic.hygienic true in
def sR {p:Addr}{lf wy:Int}{cs:List Int}{v5 v6 v7:Option V}(hk:3<=k)(s:Sep (hand h m::pt p 0e9::O) H)(hm:m<=1099509500000)(h1:1<=cs.length)(h60:cs.length<=60)(hc:aY cs)(l0:0<=lf)(l1:lf<=1000000000)
  (q:∀ d x H',Bx.ok x->Sep (aA d x::hand h (m+20)::pt p 0e9::O) H'->Q (ut d) H'):
  wB (bJ 4 iO.body) ⟨tab,R,aa tab R (k-1),.calm⟩ { nx:=λ_ H'=>Q wf H',rt:=Q } (λ_=>E) [some (ut h),some (ut p),some (v0 cs.length),some (v0 wy),some (v0 lf),v5,v6,v7] H:=by
 walk_at "gd";rename_i r H1 r0 r1 hs1;refine aX 2e8 (c9 r0 r1) ?_;walk_at "gd";refine pq (m:=m+1) nofun hs1 nofun (λct H2 c0 c1 hs2=>?_);walk_at "gd";rename_i l2 H3 hs3 r3 H4 r30 r31 hs4;obtain⟨v,hv,sg,rfl,sg0,sg1⟩:=ik (xs:=[v0 (gt cs r),v0 ct]) (P:=inR 0 1000000000) (r:=r3 / 3) nofun (by simp;omega) (Ml (.mk (cU hc).1 (cU hc).2) (.mk c0 c1));refine aX 2e8 hv ?_;walk_at "gd";refine BA (m:=m+5) (O:=pt p 0e9::O) nofun (aw (hs4.sub 0e1) nofun) nofun nofun nofun (λhh H5 hh0 hh1 hs5=>?_);walk_at "gd";refine BA (m:=m+11) nofun (aw hs5 nofun) nofun nofun nofun (λtt H6 tt0 tt1 hs6=>?_);walk_at "gd";rename_i w2 H7 w20 w21 hs7;intro d hd;have hs8:=hs7.new (o:=.dK []) hd;generalize upd H7 d (.dK [])=H8 at hs8⊢;walk_at "gd";rename_i mt H9 mt0 mt1 hs9;refine Bg hs9 (by ac_rfl) (λH10 hs10=>?_);refine q d ⟨hh,tt,lf,1-2*w2,sg,mt⟩ H10 ?_ ((aw hs10 nofun).pull .k1);refine⟨⟨hh0,hh1⟩,⟨tt0,tt1⟩,⟨l0,l1⟩,?_,⟨sg0,sg1⟩,?_⟩<;>dsimp only<;>omega
set_option tactic.hygienic true in
def FU {p:Addr}{cs:List Int}(hk:3<=k)(s:Sep (hand h m::pt p 0e9::O) H)(hm:m<=1099509000000)(h1:1<=cs.length)(h60:cs.length<=60)(hc:aY cs)
  (q:∀ d x H',Bx.ok x->Sep (aA d x::hand h (m+30)::pt p 0e9::O) H'->Q (ut d) H'):aa tab R k 98 [ut h,ut p] H Q E:=by
 delta iO;right;rw[ce];walk_at "gd";rename_i wy H1 w0 w1 hs1 a H2 a0 a1 hs2 b H3 b0 b1 hs3 c H4 c0 c1 hs4 l1 H5 hs5;obtain⟨v,hv,lf,rfl,lf0,lf1⟩:=ik (xs:=[v0 a,v0 b,v0 (cs.length+c)]) (P:=inR 0 1000000000) (r:=wy % 3) nofun (by simp;omega) (Ju (.mk nofun nofun) (.mk nofun nofun) (.mk nofun nofun));refine aX 2e8 hv ?_;have hs6:Sep (hand h (m+9)::pt p 0e9::O) H5:=aw (hs5.sub 0e1) nofun;clear hs1 hs2 hs3 hs4 hs5 hv;left;refine wa rfl rfl ?_;left;refine aE 4e4 4e4
 .right;refine uw nofun hs6 nofun nofun nofun (λr H7 r0 r1 hs7=>?_);rw[gi];exact sR (m:=m+10) hk (aw hs7 nofun) nofun h1 h60 hc nofun nofun (λd x H' hx hs=>q d x H' hx (by rw[show m+30=m+10+20 by omega];exact hs))
 .exact sR (m:=m+10) hk (aw hs6 nofun) nofun h1 h60 hc lf0 lf1 (λd x H' hx hs=>q d x H' hx (by rw[show m+30=m+10+20 by omega];exact hs))
def A4 {ws:List Str}{w:Str}{i:Nat}:dJ w ws i 1=ws.set i w:=by
 show(dJ w ws i 0).set (i+0) w=_
 rfl
abbrev half (ws:List Str)(n:Nat):List Str:=ws.take n++sn (ws.length-n) ("open":Str)
def Aw {ws:List Str}(h:n<=ws.length):(half ws n).length=ws.length:=by
 unfold half;rw[ci,db,length_replicate]
 omega
def Bo {ws:List Str}{w:Str}(h:ws[n]? =some w):(half ws n).set n w=half ws (n+1):=by
 obtain⟨hn,e⟩:=sw.mp h;unfold half;have l1:(ws.take n).length=n:=by rw[db];omega
 rw[List.set_append,l1,if_neg nofun,Nat.sub_self,show ws.length-n=(ws.length-(n+1))+1 by omega,replicate_succ,List.set_cons_zero,take_succ,h];simp
def G0 {ws:List Str}:half ws 0=sn ws.length ("open":Str):=by unfold half;simp
def Ia {ws:List Str}:half ws ws.length=ws:=by unfold half;simp
def tO {cs:List Int}{ws:List Str}{j:Int}{w:Str}(ro:Ro K R)(hk:3<=k)(z:Sep O H)(r:aO (ar R a cs ws) (ar R a cs (dJ w ws i.toNat (j-i).toNat)) O Γ')(h0:0<=i)(h1:i<=j)(h2:j<=ws.length)(hw:fh w=true)(q:∀ H',Sep Γ' H'->Q wf H'):aa tab R k 87 [ut a,v0 i,v0 j,v4 w] H Q E:=by
 obtain⟨Δ,p1,p2⟩:=r.bp;obtain⟨ok,z2⟩:=jw (z.pull p1);have hwi:bq ws.length (v0 i) (v0 j)=true:=by simp[bq,h0,h1,h2]
 refine C0 (t1:="int") (t2:="int") (t3:="str") ro hk z2 (by rw[ce];exact ok.1) (by have:=ok.1;have:=ok.2.2.1;omega) rfl rfl rfl (λa' b' w' e1 e2 e3 _ _ H' z3=>?_) (λhb=>absurd hb ?_)
 .cases e1;cases e2;cases e3;refine q H' (Sep.push p2 (jf ⟨?_,ok.2⟩ z3));rw[eu];exact ok.1
 .rw[hwi];show ¬ (true&&fh w)=false;rw[hw]
  decide
set_option tactic.hygienic true in
def AH {p:Addr}{cs:List Int}{ws:List Str}(ro:Ro K R)(hk:5<=k)(h1:1<=cs.length)(h60:cs.length<=60)(hc:aY cs)(hl:cs.length=ws.length)(hw:cL ws)(z:Sep (pt p 0e9::pt lv 0e4::O) H)
  (q:∀ a H',Sep (ar R a cs ws::pt p 0e9::pt lv 0e4::O) H'->Q (ut a) H'):aa tab R k 109 [ut p,ut lv] H Q E:=by
 delta jv;right;rename_i l H1 z1;intro a dx g1 g2 g3;refine wj ro nofun h1 h60 hc (g6 z1 g1 g2 g3) .e (λH2 z2=>⟨rfl,?_⟩);right;rw[hl]at z2;refine gU (λj U H=>∃ v,U=[some (ut p),some (ut lv),some (ut a),v]/\Sep (ar R a cs (half ws j)::pt l 0e9::pt p 0e9::pt lv 0e4::O) H) ?_ ?_ ?_
 .refine⟨none,rfl,?_⟩;rw[G0];exact z2
 .rintro j U H hj ⟨v,rfl,hs⟩;rw[re,ce]at hj;have hj2:j<ws.length:=by omega
  have e1:ws[j]? =some ws[j]:=li hj2;generalize ws[j]=w at e1;right;refine ae aZ hs .e rfl rfl ?_;right;refine aX 2e8 (v:=v4 w) ?_ ?_
  .refine aW nofun ?_;rw[show(0+(j:Int)).toNat=j by omega,im,e1]
   rfl
  right;refine tO (i:=0+(j:Int)) (j:=0+(j:Int)+1) ro nofun hs .e nofun nofun (by rw[Aw nofun];omega) (hw w (cr e1)) (λH3 z3=>?_);right;refine⟨_,rfl,?_⟩;rw[show(0+(j:Int)+1-(0+(j:Int))).toNat=1 by omega,show(0+(j:Int)).toNat=j by omega,A4,Bo e1]at z3;exact z3
 .rintro U H ⟨v,rfl,hs⟩;rw[re,ce,hl,Ia]at hs;right;exact q a H (by walk_at "sp")
def A2 (ro:Ro K R)(hk:5<=k)(hx:x.ok)(z:Sep (aA d x::O) H)(q:∀ b H',Sep (ai R b x::aA d x::O) H'->Q (ut b) H'):aa tab R k 110 [ut d] H Q E:=by
 obtain⟨h,t,l,w,s,m⟩:=x;delta jU;walk_at "wd";intro b dx g1 g2 g3;exact zI ro nofun hx (g6 z g1 g2 g3) (λH2 z2=>⟨rfl,q b H2 z2⟩)
abbrev Wd.cl:Wd->Nat
 | .copy=>20
 | .fill=>21
 | .seek=>22
 | .mtch=>23
 | .shift=>24
 | .turn=>25
set_option tactic.hygienic true in
def Ib (wd:Wd)(hk:1<=k)(z:Sep O H)(q:∀ d H',Sep (dd R d wd.cl::O) H'->Q (ut d) H'):aa tab R k 101 [v4 wd.s] H Q E:=by
 delta kY;right;refine yy z (λa1 d1 H1 z1=>?_);right;refine yy z1 (λa2 d2 H2 z2=>?_);right;refine yy z2 (λa3 d3 H3 z3=>?_);right;refine yy z3 (λa4 d4 H4 z4=>?_);right;refine yy z4 (λa5 d5 H5 z5=>?_);right;refine yy z5 (λa6 d6 H6 z6=>?_);clear z z1 z2 z3 z4 z5;right;rename_i l1 H7 z7 l2 H8 z8;refine⟨l2,_,rfl,z8.at,?_⟩;left;have ex:∃ j:Nat,j<6/\([v4 "copy",v4 "fill",v4 "seek",v4 "match",v4 "shift",v4 "turn"]:List V)[j]? =some (v4 wd.s)/\(∀ m,m<j->dD (([v4 "copy",v4 "fill",v4 "seek",v4 "match",v4 "shift",v4 "turn"]:List V).getD m wf) (v4 wd.s)=false)/\∃ a d,([ut a1,ut a2,ut a3,ut a4,ut a5,ut a6]:List V)[j]? =some (ut a)/\Sep (pt a (wv (R.cad wd.cl) d [])::pt d (.own a)::O) H8:=by
  cases wd
  .exact⟨0,by decide,rfl,by decide+kernel,a1,d1,rfl,z8.sub (Γ':=pt a1 (wv (R.cad 20) d1 [])::pt d1 (.own a1)::O) 0e1⟩
  .exact⟨1,by decide,rfl,by decide+kernel,a2,d2,rfl,z8.sub (Γ':=pt a2 (wv (R.cad 21) d2 [])::pt d2 (.own a2)::O) 0e1⟩
  .exact⟨2,by decide,rfl,by decide+kernel,a3,d3,rfl,z8.sub (Γ':=pt a3 (wv (R.cad 22) d3 [])::pt d3 (.own a3)::O) 0e1⟩
  .exact⟨3,by decide,rfl,by decide+kernel,a4,d4,rfl,z8.sub (Γ':=pt a4 (wv (R.cad 23) d4 [])::pt d4 (.own a4)::O) 0e1⟩
  .exact⟨4,by decide,rfl,by decide+kernel,a5,d5,rfl,z8.sub (Γ':=pt a5 (wv (R.cad 24) d5 [])::pt d5 (.own a5)::O) 0e1⟩
  .exact⟨5,by decide,rfl,by decide+kernel,a6,d6,rfl,z8.sub (Γ':=pt a6 (wv (R.cad 25) d6 [])::pt d6 (.own a6)::O) 0e1⟩
 obtain⟨j,j6,hj,hm,a,d,ha,zd⟩:=ex;refine Mb (j:=j) (λx=>dD x (v4 wd.s)) z8.at 1e1 (λx hx=>⟨0,by decide,.flat ?_ rfl⟩) hj (jn rfl) (λm x h1 h2=>?_) ?_
 .simp only[mo,not_mem_nil,or_false]at hx;rcases hx with rfl|rfl|rfl|rfl|rfl|rfl<;>rfl
 .have:=hm m h1
  rwa [List.getD_eq_getElem?_getD,h2]at this
 .left;refine aX (z8.get .k1) (aW (i:=(j:Int)) nofun (by rw[re];exact ha)) ?_;left;exact q a H8 (L7 zd)
def rL:(yU.zip (x.ls.map v0)).map (·.2)=x.ls.map v0:=rfl
def rO {tp:Bool}(s:Sep O H)(e:H d=some (.dK kvs))(h:∀ p H',H p=none->Sep (pt p (HD tp (kvs.map (·.2)))::O) H'->Q (ut p) H'):sv tp (ut d) H Q:=by unfold sv;exact⟨d,kvs,rfl,e,λp hp=>h p _ hp (s.new hp)⟩
def wU {l p:Addr}{ws:List Str}(h1:H l=some 0e4)(h2:H p=some 0e4):dz R.K H 2 (ut l) (ut p) true:=
 m9 (n:=0) h1 h2 λx hx=>by
  obtain⟨z,_,rfl⟩:=List.mem_map.mp hx;exact⟨"str",rfl⟩
inductive Bn where
 |h
 |t
 |l
 |w
 |s
 |m
abbrev Bn.j:Bn->Nat
 | .h=>0
 | .t=>1
 | .l=>2
 | .w=>3
 | .s=>4
 | .m=>5
abbrev Bn.nm:Bn->Str
 | .h=>"here"
 | .t=>"there"
 | .l=>"left"
 | .w=>"way"
 | .s=>"sign"
 | .m=>"met"
def Bn.at (b:Bn):qX[b.j]? =some b.nm:=by cases b<;>rfl
abbrev Bx.g (x:Bx):Bn->Int
 | .h=>x.h
 | .t=>x.t
 | .l=>x.l
 | .w=>x.w
 | .s=>x.s
 | .m=>x.m
abbrev Bx.p (x:Bx)(i:Int):Bn->Bx
 | .h=>⟨i,x.t,x.l,x.w,x.s,x.m⟩
 | .t=>⟨x.h,i,x.l,x.w,x.s,x.m⟩
 | .l=>⟨x.h,x.t,i,x.w,x.s,x.m⟩
 | .w=>⟨x.h,x.t,x.l,i,x.s,x.m⟩
 | .s=>⟨x.h,x.t,x.l,x.w,i,x.m⟩
 | .m=>⟨x.h,x.t,x.l,x.w,x.s,i⟩
def Bx.gl (x:Bx)(b:Bn):x.ls[b.j]? =some (x.g b):=by cases b<;>rfl
def Bx.pl (x:Bx)(i:Int)(b:Bn):x.ls.set b.j i=(x.p i b).ls:=by cases b<;>rfl
abbrev bz (b:Bn)(i:Int):Bool:=bS b.j (v0 i)
def Am {b:Bn}(h:bz b i=true)(o:x.ok):(x.p i b).ok:=by
 obtain⟨o1,o2,o3,o4,o5,o6⟩:=o;cases b
 .have h:(decide (-1000000000<=i)&&decide (i<=1000000000))=true:=h;have h: -1000000000<=i/\i<=1000000000:=by simpa using h
  exact⟨h,o2,o3,o4,o5,o6⟩
 .have h:(decide (-1000000000<=i)&&decide (i<=1000000000))=true:=h;have h: -1000000000<=i/\i<=1000000000:=by simpa using h
  exact⟨o1,h,o3,o4,o5,o6⟩
 .have h:(decide (0<=i)&&decide (i<=1000000000))=true:=h;have h:0<=i/\i<=1000000000:=by simpa using h
  exact⟨o1,o2,h,o4,o5,o6⟩
 .have h:(i ==1||i == -1)=true:=h;have h:i=1\/i= -1:=by simpa using h
  exact⟨o1,o2,o3,h,o5,o6⟩
 .have h:(decide (0<=i)&&decide (i<=1000000000))=true:=h;have h:0<=i/\i<=1000000000:=by simpa using h
  exact⟨o1,o2,o3,o4,h,o6⟩
 .have h:(i ==0||i ==1)=true:=h;have h:i=0\/i=1:=by simpa using h
  exact⟨o1,o2,o3,o4,o5,h⟩
def E8 (h0:0<=r)(h1:r<6):∃ b:Bn,oa [v4 "here",v4 "there",v4 "left",v4 "way",v4 "sign",v4 "met"] r=some (v4 b.nm):=by
 have:r=0\/r=1\/r=2\/r=3\/r=4\/r=5:=by omega
 rcases this with rfl|rfl|rfl|rfl|rfl|rfl
 .exact⟨.h,rfl⟩
 .exact⟨.t,rfl⟩
 .exact⟨.l,rfl⟩
 .exact⟨.w,rfl⟩
 .exact⟨.s,rfl⟩
 .exact⟨.m,rfl⟩
def KL {b:Addr}{n:Bn}(ro:Ro K R)(hk:4<=k)(z:Sep (ai R b x::O) H)(q0:bz n i=true->∀ H',Sep (ai R b (x.p i n)::O) H'->Q wf H')
  (q1:bz n i=false->∀ e H',Sep (fB (R.cad 4) [("box",v4 n.nm),("number",v0 i)] e false::ai R b x::O) H'->E e H'):aa tab R k 15 [ut b,v4 n.nm,v0 i] H Q E:=by
 cases h:bz n i with
 |true=>exact rY ro hk z .e n.at h (x.pl i n) (Am h) (q0 h)
 |false=>
  obtain⟨o,z2⟩:=fw z;exact uo ro hk z2 n.at rfl h λe d H' z3=>q1 h e H' (hU (Sep.push .k2 (pC o (z3.pull .k2))))
def nQ {b:Addr}{n:Bn}(ro:Ro K R)(hk:2<=k)(z:Sep O H)(p:ag (ai R b x) O Δ)(q:Q (v0 (x.g n)) H):aa tab R k 14 [ut b,v4 n.nm] H Q E:=eO ro hk (fw (z.pull p)).2 n.at (x.gl n) q
def nR {n:Bn}(z:Sep O H)(p:ag (aA d x) O Δ)(q:Q (v0 (x.g n)) H):tH K (ut d) (v4 n.nm) H Q:=by
 refine qr (k:=.inr n.nm) (v:=v0 (x.g n)) (z.get p) ?_ q;cases n<;>rfl
def Dh {n:Bn}{P:Hp->Prop}(z:Sep O H)(r:aO (aA d x) (aA d (x.p i n)) O Γ')(q:∀ H',Sep Γ' H'->P H'):jl (ut d) (v4 n.nm) (v0 i) H P:=rM z r n.at (x.pl i n) q
inductive Sp where
 |set (b:Bn) (i:Int)
 |add (b:Bn) (i:Int)
 |take (b c:Bn)
 |read (b:Bn)
 |write (b:Bn)
abbrev Sp.w:Sp->Str
 | .set _ _=>"set"
 | .add _ _=>"add"
 | .take _ _=>"take"
 | .read _=>"read"
 | .write _=>"write"
abbrev Sp.b:Sp->Bn
 | .set b _=>b
 | .add b _=>b
 | .take b _=>b
 | .read b=>b
 | .write b=>b
abbrev Sp.tl:Sp->List V
 | .set b i=>[v4 "set",v4 b.nm,v0 i]
 | .add b i=>[v4 "add",v4 b.nm,v0 i]
 | .take b c=>[v4 "take",v4 b.nm,v4 c.nm]
 | .read b=>[v4 "read",v4 b.nm]
 | .write b=>[v4 "write",v4 b.nm]
abbrev Sp.cl:Sp->Nat
 | .set _ _=>11
 | .add _ _=>12
 | .take _ _=>13
 | .read _=>14
 | .write _=>15
abbrev Sp.fs:Sp->List (Str×V)
 | .set b i=>[("box",v4 b.nm),("number",v0 i)]
 | .add b i=>[("box",v4 b.nm),("number",v0 i)]
 | .take b c=>[("box",v4 b.nm),("other",v4 c.nm)]
 | .read b=>[("box",v4 b.nm)]
 | .write b=>[("box",v4 b.nm)]
abbrev Sp.ok:Sp->Prop
 | .set _ i=>-1000000000<=i/\i<=1000000000
 | .add _ i=>-1000000000<=i/\i<=1000000000
 |_=>True
inductive se where
 |on (x:Bx) (cs:List Int)
 |no (d:Str) (c:Int)
 |nf (b:Bn) (i:Int)
abbrev bh (x:Bx)(cs:List Int)(b:Bn)(i:Int):se:=if bz b i=true then .on (x.p i b) cs else .nf b i
abbrev iW (x:Bx)(cs:List Int)(ws:List Str):Sp->se
 | .set b i=>bh x cs b i
 | .add b i=>bh x cs b (x.g b+i)
 | .take b c=>bh x cs b (x.g c)
 | .read b=>if ah ws "look" x.h=true then bh x cs b (gt cs x.h) else .no "look" x.h
 | .write b=>if fA (v0 (x.g b))=true then(if ah ws "put" x.t=true then .on x (cs.set x.t.toNat (x.g b)) else .no "put" x.t) else .nf b (x.g b)
abbrev sd (R:Rt)(d:Addr)(sp:Sp):ay:=bx λdx:Addr=>[pt d (wv (R.cad sp.cl) dx sp.fs),pt dx (.own d)]
def BB (s:Sep (pt d (wv (R.cad sp.cl) dx sp.fs)::pt dx (.own d)::O) H):Sep (sd R d sp::O) H:=iH dx s
def gC (s:Sep O H)(p:ag (sd R d sp) O Δ):∃ dx,H d=some (wv (R.cad sp.cl) dx sp.fs):=by
 obtain⟨dx,s⟩:=gp (s.pull p);exact⟨dx,Sep.at s⟩
abbrev gK (R:Rt)(b a:Addr)(x:Bx)(cs:List Int)(ws:List Str)(O:List ay)(Q:VK)(E:XK):se->Prop
 | .on x' cs'=>∀ H',Sep (ai R b x'::ar R a cs' ws::O) H'->Q (v0 1) H'
 | .no d c=>∀ e H',Sep (fB (R.cad 3) [("deed",v4 d),("cell",v0 c)] e false::ai R b x::ar R a cs ws::O) H'->E e H'
 | .nf n i=>∀ e H',Sep (fB (R.cad 4) [("box",v4 n.nm),("number",v0 i)] e false::ai R b x::ar R a cs ws::O) H'->E e H'
def lG {b:Addr}{cs:List Int}{ws:List Str}{n:Bn}(ro:Ro K R)(hk:4<=k)(z:Sep (ai R b x::ar R a cs ws::O) H)(q:gK R b a x cs ws O (λ_=>Q wf) E (bh x cs n i)):aa tab R k 15 [ut b,v4 n.nm,v0 i] H Q E:=by
 unfold bh at q;refine KL ro hk z (λh H' z'=>?_) (λh e H' z'=>?_)
 .rw[if_pos h]at q;exact q H' z'
 .rw[if_neg (by rw[h];exact Bool.false_ne_true)]at q;exact q e H' z'
def gK.imp {b:Addr}{cs:List Int}{ws:List Str}{Q':VK}(h:∀ H',Q (v0 1) H'->Q' (v0 1) H'):∀ {o:se},gK R b a x cs ws O Q E o->gK R b a x cs ws O Q' E o
 | .on _ _,q=>λH' z=>h _ (q H' z)
 | .no _ _,q=>q
 | .nf _ _,q=>q
def Je:Ob R (sd R d sp) d sp.cl (sp.fs.map (·.1)):=by
 rintro H D ⟨dx,D1,D2,_,_,_,⟨_,h⟩,_⟩;exact⟨dx,_,h,rfl⟩
def Ey (sp:Sp)(ro:Ro K R):∃ f,tab.me.lookup (sp.cl,("step":Str))=some f/\(∀ Ψ,dflt ⟨tab,R,Ψ,.calm⟩ f 3=[])/\∀ {k:Nat}{de b a:Addr}{x:Bx}{cs:List Int}{ws:List Str}{O:List ay}{H:Hp}{Q:VK}{E:XK},5<=k->Sep (ai R b x::ar R a cs ws::sd R de sp::O) H->gK R b a x cs ws (sd R de sp::O) Q E (iW x cs ws sp)->aa tab R k f [ut de,ut b,ut a] H Q E:=by
 cases sp with
 |set n i=>
  refine⟨21,rfl,λ_=>rfl,λ{k de b a x cs ws O H Q E} hk z q=>wc (d:=iK) nofun rfl rfl ?_⟩;obtain⟨dx,e⟩:=gC z 1e6;right;refine ae aN z 1e6 rfl rfl ?_;left;refine az e rfl rfl rfl ?_;left;refine az e rfl rfl rfl ?_;left;refine aC (vs':=[_,_,_]) rfl ?_;exact lG ro nofun z (gK.imp (Q:=Q) (λH' h=>h) q)
 |add n i=>
  refine⟨24,rfl,λ_=>rfl,λ{k de b a x cs ws O H Q E} hk z q=>wc (d:=i4) nofun rfl rfl ?_⟩;obtain⟨dx,e⟩:=gC z 1e6;right;refine ae aN z 1e6 rfl rfl ?_;left;refine az e rfl rfl rfl ?_;right;refine ae aN z 1e6 rfl rfl ?_;left;refine az e rfl rfl rfl ?_;left;refine aC (vs':=[_,_]) rfl ?_;refine nQ (n:=n) ro nofun z 1e6 ?_;left;refine az e rfl rfl rfl ?_;right;refine aC (vs':=[_,_,_]) rfl ?_;exact lG ro nofun z (gK.imp (Q:=Q) (λH' h=>h) q)
 |take n m=>
  refine⟨27,rfl,λ_=>rfl,λ{k de b a x cs ws O H Q E} hk z q=>wc (d:=gJ) nofun rfl rfl ?_⟩;obtain⟨dx,e⟩:=gC z 1e6;right;refine ae aN z 1e6 rfl rfl ?_;left;refine az e rfl rfl rfl ?_;right;refine ae aN z 1e6 rfl rfl ?_;left;refine az e rfl rfl rfl ?_;left;refine aC (vs':=[_,_]) rfl ?_;refine nQ (n:=m) ro nofun z 1e6 ?_;left;refine aC (vs':=[_,_,_]) rfl ?_;exact lG ro nofun z (gK.imp (Q:=Q) (λH' h=>h) q)
 |read n=>
  refine⟨30,rfl,λ_=>rfl,λ{k de b a x cs ws O H Q E} hk z q=>wc (d:=gd) nofun rfl rfl ?_⟩;obtain⟨dx,e⟩:=gC z 1e6;right;refine ae aN z 1e6 rfl rfl ?_;left;refine az e rfl rfl rfl ?_;right;refine ae aZ z 1e6 rfl rfl ?_;right;refine ae aN z 1e6 rfl rfl ?_;left;refine aC (vs':=[_,_]) rfl ?_;refine nQ (n:=.h) ro nofun z 1e6 ?_;left;refine aC (vs':=[_,_]) rfl ?_;have q:gK R b a x cs ws (sd R de (.read n)::O) Q E 3e3:=q;refine dI (i:=x.h) nofun z 1e6 (λh=>?_) (λh e H' z'=>?_)
  .rw[if_pos h]at q;left;refine aC (vs':=[_,_,_]) rfl ?_;exact lG ro nofun z (gK.imp (Q:=Q) (λH' h=>h) q)
  .rw[if_neg (by rw[h];exact Bool.false_ne_true)]at q;exact q e H' z'
 |write n=>
  refine⟨33,rfl,λ_=>rfl,λ{k de b a x cs ws O H Q E} hk z q=>wc (d:=eX) nofun rfl rfl ?_⟩;obtain⟨dx,e⟩:=gC z 1e6;have q:gK R b a x cs ws (sd R de (.write n)::O) Q E 1e0:=q;right;refine ae aN z 1e6 rfl rfl ?_;left;refine az e rfl rfl rfl ?_;left;refine aC (vs':=[_,_]) rfl ?_;refine nQ (n:=n) ro nofun z 1e6 ?_;right;refine b9 (t:="int") ro nofun rfl ?_;cases hc:fA (v0 (x.g n)) with
  |false=>
   rw[if_neg (by rw[hc];exact Bool.false_ne_true)]at q;right;refine az e rfl rfl rfl ?_;right;intro ex he;refine fk nofun (z.new he) (λd H3 hs3=>⟨rfl,?_⟩);exact dM (G:=⟨tab,R,aa tab R (k-1),.calm⟩) hs3 .e rfl (λH4 hs4=>q ex H4 (hU hs4))
  |true=>
   rw[if_pos hc]at q;right;refine ae aZ z 1e6 rfl rfl ?_;right;refine ae aN z 1e6 rfl rfl ?_;left;refine aC (vs':=[_,_]) rfl ?_;refine nQ (n:=.t) ro nofun z 1e6 ?_;left;refine aC (vs':=[_,_,_]) rfl ?_;have hc2:0<=x.g n/\x.g n<=1000000000:=by
    have hc3:(decide (0<=x.g n)&&decide (x.g n<=1000000000))=true:=hc;simpa using hc3
   refine jY (i:=x.t) nofun z (by ac_rfl) hc2 (λh H' z'=>?_) (λh e H' z'=>?_)
   .rw[if_pos h]at q;exact q H' z'
   .rw[if_neg (by rw[h];exact Bool.false_ne_true)]at q;exact q e H' z'
def bT {w:Str}{n:Bn}(ro:Ro K R)(hk:2<=k)(q:Q wf H):aa tab R k 18 [v4 w,v4 n.nm] H Q E:=by
 delta kO;right;refine pR (t:="str") ro nofun rfl ?_;rw[uF n.at];right;exact q
def gG {w:Str}(ro:Ro K R)(hk:3<=k)(h0: -1000000000<=i)(h1:i<=1000000000)(q:Q wf H):aa tab R k 19 [v4 w,v0 i] H Q E:=by
 delta gA;right;refine gb (t:="int") ro nofun rfl ?_;rw[show fZ (v0 i)=true by simp[fZ,h0,h1]];right;exact q
def Jz {x:Addr}{n:Bn}(ro:Ro K R)(hk:4<=k)(h0: -1000000000<=i)(h1:i<=1000000000)(z:Sep (pt x (wv (R.cad 11) dx [])::pt dx (.own x)::O) H)(q:∀ H',Sep (sd R x (.set n i)::O) H'->Q wf H'):aa tab R k 20 [ut x,v4 n.nm,v0 i] H Q E:=by
 delta fR;right;refine bT ro nofun ?_;right;refine gG ro nofun h0 h1 ?_;right;exact q _ (BB (by assumption))
def KJ {x:Addr}{n:Bn}(ro:Ro K R)(hk:4<=k)(h0: -1000000000<=i)(h1:i<=1000000000)(z:Sep (pt x (wv (R.cad 12) dx [])::pt dx (.own x)::O) H)(q:∀ H',Sep (sd R x (.add n i)::O) H'->Q wf H'):aa tab R k 23 [ut x,v4 n.nm,v0 i] H Q E:=by
 delta gr;right;refine bT ro nofun ?_;right;refine gG ro nofun h0 h1 ?_;right;exact q _ (BB (by assumption))
def Ja {x:Addr}{n m:Bn}(ro:Ro K R)(hk:4<=k)(z:Sep (pt x (wv (R.cad 13) dx [])::pt dx (.own x)::O) H)(q:∀ H',Sep (sd R x (.take n m)::O) H'->Q wf H'):aa tab R k 26 [ut x,v4 n.nm,v4 m.nm] H Q E:=by
 delta fz;right;refine bT ro nofun ?_;right;refine bT ro nofun ?_;right;exact q _ (BB (by assumption))
def J6 {x:Addr}{n:Bn}(ro:Ro K R)(hk:4<=k)(z:Sep (pt x (wv (R.cad 14) dx [])::pt dx (.own x)::O) H)(q:∀ H',Sep (sd R x (.read n)::O) H'->Q wf H'):aa tab R k 29 [ut x,v4 n.nm] H Q E:=by
 delta fq;right;refine bT ro nofun ?_;right;exact q _ (BB (by assumption))
def Ks {x:Addr}{n:Bn}(ro:Ro K R)(hk:4<=k)(z:Sep (pt x (wv (R.cad 15) dx [])::pt dx (.own x)::O) H)(q:∀ H',Sep (sd R x (.write n)::O) H'->Q wf H'):aa tab R k 32 [ut x,v4 n.nm] H Q E:=by
 delta eD;right;refine bT ro nofun ?_;right;exact q _ (BB (by assumption))
abbrev mz:V->Bool
 | v0 i=>decide (0<=i)&&decide (i<=24)
 |_=>false
abbrev IW:V->Bool
 | wf=>true
 | v0 i=>i ==0||i ==1
 |_=>false
set_option tactic.hygienic true in
def yr (ro:Ro K R)(hk:2<=k)(ht:tyName v H=some t)(q:Q (.bl (mz v)) H):aa tab R k 57 [v] H Q E:=by
 delta nY;right;refine a8 nofun ht ?_;cases fW ht
 case int i=>
  right;refine aG 5e6 5e6
  .left;simp only[ro.g_MOST_HOPPED];right;rw[show mz (v0 i)=decide (i<=24) by simp[mz,h0]]at q;exact q
  .right;rw[show mz (v0 i)=false by simp[mz,h0]]at q;exact q
 all_goals
  right;exact q
set_option tactic.hygienic true in
def Eo (hk:2<=k)(ht:tyName v H=some t)(q:Q (.bl (IW v)) H):aa tab R k 58 [v] H Q E:=by
 delta vZ;right;refine cH ?_;cases fW ht
 case int i=>
  left;refine au rfl ?_;right;refine a8 (t:="int") nofun rfl ?_;right;refine aE 5e6 5e6
  .right;rw[show IW (v0 i)=true by simp[IW,h0]]at q;exact q
  .right;rw[show IW (v0 i)=(i ==1) by simp[IW,h0]]at q;exact q
 case non=>
  left;refine aJ rfl ?_;exact q
 all_goals
  left;refine au rfl ?_;right;refine a8 nofun ht ?_;right;exact q
abbrev oV:Option Int->V
 |none=>wf
 |some i=>v0 i
abbrev Lh:Option Int->Prop
 |none=>True
 |some i=>i=0\/i=1
abbrev GW (R:Rt)(d:Addr)(n:Int)(o:Option Int):ay:=bx λdx:Addr=>[pt d (wv (R.cad 19) dx [("many",v0 n),("on",oV o)]),pt dx (.own d)]
def LM {n:Int}(s:Sep (pt d (wv (R.cad 19) dx [("many",v0 n),("on",oV o)])::pt dx (.own d)::O) H):Sep (GW R d n o::O) H:=iH dx s
def zO {n:Int}(s:Sep O H)(p:ag (GW R d n o) O Δ):∃ dx,H d=some (wv (R.cad 19) dx [("many",v0 n),("on",oV o)]):=by
 obtain⟨dx,s⟩:=gp (s.pull p);exact⟨dx,Sep.at s⟩
def Kq {n:Int}:Ob R (GW R d n o) d 19 ["many","on"]:=by
 rintro H D ⟨dx,D1,D2,_,_,_,⟨_,h⟩,_⟩;exact⟨dx,_,h,rfl⟩
def J8 {x:Addr}{n:Int}(ro:Ro K R)(hk:4<=k)(h0:0<=n)(h1:n<=24)(ho:Lh o)(z:Sep (pt x (wv (R.cad 19) dx [])::pt dx (.own x)::O) H)(q:∀ H',Sep (GW R x n o::O) H'->Q wf H'):aa tab R k 59 [ut x,v0 n,oV o] H Q E:=by
 delta gq;right;refine yr (t:="int") ro nofun rfl ?_;rw[show mz (v0 n)=true by simp[mz,h0,h1]];right;obtain⟨t,ht⟩:∃ t,tyName (oV o) H=some t:=by cases o<;>exact⟨_,rfl⟩
 refine Eo nofun ht ?_;rw[show IW (oV o)=true by cases o with|none=>rfl|some i=>rcases ho with rfl|rfl<;>rfl];right;exact q _ (LM (by assumption))
abbrev Ki (n:Int)(o:Option Int)(m:Int):Int:=match o with
 |none=>1+n
 |some i=>if i=m then 1+n else 1
def vW {b:Addr}{n:Int}(ro:Ro K R)(hk:3<=k)(z:Sep O H)(p1:ag (GW R d n o) O Δ){Δ':List ay}(p2:ag (ai R b x) O Δ')(q:Q (v0 (Ki n o x.m)) H):aa tab R k 60 [ut d,ut b,v] H Q E:=by
 delta nh;obtain⟨dx,e⟩:=zO z p1;right;refine az e rfl rfl rfl ?_;right;refine cH ?_;cases o with
 |none=>
  left;refine aJ rfl ?_;right;refine az e rfl rfl rfl ?_;right;exact q
 |some i=>
  left;refine au rfl ?_;right;refine az e rfl rfl rfl ?_;right;refine ae aN z p2 rfl rfl ?_;left;refine aC (vs':=[_,_]) rfl ?_;obtain⟨h,t,l,w,s,m⟩:=x;refine KG ro nofun z p2 ?_;right;have q:Q (v0 (if i=m then 1+n else 1)) H:=q;refine aE 5e6 5e6
  .rw[if_pos h0]at q;right;refine az e rfl rfl rfl ?_;right;exact q
  .rw[if_neg h0]at q;right;exact q
def step_any (wd:Wd)(ro:Ro K R):∃ f,tab.me.lookup (wd.cl,("step":Str))=some f/\(∀ Ψ,dflt ⟨tab,R,Ψ,.calm⟩ f 3=[])/\∀ {k:Nat}{v:V}{b a:Addr}{x:Bx}{cs:List Int}{ws:List Str}{O:List ay}{H:Hp}{Q:VK}{E:XK},8<=k->Sep (ai R b x::ar R a cs ws::O) H->ub R b a x cs ws O Q E (bR wd x cs ws)->aa tab R k f [v,ut b,ut a] H Q E:=by
 cases wd
 .exact⟨68,rfl,λ_=>rfl,λhk z q=>DQ ro hk z q⟩
 .exact⟨70,rfl,λ_=>rfl,λhk z q=>Cu ro hk z q⟩
 .exact⟨72,rfl,λ_=>rfl,λhk z q=>CJ ro hk z q⟩
 .exact⟨74,rfl,λ_=>rfl,λhk z q=>zC ro hk z q⟩
 .exact⟨76,rfl,λ_=>rfl,λhk z q=>AL ro nofun z q⟩
 .exact⟨78,rfl,λ_=>rfl,λhk z q=>DZ ro nofun z q⟩
def lL {n:Bn}(hk:1<=k)(q:Q (.bl (bz n i)) H):aa tab R k 104 [v4 n.nm,v0 i] H Q E:=by
 delta kD;cases n
 all_goals right
 all_goals repeat walk_at "sc"
 .rw[gi];refine aG 5e6 5e6
  .right;rw[gi];rw[show bz .h i=decide (i<=1000000000) by simp[bz,Bn.j,bS,fZ,h0]]at q;exact q
  .right;rw[show bz .h i=false by simp[bz,Bn.j,bS,fZ,h0]]at q;exact q
 .rw[gi];refine aG 5e6 5e6
  .right;rw[gi];rw[show bz .t i=decide (i<=1000000000) by simp[bz,Bn.j,bS,fZ,h0]]at q;exact q
  .right;rw[show bz .t i=false by simp[bz,Bn.j,bS,fZ,h0]]at q;exact q
 .refine aG 5e6 5e6
  .right;rw[gi];rw[show bz .l i=decide (i<=1000000000) by simp[bz,Bn.j,bS,fA,h0]]at q;exact q
  .right;rw[show bz .l i=false by simp[bz,Bn.j,bS,fA,h0]]at q;exact q
 .refine aE 5e6 5e6
  .right;rw[show bz .w i=true by simp[bz,Bn.j,bS,nV,h0]]at q;exact q
  .right;rw[show bz .w i=(i == -1) by simp[bz,Bn.j,bS,nV,h0]]at q;exact q
 .refine aG 5e6 5e6
  .right;rw[gi];rw[show bz .s i=decide (i<=1000000000) by simp[bz,Bn.j,bS,fA,h0]]at q;exact q
  .right;rw[show bz .s i=false by simp[bz,Bn.j,bS,fA,h0]]at q;exact q
 .refine aE 5e6 5e6
  .right;rw[show bz .m i=true by simp[bz,Bn.j,bS,nV,h0]]at q;exact q
  .right;rw[show bz .m i=(i ==1) by simp[bz,Bn.j,bS,nV,h0]]at q;exact q
inductive Rw where
 |lg (w:Wd)
 |sp (s:Sp)
 |hop (n:Int) (o:Option Int)
abbrev Rw.tl:Rw->List V
 | .lg w=>[v4 w.s]
 | .sp s=>s.tl
 | .hop n o=>[v4 "hop",v0 n,oV o]
abbrev Rw.ok:Rw->Prop
 | .lg _=>True
 | .sp s=>s.ok
 | .hop n o=>(0<=n/\n<=24)/\Lh o
abbrev Rw.cl:Rw->Nat
 | .lg w=>w.cl
 | .sp s=>s.cl
 | .hop _ _=>19
abbrev eB (R:Rt)(d:Addr):Rw->ay
 | .lg w=>dd R d w.cl
 | .sp s=>sd R d s
 | .hop n o=>GW R d n o
abbrev Rw.fs:Rw->List Str
 | .lg _=>[]
 | .sp s=>s.fs.map (·.1)
 | .hop _ _=>["many","on"]
def wC (r:Rw):Ob R (eB R d r) d r.cl r.fs:=by
 cases r with
 |lg w=>exact J3
 |sp s=>exact Je
 |hop n o=>exact Kq
def JQ {r:Rw}(z:Sep O H)(p:ag (eB R d r) O Δ):∃ dx fs,H d=some (wv (R.cad r.cl) dx fs):=by
 obtain⟨D,k,D1,D2,s1,s2,dj,h1,h2⟩:=z.pull p;obtain⟨dx,fs,e,_⟩:=wC r H D1 h1;exact⟨dx,fs,e⟩
inductive iP where
 |on (r:Int) (x:Bx) (cs:List Int)
 |no (d:Str) (c:Int)
 |nf (b:Bn) (i:Int)
abbrev ofM:Out->iP
 | .on r x cs=>.on r x cs
 | .no d c=>.no d c
abbrev i6:se->iP
 | .on x cs=>.on 1 x cs
 | .no d c=>.no d c
 | .nf b i=>.nf b i
abbrev bE (x:Bx)(cs:List Int)(ws:List Str):Rw->iP
 | .lg w=>ofM (bR w x cs ws)
 | .sp s=>i6 (iW x cs ws s)
 | .hop n o=>.on (Ki n o x.m) x cs
abbrev AU (R:Rt)(b a:Addr)(x:Bx)(cs:List Int)(ws:List Str)(O:List ay)(Q:VK)(E:XK):iP->Prop
 | .on r x' cs'=>∀ H',Sep (ai R b x'::ar R a cs' ws::O) H'->Q (v0 r) H'
 | .no d c=>∀ e H',Sep (fB (R.cad 3) [("deed",v4 d),("cell",v0 c)] e false::ai R b x::ar R a cs ws::O) H'->E e H'
 | .nf n i=>∀ e H',Sep (fB (R.cad 4) [("box",v4 n.nm),("number",v0 i)] e false::ai R b x::ar R a cs ws::O) H'->E e H'
def EI (r:Rw)(ro:Ro K R):∃ f,tab.me.lookup (r.cl,("step":Str))=some f/\(∀ Ψ,dflt ⟨tab,R,Ψ,.calm⟩ f 3=[])/\∀ {k:Nat}{de b a:Addr}{x:Bx}{cs:List Int}{ws:List Str}{O:List ay}{H:Hp}{Q:VK}{E:XK},8<=k->Sep (ai R b x::ar R a cs ws::eB R de r::O) H->AU R b a x cs ws (eB R de r::O) Q E (bE x cs ws r)->aa tab R k f [ut de,ut b,ut a] H Q E:=by
 cases r with
 |lg w=>
  obtain⟨f,hf,hd,hs⟩:=step_any w ro;refine⟨f,hf,hd,λ{k de b a x cs ws O H Q E} hk z q=>hs hk z ?_⟩;have q:AU R b a x cs ws (eB R de (.lg w)::O) Q E (ofM (bR w x cs ws)):=q
  revert q
  cases bR w x cs ws<;>exact λq=>q
 |sp s=>
  obtain⟨f,hf,hd,hs⟩:=Ey s ro;refine⟨f,hf,hd,λ{k de b a x cs ws O H Q E} hk z q=>hs nofun z ?_⟩;have q:AU R b a x cs ws (eB R de (.sp s)::O) Q E (i6 (iW x cs ws s)):=q
  revert q
  cases iW x cs ws s<;>exact λq=>q
 |hop n o=>
  refine⟨60,rfl,λ_=>rfl,λ{k de b a x cs ws O H Q E} hk z q=>?_⟩;exact vW ro nofun z .k2 .e (q H z)
set_option tactic.hygienic true in
def j3 {cs:List Int}{ws:List Str}(ro:Ro K R)(hk:5<=k)(z:Sep O H)(p:ag (ar R a cs ws) O Δ)(q:∀ c H',Sep (ar R c cs ws::O) H'->Q (ut c) H'):aa tab R k 91 [ut a] H Q E:=by
 delta gI;have ok:=cG z p;right;rename_i l H1 z1;intro c dx g1 g2 g3;refine wj (cs:=[0]) ro nofun 1e1 1e1 (λi hi=>by rw[mem_singleton.mp hi];decide) (g6 z1 g1 g2 g3) .e (λH2 z2=>⟨rfl,?_⟩);obtain⟨_,z3⟩:=jw z2;obtain⟨dx1,c1,d1,z4⟩:=bK z3;obtain⟨_,z5⟩:=jw (z4.pull (.j2 (.j2 (.t p))));obtain⟨dx2,c2,d2,z6⟩:=bK z5;clear z1 z2 z3 z4 z5;right;rename_i l3 H3 z7 H4 z8 l5 H5 z9 H6 z10;refine q c H6 ?_;have z11:Sep (pt c (wv (R.cad 26) dx1 [("contents",ut l3),("permits",ut l5)])::pt dx1 (.own c)::pt l3 0e9::pt l5 0e4::pt a (wv (R.cad 26) dx2 [("contents",ut c2),("permits",ut d2)])::pt dx2 (.own a)::pt c2 0e9::pt d2 0e4::Δ) H6:=z10.sub 0e1;have z12:=jf ok (du z11);have z13:Sep (pt a (wv (R.cad 26) dx2 [("contents",ut c2),("permits",ut d2)])::pt dx2 (.own a)::pt c2 0e9::pt d2 0e4::ar R c cs ws::Δ) H6:=z12.sub 0e1;exact Sep.push (.t p) (jf ok (du z13))
def j5 {b:Addr}(ro:Ro K R)(hk:5<=k)(z:Sep O H)(p:ag (ai R b x) O Δ)(q:∀ c H',Sep (ai R c x::O) H'->Q (ut c) H'):aa tab R k 17 [ut b] H Q E:=by
 obtain⟨o,z2⟩:=fw (z.pull p);refine xU ro hk z2 (λc H' z3=>q c H' ?_);have z4:=pC o z3;have z5:=pC o (z4.pull .k1);exact Sep.push (.t p) z5
abbrev cS (R:Rt)(m l s b:Addr)(at_:Int)(ds:List V):ay:=bx λdx:Addr=>[pt m 1e4,pt dx (.own m),pt l (wp ds)]
def Dj {m l s b:Addr}(z:Sep (cS R m l s b at_ ds::O) H):∃ dx,Sep (pt m 1e4::pt dx (.own m)::pt l (wp ds)::O) H:=gp z
def A1 {m l s b:Addr}(z:Sep (pt m 1e4::pt dx (.own m)::pt l (wp ds)::O) H):Sep (cS R m l s b at_ ds::O) H:=iH dx z
def fH {m l s b:Addr}:Ob R (cS R m l s b at_ ds) m 16 ["deeds","store","boxes","at"]:=by
 rintro H D ⟨dx,D1,D2,_,_,_,⟨_,h⟩,_⟩;exact⟨dx,_,h,rfl⟩
abbrev yp (R:Rt)(O:List ay)(ds:List V):Prop:=∀ v ∈ ds,∃ a r Δ,v=ut a/\ag (eB R a r) O Δ
def vD (r:Rw):tab.oc.contains r.cl=true/\tab.sub.lookup (r.cl,10)=some true:=by
 cases r with
 |lg w=>cases w<;>exact⟨rfl,rfl⟩
 |sp s=>cases s<;>exact⟨rfl,rfl⟩
 |hop n o=>exact⟨rfl,rfl⟩
def jR {l:Addr}(ro:Ro K R)(hk:1<=k)(h0:1<=ds.length)(h1:ds.length<=24)(z:Sep O H)(p:ag (pt l (wp ds)) O Δ)(hd:yp R O ds)(q:∀ H',Sep O H'->Q wf H'):aa tab R k 35 [ut l] H Q E:=by
 delta jx;left;refine lj (t:="list") (Jf (z.get p)) rfl ?_;right;refine jV (z.get p) ?_;right;refine aG (λh=>?_) (λh=>absurd nofun h);left;simp only[ro.g_MOST_ROWS];right;refine aG (λh=>?_) (λh=>absurd nofun h);right;refine Jb (z.get p) ?_;refine vH (xs:=ds) (λj U H=>∃ u v,U=[some (ut l),u,v]/\Sep O H) ?_ ?_ ?_ ?_
 .exact⟨none,none,rfl,z⟩
 .rintro j U H ⟨u,v,rfl,hs⟩;exact hs.get p
 .rintro j x T U H hx ⟨u,v,rfl,hs⟩ hT;obtain⟨a,r,Δ',rfl,hp⟩:=hd x (cr hx);have hs4:=hs.qt (xs:=[v0 j,ut a]) hT;obtain⟨dx,fs,e⟩:=JQ hs4 (.t hp);left;refine⟨T,_,rfl,.inl (bP.of hs4.atT),rfl,?_⟩;generalize upd H T _=H4 at hs4 e⊢;right;refine Bp e (vD r).1 (b:=true) (vD r).2 ?_;right;exact⟨_,_,rfl,hs4.drop⟩
 .rintro U H ⟨u,v,rfl,hs⟩;exact q _ hs
def hG {n:Int}(hk:2<=k)(h0:0<=at_)(h1:at_<=n)(q:Q wf H):aa tab R k 36 [v0 at_,v0 n] H Q E:=by
 delta ij;right;refine a8 (t:="int") nofun rfl ?_;right;refine aG (λh=>?_) (λh=>absurd h0 h);right;refine aG (λh=>?_) (λh=>absurd h1 h);right;exact q
set_option tactic.hygienic true in
def ot {m l s b:Addr}{cs:List Int}{ws:List Str}(ro:Ro K R)(hk:6<=k)(n0:1<=ds.length)(n1:ds.length<=24)(h0:0<=at_)(h1:at_<=ds.length){Δl Δs Δb:List ay}(pl:ag (pt l (wp ds)) O Δl)(ps:ag (ar R s cs ws) O Δs)(pb:ag (ai R b x) O Δb)(hd:yp R O ds)
  (z:Sep (pt m (wv (R.cad 16) dx [])::pt dx (.own m)::O) H) (q:∀ l2 s2 b2 H',Sep (cS R m l2 s2 b2 at_ ds::ar R s2 cs ws::ai R b2 x::O) H'->Q wf H'):aa tab R k 38 [ut m,ut l,ut s,ut b,v0 at_] H Q E:=by
 delta bQ;right;refine jR ro nofun n0 n1 z (.j2 pl) (λv hv=>by
  obtain⟨a,r,Δ',e,hp⟩:=hd v hv;exact⟨a,r,_,e,.t (.t hp)⟩) (λH1 z1=>?_)
 right;refine jV (z1.get (.j2 pl)) ?_;right;refine hG nofun h0 h1 ?_;right;refine qH z1 (z1.get (.j2 pl)) (λl2 H2 z2=>?_);right;rename_i H3 z3;refine ae aZ z3 (.j2 (.t ps)) rfl rfl ?_;left;refine j3 ro nofun z3 (.j2 (.t ps)) (λs2 H4 z4=>?_);right;rename_i H5 z5;refine ae aN z5 (.j2 (.j2 pb)) rfl rfl ?_;left;refine j5 ro nofun z5 (.j2 (.j2 pb)) (λb2 H6 z6=>?_);right;rename_i H7 z7 H8 z8;refine q l2 s2 b2 H8 (A1 (dx:=dx) ?_);exact z8.sub 0e1
structure Mk (R:Rt) (A:ay) (m l s b:Addr) (at_:Int) (ds:List V):Prop where
 o:∀ {O:List ay}{H:Hp},Sep (A::O) H->∃ C dx fl,(tab.oc.contains C=true/\(∀ f ∈ ([("deeds":Str),"store","boxes","at"]:List Str),tab.na.contains (C,f)=true)/\List.lookup ("ended":Str) fl=none/\tab.me.lookup (C,("ended":Str))=some 39)/\Sep (pt m (wv (R.cad C) dx (("deeds",ut l)::("store",ut s)::("boxes",ut b)::("at",v0 at_)::fl))::pt dx (.own m)::pt l (wp ds)::O) H
section
variable {m l s b:Addr}{at_:Int}{ds:List V}{A:ay}{x:Bx}{cs:List Int}{ws:List Str}
def J4 {C:Nat}(h:([("deeds":Str),"store","boxes","at"]:List Str).all (λf=>tab.na.contains (C,f))=true):∀ f ∈ ([("deeds":Str),"store","boxes","at"]:List Str),tab.na.contains (C,f)=true:=all_eq_true.mp h
def uG:Mk R (cS R m l s b at_ ds) m l s b at_ ds:=⟨λz=>let⟨dx,z⟩:=Dj z;⟨16,dx,[],⟨rfl,J4 rfl,rfl,rfl⟩,z⟩⟩
def jI (hA:Mk R A m l s b at_ ds)(hk:1<=k)(z:Sep O H)(p:ag A O Δ)(q:Q (.bl (decide (at_=ds.length))) H):aa tab R k 39 [ut m] H Q E:=by
 delta ft;obtain⟨C,dx,fl,⟨c1,c2,_⟩,z1⟩:=hA.o (z.pull p);right;refine az z1.at c1 (c2 _ 2e5) rfl ?_;right;refine az z1.at c1 (c2 _ 2e5) rfl ?_;right;have e:dD (v0 at_) (v0 (ds.length:Int))=decide (at_=(ds.length:Int)):=by
  show(at_ ==(ds.length:Int))=_
  by_cases h:at_=(ds.length:Int)
  .rw[decide_eq_true h,beq_iff_eq];exact h
  .rw[decide_eq_false h];simpa using h
 rw[e];exact q
set_option tactic.hygienic true in
def wk (hA:Mk R A m l s b at_ ds)(ro:Ro K R)(hk:2<=k)(z:Sep (A::ar R s cs ws::ai R b x::O) H)
  (q:∀ t t1 l1 H',Sep (pt t (wr [v0 at_,ut t1,ut l1])::pt l1 0e9::tu t1 (x.ls.map v0)::A::ar R s cs ws::ai R b x::O) H'->Q (ut t) H'):aa tab R k 44 [ut m] H Q E:=by
 delta fm;obtain⟨C,dx,fl,⟨c1,c2,_⟩,z1⟩:=hA.o z;right;refine az z1.at c1 (c2 _ 2e5) rfl ?_;right;refine az z1.at c1 (c2 _ 2e5) rfl ?_;right;refine ae aN z .k2 rfl rfl ?_;left;refine wZ ro nofun z .k2 (λt1 H1 z2=>?_);obtain⟨C,dx,fl,⟨c1,c2,_⟩,z3⟩:=hA.o (z2.pull .k1);right;refine az z3.at c1 (c2 _ 2e5) rfl ?_;right;refine ae aZ z2 .k2 rfl rfl ?_;left;refine vM nofun z2 .k2 (λl1 H2 z4=>?_);right;rename_i t H3 z5;exact q t t1 l1 H3 z5
def ml (hA:Mk R A m l s b at_ ds)(hk:2<=k)(z:Sep (A::ar R s cs ws::O) H)
  (q:∀ l1 H',Sep (pt l1 0e4::A::ar R s cs ws::O) H'->Q (ut l1) H'):aa tab R k 45 [ut m] H Q E:=by
 delta eK;obtain⟨C,dx,fl,⟨c1,c2,_⟩,z1⟩:=hA.o z;right;refine az z1.at c1 (c2 _ 2e5) rfl ?_;right;refine ae aZ z .k1 rfl rfl ?_;left;exact yx nofun z .k1 q
def vR (hA:Mk R A m l s b at_ ds){j:Int}{wd:Str}(ro:Ro K R)(hk:4<=k)(h0:0<=i)(h1:i<=j)(h2:j<=ws.length)(hw:fh wd=true)(z:Sep (A::ar R s cs ws::O) H)(q:∀ H',Sep (A::ar R s cs (dJ wd ws i.toNat (j-i).toNat)::O) H'->Q wf H'):aa tab R k 46 [ut m,v0 i,v0 j,v4 wd] H Q E:=by
 delta fJ;obtain⟨C,dx,fl,⟨c1,c2,_⟩,z1⟩:=hA.o z;right;refine az z1.at c1 (c2 _ 2e5) rfl ?_;right;refine ae aZ z .k1 rfl rfl ?_;right;refine aC (vs':=[_,_,_,_]) rfl ?_;refine tO ro nofun z .k1 h0 h1 h2 hw (λH1 z2=>?_);right;exact q H1 z2
def xC {wd:Str}{lo:Nat}:dJ wd ws lo (n+1)=(dJ wd ws lo n).set (lo+n) wd:=rfl
end
abbrev iP.bx (x:Bx):iP->Bx
 | .on _ x' _=>x'
 |_=>x
abbrev iP.cs (cs:List Int):iP->List Int
 | .on _ _ cs'=>cs'
 |_=>cs
abbrev MP (t:Addr):iP->ay
 | .on r _ _=>tu t [v0 r,wf]
 | .no d c=>bx λte:Addr=>[tu t [wf,ut te],tu te [v4 d,v0 c]]
 | .nf b _=>bx λte:Addr=>[tu t [wf,ut te],tu te [v4 "fit",v4 b.nm]]
set_option tactic.hygienic true in
def wN {de b:Addr}{cs:List Int}{ws:List Str}(r:Rw)(ro:Ro K R)(hk:9<=k)(z:Sep (ai R b x::ar R a cs ws::eB R de r::O) H)
  (q:∀ t H',Sep (MP t (bE x cs ws r)::ai R b ((bE x cs ws r).bx x)::ar R a ((bE x cs ws r).cs cs) ws::eB R de r::O) H'->Q (ut t) H'):aa tab R k 37 [ut de,ut b,ut a] H Q E:=by
 obtain⟨f,hf,hd,hst⟩:=EI r ro;delta qe;right;refine ae (wC r) z .k2 (by cases r with|lg w=>rfl|sp s=>cases s<;>rfl|hop n o=>rfl) hf ?_;left;refine aC (vs':=[ut de,ut b,ut a]) (by show _::(_++dflt _ _ 3)=_;rw[hd];rfl) ?_;refine hst nofun z ?_
 revert q
 cases bE x cs ws r with
 |on n x' cs'=>
  intro q H1 z1;right;rename_i t H3 z3;exact q t H3 z3.toT
 |no d c=>
  intro q e H1 z1;obtain⟨dx,z2⟩:=wF z1;refine⟨3,_,_,true,z2.at,rfl,rfl,?_⟩;left;refine aJ rfl ?_;right;rename_i te H3 z3 t H4 z4;have z5:=(z4.toT.pull .k1).toT;exact q t H4 (iH te (z5.sub (.cons .k1 (.cons .e (.drop (.drop .refl))))))
 |nf n i=>
  intro q e H1 z1;obtain⟨dx,z2⟩:=wF z1;refine⟨4,_,_,false,z2.at,rfl,rfl,?_⟩;left;refine au rfl ?_;left;refine⟨4,_,_,true,z2.at,rfl,rfl,?_⟩;left;refine aJ rfl ?_;right;rename_i te H3 z3 t H4 z4;have z5:=(z4.toT.pull .k1).toT;exact q t H4 (iH te (z5.sub (.cons .k1 (.cons .e (.drop (.drop .refl))))))
abbrev bA (R:Rt)(O:List ay)(ds:List V)(rs:List Rw):Prop:=ds.length=rs.length/\∀ (i:Nat) (r:Rw),rs[i]? =some r->∃ a Δ,ds[i]? =some (ut a)/\ag (eB R a r) O Δ
variable {rs:List Rw}
def bA.more (h:bA R O ds rs):bA R (A::O) ds rs:=⟨h.1,λi r e=>by
 obtain⟨a,Δ,e2,p⟩:=h.2 i r e;exact⟨a,_,e2,.t p⟩⟩
def bA.all (h:bA R O ds rs):yp R O ds:=λv hv=>by
 obtain⟨i,hi⟩:=List.getElem?_of_mem hv;have hl:=(sw.mp hi).1;obtain⟨a,Δ,e2,p⟩:=h.2 i _ (li (by rw[<-h.1];exact hl));rw[hi]at e2;cases e2;exact⟨a,_,Δ,rfl,p⟩
structure Lj where
 w:Str
 at_:Int
 x:Bx
 cs:List Int
abbrev mS (rs:List Rw)(at_:Int)(x:Bx)(cs:List Int)(ws:List Str):Lj:=match rs[at_.toNat]? with
 |none=>⟨"end",at_,x,cs⟩
 |some r=>match bE x cs ws r with
  | .on n x' cs'=>⟨"on",min (at_+n) rs.length,x',cs'⟩
  |_=>⟨"stop",at_,x,cs⟩
section
variable {m l s b:Addr}{at_:Int}{ds:List V}{rs:List Rw}{x:Bx}{cs:List Int}{ws:List Str}
set_option tactic.hygienic true in
def xu (ro:Ro K R)(hk:10<=k)(h0:0<=at_)(h1:at_<=ds.length)(hd:bA R O ds rs)(z:Sep (cS R m l s b at_ ds::ar R s cs ws::ai R b x::O) H)
  (q:∀ H',Sep (cS R m l s b 0e3.at_ ds::ar R s 0e3.cs ws::ai R b 0e3.x::O) H'->Q (v4 0e3.w) H'):aa tab R k 40 [ut m,ut s] H Q E:=by
 delta cf;unfold mS at q;right;refine ae fH z .e rfl rfl ?_;left;refine jI uG nofun z .e ?_
 by_cases he:at_=ds.length
 .rw[decide_eq_true he];right;rw[getElem?_eq_none (by have:=hd.1;omega)]at q;exact q H z
 .rw[decide_eq_false he];have hlt:at_.toNat<rs.length:=by have:=hd.1;omega
  have er:rs[at_.toNat]? =some rs[at_.toNat]:=li hlt;generalize rs[at_.toNat]=r at er;obtain⟨de,Δ,e2,p⟩:=hd.2 _ _ er;rw[er]at q;dsimp only at q;obtain⟨dx,z1⟩:=Dj z;right;refine aX (i:=at_) 2e8 (aW h0 e2) ?_;right;have z2:Sep (ai R b x::ar R s cs ws::eB R de r::pt m 1e4::pt dx (.own m)::pt l (wp ds)::Δ) H:=z1.sub (.cons (.t .k3) (.cons .k3 (.cons (.j2 (.t p)) .refl)));refine wN r ro nofun z2 (λt H2 z3=>?_);clear z z1 z2
  revert q z3
  cases bE x cs ws r with
  |on n x' cs'=>
   intro q z3;have z3:Sep (tu t [v0 n,wf]::ai R b x'::ar R s cs' ws::eB R de r::pt m 1e4::pt dx (.own m)::pt l (wp ds)::Δ) H2:=z3;right;refine cH ?_;left;refine au rfl ?_;right;rename_i H4 z4;rw[hd.1]at z4;refine q H4 (A1 (dx:=dx) ?_);exact(z4.sub (Γ':=eB R de r::pt m _::pt dx (.own m)::pt l (wp ds)::ar R s cs' ws::ai R b x'::Δ) 0e1).push (.j2 (.j2 (.t p)))
  |no d c=>
   intro q z3;obtain⟨te,z4⟩:=gp z3;have z4:Sep (tu t [wf,ut te]::tu te [v4 d,v0 c]::ai R b x::ar R s cs ws::eB R de r::pt m 1e4::pt dx (.own m)::pt l (wp ds)::Δ) H2:=z4;right;refine cH ?_;left;refine aJ rfl ?_;refine q H2 (A1 (dx:=dx) ?_);exact(z4.sub (Γ':=eB R de r::pt m _::pt dx (.own m)::pt l (wp ds)::ar R s cs ws::ai R b x::Δ) 0e1).push (.j2 (.j2 (.t p)))
  |nf n i=>
   intro q z3;obtain⟨te,z4⟩:=gp z3;have z4:Sep (tu t [wf,ut te]::tu te [v4 "fit",v4 n.nm]::ai R b x::ar R s cs ws::eB R de r::pt m 1e4::pt dx (.own m)::pt l (wp ds)::Δ) H2:=z4;right;refine cH ?_;left;refine aJ rfl ?_;refine q H2 (A1 (dx:=dx) ?_);exact(z4.sub (Γ':=eB R de r::pt m _::pt dx (.own m)::pt l (wp ds)::ar R s cs ws::ai R b x::Δ) 0e1).push (.j2 (.j2 (.t p)))
def vX (ro:Ro K R)(hk:11<=k)(h0:0<=at_)(h1:at_<=ds.length)(hd:bA R O ds rs)(z:Sep (cS R m l s b at_ ds::ar R s cs ws::ai R b x::O) H)
  (q:∀ H',Sep (cS R m l s b 0e3.at_ ds::ar R s 0e3.cs ws::ai R b 0e3.x::O) H'->Q (v4 0e3.w) H'):aa tab R k 41 [ut m] H Q E:=by
 delta fT;obtain⟨dx,z1⟩:=Dj z;right;refine ae fH z .e rfl rfl ?_;right;refine aC (vs':=[_,_]) rfl ?_;exact xu ro nofun h0 h1 hd z q
end
def JD:fin l=0\/fin l=1:=by
 unfold fin
 split
 .exact .inr rfl
 .exact .inl rfl
abbrev idx (wd:Wd)(x:Bx):Int:=match wd with
 | .fill=>x.t
 | .shift=>if x.t<=x.h then x.h else x.h+x.l-1
 |_=>x.h
abbrev dir (wd:Wd)(x:Bx):Int:=match wd with
 | .shift=>if x.t<=x.h then 1 else -1
 | .turn=>1
 |_=>x.w
abbrev gone (n:Nat)(w h h':Int):Prop:=h'=h\/(0<=h/\h<n)/\(h'=h+w\/h'=h+1)
def kb {ws:List Str}{d:Str}{w h:Int}(m:ah ws d h=true):gone ws.length w h (h+w):=.inr ⟨ak m,.inl rfl⟩
def uU {ws:List Str}{d:Str}{w h:Int}(m:ah ws d h=true):gone ws.length w h (h+1):=.inr ⟨ak m,.inr rfl⟩
abbrev BV (x x':Bx)(n:Nat):Prop:=x'.w=x.w/\(0<=x.l->0<=x'.l)/\(x.ok->n<=60->x'.ok)
def cN {h' t' l' m':Int}(hh:gone n x.w x.h h')(ht:gone n x.w x.t t')(hl:0<=x.l->0<=l'/\l'<=x.l)(hm:m'=x.m\/m'=0\/m'=1):BV x ⟨h',t',l',x.w,x.s,m'⟩ n:=by
 refine⟨rfl,λz=>(hl z).1,λok hn=>?_⟩;obtain⟨o1,o2,o3,o4,o5,o6⟩:=ok;have b:=hl o3.1;have gg:∀ {h h':Int},gone n x.w h h'-> -1000000000<=h/\h<=1000000000-> -1000000000<=h'/\h'<=1000000000:=λ{h h'} g o=>by
  rcases g with rfl|⟨g,e⟩
  .exact o
  .omega
 exact⟨gg hh o1,gg ht o2,⟨b.1,Int.le_trans b.2 o3.2⟩,o4,o5,hm.elim (λe=>o6.imp (e.trans ·) (e.trans ·)) id⟩
def aq {P:Out->Prop}{c:Prop} [Decidable c] {a b:Out}(h:c->P a)(g:¬ c->P b):P (if c then a else b):=by
 by_cases e:c
 .rw[if_pos e];exact h e
 .rw[if_neg e];exact g e
def IT (e:¬ l=0)(z:0<=l):0<=l+ -1/\l+ -1<=l:=by omega
section
variable {P:Out->Prop}{wd:Wd}{x:Bx}{cs:List Int}{ws:List Str}
def jF {j:Int}{f:List Int->Out}(no:∀ (d:Str) (c:Int),d="look"\/d="put"->P (.no d c)) (h:ah ws "look" i=true->ah ws "put" j=true->P (f (cs.set j.toNat (gt cs i)))):P (hm cs ws i j f):=
 aq (λa=>aq (h a) (λ_=>no _ _ (.inr rfl))) (λ_=>no _ _ 3e9)
def Ai (done:∀ x',BV x x' ws.length->P (.on 1 x' cs)) (no:∀ (d:Str) (c:Int),d="look"\/d="put"->P (.no d c))
  (go:∀ x' cs',BV x x' ws.length->cs'.length=cs.length->(0<=idx wd x/\idx wd x<ws.length)/\idx wd x'=idx wd x+dir wd x/\dir wd x'=dir wd x->P (.on (fin x'.l) x' cs')):P (bR wd x cs ws):=by
 have sm:∀ {m':Int},m'=x.m\/m'=0\/m'=1->BV x ⟨x.h,x.t,x.l,x.w,x.s,m'⟩ ws.length:=λe=>cN 3e9 3e9 (λz=>⟨z,Int.le_refl _⟩) e
 have lk:∀ {c},P (.no "look" c):=no _ _ 3e9;have pu:∀ {c},P (.no "put" c):=no _ _ (.inr rfl);cases wd
 .exact aq (λ_=>done _ (sm 3e9)) λe=>jF no λa b=>go _ _ (cN (kb a) (kb b) (IT e) 3e9) (length_set ..) ⟨ak a,rfl,rfl⟩
 .exact aq (λ_=>done _ (sm 3e9)) λe=>aq (λb=>go _ _ (cN 3e9 (kb b) (IT e) 3e9) (length_set ..) ⟨ak b,rfl,rfl⟩) λ_=>pu
 .exact aq (λ_=>done _ (sm (.inr 3e9))) λe=>aq (λa=>aq (λ_=>done _ (sm (.inr (.inr rfl)))) λ_=>go _ _ (cN (kb a) 3e9 (IT e) (.inr 3e9)) rfl ⟨ak a,rfl,rfl⟩) λ_=>lk
 .exact aq (λ_=>done _ (sm (.inr (.inr rfl)))) λe=>aq (λa=>aq (λb=>aq (λ_=>go _ _ (cN (kb a) (kb b) (IT e) (.inr (.inr rfl))) rfl ⟨ak a,rfl,rfl⟩) λ_=>done _ (sm (.inr 3e9))) λ_=>lk) λ_=>lk
 .refine aq (λ_=>done _ (sm 3e9)) λe=>aq (λc=>jF no λa b=>go _ _ (cN (uU a) (uU b) (IT e) 3e9) (length_set ..) ?_) λc=>jF no λa b=>go _ _ (cN 3e9 3e9 (IT e) 3e9) (length_set ..) ?_
  .have g:=ak a;unfold idx dir;dsimp only;rw[if_pos c,if_pos c,if_pos nofun,if_pos nofun];exact⟨g,rfl,rfl⟩
  .have g:=ak a;unfold idx dir;dsimp only;rw[if_neg c,if_neg c];exact⟨g,by omega,rfl⟩
 .exact aq (λ_=>done _ (sm 3e9)) λe=>aq (λc=>done _ (cN 3e9 3e9 (λz=>⟨Int.le_refl _,z⟩) 3e9)) λc=>
   aq (λa=>aq (λ_=>aq (λ_=>aq (λ_=>go _ _ (cN (uU a) 3e9 (λz=>by omega) 3e9) ((length_set ..).trans (length_set ..)) ⟨ak a,rfl,rfl⟩) λ_=>pu) λ_=>pu) λ_=>lk) λ_=>lk
end
variable {x':Bx}
def qL {wd:Wd}{cs:List Int}{ws:List Str}(h:bR wd x cs ws=.on r x' cs'):
  BV x x' ws.length/\cs'.length=cs.length/\(r=0\/r=1)/\(r=0->(0<=idx wd x/\idx wd x<ws.length)/\idx wd x'=idx wd x+dir wd x/\dir wd x'=dir wd x):=by
 revert h
 refine Ai (P:=λo=>o=.on r x' cs'->_) (λy w e=>?_) (λ_ _ _ e=>by cases e) (λy c w l g e=>?_)
 .cases e;exact⟨w,rfl,.inr rfl,λz=>by cases z⟩
 .cases e;exact⟨w,l,JD,λ_=>g⟩
def HJ {wd:Wd}{cs:List Int}{ws:List Str}(h:bR wd x cs ws=.on r x' cs'):
  (r=0\/r=1)/\x'.w=x.w/\(r=0->0<=idx wd x/\idx wd x<ws.length/\idx wd x'=idx wd x+dir wd x/\dir wd x'=dir wd x):=
 have ⟨w,_,r,g⟩:=qL h
 ⟨r,w.1,λz=>⟨(g z).1.1,(g z).1.2,(g z).2⟩⟩
def Cq {cs:List Int}{ws:List Str}{r:Rw}{n:Int}(ok:r.ok)(h:bE x cs ws r=.on n x' cs'):0<=n:=by
 cases r with
 |lg w=>
  have h:ofM (bR w x cs ws)=.on n x' cs':=h;cases e:bR w x cs ws with
  |no d c=>rw[e]at h;cases h
  |on r y ys=>
   rw[e]at h;cases h;rcases(HJ e).1 with rfl|rfl<;>decide
 |hop m o=>
  cases h;have:=ok.1;cases o with
  |none=>show 0<=1+m;omega
  |some i=>
   show 0<=(if i=x.m then 1+m else 1)
   split<;>omega
 |sp s=>
  have h:i6 (iW x cs ws s)=.on n x' cs':=h;cases e:iW x cs ws s with
  |on y ys=>rw[e]at h;cases h;decide
  |no d c=>rw[e]at h;cases h
  |nf b i=>rw[e]at h;cases h
def Fs {cs:List Int}{ws:List Str}(h0:0<=at_)(h1:at_<=rs.length)(hn:∀ r ∈ rs,Rw.ok r):0<=0e3.at_/\0e3.at_<=rs.length/\(0e3.w="on"\/(0e3.w="end"\/0e3.w="stop")/\0e3.at_=at_/\0e3.x=x/\0e3.cs=cs):=by
 unfold mS;cases e:rs[at_.toNat]? with
 |none=>exact⟨h0,h1,.inr ⟨.inl rfl,rfl,rfl,rfl⟩⟩
 |some r=>
  have ok:=hn r (cr e);dsimp only;cases ho:bE x cs ws r with
  |no d c=>exact⟨h0,h1,.inr ⟨.inr rfl,rfl,rfl,rfl⟩⟩
  |nf b i=>exact⟨h0,h1,.inr ⟨.inr rfl,rfl,rfl,rfl⟩⟩
  |on n x' cs'=>
   have hn0:0<=n:=Cq ok ho;refine⟨?_,?_,.inl rfl⟩
   .show 0<=min (at_+n) (rs.length:Int)
    omega
   .show min (at_+n) (rs.length:Int)<=rs.length
    omega
def As {wd:Wd}{cs:List Int}{ws:List Str}(hx:0<=x.l)(h:bR wd x cs ws=.on r x' cs'):0<=x'.l/\cs'.length=cs.length:=
 ⟨(qL h).1.2.1 hx,(qL h).2.1⟩
def KU (h0:0<=r)(h1:r<6):∃ wd:Wd,oa [v4 "copy",v4 "fill",v4 "seek",v4 "match",v4 "shift",v4 "turn"] r=some (v4 wd.s):=by
 have:r=0\/r=1\/r=2\/r=3\/r=4\/r=5:=by omega
 rcases this with rfl|rfl|rfl|rfl|rfl|rfl
 .exact⟨.copy,rfl⟩
 .exact⟨.fill,rfl⟩
 .exact⟨.seek,rfl⟩
 .exact⟨.mtch,rfl⟩
 .exact⟨.shift,rfl⟩
 .exact⟨.turn,rfl⟩
def HK (h0:0<=r)(h1:r<3):∃ o:Option Int,oa [wf,v0 0,v0 1] r=some (oV o)/\Lh o:=by
 rcases(by omega:r=0\/r=1\/r=2) with rfl|rfl|rfl
 .exact⟨none,rfl,True.intro⟩
 .exact⟨some 0,rfl,.inl rfl⟩
 .exact⟨some 1,rfl,.inr rfl⟩
abbrev tQ (v:V):Prop:=∃ b:Bn,v=v4 b.nm
set_option tactic.hygienic true in
def Du {sz:Int}(hk:2<=k)(s:Sep (hand h m::O) H)(hm:m<=1099510000000)(h0:0<=sz)(h1:sz<=60)(q:∀ t r H',Rw.ok r->Sep (tu t r.tl::hand h (m+10)::O) H'->Q (ut t) H'):aa tab R k 99 [ut h,v0 sz] H Q E:=by
 delta kL;walk_at "gd";rename_i wy H1 wy0 wy1 hs1 p1 H2 hs2 r2 H3 r20 r21 hs3;obtain⟨b,e2⟩:=E8 r20 r21;refine aX 2e8 e2 ?_;clear s hs1 hs2;right;refine aG (λg0=>?_) (λg0=>?_)
 .right;rename_i l4 H4 hs4;obtain⟨wd,e3⟩:=KU wy0 g0;refine aX 2e8 e3 ?_;right;rename_i t H5 hs5;have z6:Sep (tu t (Rw.tl (.lg wd))::_) _:=hs5.toT;exact q t (.lg wd) _ True.intro 3e7
 right;refine aG (λg1=>?_) (λg1=>?_)
 .walk_at "gd";rename_i l4 H4 hs4 r5 H5 r50 r51 hs5;obtain⟨v,e3,b3,rfl⟩:=ik (P:=tQ) (xs:=[v4 "here",v4 "there",v4 "left",v4 b.nm]) (r:=r5) r50 (by simpa using r51) (Nh ⟨.h,rfl⟩ ⟨.t,rfl⟩ ⟨.l,rfl⟩ ⟨b,rfl⟩);refine aX 2e8 e3 ?_;walk_at "gd";rename_i r6 H6 r60 r61 hs6 r7 H7 r70 r71 hs7 r8 H8 r80 r81 hs8 r9 H9 r90 r91 hs9 l10 H10 hs10;obtain⟨v,e4,i,rfl,i0,i1⟩:=ik (xs:=[v0 r7,v0 (r8-2),v0 (10 ^ Int.toNat 9-r9)]) (P:=inR (-1000000000) 1000000000) (r:=r6 / 3) nofun (by simp;omega) (Ju (.mk nofun nofun) (.mk nofun nofun) (.mk (by rw[gi];omega) (by rw[gi];omega)));refine aX 2e8 e4 ?_;right;rename_i t H11 hs11;have z6:Sep (tu t (Rw.tl (.sp (.set b3 i)))::_) _:=hs11.toT;exact q t (.sp (.set b3 i)) _ ⟨i0,i1⟩ 3e7
 right;refine aE (λg2=>?_) (λg2=>?_)
 .walk_at "gd";rename_i r6 H6 r60 r61 hs6 r7 H7 r70 r71 hs7 r8 H8 r80 r81 hs8 l10 H10 hs10;obtain⟨v,e4,i,rfl,i0,i1⟩:=ik (xs:=[v0 (r7-3),v0 r8,v0 (-(10 ^ Int.toNat 9))]) (P:=inR (-1000000000) 1000000000) (r:=r6 / 3) nofun (by simp;omega) (Ju (.mk nofun nofun) (.mk nofun nofun) (.mk (by rw[gi];omega) (by rw[gi];omega)));refine aX 2e8 e4 ?_;right;rename_i t H11 hs11;have z6:Sep (tu t (Rw.tl (.sp (.add b i)))::_) _:=hs11.toT;exact q t (.sp (.add b i)) _ ⟨i0,i1⟩ 3e7
 right;refine aE (λg3=>?_) (λg3=>?_)
 .walk_at "gd";rename_i r6 H6 r60 r61 hs6;obtain⟨c,e3⟩:=E8 r60 r61;refine aX 2e8 e3 ?_;right;rename_i t H11 hs11;have z6:Sep (tu t (Rw.tl (.sp (.take b c)))::_) _:=hs11.toT;exact q t (.sp (.take b c)) _ True.intro 3e7
 right;refine aG (λg4=>?_) (λg4=>?_)
 .right;rename_i l4 H4 hs4;rcases(by omega:wy=11\/wy=12) with rfl|rfl
  .right;rename_i t H11 hs11;have z6:Sep (tu t (Rw.tl (.sp (.read b)))::_) _:=hs11.toT;exact q t (.sp (.read b)) _ True.intro 3e7
  .right;rename_i t H11 hs11;have z6:Sep (tu t (Rw.tl (.sp (.write b)))::_) _:=hs11.toT;exact q t (.sp (.write b)) _ True.intro 3e7
 walk_at "gd";rename_i r6 H6 r60 r61 hs6 l7 H7 hs7 r8 H8 r80 r81 hs8;obtain⟨o,e3,ho⟩:=HK r80 r81;refine aX 2e8 e3 ?_;right;rename_i t H11 hs11;have z6:Sep (tu t (Rw.tl (.hop r6 o))::_) _:=hs11.toT;exact q t (.hop r6 o) _ ⟨⟨by omega,by omega⟩,ho⟩ 3e7
def A3 {t:Addr}(r:Rw)(ro:Ro K R)(hk:5<=k)(ok:r.ok)(z:Sep (tu t r.tl::O) H)(q:∀ d H',Sep (eB R d r::tu t r.tl::O) H'->Q (ut d) H'):aa tab R k 100 [ut t] H Q E:=by
 delta kK;cases r with
 |lg w=>
  have f:∀ x ∈ ([("set":Str),"add","take","read","write","hop"]),dD (v4 w.s) (v4 x)=false:=by cases w<;>decide+kernel
  right;refine au (f "set" 1e1) ?_;right;refine au (f "add" 1e1) ?_;right;refine au (f "take" 1e1) ?_;right;refine au (f "read" 1e1) ?_;right;refine au (f "write" 1e1) ?_;right;refine au (f "hop" 1e1) ?_;right;exact Ib w nofun z q
 |hop n o=>
  right
  repeat walk_at "sc"
  intro d dx g1 g2 g3;exact J8 ro nofun ok.1.1 ok.1.2 ok.2 (g6 z g1 g2 g3) (λH2 z2=>⟨rfl,q d H2 z2⟩)
 |sp s=>
  cases s with
  |set n i=>
   right
   repeat walk_at "sc"
   intro d dx g1 g2 g3;exact Jz ro nofun ok.1 ok.2 (g6 z g1 g2 g3) (λH2 z2=>⟨rfl,q d H2 z2⟩)
  |add n i=>
   right
   repeat walk_at "sc"
   intro d dx g1 g2 g3;exact KJ ro nofun ok.1 ok.2 (g6 z g1 g2 g3) (λH2 z2=>⟨rfl,q d H2 z2⟩)
  |take n m=>
   right
   repeat walk_at "sc"
   intro d dx g1 g2 g3;exact Ja ro nofun (g6 z g1 g2 g3) (λH2 z2=>⟨rfl,q d H2 z2⟩)
  |read n=>
   right
   repeat walk_at "sc"
   intro d dx g1 g2 g3;exact J6 ro nofun (g6 z g1 g2 g3) (λH2 z2=>⟨rfl,q d H2 z2⟩)
  |write n=>
   right
   repeat walk_at "sc"
   intro d dx g1 g2 g3;exact Ks ro nofun (g6 z g1 g2 g3) (λH2 z2=>⟨rfl,q d H2 z2⟩)
def ao {A:ay}:∀ {L O Δ:List ay},ag A O Δ->ag A (L++O) (L++Δ)
 | [],_,_,h=>h
 |B::L,_,_,h=>.t (ao h)
def i9 {α:Type}{f:α->ay}{x:α}:∀ {l:List α},x ∈ l->∃ Δ,∀ O,ag (f x) (l.map f++O) (Δ++O)
 |y::l,h=>by
  rcases mo.mp h with rfl|h
  .exact⟨l.map f,λO=>.e⟩
  .obtain⟨Δ,hp⟩:=i9 (f:=f) h;exact⟨f y::Δ,λO=>.t (hp O)⟩
abbrev fS (ts:List Addr)(c0:List Int)(g:List (Int×Int)):ay:=⟨λH _=>ts.length=g.length/\∀ (i:Nat) t p,ts[i]? =some t->g[i]? =some p->H t=some (wr [v0 p.1,v0 (gt c0 p.1),v0 p.2]),λH H' D h _ k=>⟨h.1,λi t p e1 e2=>k.tup (h.2 i t p e1 e2)⟩,λH D D' h _=>h⟩
def fS.of {g:List (Int×Int)}(s:Sep (fS ts c0 g::O) H):ts.length=g.length/\∀ (i:Nat) t p,ts[i]? =some t->g[i]? =some p->H t=some (wr [v0 p.1,v0 (gt c0 p.1),v0 p.2]):=let⟨D,k,D1,D2,s1,s2,dj,h1,h2⟩:=s;h1
def fS.snoc {g:List (Int×Int)}{t:Addr}{p:Int×Int}(s:Sep (fS ts c0 g::O) H)(h:H t=some (wr [v0 p.1,v0 (gt c0 p.1),v0 p.2])):Sep (fS (ts++[t]) c0 (g++[p])::O) H:=by
 obtain⟨h1,h2⟩:=fS.of s;refine s.drop.free λ_=>⟨by rw[ci,ci,h1];rfl,λn u c e1 e2=>?_⟩
 by_cases e:n<ts.length
 .rw[List.getElem?_append_left e]at e1;rw[List.getElem?_append_left nofun]at e2;exact h2 n u c e1 e2
 .rw[getElem?_append_right nofun]at e1;rw[getElem?_append_right nofun,<-h1]at e2;cases q:n-ts.length with
  |zero=>rw[q]at e1 e2;cases e1;cases e2;exact h
  |succ=>rw[q]at e1;cases e1
abbrev dc (R:Rt)(a s lc:Addr)(c0:List Int)(g:List (Int×Int))(cs:List Int)(ws:List Str):ay:=bx λp:Addr×Addr×List Addr=>[pt a (wv (R.cad 17) p.1 [("store",ut s),("before",ut p.2.1),("changes",ut lc)]),pt p.1 (.own a),ar R s cs ws,pt p.2.1 (wp (c0.map v0)),pt lc (wp (p.2.2.map ut)),fS p.2.2 c0 g,pu (c0.length=cs.length/\g.length<=10)]
section
variable {a s lc:Addr}{c0 cs:List Int}{g:List (Int×Int)}{ws:List Str}{i:Int}
def tK (z:Sep (dc R a s lc c0 g cs ws::O) H):∃ dx lb ts,(c0.length=cs.length/\g.length<=10)/\Sep (pt a 3e5::pt dx (.own a)::ar R s cs ws::pt lb (wp (c0.map v0))::pt lc (wp (ts.map ut))::fS ts c0 g::O) H:=by
 obtain⟨⟨dx,lb,ts⟩,z⟩:=gp z;have z:Sep (pt a 3e5::pt dx (.own a)::ar R s cs ws::pt lb (wp (c0.map v0))::pt lc (wp (ts.map ut))::fS ts c0 g::pu (c0.length=cs.length/\g.length<=10)::O) H:=z;exact⟨dx,lb,ts,(z.drop.drop.drop.drop.drop.drop).pure,z.sub 0e1⟩
def w9 {lb:Addr}(h:c0.length=cs.length/\g.length<=10)(z:Sep (pt a 3e5::pt dx (.own a)::ar R s cs ws::pt lb (wp (c0.map v0))::pt lc (wp (ts.map ut))::fS ts c0 g::O) H):Sep (dc R a s lc c0 g cs ws::O) H:=by
 refine iH (dx,lb,ts) ?_;have z2:=Sep.push (.j2 (.t .k3)) (Sep.sX h z);exact z2
def fO (z:Sep O H)(p:ag (dc R a s lc c0 g cs ws) O Δ):xS cs ws/\c0.length=cs.length/\g.length<=10:=by
 obtain⟨dx,lb,ts,h,z⟩:=tK (z.pull p);exact⟨cG z .k2,h⟩
def eE:Ob R (dc R a s lc c0 g cs ws) a 17 ["store","before","changes"]:=by
 rintro H D ⟨⟨dx,lb,ts⟩,D1,D2,_,_,_,⟨_,h⟩,_⟩;exact⟨dx,_,h,rfl⟩
def G2 {d:Str}(hk:3<=k)(z:Sep O H)(p:ag (dc R a s lc c0 g cs ws) O Δ)(q:Q (.bl (ah ws d i)) H):aa tab R k 50 [ut a,v4 d,v0 i] H Q E:=by
 obtain⟨dx,lb,ts,h,z1⟩:=tK (z.pull p);delta kZ;right;refine ae aZ z1 .k2 rfl rfl ?_;left;exact AX nofun z1 .k2 q
def fg (hk:4<=k)(z:Sep O H)(p:ag (dc R a s lc c0 g cs ws) O Δ)(q0:ah ws "look" i=true->Q (v0 (gt cs i)) H)
  (q1:ah ws "look" i=false->∀ e H',Sep (fB (R.cad 3) [("deed",v4 "look"),("cell",v0 i)] e false::O) H'->E e H'):aa tab R k 51 [ut a,v0 i] H Q E:=by
 obtain⟨dx,lb,ts,h,z1⟩:=tK (z.pull p);delta je;right;refine ae aZ z1 .k2 rfl rfl ?_;left;refine dI nofun z1 .k2 q0 (λhm e H' z2=>q1 hm e H' ?_);have z3:=w9 h (z2.sub (Γ':=pt a 3e5::pt dx (.own a)::ar R s cs ws::pt lb (wp (c0.map v0))::pt lc (wp (ts.map ut))::fS ts c0 g::fB (R.cad 3) [("deed",v4 "look"),("cell",v0 i)] e false::Δ) 0e1);exact Sep.push (.t p) z3
def mh {v:Int}(hk:4<=k)(hg:g.length<10)(z:Sep O H)(r:aO (dc R a s lc c0 g cs ws) (dc R a s lc c0 (g++[(i,v)]) (cs.set i.toNat v) ws) O Γ')(hv:0<=v/\v<=1000000000)(q0:ah ws "put" i=true->∀ H',Sep Γ' H'->Q wf H')
  (q1:ah ws "put" i=false->∀ e H',Sep (fB (R.cad 3) [("deed",v4 "put"),("cell",v0 i)] e false::O) H'->E e H'):aa tab R k 52 [ut a,v0 i,v0 v] H Q E:=by
 obtain⟨Δ,p,p'⟩:=r.bp;obtain⟨dx,lb,ts,h,z1⟩:=tK (z.pull p);have o1:=(cG z1 .k2).1;have h1:=h.1;have hts:=(fS.of (z1.pull (.j2 .k3))).1;delta kM;right;refine ae aZ z1 .k2 rfl rfl ?_;left;refine jY (v:=v) nofun z1 .k2 hv (λhm H1 z2=>?_) (λhm e H' z2=>q1 hm e H' ?_)
 .have hin:=ak hm;clear z1;left;refine az z2.at rfl rfl rfl ?_;left;refine⟨lc,_,rfl,z2.get (.t .k3),?_⟩;left;refine az z2.at rfl rfl rfl ?_;left;refine aX (z2.get .k3) (c9 hin.1 nofun) ?_;left;refine Ak z2 (ol rfl) (λt H2 z3=>?_);refine⟨_,z3.get (.j2 .k3),zp z3 (.j2 .k3) 4e0 (λH3 z4=>?_)⟩;have z5:=fS.snoc (p:=(i,v)) (z4.pull (.j2 (.t .k3))) z4.at;have em:ts.map ut++[ut t]=(ts++[t]).map ut:=by rw[dL];rfl
  rw[em]at z5;refine q0 hm H3 (Sep.push p' (w9 (dx:=dx) (lb:=lb) (ts:=ts++[t]) ⟨by rw[length_set];exact h.1,by rw[ci,f8];omega⟩ (z5.sub 0e1)))
 .have z3:=w9 h (z2.sub (Γ':=pt a 3e5::pt dx (.own a)::ar R s cs ws::pt lb (wp (c0.map v0))::pt lc (wp (ts.map ut))::fS ts c0 g::fB (R.cad 3) [("deed",v4 "put"),("cell",v0 i)] e false::Δ) 0e1);exact Sep.push (.t p) z3
end
section
variable {b a sa lc:Addr}{h t l w s m i j by':Int}{c0 cs:List Int}{ws:List Str}
def uk (hk:5<=k)(z:Sep O H)(r:aO (dc R a sa lc c0 [] cs ws) (dc R a sa lc c0 [(j,gt cs i)] (cs.set j.toNat (gt cs i)) ws) O Γ')(q0:ah ws "look" i=true->ah ws "put" j=true->∀ H',Sep Γ' H'->Q wf H')
  (q1:ah ws "look" i=false->∀ e H',Sep (fB (R.cad 3) [("deed",v4 "look"),("cell",v0 i)] e false::O) H'->E e H')
  (q2:ah ws "look" i=true->ah ws "put" j=false->∀ e H',Sep (fB (R.cad 3) [("deed",v4 "put"),("cell",v0 j)] e false::O) H'->E e H'):aa tab R k 66 [ut a,v0 i,v0 j] H Q E:=by
 obtain⟨Δ,p1,p2⟩:=r.bp;have ok:=(fO z p1).1;delta ue;right;refine ae eE z p1 rfl rfl ?_;left;refine fg nofun z p1 (λhm=>?_) q1;right;refine ae eE z p1 rfl rfl ?_;left;refine mh (g:=[]) nofun 1e1 z r (cU ok.2.2.2) (λhp H1 z1=>?_) (q2 hm);right;exact q0 hm hp H1 z1
def pE (hk:4<=k)(z:Sep O H)(p:ag (dc R a sa lc c0 [] cs ws) O Δ)(q0:ah ws "put" i=true->Q wf H)
  (q1:ah ws "put" i=false->∀ e H',Sep (fB (R.cad 3) [("deed",v4 "put"),("cell",v0 i)] e false::O) H'->E e H'):aa tab R k 65 [ut a,v0 i] H Q E:=by
 delta kB;right;refine ae eE z p rfl rfl ?_;left;refine G2 nofun z p ?_;right;refine bZ (λhm=>?_) (λhm=>?_)
 .right;exact q0 hm
 .right;intro x hx;refine dA nofun (z.new hx) (λd H hs=>?_);right;exact dM hs (by ac_rfl) rfl (λH hs=>q1 hm x H (hU hs))
def tZ (hk:5<=k)(z:Sep O H)(r:∀ v w:Int,∃ Γ1,aO (dc R a sa lc c0 [] cs ws) (dc R a sa lc c0 [(i,v)] (cs.set i.toNat v) ws) O Γ1/\aO (dc R a sa lc c0 [(i,v)] (cs.set i.toNat v) ws) (dc R a sa lc c0 [(i,v),(j,w)] ((cs.set i.toNat v).set j.toNat w) ws) Γ1 (Γf v w)) (q0:ah ws "look" i=true->ah ws "look" j=true->ah ws "put" i=true->ah ws "put" j=true->∀ H',Sep (Γf (gt cs j) (gt cs i)) H'->Q wf H')
  (q1:ah ws "look" i=false->∀ e H',Sep (fB (R.cad 3) [("deed",v4 "look"),("cell",v0 i)] e false::O) H'->E e H')
  (q2:ah ws "look" i=true->ah ws "look" j=false->∀ e H',Sep (fB (R.cad 3) [("deed",v4 "look"),("cell",v0 j)] e false::O) H'->E e H')
  (q3:ah ws "look" i=true->ah ws "look" j=true->ah ws "put" i=false->∀ e H',Sep (fB (R.cad 3) [("deed",v4 "put"),("cell",v0 i)] e false::O) H'->E e H')
  (q4:ah ws "look" i=true->ah ws "look" j=true->ah ws "put" i=true->ah ws "put" j=false->∀ e H',Sep (fB (R.cad 3) [("deed",v4 "put"),("cell",v0 j)] e false::O) H'->E e H'):aa tab R k 67 [ut a,v0 i,v0 j] H Q E:=by
 obtain⟨Γ1,r1,r2⟩:=r (gt cs j) (gt cs i);obtain⟨Δ,p1,p2⟩:=r1.bp;obtain⟨Δ2,p3,p4⟩:=r2.bp;have ok:=(fO z p1).1;delta iD;right;refine ae eE z p1 rfl rfl ?_;left;refine fg nofun z p1 (λh1=>?_) q1;right;refine ae eE z p1 rfl rfl ?_;left;refine fg nofun z p1 (λh2=>?_) (q2 h1);right;refine pE nofun z p1 (λh3=>?_) (q3 h1 h2);right;refine pE nofun z p1 (λh4=>?_) (q4 h1 h2 h3);right;refine ae eE z p1 rfl rfl ?_;left;refine mh (g:=[]) nofun 1e1 z r1 (cU ok.2.2.2) (λhp H1 z1=>?_) (λhp=>absurd (h3.symm.trans hp) 1e1);right;refine ae eE z1 p3 rfl rfl ?_;left;refine mh (g:=[_]) nofun (Nat.lt_of_sub_eq_succ rfl) z1 r2 (cU ok.2.2.2) (λhp H2 z2=>?_) (λhp=>absurd (h4.symm.trans hp) 1e1);right;exact q0 h1 h2 h3 h4 H2 z2
end
abbrev gL (x:Bx)(cs:List Int):Wd->List (Int×Int)
 | .copy=>if x.l=0 then[] else[(x.t,gt cs x.h)]
 | .fill=>if x.l=0 then[] else[(x.t,x.s)]
 | .shift=>if x.l=0 then[] else if x.t<=x.h then[(x.t,gt cs x.h)] else[(x.t+x.l-1,gt cs (x.h+x.l-1))]
 | .turn=>if x.l=0 then[] else if x.l=1 then[] else[(x.h,gt cs (x.h+x.l-1)),(x.h+x.l-1,gt cs x.h)]
 |_=>[]
abbrev lY (R:Rt)(b a sa lc:Addr)(c0:List Int)(g:List (Int×Int))(x:Bx)(cs:List Int)(ws:List Str)(O:List ay)(Q:VK)(E:XK):Out->Prop
 | .on r x' cs'=>∀ H',Sep (ai R b x'::dc R a sa lc c0 g cs' ws::O) H'->Q (v0 r) H'
 | .no d c=>∀ e H',Sep (fB (R.cad 3) [("deed",v4 d),("cell",v0 c)] e false::ai R b x::dc R a sa lc c0 [] cs ws::O) H'->E e H'
section
variable {b a sa lc:Addr}{h t l w s m i j by':Int}{c0 cs:List Int}{ws:List Str}
def B8 (ro:Ro K R)(hk:7<=k)(z:Sep (ai R b x::dc R a sa lc c0 [] cs ws::O) H)(q:lY R b a sa lc c0 (gL x cs .shift) x cs ws O Q E (dN x cs ws)):aa tab R k 76 [v,ut b,ut a] H Q E:=by
 have ok:=fv z .e;have sk:=(fO z .k1).1;obtain⟨h,t,l,w,s,m⟩:=x;obtain⟨⟨o1,o2⟩,⟨o3,o4⟩,⟨o5,o6⟩,o7⟩:=ok;dsimp only at o1 o2 o3 o4 o5 o6;obtain⟨s1,s2,s3,s4⟩:=sk;delta eU;walk_at "ws";refine aE 4e4 4e4
 .walk_at "ws";rw[gL,dN,if_pos e,if_pos e]at q;exact q H z
 rw[gL,dN,if_neg e,if_neg e]at q;walk_at "ws";refine aG (λe2=>?_) (λe2=>?_)
 .rw[if_pos e2,if_pos e2]at q;walk_at "ws";refine uk nofun z .k1 (λh1 h2 H1 z1=>?_) (λh1=>?_) (λh1 h2=>?_)
  .have g1:=ak h1;have g2:=ak h2;rw[hm,if_pos h1,if_pos h2]at q;walk_at "ws";refine A9 ro nofun z1 .e nofun (λH2 z2=>?_);walk_at "ws";refine GN ro nofun z2 .e nofun (λH3 z3=>?_);walk_at "ws";exact g7 ro nofun z3 .e nofun (λH4 z4=>q H4 z4)
  .rw[hm,if_neg (by rw[h1];decide)]at q;exact q
  .rw[hm,if_pos h1,if_neg (by rw[h2];decide)]at q;exact q
 .rw[if_neg e2,if_neg e2]at q;walk_at "ws";refine uk nofun z .k1 (λh1 h2 H1 z1=>?_) (λh1=>?_) (λh1 h2=>?_)
  .rw[hm,if_pos h1,if_pos h2]at q;walk_at "ws";exact g7 ro nofun z1 .e nofun (λH4 z4=>q H4 z4)
  .rw[hm,if_neg (by rw[h1];decide)]at q;exact q
  .rw[hm,if_pos h1,if_neg (by rw[h2];decide)]at q;exact q
def C5 (ro:Ro K R)(hk:7<=k)(z:Sep (ai R b x::dc R a sa lc c0 [] cs ws::O) H)(q:lY R b a sa lc c0 (gL x cs .turn) x cs ws O Q E (iw x cs ws)):aa tab R k 78 [v,ut b,ut a] H Q E:=by
 have ok:=fv z .e;have sk:=(fO z .k1).1;obtain⟨h,t,l,w,s,m⟩:=x;obtain⟨⟨o1,o2⟩,⟨o3,o4⟩,⟨o5,o6⟩,o7⟩:=ok;dsimp only at o1 o2 o3 o4 o5 o6;obtain⟨s1,s2,s3,s4⟩:=sk;delta gu;walk_at "ws";refine aE 4e4 4e4
 .walk_at "ws";rw[gL,iw,if_pos e,if_pos e]at q;exact q H z
 rw[gL,iw,if_neg e,if_neg e]at q;walk_at "ws";refine aE (λe2=>?_) (λe2=>?_)
 .rw[if_pos e2,if_pos e2]at q;walk_at "ws";refine g7 ro nofun z .e nofun (λH4 z4=>?_);subst e2;exact q H4 z4
 .rw[if_neg e2,if_neg e2]at q;walk_at "ws";refine tZ (Γf:=λv w'=>ai R b ⟨h,t,l,w,s,m⟩::dc R a sa lc c0 [(h,v),(h+l-1,w')] ((cs.set h.toNat v).set (h+l-1).toNat w') ws::O) nofun z (λv w=>⟨_,.t .e,.t .e⟩) (λh1 h2 h3 h4 H1 z1=>?_) (λh1=>?_) (λh1 h2=>?_) (λh1 h2 h3=>?_) (λh1 h2 h3 h4=>?_)
  .have g1:=ak h1;rw[xm,if_pos h1,if_pos h2,if_pos h3,if_pos h4]at q;walk_at "ws";refine A9 ro nofun z1 .e nofun (λH2 z2=>?_);walk_at "ws";exact g7 ro nofun z2 .e nofun (λH4 z4=>q H4 z4)
  .rw[xm,if_neg (by rw[h1];decide)]at q;exact q
  .rw[xm,if_pos h1,if_neg (by rw[h2];decide)]at q;exact q
  .rw[xm,if_pos h1,if_pos h2,if_neg (by rw[h3];decide)]at q;exact q
  .rw[xm,if_pos h1,if_pos h2,if_pos h3,if_neg (by rw[h4];decide)]at q;exact q
def CW (ro:Ro K R)(hk:8<=k)(z:Sep (ai R b x::dc R a sa lc c0 [] cs ws::O) H)(q:lY R b a sa lc c0 (gL x cs .copy) x cs ws O Q E (iu x cs ws)):aa tab R k 68 [v,ut b,ut a] H Q E:=by
 have ok:=fv z .e;have sk:=(fO z .k1).1;obtain⟨h,t,l,w,s,m⟩:=x;obtain⟨⟨o1,o2⟩,⟨o3,o4⟩,⟨o5,o6⟩,o7,o8⟩:=ok;dsimp only at o1 o2 o3 o4 o5 o6 o7;obtain⟨s1,s2,s3,s4⟩:=sk;delta gB;walk_at "ws";refine aE 4e4 4e4
 .walk_at "ws";rw[gL,iu,if_pos e,if_pos e]at q;exact q H z
 rw[gL,iu,if_neg e,if_neg e]at q;walk_at "ws";refine uk nofun z .k1 (λh1 h2 H1 z1=>?_) (λh1=>?_) (λh1 h2=>?_)
 .have g1:=ak h1;have g2:=ak h2;rw[hm,if_pos h1,if_pos h2]at q;walk_at "ws";refine xA ro nofun z1 .e nofun (λH2 z2=>?_);walk_at "ws";refine yX ro nofun z2 .e nofun (λH3 z3=>?_);walk_at "ws";exact g7 ro nofun z3 .e nofun (λH4 z4=>q H4 z4)
 .rw[hm,if_neg (nt h1)]at q;exact q
 .rw[hm,if_pos h1,if_neg (nt h2)]at q;exact q
def CA (ro:Ro K R)(hk:8<=k)(z:Sep (ai R b x::dc R a sa lc c0 [] cs ws::O) H)(q:lY R b a sa lc c0 (gL x cs .fill) x cs ws O Q E (hV x cs ws)):aa tab R k 70 [v,ut b,ut a] H Q E:=by
 have ok:=fv z .e;have sk:=(fO z .k1).1;obtain⟨h,t,l,w,s,m⟩:=x;obtain⟨⟨o1,o2⟩,⟨o3,o4⟩,⟨o5,o6⟩,o7,o8,o9⟩:=ok;dsimp only at o1 o2 o3 o4 o5 o6 o7 o8;obtain⟨s1,s2,s3,s4⟩:=sk;delta gz;walk_at "ws";refine aE 4e4 4e4
 .walk_at "ws";rw[gL,hV,if_pos e,if_pos e]at q;exact q H z
 rw[gL,hV,if_neg e,if_neg e]at q;walk_at "ws";refine ae eE z .k1 rfl rfl ?_;walk_at "ws";refine mh (g:=[]) nofun 1e1 z .k1 o8 (λh2 H1 z1=>?_) (λh2=>?_)
 .have g2:=ak h2;rw[if_pos h2]at q;walk_at "ws";refine yX ro nofun z1 .e nofun (λH3 z3=>?_);walk_at "ws";exact g7 ro nofun z3 .e nofun (λH4 z4=>q H4 z4)
 .rw[if_neg (nt h2)]at q;exact q
set_option tactic.hygienic true in
def D6 (ro:Ro K R)(hk:8<=k)(z:Sep (ai R b x::dc R a sa lc c0 [] cs ws::O) H)(q:lY R b a sa lc c0 (gL x cs .seek) x cs ws O Q E (hX x cs ws)):aa tab R k 72 [v,ut b,ut a] H Q E:=by
 have ok:=fv z .e;have sk:=(fO z .k1).1;obtain⟨h,t,l,w,s,m⟩:=x;obtain⟨⟨o1,o2⟩,⟨o3,o4⟩,⟨o5,o6⟩,o7,o8⟩:=ok;dsimp only at o1 o2 o3 o4 o5 o6 o7;obtain⟨s1,s2,s3,s4⟩:=sk;delta gy;walk_at "ws";refine aE 4e4 4e4
 .rw[hX,if_pos e]at q;walk_at "ws";rename_i H1 z1;exact q _ z1
 rw[hX,if_neg e]at q;walk_at "ws";refine ae eE z .k1 rfl rfl ?_;walk_at "ws";refine fg nofun z .k1 (λh1=>?_) (λh1=>?_)
 .have g1:=ak h1;rw[if_pos h1]at q;walk_at "ws";refine aE 4e4 4e4
  .rw[if_pos e]at q;walk_at "ws";rename_i H1 z1;exact q _ z1
  .rw[if_neg e]at q;walk_at "ws";rename_i H1 z1;refine xA ro nofun z1 .e nofun (λH3 z3=>?_);walk_at "ws";exact g7 ro nofun z3 .e nofun (λH4 z4=>q H4 z4)
 .rw[if_neg (nt h1)]at q;exact q
set_option tactic.hygienic true in
def Bm (ro:Ro K R)(hk:8<=k)(z:Sep (ai R b x::dc R a sa lc c0 [] cs ws::O) H)(q:lY R b a sa lc c0 (gL x cs .mtch) x cs ws O Q E (dO x cs ws)):aa tab R k 74 [v,ut b,ut a] H Q E:=by
 have ok:=fv z .e;have sk:=(fO z .k1).1;obtain⟨h,t,l,w,s,m⟩:=x;obtain⟨⟨o1,o2⟩,⟨o3,o4⟩,⟨o5,o6⟩,o7,o8⟩:=ok;dsimp only at o1 o2 o3 o4 o5 o6 o7;obtain⟨s1,s2,s3,s4⟩:=sk;delta eW;walk_at "ws";refine aE 4e4 4e4
 .rw[dO,if_pos e]at q;walk_at "ws";rename_i H1 z1;exact q _ z1
 rw[dO,if_neg e]at q;walk_at "ws";refine ae eE z .k1 rfl rfl ?_;walk_at "ws";refine fg nofun z .k1 (λh1=>?_) (λh1=>?_)
 .have g1:=ak h1;rw[if_pos h1]at q;walk_at "ws";refine ae eE z .k1 rfl rfl ?_;walk_at "ws";refine fg nofun z .k1 (λh2=>?_) (λh2=>?_)
  .have g2:=ak h2;rw[if_pos h2]at q;walk_at "ws";refine aE 4e4 4e4
   .rw[if_pos e]at q;walk_at "ws";rename_i H1 z1;refine xA ro nofun z1 .e nofun (λH2 z2=>?_);walk_at "ws";refine yX ro nofun z2 .e nofun (λH3 z3=>?_);walk_at "ws";exact g7 ro nofun z3 .e nofun (λH4 z4=>q H4 z4)
   .rw[if_neg e]at q;walk_at "ws";rename_i H1 z1;exact q _ z1
  .rw[if_neg (nt h2)]at q;exact q
 .rw[if_neg (nt h1)]at q;exact q
end
abbrev gS (x:Bx):Sp->List (Int×Int)
 | .write n=>[(x.t,x.g n)]
 |_=>[]
abbrev di (R:Rt)(b a sa lc:Addr)(c0:List Int)(g:List (Int×Int))(x:Bx)(cs:List Int)(ws:List Str)(O:List ay)(Q:VK)(E:XK):se->Prop
 | .on x' cs'=>∀ H',Sep (ai R b x'::dc R a sa lc c0 g cs' ws::O) H'->Q (v0 1) H'
 | .no d c=>∀ e H',Sep (fB (R.cad 3) [("deed",v4 d),("cell",v0 c)] e false::ai R b x::dc R a sa lc c0 [] cs ws::O) H'->E e H'
 | .nf n i=>∀ e H',Sep (fB (R.cad 4) [("box",v4 n.nm),("number",v0 i)] e false::ai R b x::dc R a sa lc c0 [] cs ws::O) H'->E e H'
def lJ {b sa lc:Addr}{cs:List Int}{ws:List Str}{n:Bn}(ro:Ro K R)(hk:4<=k)(z:Sep (ai R b x::dc R a sa lc c0 [] cs ws::O) H)(q:di R b a sa lc c0 [] x cs ws O (λ_=>Q wf) E (bh x cs n i)):aa tab R k 15 [ut b,v4 n.nm,v0 i] H Q E:=by
 unfold bh at q;refine KL ro hk z (λh H' z'=>?_) (λh e H' z'=>?_)
 .rw[if_pos h]at q;exact q H' z'
 .rw[if_neg (by rw[h];exact Bool.false_ne_true)]at q;exact q e H' z'
def di.imp {b sa lc:Addr}{g:List (Int×Int)}{cs:List Int}{ws:List Str}{Q':VK}(h:∀ H',Q (v0 1) H'->Q' (v0 1) H'):∀ {o:se},di R b a sa lc c0 g x cs ws O Q E o->di R b a sa lc c0 g x cs ws O Q' E o
 | .on _ _,q=>λH' z=>h _ (q H' z)
 | .no _ _,q=>q
 | .nf _ _,q=>q
def CG (sp:Sp)(ro:Ro K R):∃ f,tab.me.lookup (sp.cl,("step":Str))=some f/\(∀ Ψ,dflt ⟨tab,R,Ψ,.calm⟩ f 3=[])/\∀ {k:Nat}{de b a sa lc:Addr}{c0:List Int}{x:Bx}{cs:List Int}{ws:List Str}{O:List ay}{H:Hp}{Q:VK}{E:XK},5<=k->Sep (ai R b x::dc R a sa lc c0 [] cs ws::sd R de sp::O) H->di R b a sa lc c0 (gS x sp) x cs ws (sd R de sp::O) Q E (iW x cs ws sp)->aa tab R k f [ut de,ut b,ut a] H Q E:=by
 cases sp with
 |set n i=>
  refine⟨21,rfl,λ_=>rfl,λ{k de b a sa lc c0 x cs ws O H Q E} hk z q=>wc (d:=iK) nofun rfl rfl ?_⟩;obtain⟨dx,e⟩:=gC z 1e6;right;refine ae aN z 1e6 rfl rfl ?_;left;refine az e rfl rfl rfl ?_;left;refine az e rfl rfl rfl ?_;left;refine aC (vs':=[_,_,_]) rfl ?_;exact lJ ro nofun z (di.imp (Q:=Q) (λH' h=>h) q)
 |add n i=>
  refine⟨24,rfl,λ_=>rfl,λ{k de b a sa lc c0 x cs ws O H Q E} hk z q=>wc (d:=i4) nofun rfl rfl ?_⟩;obtain⟨dx,e⟩:=gC z 1e6;right;refine ae aN z 1e6 rfl rfl ?_;left;refine az e rfl rfl rfl ?_;right;refine ae aN z 1e6 rfl rfl ?_;left;refine az e rfl rfl rfl ?_;left;refine aC (vs':=[_,_]) rfl ?_;refine nQ (n:=n) ro nofun z 1e6 ?_;left;refine az e rfl rfl rfl ?_;right;refine aC (vs':=[_,_,_]) rfl ?_;exact lJ ro nofun z (di.imp (Q:=Q) (λH' h=>h) q)
 |take n m=>
  refine⟨27,rfl,λ_=>rfl,λ{k de b a sa lc c0 x cs ws O H Q E} hk z q=>wc (d:=gJ) nofun rfl rfl ?_⟩;obtain⟨dx,e⟩:=gC z 1e6;right;refine ae aN z 1e6 rfl rfl ?_;left;refine az e rfl rfl rfl ?_;right;refine ae aN z 1e6 rfl rfl ?_;left;refine az e rfl rfl rfl ?_;left;refine aC (vs':=[_,_]) rfl ?_;refine nQ (n:=m) ro nofun z 1e6 ?_;left;refine aC (vs':=[_,_,_]) rfl ?_;exact lJ ro nofun z (di.imp (Q:=Q) (λH' h=>h) q)
 |read n=>
  refine⟨30,rfl,λ_=>rfl,λ{k de b a sa lc c0 x cs ws O H Q E} hk z q=>wc (d:=gd) nofun rfl rfl ?_⟩;obtain⟨dx,e⟩:=gC z 1e6;right;refine ae aN z 1e6 rfl rfl ?_;left;refine az e rfl rfl rfl ?_;right;refine ae eE z 1e6 rfl rfl ?_;right;refine ae aN z 1e6 rfl rfl ?_;left;refine aC (vs':=[_,_]) rfl ?_;refine nQ (n:=.h) ro nofun z 1e6 ?_;left;refine aC (vs':=[_,_]) rfl ?_;have q:di R b a sa lc c0 [] x cs ws (sd R de (.read n)::O) Q E 3e3:=q;refine fg (i:=x.h) nofun z 1e6 (λh=>?_) (λh e H' z'=>?_)
  .rw[if_pos h]at q;left;refine aC (vs':=[_,_,_]) rfl ?_;exact lJ ro nofun z (di.imp (Q:=Q) (λH' h=>h) q)
  .rw[if_neg (by rw[h];exact Bool.false_ne_true)]at q;exact q e H' z'
 |write n=>
  refine⟨33,rfl,λ_=>rfl,λ{k de b a sa lc c0 x cs ws O H Q E} hk z q=>wc (d:=eX) nofun rfl rfl ?_⟩;obtain⟨dx,e⟩:=gC z 1e6;have q:di R b a sa lc c0 [(x.t,x.g n)] x cs ws (sd R de (.write n)::O) Q E 1e0:=q;right;refine ae aN z 1e6 rfl rfl ?_;left;refine az e rfl rfl rfl ?_;left;refine aC (vs':=[_,_]) rfl ?_;refine nQ (n:=n) ro nofun z 1e6 ?_;right;refine b9 (t:="int") ro nofun rfl ?_;cases hc:fA (v0 (x.g n)) with
  |false=>
   rw[if_neg (by rw[hc];exact Bool.false_ne_true)]at q;right;refine az e rfl rfl rfl ?_;right;intro ex he;refine fk nofun (z.new he) (λd H3 hs3=>⟨rfl,?_⟩);exact dM (G:=⟨tab,R,aa tab R (k-1),.calm⟩) hs3 .e rfl (λH4 hs4=>q ex H4 (hU hs4))
  |true=>
   rw[if_pos hc]at q;right;refine ae eE z 1e6 rfl rfl ?_;right;refine ae aN z 1e6 rfl rfl ?_;left;refine aC (vs':=[_,_]) rfl ?_;refine nQ (n:=.t) ro nofun z 1e6 ?_;left;refine aC (vs':=[_,_,_]) rfl ?_;have hc2:0<=x.g n/\x.g n<=1000000000:=by
    have hc3:(decide (0<=x.g n)&&decide (x.g n<=1000000000))=true:=hc;simpa using hc3
   refine mh (g:=[]) (i:=x.t) nofun 1e1 z .k1 hc2 (λh H' z'=>?_) (λh e H' z'=>?_)
   .rw[if_pos h]at q;exact q H' z'
   .rw[if_neg (by rw[h];exact Bool.false_ne_true)]at q;exact q e H' z'
def w_any (wd:Wd)(ro:Ro K R):∃ f,tab.me.lookup (wd.cl,("step":Str))=some f/\(∀ Ψ,dflt ⟨tab,R,Ψ,.calm⟩ f 3=[])/\∀ {k:Nat}{v:V}{b a sa lc:Addr}{c0:List Int}{x:Bx}{cs:List Int}{ws:List Str}{O:List ay}{H:Hp}{Q:VK}{E:XK},8<=k->Sep (ai R b x::dc R a sa lc c0 [] cs ws::O) H->lY R b a sa lc c0 (gL x cs wd) x cs ws O Q E (bR wd x cs ws)->aa tab R k f [v,ut b,ut a] H Q E:=by
 cases wd
 .exact⟨68,rfl,λ_=>rfl,λhk z q=>CW ro hk z q⟩
 .exact⟨70,rfl,λ_=>rfl,λhk z q=>CA ro hk z q⟩
 .exact⟨72,rfl,λ_=>rfl,λhk z q=>D6 ro hk z q⟩
 .exact⟨74,rfl,λ_=>rfl,λhk z q=>Bm ro hk z q⟩
 .exact⟨76,rfl,λ_=>rfl,λhk z q=>B8 ro nofun z q⟩
 .exact⟨78,rfl,λ_=>rfl,λhk z q=>C5 ro nofun z q⟩
abbrev gR (x:Bx)(cs:List Int):Rw->List (Int×Int)
 | .lg w=>gL x cs w
 | .sp s=>gS x s
 | .hop _ _=>[]
abbrev t8 (R:Rt)(b a sa lc:Addr)(c0:List Int)(g:List (Int×Int))(x:Bx)(cs:List Int)(ws:List Str)(O:List ay)(Q:VK)(E:XK):iP->Prop
 | .on r x' cs'=>∀ H',Sep (ai R b x'::dc R a sa lc c0 g cs' ws::O) H'->Q (v0 r) H'
 | .no d c=>∀ e H',Sep (fB (R.cad 3) [("deed",v4 d),("cell",v0 c)] e false::ai R b x::dc R a sa lc c0 [] cs ws::O) H'->E e H'
 | .nf n i=>∀ e H',Sep (fB (R.cad 4) [("box",v4 n.nm),("number",v0 i)] e false::ai R b x::dc R a sa lc c0 [] cs ws::O) H'->E e H'
def CK (r:Rw)(ro:Ro K R):∃ f,tab.me.lookup (r.cl,("step":Str))=some f/\(∀ Ψ,dflt ⟨tab,R,Ψ,.calm⟩ f 3=[])/\∀ {k:Nat}{de b a sa lc:Addr}{c0:List Int}{x:Bx}{cs:List Int}{ws:List Str}{O:List ay}{H:Hp}{Q:VK}{E:XK},8<=k->Sep (ai R b x::dc R a sa lc c0 [] cs ws::eB R de r::O) H->t8 R b a sa lc c0 (gR x cs r) x cs ws (eB R de r::O) Q E (bE x cs ws r)->aa tab R k f [ut de,ut b,ut a] H Q E:=by
 cases r with
 |lg w=>
  obtain⟨f,hf,hd,hs⟩:=w_any w ro;refine⟨f,hf,hd,λ{k de b a sa lc c0 x cs ws O H Q E} hk z q=>hs hk z ?_⟩;have q:t8 R b a sa lc c0 (gL x cs w) x cs ws (eB R de (.lg w)::O) Q E (ofM (bR w x cs ws)):=q
  revert q
  cases bR w x cs ws<;>exact λq=>q
 |sp s=>
  obtain⟨f,hf,hd,hs⟩:=CG s ro;refine⟨f,hf,hd,λ{k de b a sa lc c0 x cs ws O H Q E} hk z q=>hs nofun z ?_⟩;have q:t8 R b a sa lc c0 (gS x s) x cs ws (eB R de (.sp s)::O) Q E (i6 (iW x cs ws s)):=q
  revert q
  cases iW x cs ws s<;>exact λq=>q
 |hop n o=>
  refine⟨60,rfl,λ_=>rfl,λ{k de b a sa lc c0 x cs ws O H Q E} hk z q=>?_⟩;exact vW ro nofun z .k2 .e (q H z)
abbrev iP.g (g:List (Int×Int)):iP->List (Int×Int)
 | .on _ _ _=>g
 |_=>[]
set_option tactic.hygienic true in
def CB {de b sa lc:Addr}{cs:List Int}{ws:List Str}(r:Rw)(ro:Ro K R)(hk:9<=k)(z:Sep (ai R b x::dc R a sa lc c0 [] cs ws::eB R de r::O) H)
  (q:∀ t H',Sep (MP t (bE x cs ws r)::ai R b ((bE x cs ws r).bx x)::dc R a sa lc c0 ((bE x cs ws r).g (gR x cs r)) ((bE x cs ws r).cs cs) ws::eB R de r::O) H'->Q (ut t) H'):aa tab R k 37 [ut de,ut b,ut a] H Q E:=by
 obtain⟨f,hf,hd,hst⟩:=CK r ro;delta qe;right;refine ae (wC r) z .k2 (by cases r with|lg w=>rfl|sp s=>cases s<;>rfl|hop n o=>rfl) hf ?_;left;refine aC (vs':=[ut de,ut b,ut a]) (by show _::(_++dflt _ _ 3)=_;rw[hd];rfl) ?_;refine hst nofun z ?_
 revert q
 cases bE x cs ws r with
 |on n x' cs'=>
  intro q H1 z1;right;rename_i t H3 z3;exact q t H3 z3.toT
 |no d c=>
  intro q e H1 z1;obtain⟨dx,z2⟩:=wF z1;refine⟨3,_,_,true,z2.at,rfl,rfl,?_⟩;left;refine aJ rfl ?_;right;rename_i te H3 z3 t H4 z4;have z5:=(z4.toT.pull .k1).toT;exact q t H4 (iH te (z5.sub (.cons .k1 (.cons .e (.drop (.drop .refl))))))
 |nf n i=>
  intro q e H1 z1;obtain⟨dx,z2⟩:=wF z1;refine⟨4,_,_,false,z2.at,rfl,rfl,?_⟩;left;refine au rfl ?_;left;refine⟨4,_,_,true,z2.at,rfl,rfl,?_⟩;left;refine aJ rfl ?_;right;rename_i te H3 z3 t H4 z4;have z5:=(z4.toT.pull .k1).toT;exact q t H4 (iH te (z5.sub (.cons .k1 (.cons .e (.drop (.drop .refl))))))
abbrev bw (R:Rt)(m l s b en:Addr)(at_:Int)(ds:List V):ay:=bx λdx:Addr=>[pt m 1e2,pt dx (.own m),pt l (wp ds)]
section
variable {m l s b a lc en:Addr}{at_:Int}{ds:List V}{rs:List Rw}{x:Bx}{c0 cs:List Int}{ws:List Str}
def pO (z:Sep (bw R m l s b en at_ ds::O) H):∃ dx,Sep (pt m 1e2::pt dx (.own m)::pt l (wp ds)::O) H:=gp z
def uS (z:Sep (pt m 1e2::pt dx (.own m)::pt l (wp ds)::O) H):Sep (bw R m l s b en at_ ds::O) H:=iH dx z
def cV:Ob R (bw R m l s b en at_ ds) m 18 ["deeds","store","boxes","at","entries"]:=by
 rintro H D ⟨dx,D1,D2,_,_,_,⟨_,h⟩,_⟩;exact⟨dx,_,h,rfl⟩
def sV:Mk R (bw R m l s b en at_ ds) m l s b at_ ds:=⟨λz=>let⟨dx,z⟩:=pO z;⟨18,dx,[("entries",ut en)],⟨rfl,J4 rfl,rfl,rfl⟩,z⟩⟩
abbrev gM (rs:List Rw)(at_:Int)(x:Bx)(cs:List Int)(ws:List Str):List (Int×Int):=match rs[at_.toNat]? with
 |none=>[]
 |some r=>(bE x cs ws r).g (gR x cs r)
set_option tactic.hygienic true in
def yQ (ro:Ro K R)(hk:10<=k)(h0:0<=at_)(h1:at_<=ds.length)(hd:bA R O ds rs)(z:Sep (bw R m l s b en at_ ds::dc R a s lc c0 [] cs ws::ai R b x::O) H)
  (q:∀ H',Sep (bw R m l s b en 0e3.at_ ds::dc R a s lc c0 (gM rs at_ x cs ws) 0e3.cs ws::ai R b 0e3.x::O) H'->Q (v4 0e3.w) H'):aa tab R k 40 [ut m,ut a] H Q E:=by
 delta cf;unfold mS gM at q;right;refine ae cV z .e rfl rfl ?_;left;refine jI sV nofun z .e ?_
 by_cases he:at_=ds.length
 .rw[decide_eq_true he];right;rw[getElem?_eq_none (by have:=hd.1;omega)]at q;exact q H z
 .rw[decide_eq_false he];have hlt:at_.toNat<rs.length:=by have:=hd.1;omega
  have er:rs[at_.toNat]? =some rs[at_.toNat]:=li hlt;generalize rs[at_.toNat]=r at er;obtain⟨de,Δ,e2,p⟩:=hd.2 _ _ er;rw[er]at q;dsimp only at q;obtain⟨dx,z1⟩:=pO z;right;refine aX (i:=at_) 2e8 (aW h0 e2) ?_;right;have z2:Sep (ai R b x::dc R a s lc c0 [] cs ws::eB R de r::pt m 1e2::pt dx (.own m)::pt l (wp ds)::Δ) H:=z1.sub (.cons (.t .k3) (.cons .k3 (.cons (.j2 (.t p)) .refl)));refine CB r ro nofun z2 (λt H2 z3=>?_);clear z z1 z2
  revert q z3
  cases bE x cs ws r with
  |on n x' cs'=>
   intro q z3;have z3:Sep (tu t [v0 n,wf]::ai R b x'::dc R a s lc c0 (gR x cs r) cs' ws::eB R de r::pt m 1e2::pt dx (.own m)::pt l (wp ds)::Δ) H2:=z3;right;refine cH ?_;left;refine au rfl ?_;right;rename_i H4 z4;rw[hd.1]at z4;refine q H4 (uS (dx:=dx) ?_);exact(z4.sub (Γ':=eB R de r::pt m _::pt dx (.own m)::pt l (wp ds)::dc R a s lc c0 (gR x cs r) cs' ws::ai R b x'::Δ) 0e1).push (.j2 (.j2 (.t p)))
  |no d c=>
   intro q z3;obtain⟨te,z4⟩:=gp z3;have z4:Sep (tu t [wf,ut te]::tu te [v4 d,v0 c]::ai R b x::dc R a s lc c0 [] cs ws::eB R de r::pt m 1e2::pt dx (.own m)::pt l (wp ds)::Δ) H2:=z4;right;refine cH ?_;left;refine aJ rfl ?_;refine q H2 (uS (dx:=dx) ?_);exact(z4.sub (Γ':=eB R de r::pt m _::pt dx (.own m)::pt l (wp ds)::dc R a s lc c0 [] cs ws::ai R b x::Δ) 0e1).push (.j2 (.j2 (.t p)))
  |nf n i=>
   intro q z3;obtain⟨te,z4⟩:=gp z3;have z4:Sep (tu t [wf,ut te]::tu te [v4 "fit",v4 n.nm]::ai R b x::dc R a s lc c0 [] cs ws::eB R de r::pt m 1e2::pt dx (.own m)::pt l (wp ds)::Δ) H2:=z4;right;refine cH ?_;left;refine aJ rfl ?_;refine q H2 (uS (dx:=dx) ?_);exact(z4.sub (Γ':=eB R de r::pt m _::pt dx (.own m)::pt l (wp ds)::dc R a s lc c0 [] cs ws::ai R b x::Δ) 0e1).push (.j2 (.j2 (.t p)))
end
section
variable {m l s b a lc en:Addr}{at_:Int}{ds es:List V}{rs:List Rw}{x:Bx}{c0 cs:List Int}{ws:List Str}
set_option tactic.hygienic true in
def yT (ro:Ro K R)(hk:3<=k)(z:Sep (pt a (wv (R.cad 17) dx [])::pt dx (.own a)::ar R s cs ws::O) H)
  (q:∀ lc H',Sep (dc R a s lc cs [] cs ws::O) H'->Q wf H'):aa tab R k 49 [ut a,ut s] H Q E:=by
 delta dX;right;rename_i H1 z1;clear z;refine ae aZ z1 .k2 rfl rfl ?_;left;refine vM nofun z1 .k2 (λlb H2 z2=>?_);right;rename_i H3 z3 lc H4 z4 H5 z5;refine q lc H5 (w9 (dx:=dx) (lb:=lb) (ts:=[]) ⟨rfl,Nat.zero_le _⟩ ?_);have z6:Sep (fS [] cs []::_) H5:=z5.free λ_=>⟨rfl,λi t p e=>nomatch e⟩
 have z7:Sep (pt a 3e5::pt dx (.own a)::ar R s cs ws::pt lb 0e9::pt lc (wp [])::fS [] cs []::O) H5:=z6.sub 0e1;exact z7
structure ba where
 te:Addr
 t1:Addr
 lc:Addr
 at_:Int
 x:Bx
 c0:List Int
 g:List (Int×Int)
abbrev aR (e:ba):V:=ut e.te
abbrev aH (e:ba):ay:=bx λts:List Addr=>[tu e.te [v0 e.at_,ut e.t1,ut e.lc],tu e.t1 (e.x.ls.map v0),pt e.lc (wp (ts.map ut)),fS ts e.c0 e.g]
def HH {e:ba}(z:Sep (aH e::O) H):∃ ts,Sep (tu e.te [v0 e.at_,ut e.t1,ut e.lc]::tu e.t1 (e.x.ls.map v0)::pt e.lc (wp (ts.map ut))::fS ts e.c0 e.g::O) H:=gp z
def Dq {e:ba}(z:Sep (tu e.te [v0 e.at_,ut e.t1,ut e.lc]::tu e.t1 (e.x.ls.map v0)::pt e.lc (wp (ts.map ut))::fS ts e.c0 e.g::O) H):Sep (aH e::O) H:=iH ts z
set_option tactic.hygienic true in
def vF (ro:Ro K R)(hk:11<=k)(h0:0<=at_)(h1:at_<=ds.length)(le:es.length<=1000)(hd:bA R O ds rs)(z:Sep (bw R m l s b en at_ ds::ar R s cs ws::ai R b x::pt en (wp es)::O) H)
  (q1:0e3.w="on"->∀ te t1 lc H',Sep (aH ⟨te,t1,lc,at_,x,cs,gM rs at_ x cs ws⟩::bw R m l s b en 0e3.at_ ds::ar R s 0e3.cs ws::ai R b 0e3.x::pt en (wp (es++[ut te]))::O) H'->Q (v4 "on") H')
  (q2:0e3.w≠"on"->∀ H',Sep (bw R m l s b en 0e3.at_ ds::ar R s 0e3.cs ws::ai R b 0e3.x::pt en (wp es)::O) H'->Q (v4 0e3.w) H'):aa tab R k 54 [ut m] H Q E:=by
 delta fN;obtain⟨dx,z1⟩:=pO z;right;refine ae aN z .k2 rfl rfl ?_;left;refine wZ ro nofun z .k2 (λt1 H1 z2=>?_);obtain⟨dx,z3⟩:=pO (z2.pull .k1);clear z z1;right;intro a da g1 g2 g3;have z4:Sep (ar R s cs ws::tu t1 (x.ls.map v0)::bw R m l s b en at_ ds::ai R b x::pt en (wp es)::O) H1:=z2.sub 0e1;clear z3;refine yT ro nofun (g6 z4 g1 g2 g3) (λlc H2 z5=>⟨rfl,?_⟩);clear z2 z4;right;refine ae cV z5 .k2 rfl rfl ?_;left;have z6:Sep (bw R m l s b en at_ ds::dc R a s lc cs [] cs ws::ai R b x::pt en (wp es)::tu t1 (x.ls.map v0)::O) H2:=z5.sub 0e1;refine yQ ro nofun h0 h1 hd.more.more z6 (λH3 z7=>?_);clear z5 z6;obtain⟨da',lb,ts,hg,z8⟩:=tK (z7.pull .k1);right
 by_cases g:0e3.w="on"
 .have q1:=q1 g;rw[g];refine aJ (by show(("on":Str) =="on")=true;simp) ?_;obtain⟨dx2,z9⟩:=pO (z8.pull (A:=bw R m l s b en 0e3.at_ ds) 1e6);clear z7;right;refine⟨en,_,rfl,z8.get 1e6,?_⟩;right;rename_i te H4 za;clear z8;refine⟨_,za.get 1e6,zp za (by ac_rfl) nofun (λH5 zb=>?_)⟩;right;have zc:Sep (tu te [v0 at_,ut t1,ut lc]::tu t1 (x.ls.map v0)::pt lc (wp (ts.map ut))::fS ts cs (gM rs at_ x cs ws)::pt m (wv (R.cad 18) dx2 [("deeds",ut l),("store",ut s),("boxes",ut b),("at",v0 0e3.at_),("entries",ut en)])::pt dx2 (.own m)::pt l (wp ds)::ar R s 0e3.cs ws::ai R b 0e3.x::pt en (wp (es++[ut te]))::O) H5:=zb.toT.sub 0e1;have zd:=Dq (e:=⟨te,t1,lc,at_,x,cs,gM rs at_ x cs ws⟩) zc;exact q1 te t1 lc H5 ((uS (zd.sub (Γ':=pt m _::pt dx2 _::pt l _::aH ⟨te,t1,lc,at_,x,cs,gM rs at_ x cs ws⟩::ar R s 0e3.cs ws::ai R b 0e3.x::pt en (wp (es++[ut te]))::O) 0e1)).pull .k1)
 .refine au (by show(0e3.w =="on")=false;simpa using g) ?_;right;exact q2 g H3 (z8.sub 0e1)
end
def fU {α:Type}{f:α->ay}{x:α}:∀ {l:List α}{i:Nat},l[i]? =some x->∀ {O:List ay},ag (f x) (l.map f++O) ((l.eraseIdx i).map f++O)
 |y::l,0,h,O=>by cases h;exact .e
 |y::l,i+1,h,O=>.t (fU (l:=l) (i:=i) h)
def dY {f:α->ay}{x:α}{l:List α}:ag (f x) ((l++[x]).map f++O) (l.map f++O):=by
 rw[dL,jp];exact ao .e
@[irreducible] noncomputable def xi (I:Addr->List V->Hp->Prop) (D:Addr) (ys:List V) (rest:St) (x y w:Option V):VK:=λv H3=>∃ zs,H3 D=some (wp zs)/\zs.length<bn/\∃ ys2 x2 x3 x4,x::y::w::rest=x2::x3::x4::rest/\ys2.length=ys.length+1/\I D ys2 (upd H3 D (wp (zs++[v])))
def xi.mk {I:Addr->List V->Hp->Prop}{D:Addr}{ys:List V}{x y w:Option V}{H3:Hp}(h1:H3 D=some (wp ys))(hl:ys.length<=999)(h2:I D (ys++[v]) (upd H3 D (wp (ys++[v])))):xi I D ys rest x y w v H3:=
 by unfold xi;exact⟨ys,h1,eC nofun,ys++[v],x,y,w,rfl,by simp,h2⟩
def zy (hn:xs.length<=1000)(I:Addr->List V->Hp->Prop)(hl:∀ D ys H,I D ys H->bB R.K H a xs) (h0:∀ D,H D=none->I D [] (upd H D (wp [])))
  (hs:∀ D ys x H',xs[ys.length]? =some x->I D ys H'->∃ t v1 v2 v3,x=ut t/\bP R.K H' t [v1,v2,v3]/\te (some v1::some v2::some v3::rest) H' (xi I D ys rest (some v1) (some v2) (some v3)))
  (hd:∀ D ys H',ys.length=xs.length->I D ys H'->Q (ut D) H'):LCt R.K 3 te (Ef R.K a) (none::none::none::rest) H Q:=by
 unfold LCt;intro D hD;refine⟨λi m σ' H'=>m=xs.length-i/\i<=xs.length/\∃ ys x0 x1 x9,σ'=x0::x1::x9::rest/\ys.length=i/\I D ys H',⟨xs.length,by simp,Nat.zero_le _,[],none,none,none,rfl,rfl,h0 D hD⟩,λi m σ' H' ⟨e,hi,ys,x0,x1,x9,e1,e2,h⟩=>?_⟩;subst e1 e2
 by_cases hlt:ys.length<xs.length
 .refine .inr ⟨⟨xs,xs[ys.length],hl D ys H' h,li hlt⟩,λσ2 H2=>∃ ys2 x2 x3 x4,σ2=x2::x3::x4::rest/\ys2.length=ys.length+1/\I D ys2 H2,λσ2 H2 ⟨ys2,x2,x3,x4,f1,f2,f3⟩=>⟨xs.length-(ys.length+1),by omega,rfl,hlt,ys2,x2,x3,x4,f1,f2,f3⟩,λx H'' y=>?_⟩;obtain⟨e1,hy⟩:=y;subst e1;obtain⟨t,v1,v2,v3,rfl,ht,z⟩:=hs D ys x H'' (hy xs (hl D ys H'' h)) h;refine⟨t,[v1,v2,v3],rfl,ht,rfl,rfl,?_⟩;unfold xi at z;exact⟨λ_=>z,λe=>nomatch e⟩
 .have:ys.length=xs.length:=by omega
  exact .inl ⟨⟨xs,hl D ys H' h,Nat.le_of_eq this.symm⟩,hd D ys H' this h⟩
section
variable {m l s b a lc en:Addr}{at_:Int}{ds:List V}{rs:List Rw}{x:Bx}{c0 cs:List Int}{ws:List Str}
abbrev iA (e:ba):Int×Bx×List Int×List (Int×Int):=(e.at_,e.x,e.c0,e.g)
set_option tactic.hygienic true in
def Cm {es:List ba}(hk:2<=k)(le:es.length<=1000)(z:Sep (bw R m l s b en at_ ds::pt en 1e7::(es.map aH++O)) H)
  (q:∀ D (fs:List ba) H',fs.map iA=es.map iA->Sep (pt D (wp (fs.map aR))::bw R m l s b en at_ ds::pt en 1e7::(fs.map aH++(es.map aH++O))) H'->Q (ut D) H'):aa tab R k 55 [ut m] H Q E:=by
 delta iz;obtain⟨dx,z1⟩:=pO z;right;clear z1;refine zy (xs:=es.map aR) (by rw[ce];exact le) (λD ys H=>∃ fs:List ba,ys=fs.map aR/\fs.map iA=(es.take fs.length).map iA/\Sep (pt D (wp ys)::bw R m l s b en at_ ds::pt en 1e7::(fs.map aH++(es.map aH++O))) H) (λD ys H ⟨fs,_,_,zz⟩=>bB.of (zz.get .k2)) (λD hD=>⟨[],rfl,rfl,z.new (o:=wp []) hD⟩) (λD ys y H hy hI=>?_) (λD ys H hl hI=>?_)
 .obtain⟨fs,rfl,e,zz⟩:=hI;rw[im,ce]at hy;obtain⟨o,eo,rfl⟩:=nl.mp hy;have hlt:=(sw.mp eo).1;obtain⟨ts,z2⟩:=HH (zz.pull (A:=aH o) (.j2 (.t (ao (fU eo)))));refine⟨o.te,v0 o.at_,ut o.t1,ut o.lc,rfl,bP.of z2.atT,?_⟩;right;rename_i lc2 H3 z3 te2 H4 z4;have hc:=fS.of (z4.pull (A:=fS ts o.c0 o.g) 1e6);have ht:H4 o.t1=some (wr (o.x.ls.map v0)):=z4.tX 1e6;have z5:Sep (tu o.te [v0 o.at_,ut o.t1,ut o.lc]::tu o.t1 (o.x.ls.map v0)::pt o.lc (wp (ts.map ut))::fS ts o.c0 o.g::tu te2 [v0 o.at_,ut o.t1,ut lc2]::pt lc2 (wp (ts.map ut))::pt D (wp (fs.map aR))::bw R m l s b en at_ ds::pt en 1e7::(fs.map aH++((es.eraseIdx fs.length).map aH++O))) H4:=z4.toT.sub 0e1;have z6:=Sep.push (.j2 (.j2 (.t (ao (fU eo))))) (Dq z5);have z7:Sep (fS ts o.c0 o.g::tu o.t1 (o.x.ls.map v0)::_) H4:=(Sep.IJ ht z6).free λ_=>hc
  have z8:=Dq (e:=⟨te2,o.t1,lc2,o.at_,o.x,o.c0,o.g⟩) (z7.sub (Γ':=tu te2 _::tu o.t1 _::pt lc2 _::fS ts o.c0 o.g::pt D (wp (fs.map aR))::bw R m l s b en at_ ds::pt en 1e7::(fs.map aH++(es.map aH++O))) 0e1);have z9:=(z8.pull (A:=pt D (wp (fs.map aR))) .k1).set (o':=wp (fs.map aR++[ut te2])) rfl;refine xi.mk (z8.get .k1) 4e0 ⟨fs++[⟨te2,o.t1,lc2,o.at_,o.x,o.c0,o.g⟩],by rw[dL];rfl,?_,?_⟩
  .rw[ci,f8,dL,e,take_succ,eo,dL]
   rfl
  .exact Sep.push (.j2 (.t dY)) (z9.pull .k1)
 .obtain⟨fs,rfl,e,zz⟩:=hI;rw[ce,ce]at hl;rw[hl,take_length]at e;exact q D fs H e zz
end
abbrev zh (x:Bx):Rw->List Int
 | .lg w=>oY w x
 | .sp (.read _)=>[x.h]
 |_=>[]
abbrev mP (x:Bx):Rw->List Int
 | .lg w=>l9 w x
 | .sp (.write _)=>[x.t]
 |_=>[]
def zY {ks:List Str}{vs:List V}(z:Sep O H)(r:aO (pt d (.dK [])) (pt d (.dK kvs)) O Γ')(e:iS [] (FN ks vs)=kvs)(q:∀ H',Sep Γ' H'->Q (ut d) H'):pk ks d vs H Q:=by
 obtain⟨Δ,p1,p2⟩:=r.bp;unfold pk;rw[e];exact⟨z.get p1,q _ (z.put r rfl)⟩
set_option tactic.hygienic true in
def vw {sp:Addr}{h t w s:Int}{w0:Str}{E:St->XK}{u6:Option V}(r:Rw)(hk:1<=k)(ln:l≠0)(hr:∀ n,r≠.sp (.read n)/\r≠.sp (.write n)) (ht:r=.lg .turn->l≠1) (hw:r.tl[0]? =some (v4 w0)) (z:Sep O H)
  (q:∀ p l1 l2 H',Sep (tu p [ut l1,ut l2]::pt l1 (wp ((zh ⟨h,t,l,w,s,m⟩ r).map v0))::pt l2 (wp ((mP ⟨h,t,l,w,s,m⟩ r).map v0))::O) H'->D.rt (ut p) H'):
  wB (bJ 5 eZ.body) ⟨tab,R,aa tab R (k-1),.calm⟩ D E [some (ut sp),some (ut d),some (v0 h),some (v0 t),some (v0 l),some (v4 w0),u6,u7] H:=by
 right;refine jt ?_;right;refine⟨.inr (by show -(2 ^ 64)<b2i (decide (h<t))/\b2i (decide (h<t))<2 ^ 64;cases decide (h<t)<;>decide),?_⟩;right;intro d7 hd7;have z0:=z.new (o:=.dK []) hd7;generalize upd H d7 (.dK [])=H0 at z0⊢;generalize hf:(l-1)*b2i ((λi j=>decide (j<i)) t h)=fr;clear z;right;rename_i a1 H1 y1 b1 H2 y2 c1 H3 y3 a2 H4 y4 b2 H5 y5 c2 H6 y6 a3 H7 y7 b3 H8 y8 c3 H9 y9 a4 Ha ya b4 Hb yb c4 Hc yc;clear z0 y1 y2 y3 y4 y5 y6 y7 y8 y9 ya yb;refine zY (kvs:=[(.inr "copy",ut c1),(.inr "fill",ut c2),(.inr "seek",ut c3),(.inr "match",ut c4)]) yc (by ac_rfl) rfl (λHd yd=>?_);clear yc;right;rename_i a5 He ye b5 Hf yf c5 Hg yg;refine wq (k:=.inr "shift") (kvs':=[(.inr "copy",ut c1),(.inr "fill",ut c2),(.inr "seek",ut c3),(.inr "match",ut c4),(.inr "shift",ut c5)]) yg (by ac_rfl) (ol rfl) rfl (λHh yh=>?_);clear yd ye yf yg;right;rename_i a6 Hi yi b6 Hj yj c6 Hk yk;refine wq (k:=.inr "turn") (kvs':=[(.inr "copy",ut c1),(.inr "fill",ut c2),(.inr "seek",ut c3),(.inr "match",ut c4),(.inr "shift",ut c5),(.inr "turn",ut c6)]) yk (by ac_rfl) (ol rfl) rfl (λHl yl=>?_);clear yh yi yj yk;right;refine⟨d7,_,rfl,yl.get 1e6,?_⟩;right;rename_i a7 Hm ym b7 Hn yn c7 Ho yo;clear yl ym yn;refine LR (k:=.inr w0) (kvs:=[(.inr "copy",ut c1),(.inr "fill",ut c2),(.inr "seek",ut c3),(.inr "match",ut c4),(.inr "shift",ut c5),(.inr "turn",ut c6)]) 2e8 ?_;have hfr:fr=if t<=h then 0 else l-1:=by
  rw[<-hf];show(l-1)*b2i (decide (h<t))=_
  by_cases g:t<=h
  .rw[if_pos g,decide_eq_false nofun];exact Int.mul_zero _
  .rw[if_neg g,decide_eq_true nofun];exact Int.mul_one _
 have fi:∀ {L P:List Int}{p l1 l2:Addr}{Δ:List ay},zh ⟨h,t,l,w,s,m⟩ r=L->mP ⟨h,t,l,w,s,m⟩ r=P->Sep (pt p (wr [ut l1,ut l2])::pt l1 (wp (L.map v0))::pt l2 (wp (P.map v0))::O) Ho->D.rt (ut p) Ho:=λ{L P p l1 l2 Δ} e1 e2 zz=>q p l1 l2 Ho (by rw[e1,e2];exact zz.toT)
 cases r with
 |lg wd=>
  have L0:zh ⟨h,t,l,w,s,m⟩ (.lg wd)=Et h t l wd:=if_neg ln;have P0:mP ⟨h,t,l,w,s,m⟩ (.lg wd)=A6 h t l wd:=if_neg ln;cases wd<;>cases hw
  .exact fi (L:=[h]) (P:=[t]) (Δ:=[]) L0 P0 (yo.sub (Γ':=pt c1 (wr [ut a1,ut b1])::pt a1 (wp [v0 h])::pt b1 (wp [v0 t])::O) 0e1)
  .exact fi (L:=[]) (P:=[t]) (Δ:=[]) L0 P0 (yo.sub (Γ':=pt c2 (wr [ut a2,ut b2])::pt a2 (wp [])::pt b2 (wp [v0 t])::O) 0e1)
  .exact fi (L:=[h]) (P:=[]) (Δ:=[]) L0 P0 (yo.sub (Γ':=pt c3 (wr [ut a3,ut b3])::pt a3 (wp [v0 h])::pt b3 (wp [])::O) 0e1)
  .exact fi (L:=[h,t]) (P:=[]) (Δ:=[]) L0 P0 (yo.sub (Γ':=pt c4 (wr [ut a4,ut b4])::pt a4 (wp [v0 h,v0 t])::pt b4 (wp [])::O) 0e1)
  .refine fi (L:=[h+fr]) (P:=[t+fr]) (Δ:=[]) (L0.trans ?_) (P0.trans ?_) (yo.sub (Γ':=pt c5 (wr [ut a5,ut b5])::pt a5 (wp [v0 (h+fr)])::pt b5 (wp [v0 (t+fr)])::O) 0e1)
   .show(if t<=h then[h+0] else[h+(l-1)])=[h+fr];rw[hfr]
    split<;>rfl
   .show(if t<=h then[t+0] else[t+(l-1)])=[t+fr];rw[hfr]
    split<;>rfl
  .exact fi (L:=[h,h+l-1]) (P:=[h,h+l-1]) (Δ:=[]) (L0.trans (if_neg (ht rfl))) (P0.trans (if_neg (ht rfl))) (yo.sub (Γ':=pt c6 (wr [ut a6,ut b6])::pt a6 (wp [v0 h,v0 (h+l-1)])::pt b6 (wp [v0 h,v0 (h+l-1)])::O) 0e1)
 |sp s'=>
  have z7:Sep (pt c7 (wr [ut a7,ut b7])::pt a7 (wp [])::pt b7 (wp [])::O) Ho:=yo.sub 0e1;cases s' with
  |read n=>exact absurd rfl (hr n).1
  |write n=>exact absurd rfl (hr n).2
  |_=>cases hw;exact fi (L:=[]) (P:=[]) (Δ:=[]) rfl rfl z7
 |hop n o=>
  have z7:Sep (pt c7 (wr [ut a7,ut b7])::pt a7 (wp [])::pt b7 (wp [])::O) Ho:=yo.sub 0e1;cases hw;exact fi (L:=[]) (P:=[]) (Δ:=[]) rfl rfl z7
set_option tactic.hygienic true in
def gx {sp:Addr}(r:Rw)(hk:1<=k)(z:Sep (tu sp r.tl::aA d x::O) H)
  (q:∀ t l1 l2 H',Sep (tu t [ut l1,ut l2]::pt l1 (wp ((zh x r).map v0))::pt l2 (wp ((mP x r).map v0))::tu sp r.tl::aA d x::O) H'->Q (ut t) H'):aa tab R k 103 [ut sp,ut d] H Q E:=by
 obtain⟨h,t,l,w,s,m⟩:=x;delta eZ;obtain⟨w0,hw0⟩:∃ w0,r.tl[0]? =some (v4 w0):=by
  cases r with
  |lg w=>exact⟨_,rfl⟩
  |sp s=>cases s<;>exact⟨_,rfl⟩
  |hop n o=>exact⟨_,rfl⟩
 have hC:((∃ n,r=.sp (.write n))/\w0="write")\/((∃ n,r=.sp (.read n))/\w0="read")\/((∀ n,r≠.sp (.read n)/\r≠.sp (.write n))/\dD (v4 w0) (v4 "write")=false/\dD (v4 w0) (v4 "read")=false/\((dD (v4 w0) (v4 "turn")=true/\r=.lg .turn)\/(dD (v4 w0) (v4 "turn")=false/\r≠.lg .turn))):=by
  cases r with
  |lg w=>
   cases w<;>cases hw0
   all_goals first|exact .inr 5e3|exact .inr (.inr ⟨λn=>⟨(λz=>by cases z),(λz=>by cases z)⟩,by decide+kernel,by decide+kernel,.inl ⟨by decide+kernel,rfl⟩⟩)
  |sp s=>
   cases s<;>cases hw0
   all_goals first|exact .inr (.inl ⟨⟨_,rfl⟩,rfl⟩)|exact .inl ⟨⟨_,rfl⟩,rfl⟩|exact .inr 5e3
  |hop n o=>cases hw0;exact .inr 5e3
 have fi:∀ (L P:List Int){p l1 l2:Addr}{H3:Hp},zh ⟨h,t,l,w,s,m⟩ r=L->mP ⟨h,t,l,w,s,m⟩ r=P->Sep (pt p (wr [ut l1,ut l2])::pt l2 (wp (P.map v0))::pt l1 (wp (L.map v0))::tu sp r.tl::aA d ⟨h,t,l,w,s,m⟩::O) H3->Q (ut p) H3:=by
  intro L P p l1 l2 H3 e1 e2 z3;refine q p l1 l2 H3 ?_;rw[e1,e2];have z4:=z3.toT;walk_at "sp"
 walk_at "wd";refine Jm z.atT (aW (i:=0) 1e1 hw0) ?_;walk_at "wd";rcases hC with⟨⟨n,rfl⟩,rfl⟩|⟨⟨n,rfl⟩,rfl⟩|⟨hr,f1,f2,f3⟩
 .repeat walk_at "sc"
  walk_at "wd";rename_i l1 H1 z1 l2 H2 z2 p H3 z3;exact fi [] [t] rfl rfl z3
 .repeat walk_at "sc"
  walk_at "wd"
  repeat walk_at "sc"
  walk_at "wd";rename_i l1 H1 z1 l2 H2 z2 p H3 z3;exact fi [h] [] rfl rfl z3
 .refine au f1 ?_;walk_at "wd";refine au f2 ?_;walk_at "wd";have nil:l=0\/(r=.lg .turn/\l=1)->zh ⟨h,t,l,w,s,m⟩ r=[]/\mP ⟨h,t,l,w,s,m⟩ r=[]:=λg=>by
   rcases g with g|⟨rfl,g⟩
   .cases r with
    |lg wd=>exact⟨if_pos g,if_pos g⟩
    |sp s'=>cases s' with
     |read n=>exact absurd rfl (hr n).1
     |write n=>exact absurd rfl (hr n).2
     |_=>exact⟨rfl,rfl⟩
    |hop n o=>exact⟨rfl,rfl⟩
   .have g0:¬ l=0:=by omega
    exact⟨(if_neg g0).trans (if_pos g),(if_neg g0).trans (if_pos g)⟩
  refine aE 4e4 4e4
  .walk_at "wd";rename_i l1 H1 z1 l2 H2 z2 p H3 z3;exact fi [] [] (nil (.inl e)).1 (nil (.inl e)).2 z3
  walk_at "wd";have tail:(r=.lg .turn->l≠1)->_:=λg=>vw (R:=R) (k:=k) (sp:=sp) (d:=d) (h:=h) (t:=t) (l:=l) (w:=w) (s:=s) (m:=m) (D:={ nx:=λx H'=>Q wf H',rt:=Q }) (E:=λ_=>E) (u6:=none) (u7:=none) r hk e hr g hw0 z (λp l1 l2 H' y=>q p l1 l2 H' y)
  rcases f3 with⟨f3,rfl⟩|⟨f3,nt⟩
  .refine aJ f3 ?_;walk_at "wd";refine aE (λe2=>?_) (λe2=>?_)
   .walk_at "wd";rename_i l1 H1 z1 l2 H2 z2 p H3 z3;exact fi [] [] (nil (.inr ⟨rfl,e2⟩)).1 (nil (.inr ⟨rfl,e2⟩)).2 z3
   .exact tail (λ_=>e2)
  .refine au f3 ?_;refine au rfl ?_;exact tail (λg=>absurd g nt)
set_option tactic.hygienic true in
def gQ {sp t l1 l2:Addr}{tl:List V}{ws:List Str}{ls ps:List Int}{E:St->XK}{u:Option V}(hk:2<=k)(z1:Sep (tu t [ut l1,ut l2]::pt l1 (wp (ls.map v0))::pt l2 (wp (ps.map v0))::tu sp tl::aA d x::pt lv 0e4::O) H)
  (q0:bV ws ls ps=none->∀ H',Sep (tu sp tl::aA d x::pt lv 0e4::O) H'->D.rt wf H')
  (q1:∀ dd c,bV ws ls ps=some (dd,c)->∀ t H',Sep (pt t (wr [v4 dd,v0 c,v0 0])::tu sp tl::aA d x::pt lv 0e4::O) H'->D.rt (ut t) H'):
  wB (bJ 2 cB.body) ⟨tab,R,aa tab R (k-1),.calm⟩ D E [some (ut sp),some (ut d),some (ut lv),some (ut l1),some (ut l2),u] H:=by
 right;refine lI (xs:=ls.map v0) (λj U H=>∃ v,U=[some (ut sp),some (ut d),some (ut lv),some (ut l1),some (ut l2),v]/\(∀ i x,i<j->ls[i]? =some x->ah ws "look" x=true)/\Sep (tu t [ut l1,ut l2]::pt l1 (wp (ls.map v0))::pt l2 (wp (ps.map v0))::tu sp tl::aA d x::pt lv 0e4::O) H) ?_ ?_ ?_ ?_
 .exact⟨_,rfl,λi x hi=>absurd hi nofun,z1⟩
 .rintro j U H ⟨v,rfl,_,hs⟩;exact bB.of 2e8
 .rintro j y U H hx ⟨v,rfl,hb,hs⟩;rw[im]at hx;obtain⟨c,hc,rfl⟩:=nl.mp hx;right;refine Aq nofun hs 1e6 ?_;right;refine bZ (λhm=>?_) (λhm=>?_)
  .right;refine⟨_,rfl,λi x hi hxx=>?_,hs⟩
   by_cases e:i=j
   .subst e;rw[hc]at hxx;cases hxx;exact hm
   .exact hb i x nofun hxx
  .right;rename_i p H2 z2;refine q1 "look" c ?_ p H2 ?_
   .unfold bV;rw[qA hb hc hm]
   .walk_at "sp"
 .rintro U H ⟨v,rfl,hb,hs⟩;have e0:bj ws "look" ls=none:=lV λc hc=>by
   obtain⟨i,hi⟩:=List.mem_iff_getElem?.mp hc;have:=(sw.mp hi).1;exact hb i c (by rw[ce];exact this) hi
  right;refine lI (xs:=ps.map v0) (λj U H=>∃ v,U=[some (ut sp),some (ut d),some (ut lv),some (ut l1),some (ut l2),v]/\(∀ i x,i<j->ps[i]? =some x->ah ws "put" x=true)/\Sep (tu t [ut l1,ut l2]::pt l1 (wp (ls.map v0))::pt l2 (wp (ps.map v0))::tu sp tl::aA d x::pt lv 0e4::O) H) ?_ ?_ ?_ ?_
  .exact⟨_,rfl,λi x hi=>absurd hi nofun,hs⟩
  .rintro j U H ⟨v,rfl,_,hs⟩;exact bB.of 2e8
  .rintro j y U H hx ⟨v,rfl,hb,hs⟩;rw[im]at hx;obtain⟨c,hc,rfl⟩:=nl.mp hx;right;refine Aq nofun hs 1e6 ?_;right;refine bZ (λhm=>?_) (λhm=>?_)
   .right;refine⟨_,rfl,λi x hi hxx=>?_,hs⟩
    by_cases e:i=j
    .subst e;rw[hc]at hxx;cases hxx;exact hm
    .exact hb i x nofun hxx
   .right;rename_i p H2 z2;refine q1 "put" c ?_ p H2 ?_
    .unfold bV;rw[e0];exact qA hb hc hm
    .walk_at "sp"
  .rintro U H ⟨v,rfl,hb2,hs⟩;right;refine q0 ?_ H (by walk_at "sp");unfold bV;rw[e0];exact lV λc hc=>by
    obtain⟨i,hi⟩:=List.mem_iff_getElem?.mp hc;have:=(sw.mp hi).1;exact hb2 i c (by rw[ce];exact this) hi
abbrev iP.tl:iP->List V
 | .on r _ _=>[v4 "on",v0 r,v0 0]
 | .no d c=>[v4 d,v0 c,v0 0]
 | .nf b i=>[v4 "fit",v4 b.nm,v0 i]
set_option tactic.hygienic true in
def cz {sp:Addr}{ws:List Str}(r:Rw)(hk:2<=k)(hr:∀ b,r=.sp (.write b)->fA (v0 (x.g b))=true) (z:Sep (tu sp r.tl::aA d x::pt lv 0e4::O) H)
  (q0:bV ws (zh x r) (mP x r)=none->∀ H',Sep (tu sp r.tl::aA d x::pt lv 0e4::O) H'->Q wf H')
  (q1:∀ dd c,bV ws (zh x r) (mP x r)=some (dd,c)->∀ t H',Sep (pt t (wr [v4 dd,v0 c,v0 0])::tu sp r.tl::aA d x::pt lv 0e4::O) H'->Q (ut t) H'):aa tab R k 105 [ut sp,ut d,ut lv] H Q E:=by
 delta cB;cases r with
 |sp s=>
  cases s
  case write b=>
   have hc:(decide (0<=x.g b)&&decide (x.g b<=1000000000))=true:=hr b rfl;have hc:0<=x.g b/\x.g b<=1000000000:=by simpa using hc
   right
   repeat walk_at "sc"
   refine nR z .k1 ?_;right;refine aG 5e6 (λh0=>absurd hc.1 h0);right;rw[gi];refine aG 5e6 (λh0=>absurd hc.2 h0);right;refine gx (.sp (.write b)) nofun z (λt l1 l2 H1 z1=>?_);right;refine⟨t,_,rfl,.inl (bP.of z1.atT),rfl,?_⟩;exact gQ hk z1 q0 q1
  all_goals
   right
   repeat walk_at "sc"
   refine gx (.sp _) nofun z (λt l1 l2 H1 z1=>?_);right;refine⟨t,_,rfl,.inl (bP.of z1.atT),rfl,?_⟩;exact gQ hk z1 q0 q1
 |lg w=>
  cases w
  all_goals
   right
   repeat walk_at "sc"
   refine gx (.lg _) nofun z (λt l1 l2 H1 z1=>?_);right;refine⟨t,_,rfl,.inl (bP.of z1.atT),rfl,?_⟩;exact gQ hk z1 q0 q1
 |hop n o=>
  right
  repeat walk_at "sc"
  refine gx (.hop n o) nofun z (λt l1 l2 H1 z1=>?_);right;refine⟨t,_,rfl,.inl (bP.of z1.atT),rfl,?_⟩;exact gQ hk z1 q0 q1
set_option tactic.hygienic true in
def yq {sp:Addr}{b:Bn}{ws:List Str}(hk:2<=k)(hb:fA (v0 (x.g b))=false)(z:Sep (tu sp (Rw.tl (.sp (.write b)))::aA d x::pt lv 0e4::O) H)
  (q:∀ t H',Sep (pt t (wr [v4 "fit",v4 b.nm,v0 (x.g b)])::tu sp (Rw.tl (.sp (.write b)))::aA d x::pt lv 0e4::O) H'->Q (ut t) H'):aa tab R k 105 [ut sp,ut d,ut lv] H Q E:=by
 delta cB;have hc:(decide (0<=x.g b)&&decide (x.g b<=1000000000))=false:=hb;have hc:0<=x.g b->¬ x.g b<=1000000000:=by simpa using hc
 right
 repeat walk_at "sc"
 refine nR z .k1 ?_;right;refine aG 5e6 5e6
 .right;rw[gi];refine aG (λh1=>absurd h1 (hc h0)) (λh1=>?_);right;refine nR z .k1 ?_;right;rename_i t H1 z1;exact q t H1 z1
 .right;refine nR z .k1 ?_;right;rename_i t H1 z1;exact q t H1 z1
set_option tactic.hygienic true in
def rG {sp p:Addr}{cs:List Int}{ws:List Str}(r:Rw)(hk:3<=k)(hr:r.ok)(hx:0<=x.l)(hl:cs.length=ws.length)(z:Sep (tu sp r.tl::aA d x::pt p 0e9::pt lv 0e4::O) H)
  (q:∀ td H',Sep (pt td (wr (bE x cs ws r).tl)::tu sp r.tl::aA d ((bE x cs ws r).bx x)::pt p (wp (((bE x cs ws r).cs cs).map v0))::pt lv 0e4::O) H'->Q (ut td) H'):aa tab R k 106 [ut sp,ut d,ut p,ut lv] H Q E:=by
 delta k9;have z0:Sep (tu sp r.tl::aA d x::pt lv 0e4::pt p 0e9::O) H:=z.sub 0e1;right;cases r with
 |lg w=>
  refine cz (.lg w) nofun (λb e=>by cases e) z0 (λhb H1 z1=>?_) (λdd c hb t H1 z1=>?_)
  .right;refine bN ?_;left;refine au rfl ?_;right;rename_i tp H2 z2;refine g5 (bP.of z2.at) rfl rfl ?_;left;refine au (by cases w<;>decide+kernel) ?_;right;refine au (by cases w<;>decide+kernel) ?_;right;refine au (by cases w<;>decide+kernel) ?_;right;refine CM w (O:=pt lv 0e4::tu sp (Rw.tl (.lg w))::O) nofun hx hl hb (z2.sub 0e1) ?_;have q:∀ td H',Sep (pt td (wr (ofM (bR w x cs ws)).tl)::tu sp (Rw.tl (.lg w))::aA d ((ofM (bR w x cs ws)).bx x)::pt p (wp (((ofM (bR w x cs ws)).cs cs).map v0))::pt lv 0e4::O) H'->Q (ut td) H':=q
   revert q
   cases bR w x cs ws with
   |no dd c=>exact λ_=>True.intro
   |on n x' cs'=>
    intro q H3 z3;right;rename_i t H4 z4;exact q t H4 (z4.sub (.cons .e (.cons .k3 .refl)))
  .have e:bE x cs ws (.lg w)=.no dd c:=congrArg ofM (GG hx hb);rw[e]at q;right;refine bN ?_;left;refine aJ rfl ?_;left;exact q t H1 (z1.sub (.cons .e (.cons .e (.cons .e (.cons .k1 .refl)))))
 |hop n o=>
  refine cz (.hop n o) nofun (λb e=>by cases e) z0 (λhb H1 z1=>?_) (λdd c hb t H1 z1=>by cases hb);right;refine bN ?_;left;refine au rfl ?_;right;rename_i tp H2 z2;refine g5 (bP.of z2.at) rfl rfl ?_;left;refine au 2e6 ?_;right
  repeat walk_at "sc"
  have hn:∀ c:Bool,sD n (b2i c):=λc=>by cases c<;>(unfold sD b2i;have:=hr.1;omega)
  refine cH ?_;cases o with
  |none=>
   left;refine aJ rfl ?_;right;refine jt ?_;left;refine⟨hn true,?_⟩;right;rename_i t H4 z4;have e:1+n*b2i true=1+n:=by rw[show b2i true=1 from rfl,Int.mul_one]
   rw[e]at z4;exact q t H4 (z4.sub 0e8)
  |some i=>
   left;refine au rfl ?_;right;refine nR (n:=.m) z2 1e6 ?_;right;refine jt ?_;left;refine⟨hn _,?_⟩;right;rename_i t H4 z4;have e:1+n*b2i (dD (oV (some i)) (v0 (x.g Bn.m)))=if i=x.m then 1+n else 1:=by
    show 1+n*b2i (i ==x.m)=_
    by_cases h:i=x.m
    .rw[if_pos h,show(i ==x.m)=true by simpa using h,show b2i true=1 from rfl,Int.mul_one]
    .rw[if_neg h,show(i ==x.m)=false by simpa using h,show b2i false=0 from rfl,Int.mul_zero,Int.add_zero]
   rw[e]at z4;exact q t H4 (z4.sub 0e8)
 |sp s=>
  have q:∀ td H',Sep (pt td (wr (i6 (iW x cs ws s)).tl)::tu sp s.tl::aA d ((i6 (iW x cs ws s)).bx x)::pt p (wp (((i6 (iW x cs ws s)).cs cs).map v0))::pt lv 0e4::O) H'->Q (ut td) H':=q;cases s with
  |set n i=>
   have q:∀ td H',Sep (pt td (wr (i6 (bh x cs n i)).tl)::tu sp (Sp.tl (.set n i))::aA d ((i6 (bh x cs n i)).bx x)::pt p (wp (((i6 (bh x cs n i)).cs cs).map v0))::pt lv 0e4::O) H'->Q (ut td) H':=q;refine cz (.sp (.set n i)) nofun (λb e=>by cases e) z0 (λhb H1 z1=>?_) (λdd c hb t H1 z1=>by cases hb);right;refine bN ?_;left;refine au rfl ?_;right;rename_i tp H2 z2;refine g5 (bP.of z2.at) rfl rfl ?_;left;refine aJ 2e6 ?_;right
   repeat walk_at "sc"
   refine lL (n:=n) (i:=i) nofun ?_;cases hf:bz n (i) with
   |false=>
    rw[bh,if_neg (by rw[hf];exact Bool.false_ne_true)]at q;right;rename_i td H3 z3;exact q td H3 (z3.sub 0e8)
   |true=>
    rw[bh,if_pos hf]at q;right;refine Dh (n:=n) (i:=i) z2 (by ac_rfl) (λH3 z3=>?_);right;rename_i td H4 z4;exact q td H4 (z4.sub 0e8)
  |add n i=>
   have q:∀ td H',Sep (pt td (wr (i6 (bh x cs n (x.g n+i))).tl)::tu sp (Sp.tl (.add n i))::aA d ((i6 (bh x cs n (x.g n+i))).bx x)::pt p (wp (((i6 (bh x cs n (x.g n+i))).cs cs).map v0))::pt lv 0e4::O) H'->Q (ut td) H':=q;refine cz (.sp (.add n i)) nofun (λb e=>by cases e) z0 (λhb H1 z1=>?_) (λdd c hb t H1 z1=>by cases hb);right;refine bN ?_;left;refine au rfl ?_;right;rename_i tp H2 z2;refine g5 (bP.of z2.at) rfl rfl ?_;left;refine aJ 2e6 ?_;right
   repeat walk_at "sc"
   refine nR (n:=n) z2 1e6 ?_;right
   repeat walk_at "sc"
   refine lL (n:=n) (i:=x.g n+i) nofun ?_;cases hf:bz n (x.g n+i) with
   |false=>
    rw[bh,if_neg (by rw[hf];exact Bool.false_ne_true)]at q;right;rename_i td H3 z3;exact q td H3 (z3.sub 0e8)
   |true=>
    rw[bh,if_pos hf]at q;right;refine Dh (n:=n) (i:=x.g n+i) z2 (by ac_rfl) (λH3 z3=>?_);right;rename_i td H4 z4;exact q td H4 (z4.sub 0e8)
  |take n m=>
   have q:∀ td H',Sep (pt td (wr (i6 (bh x cs n (x.g m))).tl)::tu sp (Sp.tl (.take n m))::aA d ((i6 (bh x cs n (x.g m))).bx x)::pt p (wp (((i6 (bh x cs n (x.g m))).cs cs).map v0))::pt lv 0e4::O) H'->Q (ut td) H':=q;refine cz (.sp (.take n m)) nofun (λb e=>by cases e) z0 (λhb H1 z1=>?_) (λdd c hb t H1 z1=>by cases hb);right;refine bN ?_;left;refine au rfl ?_;right;rename_i tp H2 z2;refine g5 (bP.of z2.at) rfl rfl ?_;left;refine aJ 2e6 ?_;right
   repeat walk_at "sc"
   refine nR (n:=m) z2 1e6 ?_;right
   repeat walk_at "sc"
   refine lL (n:=n) (i:=x.g m) nofun ?_;cases hf:bz n (x.g m) with
   |false=>
    rw[bh,if_neg (by rw[hf];exact Bool.false_ne_true)]at q;right;rename_i td H3 z3;exact q td H3 (z3.sub 0e8)
   |true=>
    rw[bh,if_pos hf]at q;right;refine Dh (n:=n) (i:=x.g m) z2 (by ac_rfl) (λH3 z3=>?_);right;rename_i td H4 z4;exact q td H4 (z4.sub 0e8)
  |read n=>
   have q:∀ td H',Sep (pt td (wr (i6 3e3).tl)::tu sp (Sp.tl (.read n))::aA d ((i6 3e3).bx x)::pt p (wp (((i6 3e3).cs cs).map v0))::pt lv 0e4::O) H'->Q (ut td) H':=q;refine cz (.sp (.read n)) nofun (λb e=>by cases e) z0 (λhb H1 z1=>?_) (λdd c hb t H1 z1=>?_)
   .obtain⟨hm,_⟩:=aP (jc hb).1;have hm:ah ws "look" x.h=true:=hm;have g:=ak hm;rw[if_pos hm]at q;right;refine bN ?_;left;refine au rfl ?_;right;rename_i tp H2 z2;refine g5 (bP.of z2.at) rfl rfl ?_;left;refine aJ 2e6 ?_;right
    repeat walk_at "sc"
    refine nR (n:=.h) z2 1e6 ?_;right;refine aX (i:=x.h) 2e8 (c9 g.1 nofun) ?_;right
    repeat walk_at "sc"
    refine lL (n:=n) (i:=gt cs x.h) nofun ?_;cases hf:bz n (gt cs x.h) with
    |false=>
     rw[bh,if_neg (by rw[hf];exact Bool.false_ne_true)]at q;right;rename_i td H3 z3;exact q td H3 (z3.sub 0e8)
    |true=>
     rw[bh,if_pos hf]at q;right;refine Dh (n:=n) (i:=gt cs x.h) z2 (by ac_rfl) (λH3 z3=>?_);right;rename_i td H4 z4;exact q td H4 (z4.sub 0e8)
   .have hm:ah ws "look" x.h=false/\dd="look"/\c=x.h:=by
     cases e:ah ws "look" x.h with
     |true=>rw[show bV ws (zh x (.sp (.read n))) (mP x (.sp (.read n)))=none by show bV ws [x.h] []=none;unfold bV bj;rw[if_pos e];rfl]at hb;cases hb
     |false=>
      rw[show bV ws (zh x (.sp (.read n))) (mP x (.sp (.read n)))=some (("look":Str),x.h) by show bV ws [x.h] []=_;unfold bV bj;rw[if_neg (nt e)]]at hb;cases hb;exact⟨rfl,rfl,rfl⟩
    obtain⟨e1,rfl,rfl⟩:=hm;rw[if_neg (nt e1)]at q;right;refine bN ?_;left;refine aJ rfl ?_;left;exact q t H1 (z1.sub (.cons .e (.cons .e (.cons .e (.cons .k1 .refl)))))
  |write n=>
   have q:∀ td H',Sep (pt td (wr (i6 1e0).tl)::tu sp (Sp.tl (.write n))::aA d ((i6 1e0).bx x)::pt p (wp (((i6 1e0).cs cs).map v0))::pt lv 0e4::O) H'->Q (ut td) H':=q;cases hc:fA (v0 (x.g n)) with
   |false=>
    rw[if_neg (nt hc)]at q;refine yq nofun hc z0 (λt H1 z1=>?_);right;refine bN ?_;left;refine aJ rfl ?_;left;exact q t H1 (z1.sub (.cons .e (.cons .e (.cons .e (.cons .k1 .refl)))))
   |true=>
    rw[if_pos hc]at q;refine cz (.sp (.write n)) nofun (λb e=>by cases e;exact hc) z0 (λhb H1 z1=>?_) (λdd c hb t H1 z1=>?_)
    .have hm:ah ws "put" x.t=true:=(aP (jc hb).2).1;have g:=ak hm;rw[if_pos hm]at q;right;refine bN ?_;left;refine au rfl ?_;right;rename_i tp H2 z2;refine g5 (bP.of z2.at) rfl rfl ?_;left;refine au 2e6 ?_;right
     repeat walk_at "sc"
     refine nR (n:=n) z2 1e6 ?_;right;refine nR (n:=.t) z2 1e6 ?_;left;refine fD (i:=x.t) z2 (by ac_rfl) (dR g.1 4e0) dm (λH3 z3=>?_);right;rename_i td H4 z4;exact q td H4 (z4.sub 0e8)
    .have hm:ah ws "put" x.t=false/\dd="put"/\c=x.t:=by
      cases e:ah ws "put" x.t with
      |true=>rw[show bV ws (zh x (.sp (.write n))) (mP x (.sp (.write n)))=none by show bV ws [] [x.t]=none;unfold bV bj;dsimp only;unfold bj;rw[if_pos e]]at hb;cases hb
      |false=>
       rw[show bV ws (zh x (.sp (.write n))) (mP x (.sp (.write n)))=some (("put":Str),x.t) by show bV ws [] [x.t]=_;unfold bV bj;dsimp only;unfold bj;rw[if_neg (nt e)]]at hb;cases hb;exact⟨rfl,rfl,rfl⟩
     obtain⟨e1,rfl,rfl⟩:=hm;rw[if_neg (nt e1)]at q;right;refine bN ?_;left;refine aJ rfl ?_;left;exact q t H1 (z1.sub (.cons .e (.cons .e (.cons .e (.cons .k1 .refl)))))
abbrev gm (g:List (Int×Int))(pu:List Int)(n:Nat)(o:Out):Prop:=∀ r x' cs',o=.on r x' cs'->(∀ c ∈ pu,0<=c/\c<(n:Int))/\g=pu.map (λc=>(c,gt cs' c))
section
variable {g:List (Int×Int)}{pu:List Int}{cs:List Int}{n:Nat}{r i j v w:Int}{x:Bx}{ws:List Str}
def f7 {d:Str}:gm g pu n (.no d c):=λ_ _ _ h=>nomatch h
def cY:gm [] [] n (.on r x cs):=λ_ _ _ _=>⟨λc hc=>(nomatch hc),rfl⟩
def vj (h0:0<=j)(h1:j<cs.length):gt (cs.set j.toNat v) j=v:=Ft (getElem?_set_self nofun)
def C7 (h0:0<=i)(h1:0<=j)(hn:i≠j):gt (cs.set j.toNat v) i=gt cs i:=by
 unfold gt;rw[getElem?_set_ne nofun]
def mj (h:0<=j/\j<(n:Int))(hl:cs.length=n):gm [(j,v)] [j] n (.on r x (cs.set j.toNat v)):=λr' x' cs' e=>by
 cases e;refine⟨λc hc=>by rw[mem_singleton.mp hc];exact h,?_⟩;show[(j,v)]=[(j,gt (cs.set j.toNat v) j)];rw[vj h.1 nofun]
def Hs (hi:0<=i/\i<(n:Int))(h:0<=j/\j<(n:Int))(hn:i≠j)(hl:cs.length=n):gm [(i,v),(j,w)] [i,j] n (.on r x ((cs.set i.toNat v).set j.toNat w)):=λr' x' cs' e=>by
 cases e;refine⟨λc hc=>?_,?_⟩
 .rcases mo.mp hc with rfl|hc
  .exact hi
  .rw[mem_singleton.mp hc];exact h
 .show[(i,v),(j,w)]=[(i,gt ((cs.set i.toNat v).set j.toNat w) i),(j,gt ((cs.set i.toNat v).set j.toNat w) j)];rw[vj h.1 (by rw[length_set];omega),C7 hi.1 h.1 hn,vj hi.1 nofun]
def JT (wd:Wd)(hl:cs.length=ws.length)(hx:0<=x.l):gm (gL x cs wd) (l9 wd x) ws.length (bR wd x cs ws):=by
 by_cases e:x.l=0
 .have p0:l9 wd x=[]:=if_pos e;rw[p0];cases wd
  .show gm (if x.l=0 then _ else _) _ _ (if x.l=0 then _ else _);rw[if_pos e,if_pos e];exact cY
  .show gm (if x.l=0 then _ else _) _ _ (if x.l=0 then _ else _);rw[if_pos e,if_pos e];exact cY
  .show gm [] _ _ (if x.l=0 then _ else _);rw[if_pos e];exact cY
  .show gm [] _ _ (if x.l=0 then _ else _);rw[if_pos e];exact cY
  .show gm (if x.l=0 then _ else _) _ _ (if x.l=0 then _ else _);rw[if_pos e,if_pos e];exact cY
  .show gm (if x.l=0 then _ else _) _ _ (if x.l=0 then _ else _);rw[if_pos e,if_pos e];exact cY
 .have p0:l9 wd x=A6 x.h x.t x.l wd:=if_neg e;rw[p0];cases wd
  .show gm (if x.l=0 then _ else _) [x.t] _ (if x.l=0 then _ else hm cs ws x.h x.t _);rw[if_neg e,if_neg e];exact jF (λ_ _ _=>f7) (λa b=>mj (ak b) hl)
  .show gm (if x.l=0 then _ else _) [x.t] _ (if x.l=0 then _ else if _ then _ else _);rw[if_neg e,if_neg e];exact aq (λb=>mj (ak b) hl) (λ_=>f7)
  .show gm [] [] _ (if x.l=0 then _ else if _ then(if _ then _ else _) else _);rw[if_neg e];exact aq (λ_=>aq (λ_=>cY) (λ_=>cY)) (λ_=>f7)
  .show gm [] [] _ (if x.l=0 then _ else if _ then(if _ then(if _ then _ else _) else _) else _);rw[if_neg e];exact aq (λ_=>aq (λ_=>aq (λ_=>cY) (λ_=>cY)) (λ_=>f7)) (λ_=>f7)
  .show gm (if x.l=0 then _ else if x.t<=x.h then _ else _) (if x.t<=x.h then[x.t+0] else[x.t+(x.l-1)]) _ (if x.l=0 then _ else if x.t<=x.h then _ else _);rw[if_neg e,if_neg e]
   by_cases c:x.t<=x.h
   .rw[if_pos c,if_pos c,if_pos c,Int.add_zero];exact jF (λ_ _ _=>f7) (λa b=>mj (ak b) hl)
   .rw[if_neg c,if_neg c,if_neg c,<-Int.add_sub_assoc];exact jF (λ_ _ _=>f7) (λa b=>mj (ak b) hl)
  .show gm (if x.l=0 then _ else if x.l=1 then _ else _) (if x.l=1 then _ else _) _ (if x.l=0 then _ else if x.l=1 then _ else xm cs ws x.h (x.h+x.l-1) _);rw[if_neg e,if_neg e]
   by_cases c:x.l=1
   .rw[if_pos c,if_pos c,if_pos c];exact cY
   .rw[if_neg c,if_neg c,if_neg c];exact aq (λa=>aq (λb=>aq (λp1=>aq (λp2=>Hs (ak p1) (ak p2) nofun hl) (λ_=>f7)) (λ_=>f7)) (λ_=>f7)) (λ_=>f7)
def Jc {r:Rw}{n:Int}(hl:cs.length=ws.length)(hx:0<=x.l)(ho:bE x cs ws r=.on n x' cs'):(∀ c ∈ mP x r,0<=c/\c<(ws.length:Int))/\gR x cs r=(mP x r).map (λc=>(c,gt cs' c)):=by
 cases r with
 |lg wd=>
  have ho:ofM (bR wd x cs ws)=.on n x' cs':=ho;refine JT wd hl hx n x' cs' ?_;cases h:bR wd x cs ws with
  |on a b c=>rw[h]at ho;cases ho;rfl
  |no a b=>rw[h]at ho;cases ho
 |sp s=>
  cases s with
  |write b=>
   have ho:i6 5e9=.on n x' cs':=ho
   by_cases c1:fA (v0 (x.g b))=true
   .rw[if_pos c1]at ho
    by_cases c2:ah ws "put" x.t=true
    .rw[if_pos c2]at ho;have key:=mj (r:=1) (x:=x) (v:=x.g b) (ak c2) hl 1 x _ rfl;cases ho;exact key
    .rw[if_neg c2]at ho;cases ho
   .rw[if_neg c1]at ho;cases ho
  |_=>exact⟨λc hc=>(nomatch hc),rfl⟩
 |hop a o=>exact⟨λc hc=>(nomatch hc),rfl⟩
end
abbrev ei (O:List ay)(ss:List V)(rs:List Rw):Prop:=ss.length=rs.length/\(∀ r ∈ rs,r.ok)/\∀ (i:Nat) (r:Rw),rs[i]? =some r->∃ t Δ,ss[i]? =some (ut t)/\ag (tu t r.tl) O Δ
def ei.more (h:ei O ss rs):ei (A::O) ss rs:=⟨h.1,h.2.1,λi r e=>by
 obtain⟨a,Δ,e2,p⟩:=h.2.2 i r e;exact⟨a,_,e2,.t p⟩⟩
def Ci {wd:Wd}{cs:List Int}{ws:List Str}{d:Str}(h:bR wd x cs ws=.no d c):d="look"\/d="put":=by
 revert h
 exact Ai (P:=λo=>o=.no d c->_) (λ_ _ e=>by cases e) (λ_ _ h e=>by cases e;exact h) (λ_ _ _ _ _ e=>by cases e)
def oo {cs:List Int}{ws:List Str}{r:Rw}{d:Str}(h:bE x cs ws r=.no d c):d="look"\/d="put":=by
 have gv:∀ {b:Bn}{i:Int},i6 (bh x cs b i)≠.no d c:=λ{b i} e=>by
  unfold bh at e
  split at e<;>cases e
 cases r with
 |lg w=>
  have h:ofM (bR w x cs ws)=.no d c:=h;cases e:bR w x cs ws with
  |on r x' cs'=>rw[e]at h;cases h
  |no d' c'=>rw[e]at h;cases h;exact Ci e
 |hop n o=>cases h
 |sp s=>
  cases s with
  |set n i=>exact absurd h gv
  |add n i=>exact absurd h gv
  |take n m=>exact absurd h gv
  |read n=>
   have h:i6 3e3=.no d c:=h
   split at h
   .exact absurd h gv
   .cases h;exact .inl rfl
  |write n=>
   have h:i6 1e0=.no d c:=h
   split at h
   .split at h
    .cases h
    .cases h;exact .inr rfl
   .cases h
def jo {cs:List Int}{b:Bn}(hx:0<=x.l)(h:bh x cs b i=.on x' cs'):0<=x'.l/\cs'.length=cs.length:=by
 unfold bh at h
 by_cases e:bz b i=true
 .rw[if_pos e]at h;cases h;refine⟨?_,rfl⟩;cases b
  .exact hx
  .exact hx
  .have e:(decide (0<=i)&&decide (i<=1000000000))=true:=e;have e:0<=i/\i<=1000000000:=by simpa using e
   exact e.1
  .exact hx
  .exact hx
  .exact hx
 .rw[if_neg e]at h;cases h
def yG {cs:List Int}{ws:List Str}{s:Sp}(hx:0<=x.l)(h:iW x cs ws s=.on x' cs'):0<=x'.l/\cs'.length=cs.length:=by
 cases s with
 |set b i=>exact jo hx h
 |add b i=>exact jo hx h
 |take b c=>exact jo hx h
 |read b=>
  have h:(if ah ws "look" x.h=true then bh x cs b (gt cs x.h) else .no "look" x.h)=.on x' cs':=h
  by_cases e:ah ws "look" x.h=true
  .rw[if_pos e]at h;exact jo hx h
  .rw[if_neg e]at h;cases h
 |write b=>
  have h:5e9=se.on x' cs':=h
  by_cases e:fA (v0 (x.g b))=true
  .rw[if_pos e]at h
   by_cases e2:ah ws "put" x.t=true
   .rw[if_pos e2]at h;cases h;exact⟨hx,length_set ..⟩
   .rw[if_neg e2]at h;cases h
  .rw[if_neg e]at h;cases h
def xk {cs:List Int}{ws:List Str}{r:Rw}{n:Int}(hx:0<=x.l)(h:bE x cs ws r=.on n x' cs'):0<=x'.l/\cs'.length=cs.length:=by
 cases r with
 |lg w=>
  have h:ofM (bR w x cs ws)=.on n x' cs':=h;cases e:bR w x cs ws with
  |no d c=>rw[e]at h;cases h
  |on r y ys=>
   rw[e]at h;cases h;exact As hx e
 |hop m o=>cases h;exact⟨hx,rfl⟩
 |sp s=>
  have h:i6 (iW x cs ws s)=.on n x' cs':=h;cases e:iW x cs ws s with
  |on y ys=>rw[e]at h;cases h;exact yG hx e
  |no d c=>rw[e]at h;cases h
  |nf b i=>rw[e]at h;cases h
def vE {cs:List Int}{ws:List Str}(hx:0<=x.l):0<=0e3.x.l/\0e3.cs.length=cs.length:=by
 unfold mS;cases e:rs[at_.toNat]? with
 |none=>exact⟨hx,rfl⟩
 |some r=>
  dsimp only;cases ho:bE x cs ws r with
  |no d c=>exact⟨hx,rfl⟩
  |nf b i=>exact⟨hx,rfl⟩
  |on n x' cs'=>exact xk hx ho
noncomputable abbrev cJ (ow SP d p lv lg:Addr)(at_:Int)(x:Bx)(cs:List Int)(ws:List Str)(lgs:List V)(O:List ay):List ay:=pt ow 1e8::aA d x::pt p 0e9::pt lv 0e4::pt lg (wp lgs)::O
def Gy {r:Rw}:(mP x r).length<=2:=by
 cases r with
 |lg w=>
  show(l9 w x).length<=2;unfold l9
  split
  .exact Nat.zero_le _
  .unfold A6;cases w<;>dsimp only<;>(try split)<;>simp
 |sp s=>cases s<;>simp[mP]
 |hop a o=>simp[mP]
section
variable {ow SP d p lv lg:Addr}{at_:Int}{ss lgs:List V}{rs:List Rw}{x:Bx}{cs:List Int}{ws:List Str}
set_option tactic.hygienic true in
def E5 (hk:4<=k)(h0:0<=at_)(h1:at_<=ss.length)(hx:0<=x.l)(hl:cs.length=ws.length)(l60:ws.length<=60)(le:lgs.length<=1000)(hs:ei O ss rs)(z:Sep (cJ ow SP d p lv lg at_ x cs ws lgs (pt SP (wp ss)::O)) H)
  (q1:0e3.w="on"->∀ te t1 lc H',Sep (aH ⟨te,t1,lc,at_,x,cs,gM rs at_ x cs ws⟩::cJ ow SP d p lv lg 0e3.at_ 0e3.x 0e3.cs ws (lgs++[ut te]) (pt SP (wp ss)::O)) H'->Q (v4 "on") H')
  (q2:0e3.w≠"on"->∀ H',Sep (cJ ow SP d p lv lg 0e3.at_ 0e3.x 0e3.cs ws lgs (pt SP (wp ss)::O)) H'->Q (v4 0e3.w) H'):aa tab R k 112 [ut ow] H Q E:=by
 delta n9;have hl1:=hs.1;unfold mS gM at q1;unfold mS at q2;right;refine⟨ow,_,rfl,.inr (bB.of z.at),rfl,?_⟩;right;refine aE (λhe=>?_) (λhe=>?_)
 .rw[getElem?_eq_none nofun]at q2;right;exact q2 (show("end":Str)≠"on" by decide+kernel) H z
 .have hlt:at_.toNat<rs.length:=by omega
  have er:rs[at_.toNat]? =some rs[at_.toNat]:=li hlt;have ok:=hs.2.1 _ (getElem_mem hlt);generalize rs[at_.toNat]=r at er ok;obtain⟨t,Δ,e2,pt_⟩:=hs.2.2 _ _ er;rw[er]at q1 q2;dsimp only at q1 q2;right;refine rO z (z.get .k1) (λt1 H1 g z1=>?_);rw[rL]at z1;have z1:Sep (pt t1 (wr (x.ls.map v0))::cJ ow SP d p lv lg at_ x cs ws lgs (pt SP (wp ss)::O)) H1:=z1;clear z;right;refine aX (i:=at_) 2e8 (aW h0 e2) ?_;right;refine gx (O:=pt p 0e9::pt lv 0e4::pt t1 (wr (x.ls.map v0))::pt ow 1e8::pt lg (wp lgs)::pt SP (wp ss)::O) r nofun (Sep.IJ (z1.tX (.j2 (.j2 (.j2 (.t pt_))))) (z1.sub 0e1)) (λt2 l1 l2 H2 z2=>?_);clear z1;right;rename_i old H3 z3;clear z2;refine aX (i:=at_) 2e8 (aW h0 e2) ?_;right;refine rG (O:=pt old 0e9::pt l2 (wp ((mP x r).map v0))::pt t1 (wr (x.ls.map v0))::pt ow 1e8::pt lg (wp lgs)::pt SP (wp ss)::O) r nofun ok hx hl (z3.sub 0e1) (λtd H4 z4=>?_);clear z3;generalize ho:bE x cs ws r=o at q1 q2 z4;cases o with
  |on n x' cs'=>
   obtain⟨g1,g2⟩:=Jc hl hx ho;have z4:Sep (pt td (wr [v4 "on",v0 n,v0 0])::tu t r.tl::aA d x'::pt p (wp (cs'.map v0))::pt lv 0e4::pt old 0e9::pt l2 (wp ((mP x r).map v0))::pt t1 (wr (x.ls.map v0))::pt ow 1e8::pt lg (wp lgs)::pt SP (wp ss)::O) H4:=z4;have q1:=q1 rfl;have q1:∀ te t1 lc H',Sep (aH ⟨te,t1,lc,at_,x,cs,gR x cs r⟩::cJ ow SP d p lv lg (min (at_+n) rs.length) x' cs' ws (lgs++[ut te]) (pt SP (wp ss)::O)) H'->Q (v4 "on") H':=q1;rw[g2]at q1;have l24:(mP x r).length<=2:=Gy;have hc':cs'.length=cs.length:=by
    have h:=(vE (rs:=[r]) (at_:=0) (cs:=cs) (ws:=ws) hx).2;have e:mS [r] 0 x cs ws=⟨"on",min (0+n) [r].length,x',cs'⟩:=by
     show(match bE x cs ws r with
      | .on n x' cs'=>(⟨"on",min (0+n) [r].length,x',cs'⟩:Lj)
      |_=>⟨"stop",0,x,cs⟩)=_
     rw[ho]
    rw[e]at h;exact h
   generalize mP x r=pu at g1 g2 q1 z4 l24;right
   repeat walk_at "sc"
   refine⟨lg,_,rfl,z4.get 1e6,?_⟩;right;refine qO (xs:=pu.map v0) 4e0 (λD ys H=>∃ ts:List Addr,ys=ts.map ut/\Sep (pt D (wp ys)::fS ts cs ((pu.take ts.length).map (λc=>(c,gt cs' c)))::pt td (wr [v4 "on",v0 n,v0 0])::aA d x'::pt p (wp (cs'.map v0))::pt lv 0e4::pt old 0e9::pt l2 (wp (pu.map v0))::pt t1 (wr (x.ls.map v0))::pt ow 1e8::pt lg (wp lgs)::pt SP (wp ss)::O) H) (λD ys H ⟨ts,_,zz⟩=>bB.of (zz.get 1e6)) (λD hD=>⟨[],rfl,?_⟩) (λD ys y H hy hI=>?_) (λD ys H hys hI=>?_)
   .have z5:=z4.new (o:=wp []) hD;have z6:Sep (fS [] cs []::_) _:=z5.free λ_=>⟨rfl,λi t p e=>nomatch e⟩
    have z7:Sep (pt D (wp [])::fS [] cs []::pt td (wr [v4 "on",v0 n,v0 0])::aA d x'::pt p (wp (cs'.map v0))::pt lv 0e4::pt old 0e9::pt l2 (wp (pu.map v0))::pt t1 (wr (x.ls.map v0))::pt ow 1e8::pt lg (wp lgs)::pt SP (wp ss)::O) _:=z6.sub 0e1;exact z7
   .obtain⟨ts,rfl,zz⟩:=hI;rw[im,ce]at hy;obtain⟨c,ec,rfl⟩:=nl.mp hy;have hin:=g1 c (cr ec);have hlt:=(sw.mp ec).1;right;refine aX (zz.get 1e6) (c9 hin.1 nofun) ?_;right;refine aX (zz.get 1e6) (c9 hin.1 nofun) ?_;right;rename_i t' H6 z7;have z8:=fS.snoc (p:=(c,gt cs' c)) (z7.pull (A:=fS ts cs _) .k2) z7.at;have z9:=(z8.pull (A:=pt D (wp (ts.map ut))) 1e6).set (o':=wp (ts.map ut++[ut t'])) rfl;refine qY.mk (z7.get .k1) 4e0 ⟨ts++[t'],by rw[dL];rfl,?_⟩;have et:(pu.take (ts++[t']).length).map (λc=>(c,gt cs' c))=(pu.take ts.length).map (λc=>(c,gt cs' c))++[(c,gt cs' c)]:=by
     rw[ci,f8,take_succ,ec,dL]
     rfl
    rw[et];exact z9.sub 0e1
   .obtain⟨ts,rfl,zz⟩:=hI;rw[ce,ce]at hys;rw[hys,take_length]at zz;clear z4;right;rename_i te H6 z7;refine⟨_,z7.get 1e6,zp z7 (by ac_rfl) nofun (λH7 z8=>?_)⟩;right;rename_i H8 z9;have za:=(z9.toT.pull (A:=pt t1 (wr (x.ls.map v0))) 1e6).toT;have zb:Sep (tu te [v0 at_,ut t1,ut D]::tu t1 (x.ls.map v0)::pt D (wp (ts.map ut))::fS ts cs (pu.map (λc=>(c,gt cs' c)))::pt ow (wp [ut SP,v0 (min (at_+n) ss.length),ut d,ut p,ut lv,ut lg])::aA d x'::pt p (wp (cs'.map v0))::pt lv 0e4::pt lg (wp (lgs++[ut te]))::pt SP (wp ss)::O) H8:=za.sub 0e1;rw[hl1]at zb;exact q1 te t1 D H8 (Dq (e:=⟨te,t1,D,at_,x,cs,pu.map (λc=>(c,gt cs' c))⟩) zb)
  |no dd c=>
   have z4:Sep (pt td (wr [v4 dd,v0 c,v0 0])::tu t r.tl::aA d x::pt p 0e9::pt lv 0e4::pt old 0e9::pt l2 (wp ((mP x r).map v0))::pt t1 (wr (x.ls.map v0))::pt ow 1e8::pt lg (wp lgs)::pt SP (wp ss)::O) H4:=z4;right;refine au (by rcases oo ho with rfl|rfl<;>decide+kernel) ?_;right;exact q2 (show("stop":Str)≠"on" by decide+kernel) H4 (z4.sub 0e1)
  |nf b i=>
   have z4:Sep (pt td (wr [v4 "fit",v4 b.nm,v0 i])::tu t r.tl::aA d x::pt p 0e9::pt lv 0e4::pt old 0e9::pt l2 (wp ((mP x r).map v0))::pt t1 (wr (x.ls.map v0))::pt ow 1e8::pt lg (wp lgs)::pt SP (wp ss)::O) H4:=z4;right
   repeat walk_at "sc"
   exact q2 (show("stop":Str)≠"on" by decide+kernel) H4 (z4.sub 0e1)
end
def bA.app {L:List ay}(h:bA R O ds rs):bA R (L++O) ds rs:=⟨h.1,λi r e=>by
 obtain⟨a,Δ,e2,p⟩:=h.2 i r e;exact⟨a,_,e2,ao p⟩⟩
def Sep.mv:∀ {L P Δ O:List ay}{H:Hp},Sep (P++(Δ++(L++O))) H->Sep (P++(L++(Δ++O))) H
 | [],_,_,_,_,z=>z
 |A::L,P,Δ,O,H,z=>(Sep.mv (L:=L) (P:=A::P) (Δ:=Δ) (O:=O) (z.pull (ao (ao .e)))).push (ao .e)
abbrev av (p:Addr×Rw):V:=ut p.1
abbrev Ht (R:Rt)(p:Addr×Rw):ay:=eB R p.1 p.2
abbrev zS (p:Addr×Rw):ay:=tu p.1 p.2.tl
def tj {S:List (Addr×Rw)}(h:S.map (·.2)=rs)(ok:∀ r ∈ rs,Rw.ok r):ei (S.reverse.map zS++O) 3e2 rs:=by
 refine⟨by rw[<-h];simp,ok,λi r e=>?_⟩;subst h;rw[im]at e;obtain⟨⟨a,r'⟩,g,rfl⟩:=nl.mp e;obtain⟨Δ,hp⟩:=i9 (f:=zS) (x:=(a,r')) (l:=S.reverse) (by have:=cr g;simpa using this);exact⟨a,_,by rw[im,g];rfl,hp O⟩
def qM {S P:List (Addr×Rw)}(h:∀ p ∈ P,p ∈ S):bA R (S.reverse.map (Ht R)++O) 2e1 (P.map (·.2)):=by
 refine⟨by simp,λi r e=>?_⟩;rw[im]at e;obtain⟨⟨a,r'⟩,g,rfl⟩:=nl.mp e;obtain⟨Δ,hp⟩:=i9 (f:=Ht R) (x:=(a,r')) (l:=S.reverse) (by simpa using h _ (cr g));exact⟨a,_,by rw[im,g];rfl,hp O⟩
set_option tactic.hygienic true in
def zx {m l s b:Addr}{cs:List Int}{ws:List Str}(ro:Ro K R)(hk:6<=k)(n0:1<=ds.length)(n1:ds.length<=24)(h0:0<=at_)(h1:at_<=ds.length){Δl Δs Δb:List ay}(pl:ag (pt l (wp ds)) O Δl)(ps:ag (ar R s cs ws) O Δs)(pb:ag (ai R b x) O Δb)(hd:yp R O ds)
  (z:Sep (pt m (wv (R.cad 18) dx [])::pt dx (.own m)::O) H) (q:∀ l2 s2 b2 H',Sep (pt m (wv (R.cad 18) dx [("deeds",ut l2),("store",ut s2),("boxes",ut b2),("at",v0 at_)])::pt dx (.own m)::pt l2 (wp ds)::ar R s2 cs ws::ai R b2 x::O) H'->Q wf H'):aa tab R k 38 [ut m,ut l,ut s,ut b,v0 at_] H Q E:=by
 delta bQ;right;refine jR ro nofun n0 n1 z (.j2 pl) (λv hv=>by
  obtain⟨a,r,Δ',e,hp⟩:=hd v hv;exact⟨a,r,_,e,.t (.t hp)⟩) (λH1 z1=>?_)
 right;refine jV (z1.get (.j2 pl)) ?_;right;refine hG nofun h0 h1 ?_;right;refine qH z1 (z1.get (.j2 pl)) (λl2 H2 z2=>?_);right;rename_i H3 z3;refine ae aZ z3 (.j2 (.t ps)) rfl rfl ?_;left;refine j3 ro nofun z3 (.j2 (.t ps)) (λs2 H4 z4=>?_);right;rename_i H5 z5;refine ae aN z5 (.j2 (.j2 pb)) rfl rfl ?_;left;refine j5 ro nofun z5 (.j2 (.j2 pb)) (λb2 H6 z6=>?_);right;rename_i H7 z7 H8 z8;exact q l2 s2 b2 H8 (z8.sub 0e1)
set_option tactic.hygienic true in
def sY {m l s b:Addr}{cs:List Int}{ws:List Str}(ro:Ro K R)(hk:7<=k)(n0:1<=ds.length)(n1:ds.length<=24)(h0:0<=at_)(h1:at_<=ds.length){Δl Δs Δb:List ay}(pl:ag (pt l (wp ds)) O Δl)(ps:ag (ar R s cs ws) O Δs)(pb:ag (ai R b x) O Δb)(hd:yp R O ds)
  (z:Sep (pt m (wv (R.cad 18) dx [])::pt dx (.own m)::O) H) (q:∀ l2 s2 b2 en H',Sep (bw R m l2 s2 b2 en at_ ds::ar R s2 cs ws::ai R b2 x::pt en (wp [])::O) H'->Q wf H'):aa tab R k 53 [ut m,ut l,ut s,ut b,v0 at_] H Q E:=by
 delta dg;right;refine zx ro nofun n0 n1 h0 h1 pl ps pb hd z (λl2 s2 b2 H1 z1=>?_);clear z;right;rename_i en H2 z2 H3 z3;exact q l2 s2 b2 en H3 (uS (dx:=dx) (z3.sub 0e1))
section
variable {h p lv:Addr}{m M:Int}{cs:List Int}{ws:List Str}
set_option tactic.hygienic true in
def Bv {E:St->XK}{u1 u2 u5 u6:Option V}(hk:4<=k)(hm:m<=1099508000000)(c0:1<=cs.length)(c60:cs.length<=60)(hc:aY cs)(hl:cs.length=ws.length)(hw:cL ws)(z:Sep (hand h m::pt p 0e9::pt lv 0e4::O) H)
  (q:∀ ow SP d lg at_ x (S:List (Addr×Rw)) H',Bx.ok x->1<=S.length->S.length<=24->(∀ r ∈ S.map (·.2),Rw.ok r)->0<=at_->at_<=(S.length:Int)->Sep (cJ ow SP d p lv lg at_ x cs ws [] (pt SP (wp 3e2)::hand h (m+500)::(S.reverse.map zS++O))) H'->D.rt (ut ow) H'):
  wB (bJ 3 eY.body) ⟨tab,R,aa tab R (k-1),.calm⟩ D E [some (ut h),u1,u2,some (ut p),some (ut lv),u5,u6,u7] H:=by
 right;refine FU nofun z nofun c0 c60 hc (λd x H1 hx z1=>?_);clear z;walk_at "gd";rename_i l1 H2 z2 r1 H3 r10 r11 z3;obtain⟨v,e2,N,rfl,N0,N1⟩:=ik (xs:=[v0 3,v0 8,v0 24]) (P:=inR 1 24) (r:=r1) r10 (by simpa using r11) (Ju (.mk 1e1 1e1) (.mk 1e1 1e1) (.mk 1e1 1e1));refine aX 2e8 e2 ?_;right;refine uw nofun z3 nofun nofun nofun (λr2 H4 r20 r21 z4=>?_);clear z1 z2 z3;have z5:Sep (hand h (m+40)::aA d x::pt p 0e9::pt lv 0e4::O) H4:=(aw (n:=m+40) z4 nofun).sub 0e1;clear z4;right;refine qV (n:=(1+r2).toNat) nofun (λD' ys H=>∃ S:List (Addr×Rw),ys=S.map av/\(∀ r ∈ S.map (·.2),Rw.ok r)/\Sep (pt D' (wp ys)::hand h (m+40+10*((ys.length:Nat):Int))::aA d x::pt p 0e9::pt lv 0e4::(S.reverse.map zS++O)) H) (λD hD=>⟨[],rfl,λp hp=>absurd hp 2e5,(aw ((z5.new (o:=wp []) hD).pull .k1) 2e5).pull .k1⟩) (λD' ys H hl2 hI=>?_) (λSP ys H hl2 hI=>?_)
 .obtain⟨S,e,ok,hs⟩:=hI;right;rw[ce];refine Du nofun (hs.pull .k1) nofun nofun nofun (λt r H7 o hs7=>?_);have hs8:=(hs7.pull (A:=pt D' (wp ys)) 1e6).set (o':=wp (ys++[ut t])) rfl;refine qY.mk (hs7.get 1e6) nofun ⟨S++[(t,r)],by rw[e];simp[av],λp hp=>?_,?_⟩
  .rw[dL]at hp;rcases mem_append.mp hp with hp|hp
   .exact ok p hp
   .rw[mem_singleton.mp hp];exact o
  .rw[List.reverse_append,dL,jp];show Sep (pt D' _::hand h _::aA d x::pt p 0e9::pt lv 0e4::tu t r.tl::(S.reverse.map zS++O)) _;exact(aw (n:=m+40+10*(((ys++[ut t]).length:Nat):Int)) (hs8.pull (A:=hand h _) 1e6) (by rw[ci,f8];omega)).sub 0e1
 obtain⟨S,rfl,okS,hs6⟩:=hI;rw[ce]at hl2 hs6;have z7:Sep (hand h (m+300)::pt SP (wp 3e2)::aA d x::pt p 0e9::pt lv 0e4::(S.reverse.map zS++O)) H:=aw (hs6.pull .k1) nofun;clear z5 hs6;walk_at "gd";rename_i r3 H8 r30 r31 z8 r4 H9 r40 r41 z9 lg Ha za ow Hb zb;rw[ce]at r41;have hat:0<=r3 / 3*r4/\r3 / 3*r4<=(S.length:Int):=by
  rcases(by omega:r3 / 3=0\/r3 / 3=1) with e|e<;>rw[e]<;>omega
 refine q ow SP d lg _ x S Hb hx nofun nofun okS hat.1 hat.2 ?_;have zc:Sep (hand h (m+500)::pt ow (wp [ut SP,v0 (r3 / 3*r4),ut d,ut p,ut lv,ut lg])::aA d x::pt p 0e9::pt lv 0e4::pt lg (wp [])::pt SP (wp 3e2)::(S.reverse.map zS++O)) Hb:=(aw (n:=m+500) (zb.pull (A:=hand h _) 1e6) nofun).sub 0e1;exact zc.sub 0e1
end
set_option tactic.hygienic true in
def GX {M:Int}{sh:Bool}(hk:5<=k)(hm:m<=1099500000000)(M0:1<=M)(M1:M<=60)(z:Sep (hand h m::O) H)
  (q:∀ ow SP d p lv lg at_ x cs ws (S:List (Addr×Rw)) H',1<=cs.length->cs.length<=60->aY cs->cs.length=ws.length->cL ws->Bx.ok x->1<=S.length->S.length<=24->(∀ r ∈ S.map (·.2),Rw.ok r)->0<=at_->at_<=(S.length:Int)->Sep (cJ ow SP d p lv lg at_ x cs ws [] (pt SP (wp 3e2)::hand h (m+1000)::(S.reverse.map zS++O))) H'->Q (ut ow) H'):aa tab R k 111 [ut h,v0 M,.bl sh] H Q E:=by
 delta eY;right;refine CN nofun z nofun M0 M1 (λp cs H1 c0 c1 hc z1=>?_);clear z;right;rename_i l1 H2 z2 lv H3 z3;have fin:∀ {D:Ends}{lv:Addr}{ws:List Str}{H:Hp}{u5 u6 u7:Option V},D.rt=Q->cs.length=ws.length->cL ws->Sep (hand h (m+400)::pt p 0e9::pt lv 0e4::O) H->wB (bJ 3 eY.body) ⟨tab,R,aa tab R (k-1),.calm⟩ D (λ_=>E) [some (ut h),some (v0 M),some (.bl sh),some (ut p),some (ut lv),u5,u6,u7] H:=λ{D lv ws H u5 u6 u7} hD hl hw zz=>Bv nofun nofun c0 nofun hc hl hw zz (λow SP d lg at_ x S H' hx s0 s1 okS a0 a1 y=>by
  rw[hD];exact q ow SP d p lv lg at_ x cs ws S H' c0 nofun hc hl hw hx s0 s1 okS a0 a1 ((aw (n:=m+1000) (y.pull (A:=hand h _) 1e6) nofun).sub 0e1))
 cases sh with
 |true=>
  refine aJ rfl ?_;right;rw[ce];refine xX nofun nofun c0 nofun (z3.pull (A:=hand h (m+300)) 1e6) (λlv2 ws H4 el hw z4=>?_);left;exact fin rfl el.symm hw ((aw (n:=m+400) (z4.pull .k1) nofun).sub 0e1)
 |false=>
  refine au rfl ?_;have e:(sn (((cs.map v0).length:Int)).toNat [v4 "open"]).flatten=(sn cs.length ("open":Str)).map v4:=by
   rw[ce,re,map_replicate]
   induction cs.length with
   |zero=>rfl
   |succ n ih=>rw[replicate_succ,replicate_succ,flatten_cons,ih];rfl
  rw[e]at z3;exact fin (lv:=lv) (ws:=sn cs.length "open") rfl (by rw[length_replicate]) (λw hw=>by rw[List.eq_of_mem_replicate hw];decide+kernel) ((aw (n:=m+400) (z3.pull (A:=hand h _) 1e6) nofun).sub 0e1)
def Ao {SP:Addr}(ro:Ro K R)(hk:5<=k)(n1:rs.length<=24)(hs:ei O ss rs)(hp:ag (pt SP (wp ss)) O Δ)(z:Sep O H)(hte:∀ {v:V}{H:Hp}{Q:VK},aa tab R k 100 [v] H Q E->te (some v::rest) H Q)
  (q:∀ DE (L:List (Addr×Rw)) H',L.map (·.2)=rs->Sep (pt DE (wp (L.map av))::(L.reverse.map (Ht R)++O)) H'->Q (ut DE) H'):tR te (Ef R.K SP) (none::rest) H Q:=by
 have hsl:=hs.1;refine qO (xs:=ss) nofun (λD ys H=>∃ L:List (Addr×Rw),ys=L.map av/\L.map (·.2)=rs.take ys.length/\Sep (pt D (wp ys)::(L.reverse.map (Ht R)++O)) H) (λD ys H hI=>?_) (λD hD=>⟨[],rfl,rfl,z.new (o:=wp []) hD⟩) (λD ys y H hy hI=>?_) (λDE ys H hl2 hI=>?_)
 .obtain⟨L,_,_,hs⟩:=hI;exact bB.of (hs.get (.t (ao hp)))
 .obtain⟨L,e,e2,z6⟩:=hI;have hyl:=(sw.mp hy).1;have er:rs[ys.length]? =some (rs[ys.length]'nofun):=li _;generalize rs[ys.length]'nofun=r at er;obtain⟨t,Δ,e3,pp⟩:=hs.2.2 _ _ er;rw[hy]at e3;cases e3;refine hte (A3 r ro nofun (hs.2.1 _ (cr er)) (Sep.IJ (z6.tX (.t (ao pp))) z6) (λde H7 z7=>?_));have z8:=(z7.pull (A:=pt D (wp ys)) 1e6).set (o':=wp (ys++[ut de])) rfl;refine qY.mk (z7.get 1e6) nofun ⟨L++[(de,r)],by rw[e];simp[av],?_,?_⟩
  .rw[dL,e2,ci,f8,take_succ,er]
   rfl
  .rw[List.reverse_append,dL,jp];show Sep (pt D _::eB R de r::(L.reverse.map (Ht R)++O)) _;exact z8.sub 0e1
 obtain⟨L,rfl,e2,z6⟩:=hI;refine q DE L H ?_ z6;rw[e2,hl2,hs.1];exact take_of_length_le (pi _)
def Sep.cut {A B:List ay}(z:Sep (A++(B++O)) H):Sep (A++O) H:=by
 induction B with
 |nil=>exact z
 |cons X B ih=>exact ih (z.pull (ao .e)).drop
def jE {b:Addr}{ys:List V}(ha:H a=some (wr xs))(hb:H b=some (wr ys))(hl:xs.length=ys.length)(h:∀ (j:Nat) (x y:V),xs[j]? =some x->ys[j]? =some y->dz K H (n+1) x y true):dz K H (n+2) (ut a) (ut b) true:=by
 have z:=dz.tt (K:=K) (e:=λ_=>true) (bP.of ha) (bP.of hb) h
 rwa [show((List.range (min xs.length ys.length)).all (λ_=>true)&&xs.length ==ys.length)=true by simp[hl]]at z
def qF {b:Addr}{ys:List V}(ha:H a=some (wp xs))(hb:H b=some (wp ys))(hl:xs.length=ys.length)(h:∀ (j:Nat) (x y:V),xs[j]? =some x->ys[j]? =some y->dz K H (n+1) x y true):dz K H (n+2) (ut a) (ut b) true:=by
 have z:=dz.ll (K:=K) (e:=λ_=>true) (bB.of ha) (bB.of hb) hl h
 first
  |rwa [show((List.range xs.length).all (λ_=>true))=true by simp]at z
  |simpa[hl] using z
def bY (h:aI v=true):dz K H n v v true:=by
 have z:=dz.flat (K:=K) (H:=H) (n:=n) h h
 rwa [jn h]at z
def qa {b:Addr}(ha:H a=some (wr (ns.map v0)))(hb:H b=some (wr (ns.map v0))):dz K H (n+2) (ut a) (ut b) true:=jE ha hb rfl λj x y e1 e2=>by
 rw[e1]at e2;cases e2;rw[im]at e1;obtain⟨i,_,rfl⟩:=nl.mp e1;exact bY rfl
def Av {t t2 t1 t3 l1 l3:Addr}{cs:List Int}(h1:H t=some (wr [v0 at_,ut t1,ut l1]))(h2:H t2=some (wr [v0 at_,ut t3,ut l3]))(ha:H t1=some (wr (ns.map v0)))(hb:H t3=some (wr (ns.map v0)))(hc:H l1=some 0e9)(hd:H l3=some 0e9):dz R.K H 3 (ut t) (ut t2) true:=by
 refine jE h1 h2 rfl λj x y f1 f2=>?_
 match j,f1,f2 with
 |0,f1,f2=>cases f1;cases f2;exact bY rfl
 |1,f1,f2=>cases f1;cases f2;exact qa ha hb
 |2,f1,f2=>cases f1;cases f2;exact Ek hc hd
def KP {e f:ba}(h:iA e=iA f)(z:Sep (aH e::aH f::O) H):dz K H 4 (aR e) (aR f) true:=by
 obtain⟨ts,z1⟩:=HH z;obtain⟨us,z2⟩:=HH (z1.pull (A:=aH f) (.t .k3));have c1:=fS.of (z1.pull (A:=fS ts e.c0 e.g) .k3);have c2:=fS.of (z2.pull (A:=fS us f.c0 f.g) .k3);have e1:e.at_=f.at_:=congrArg (·.1) h;have e2:e.x=f.x:=congrArg (·.2.1) h;have e3:e.c0=f.c0:=congrArg (·.2.2.1) h;have e4:e.g=f.g:=congrArg (·.2.2.2) h;have t1:=z1.atT;have t2:=z2.atT;have x1:=z1.tX (t:=e.t1) .k1;have x2:=z2.tX (t:=f.t1) .k1;have l1:=z1.get (a:=e.lc) .k2;have l2:=z2.get (a:=f.lc) .k2;rw[e1]at t1;rw[e2]at x1;rw[e3,e4]at c1;refine jE t1 t2 rfl λj x y f1 f2=>?_
 match j,f1,f2 with
 |0,f1,f2=>cases f1;cases f2;exact bY rfl
 |1,f1,f2=>cases f1;cases f2;exact qa x1 x2
 |2,f1,f2=>
  cases f1;cases f2;refine qF l1 l2 (by rw[ce,ce,c1.1,c2.1]) λi v w g1 g2=>?_
  rw[im]at g1 g2;obtain⟨a,ha,rfl⟩:=nl.mp g1;obtain⟨b,hb,rfl⟩:=nl.mp g2;have hlt:=(sw.mp ha).1;have hg:f.g[i]? =some (f.g[i]'(by rw[<-c1.1];exact hlt)):=li _;have q1:=c1.2 i a _ ha hg;have q2:=c2.2 i b _ hb hg;exact qa (ns:=[_,_,_]) q1 q2
def IH {D lg:Addr}{hs fs:List ba}(e:hs.map iA=fs.map iA)(hD:H D=some (wp (hs.map aR)))(hL:H lg=some (wp (fs.map aR)))(hp:∀ {i:Nat}{a b:ba},hs[i]? =some a->fs[i]? =some b->∃ Δ,Sep (aH a::aH b::Δ) H):dz K H 5 (ut D) (ut lg) true:=by
 have hl:hs.length=fs.length:=by
  have:=congrArg List.length e
  rwa [ce,ce]at this
 refine qF hD hL (by rw[ce,ce,hl]) λj x y f1 f2=>?_
 rw[im]at f1 f2;obtain⟨a,ha,rfl⟩:=nl.mp f1;obtain⟨b,hb,rfl⟩:=nl.mp f2;obtain⟨Δ,z⟩:=hp ha hb;refine KP ?_ z;have h2:(hs.map iA)[j]? =(fs.map iA)[j]? :=by rw[e]
 rw[im,im,ha,hb]at h2;exact Option.some.inj h2
section
variable {m l s b en ow SP d p lv lg:Addr}{at_:Int}{ds ss lgs:List V}{x:Bx}{cs:List Int}{ws:List Str}{es fs:List ba}
set_option tactic.hygienic true in
def tw (hk:1<=k)(z:Sep (cJ ow SP d p lv lg at_ x cs ws lgs O) H)(q:∀ t t1 l1 H',Sep (pt t (wr [v0 at_,ut t1,ut l1])::pt l1 0e9::pt t1 (wr (x.ls.map v0))::cJ ow SP d p lv lg at_ x cs ws lgs O) H'->Q (ut t) H'):aa tab R k 113 [ut ow] H Q E:=by
 delta jT;right;refine rO z (z.get .k1) (λt1 H1 g z1=>?_);rw[rL]at z1;have z1:Sep (pt t1 (wr (x.ls.map v0))::cJ ow SP d p lv lg at_ x cs ws lgs O) H1:=z1;clear z;right;rename_i l1 H2 z2 t H3 z3;exact q t t1 l1 H3 z3
noncomputable abbrev Fj (R:Rt)(m l s b en ow SP d p lv lg:Addr)(at_:Int)(ds ss:List V)(x:Bx)(cs:List Int)(ws:List Str)(es fs:List ba)(O:List ay):List ay:=bw R m l s b en at_ ds::ar R s cs ws::ai R b x::pt en 1e7::cJ ow SP d p lv lg at_ x cs ws (fs.map aR) (pt SP (wp ss)::(es.map aH++(fs.map aH++O)))
def uN (ro:Ro K R)(hk:4<=k)(le:es.length<=1000)(e:es.map iA=fs.map iA)(z:Sep (Fj R m l s b en ow SP d p lv lg at_ ds ss x cs ws es fs O) H)(q:∀ H',Sep (Fj R m l s b en ow SP d p lv lg at_ ds ss x cs ws es fs O) H'->Q (.bl true) H'):aa tab R k 114 [ut m,ut ow] H Q E:=by
 delta il;right;refine ae cV z .e rfl rfl ?_;left;refine wk sV ro nofun z (λt t1 l1 H1 z1=>?_);clear z;have z2:Sep (cJ ow SP d p lv lg at_ x cs ws (fs.map aR) (pt t (wr [v0 at_,ut t1,ut l1])::pt l1 0e9::tu t1 (x.ls.map v0)::bw R m l s b en at_ ds::ar R s cs ws::ai R b x::pt en 1e7::pt SP (wp ss)::(es.map aH++(fs.map aH++O)))) H1:=z1.sub 0e1;clear z1;right;refine tw nofun z2 (λt' t1' l1' H2 z3=>?_);clear z2;left;refine qp (Av (ns:=x.ls) (cs:=cs) 2e8 z3.at 2e8 2e8 2e8 2e8) 1e1 (λg=>Sep.ne (z3.sub (Γ':=[pt t' (wr [v0 at_,ut t1',ut l1']),pt t (wr [v0 at_,ut t1,ut l1])]) 0e1) g.symm) ?_;refine au rfl ?_;have z4:Sep (bw R m l s b en at_ ds::ar R s cs ws::cJ ow SP d p lv lg at_ x cs ws (fs.map aR) (ai R b x::pt en 1e7::pt SP (wp ss)::(es.map aH++(fs.map aH++O)))) H2:=z3.sub 0e1;clear z3;right;refine ae cV z4 .e rfl rfl ?_;left;refine ml sV nofun z4 (λl2 H3 z5=>?_);clear z4;right;refine qp (wU 2e8 2e8) 1e1 (Sep.ne (z5.sub (Γ':=[pt l2 0e4,pt lv 0e4]) 0e1)) ?_;refine au rfl ?_;have z6:Sep (bw R m l s b en at_ ds::pt en 1e7::ar R s cs ws::ai R b x::cJ ow SP d p lv lg at_ x cs ws (fs.map aR) (pt SP (wp ss)::(es.map aH++(fs.map aH++O)))) H3:=z5.sub 0e1;clear z5;right;refine ae cV z6 .e rfl rfl ?_;left;have z7:Sep (bw R m l s b en at_ ds::pt en 1e7::(es.map aH++(ar R s cs ws::ai R b x::cJ ow SP d p lv lg at_ x cs ws (fs.map aR) (pt SP (wp ss)::(fs.map aH++O))))) H3:=Sep.mv (P:=[_,_]) (Δ:=[_,_,_,_,_,_,_,_]) (L:=es.map aH) z6;refine Cm nofun le z7 (λD hs H4 eh z8=>?_);clear z6 z7;have z9:Sep (pt D (wp (hs.map aR))::bw R m l s b en at_ ds::pt en 1e7::ar R s cs ws::ai R b x::cJ ow SP d p lv lg at_ x cs ws (fs.map aR) (pt SP (wp ss)::((hs.map aH++es.map aH)++(fs.map aH++O)))) H4:=Sep.mv (P:=[_,_,_]) (Δ:=hs.map aH++es.map aH) (L:=[_,_,_,_,_,_,_,_]) (by rw[jp];exact z8);rw[jp]at z9;clear z8;right;refine uf (IH (eh.trans e) z9.at (z9.get 1e6) (λ{i a c} ha hc=>⟨_,(z9.pull (A:=aH c) (.j2 (.j2 (.j2 (.j2 (.j2 (.t (ao (ao (fU hc))))))))) ).pull (A:=aH a) (.j2 (.j2 (.j2 (.j2 (.j2 (.j2 (fU ha)))))))⟩)) 1e1 (Sep.ne (z9.sub (Γ':=[pt D (wp (hs.map aR)),pt lg (wp (fs.map aR))]) 0e1)) ?_;have za:Sep (bw R m l s b en at_ ds::pt en 1e7::ar R s cs ws::ai R b x::cJ ow SP d p lv lg at_ x cs ws (fs.map aR) (pt SP (wp ss)::(es.map aH++(fs.map aH++O)))) H4:=Sep.cut (A:=[_,_,_,_,_,_,_,_,_,_]) (B:=hs.map aH) z9.drop;exact q H4 (za.sub 0e1)
end
def ei.app (h:ei O ss rs):ei (Δ++O) ss rs:=⟨h.1,h.2.1,λi r e=>by
 obtain⟨a,_,e2,p⟩:=h.2.2 i r e;exact⟨a,_,e2,ao p⟩⟩
def vc {es fs:List ba}(e:es.map iA=fs.map iA):fs.length=es.length:=by
 have:=congrArg List.length e;rw[ce,ce]at this;exact this.symm
section
variable {m l s b en ow SP d p lv lg:Addr}{at_:Int}{x:Bx}{cs:List Int}{ws:List Str}{es fs:List ba}{S L P:List (Addr×Rw)}{n:Nat}
noncomputable abbrev cn (R:Rt)(L S:List (Addr×Rw))(O:List ay):List ay:=L.reverse.map (Ht R)++(S.reverse.map zS++O)
end
section
variable {m l s b en ow SP d p lv lg:Addr}{at_:Int}{ds:List V}{x:Bx}{cs:List Int}{ws:List Str}{es fs:List ba}
set_option tactic.hygienic true in
def xh (ro:Ro K R)(hk:9<=k)(n0:1<=ds.length)(n1:ds.length<=24)(h0:0<=at_)(h1:at_<=ds.length)(le:es.length<=1000)(hd:yp R O ds)(z:Sep (bw R m l s b en at_ ds::ar R s cs ws::ai R b x::pt en 1e7::(es.map aH++O)) H)
  (q:∀ m2 l2 s2 b2 en2 (hs:List ba) H',hs.map iA=es.map iA->Sep (bw R m2 l2 s2 b2 en2 at_ ds::ar R s2 cs ws::ai R b2 x::pt en2 (wp (hs.map aR))::(hs.map aH++(bw R m l s b en at_ ds::ar R s cs ws::ai R b x::pt en 1e7::(es.map aH++O)))) H'->Q (ut m2) H'):aa tab R k 56 [ut m] H Q E:=by
 delta eJ;obtain⟨dx,z1⟩:=pO z;clear z;right;intro m2 dx2 g1 g2 g3;refine sY ro nofun n0 n1 h0 h1 .k2 .k3 (.j2 .k2) (λv hv=>?_) (g6 z1 g1 g2 g3) (λl2 s2 b2 e0 H1 z2=>⟨rfl,?_⟩)
 .obtain⟨a,r,Δ',e,hp⟩:=hd v hv;exact⟨a,r,_,e,.j2 (.j2 (.j2 (ao hp)))⟩
 clear z1;have z3:=uS (dx:=dx) (z2.sub (Γ':=pt m _::pt dx _::pt l _::bw R m2 l2 s2 b2 e0 at_ ds::ar R s2 cs ws::ai R b2 x::ar R s cs ws::ai R b x::pt en 1e7::(es.map aH++O)) 0e1);clear z2;right;refine ae cV z3 .e rfl rfl ?_;left;have z3:Sep (bw R m l s b en at_ ds::pt en 1e7::bw R m2 l2 s2 b2 e0 at_ ds::ar R s2 cs ws::ai R b2 x::ar R s cs ws::ai R b x::(es.map aH++O)) H1:=z3.sub 0e1;have z4:Sep (bw R m l s b en at_ ds::pt en 1e7::(es.map aH++(bw R m2 l2 s2 b2 e0 at_ ds::ar R s2 cs ws::ai R b2 x::ar R s cs ws::ai R b x::O))) H1:=Sep.mv (P:=[_,_]) (Δ:=[_,_,_,_,_]) (L:=es.map aH) z3;clear z3;refine Cm nofun le z4 (λD hs H2 eh z5=>?_);clear z4;have z6:Sep (bw R m2 l2 s2 b2 e0 at_ ds::(pt D (wp (hs.map aR))::bw R m l s b en at_ ds::pt en 1e7::(hs.map aH++(es.map aH++(ar R s2 cs ws::ai R b2 x::ar R s cs ws::ai R b x::O))))) H2:=z5.pull (.j2 (.t (ao (ao .e))));obtain⟨dx3,z7⟩:=pO z6;clear z5 z6;right;rename_i H3 z8;refine q m2 l2 s2 b2 D hs H3 eh ?_;have z9:=uS (dx:=dx3) z8;have za:Sep (bw R m2 l2 s2 b2 D at_ ds::pt D (wp (hs.map aR))::bw R m l s b en at_ ds::pt en 1e7::ar R s2 cs ws::ai R b2 x::ar R s cs ws::ai R b x::(hs.map aH++(es.map aH++O))) H3:=by
  have y:=Sep.mv (P:=[_,_,_,_]) (Δ:=hs.map aH++es.map aH) (L:=[ar R s2 cs ws,ai R b2 x,ar R s cs ws,ai R b x]) (O:=O) (by rw[jp];exact z9);rw[jp]at y;exact y
 have zb:Sep (bw R m2 l2 s2 b2 D at_ ds::ar R s2 cs ws::ai R b2 x::pt D (wp (hs.map aR))::bw R m l s b en at_ ds::ar R s cs ws::ai R b x::pt en 1e7::(hs.map aH++(es.map aH++O))) H3:=za.sub 0e1;exact Sep.mv (P:=[_,_,_,_]) (Δ:=[_,_,_,_]) (L:=hs.map aH) zb
end
abbrev yR:iP->Option (V×V)
 | .on _ _ _=>none
 | .no d c=>some (v4 d,v0 c)
 | .nf b _=>some (v4 "fit",v4 b.nm)
abbrev yM (rs:List Rw)(at_:Int)(x:Bx)(cs:List Int)(ws:List Str):Option (V×V):=match rs[at_.toNat]? with
 |none=>none
 |some r=>yR (bE x cs ws r)
abbrev qZ (y:Option (V×V))(at_:Int)(v:V):ay:=match y with
 |none=>pu (v=wf)
 |some p=>bx λt:Addr=>[pt t (wr [v0 at_,p.1,p.2]),pu (v=ut t/\aI p.1=true/\aI p.2=true)]
def xf {cs:List Int}{ws:List Str}{v1 v2:V}(h:yM rs at_ x cs ws=some (v1,v2)):aI v1=true/\aI v2=true:=by
 unfold yM at h;cases e:rs[at_.toNat]? with
 |none=>rw[e]at h;cases h
 |some r=>
  rw[e]at h;have h:yR (bE x cs ws r)=some (v1,v2):=h;cases ho:bE x cs ws r with
  |on n x' cs'=>rw[ho]at h;cases h
  |no d c=>rw[ho]at h;cases h;exact⟨rfl,rfl⟩
  |nf b i=>rw[ho]at h;cases h;exact⟨rfl,rfl⟩
def Fg {v1 v2:V}{t:Addr}(e:y=some (v1,v2))(f:aI v1=true/\aI v2=true)(z:Sep (pt t (wr [v0 at_,v1,v2])::O) H):Sep (qZ y at_ (ut t)::O) H:=by
 subst e;exact iH t ((Sep.sX ⟨rfl,f⟩ z).pull .k1)
section
variable {m l s b:Addr}{at_:Int}{ds:List V}{A:ay}{rs:List Rw}{x:Bx}{cs:List Int}{ws:List Str}
set_option tactic.hygienic true in
def Fo (hA:Mk R A m l s b at_ ds)(ro:Ro K R)(hk:11<=k)(h0:0<=at_)(h1:at_<=ds.length)(hd:bA R O ds rs)(z:Sep (A::ar R s cs ws::ai R b x::O) H)
  (q:∀ v H',Sep (qZ (yM rs at_ x cs ws) at_ v::A::ar R s cs ws::ai R b x::O) H'->Q v H'):aa tab R k 43 [ut m] H Q E:=by
 delta iy;have hl1:=hd.1;have q0:yM rs at_ x cs ws=none->∀ H',Sep (A::ar R s cs ws::ai R b x::O) H'->Q wf H':=λe H' z'=>q _ H' (by rw[e];exact Sep.sX rfl z')
 have q1:∀ v1 v2,yM rs at_ x cs ws=some (v1,v2)->∀ t H',Sep (pt t (wr [v0 at_,v1,v2])::A::ar R s cs ws::ai R b x::O) H'->Q (ut t) H':=λv1 v2 e t H' z'=>q _ H' (Fg e (xf e) z')
 unfold yM at q0 q1;right;obtain⟨C,dx,fl,⟨c1,c2,c3,c4⟩,z1⟩:=hA.o z;refine⟨m,C,dx,_,_,rfl,z1.at,c3,c4,?_⟩;left;refine jI hA nofun z .e ?_
 by_cases he:at_=ds.length
 .rw[decide_eq_true he];right;rw[getElem?_eq_none nofun]at q0;exact q0 rfl H z
 .rw[decide_eq_false he];have hlt:at_.toNat<rs.length:=by omega
  have er:rs[at_.toNat]? =some rs[at_.toNat]:=li hlt;generalize rs[at_.toNat]=r at er;obtain⟨de,Δ,e2,p⟩:=hd.2 _ _ er;rw[er]at q0 q1;dsimp only at q0 q1;right;refine az z1.at c1 (c2 _ 2e5) rfl ?_;right;refine az z1.at c1 (c2 _ 2e5) rfl ?_;right;refine aX (i:=at_) 2e8 (aW h0 e2) ?_;right;refine az z1.at c1 (c2 _ 2e5) rfl ?_;right;refine ae aN z .k2 rfl rfl ?_;left;refine j5 ro nofun z .k2 (λb2 H2 z2=>?_);obtain⟨C,dx,fl,⟨c1,c2,_⟩,z3⟩:=hA.o (z2.pull .k1);right;refine az z3.at c1 (c2 _ 2e5) rfl ?_;right;refine ae aZ z2 .k2 rfl rfl ?_;left;refine j3 ro nofun z2 .k2 (λs2 H3 z4=>?_);clear z z1 z2 z3;right;have z5:Sep (ai R b2 x::ar R s2 cs ws::eB R de r::A::ar R s cs ws::ai R b x::Δ) H3:=z4.sub (.cons .k1 (.cons .e (.cons (.j2 (.t p)) .refl)));refine wN r ro nofun z5 (λt H4 z6=>?_);clear z4 z5;have back:∀ {b2':ay}{s2':ay}{H':Hp},Sep (b2'::s2'::eB R de r::A::ar R s cs ws::ai R b x::Δ) H'->Sep (A::ar R s cs ws::ai R b x::O) H':=λ{b2' s2' H'} z=>(z.drop.drop).push (.j2 (.t p))
  generalize ho:bE x cs ws r=o at q0 q1 z6;cases o with
  |on n x' cs'=>
   have z6:Sep (tu t [v0 n,wf]::_::_::eB R de r::A::ar R s cs ws::ai R b x::Δ) H4:=z6;right;refine cH ?_;left;refine aJ rfl ?_;exact q0 rfl H4 (back z6.drop)
  |no dd c=>
   obtain⟨te,z6⟩:=gp z6;have z6:Sep (tu t [wf,ut te]::tu te [v4 dd,v0 c]::_::_::eB R de r::A::ar R s cs ws::ai R b x::Δ) H4:=z6;right;refine cH ?_;left;refine au rfl ?_;obtain⟨C,dx,fl,⟨c1,c2,_⟩,z7⟩:=hA.o (z6.pull (A:=A) 1e6);have e7:=z7.at;clear z7;right;refine az e7 c1 (c2 _ 2e5) rfl ?_;right;rename_i t4 H5 z8;refine q1 _ _ rfl t4 H5 ?_;exact(z8.sub (.cons (.j2 .k3) (.cons .e (.drop (.drop (.drop (.drop .refl)))))):Sep (eB R de r::pt t4 _::A::ar R s cs ws::ai R b x::Δ) H5).push (.j2 (.j2 p))
  |nf n i=>
   obtain⟨te,z6⟩:=gp z6;have z6:Sep (tu t [wf,ut te]::tu te [v4 "fit",v4 n.nm]::_::_::eB R de r::A::ar R s cs ws::ai R b x::Δ) H4:=z6;right;refine cH ?_;left;refine au rfl ?_;obtain⟨C,dx,fl,⟨c1,c2,_⟩,z7⟩:=hA.o (z6.pull (A:=A) 1e6);have e7:=z7.at;clear z7;right;refine az e7 c1 (c2 _ 2e5) rfl ?_;right;rename_i t4 H5 z8;refine q1 _ _ rfl t4 H5 ?_;exact(z8.sub (.cons (.j2 .k3) (.cons .e (.drop (.drop (.drop (.drop .refl)))))):Sep (eB R de r::pt t4 _::A::ar R s cs ws::ai R b x::Δ) H5).push (.j2 (.j2 p))
end
section
variable {ow SP d p lv lg:Addr}{at_:Int}{x:Bx}{cs:List Int}{ws:List Str}{ss lgs:List V}{rs:List Rw}
set_option tactic.hygienic true in
def CV (hk:4<=k)(h0:0<=at_)(h1:at_<=ss.length)(hx:0<=x.l)(hl:cs.length=ws.length)(hs:ei O ss rs)(z:Sep (cJ ow SP d p lv lg at_ x cs ws lgs (pt SP (wp ss)::O)) H)
  (q:∀ v H',Sep (qZ (yM rs at_ x cs ws) at_ v::cJ ow SP d p lv lg at_ x cs ws lgs (pt SP (wp ss)::O)) H'->Q v H'):aa tab R k 116 [ut ow] H Q E:=by
 delta mi;have hl1:=hs.1;have q0:yM rs at_ x cs ws=none->∀ H',Sep (cJ ow SP d p lv lg at_ x cs ws lgs (pt SP (wp ss)::O)) H'->Q wf H':=λe H' z'=>q _ H' (by rw[e];exact Sep.sX rfl z')
 have q1:∀ v1 v2,yM rs at_ x cs ws=some (v1,v2)->∀ t H',Sep (pt t (wr [v0 at_,v1,v2])::cJ ow SP d p lv lg at_ x cs ws lgs (pt SP (wp ss)::O)) H'->Q (ut t) H':=λv1 v2 e t H' z'=>q _ H' (Fg e (xf e) z')
 unfold yM at q0 q1;right;refine aE (λhe=>?_) (λhe=>?_)
 .rw[getElem?_eq_none nofun]at q0;right;exact q0 rfl H z
 .have hlt:at_.toNat<rs.length:=by omega
  have er:rs[at_.toNat]? =some rs[at_.toNat]:=li hlt;have ok:=hs.2.1 _ (getElem_mem hlt);generalize rs[at_.toNat]=r at er ok;obtain⟨t,Δ,e2,pt_⟩:=hs.2.2 _ _ er;rw[er]at q0 q1;dsimp only at q0 q1;right;refine aX (i:=at_) 2e8 (aW h0 e2) ?_;right;refine w8 (kvs:=yU.zip (x.ls.map v0)) z (z.get .k1) (λd2 H1 z1=>?_);right;rename_i p2 H2 z2;have z2:Sep (pt p2 0e9::aA d2 x::cJ ow SP d p lv lg at_ x cs ws lgs (pt SP (wp ss)::O)) H2:=z2;refine rG (O:=pt ow 1e8::aA d x::pt p 0e9::pt lg (wp lgs)::pt SP (wp ss)::O) r nofun ok hx hl (Sep.IJ (z2.tX (.j2 (.j2 (.j2 (.j2 pt_))))) (z2.sub 0e1)) (λtd H3 z3=>?_);clear z z1 z2;have back:∀ {a b c e:ay}{H':Hp},Sep (a::b::c::e::pt lv 0e4::pt ow 1e8::aA d x::pt p 0e9::pt lg (wp lgs)::pt SP (wp ss)::O) H'->Sep (cJ ow SP d p lv lg at_ x cs ws lgs (pt SP (wp ss)::O)) H':=λz=>z.drop.drop.drop.drop.sub 0e1
  generalize ho:bE x cs ws r=o at q0 q1 z3;cases o with
  |on n x' cs'=>
   have z3:Sep (pt td (wr [v4 "on",v0 n,v0 0])::_) H3:=z3;right
   repeat walk_at "sc"
   exact q0 rfl H3 (back z3)
  |no dd c=>
   have z3:Sep (pt td (wr [v4 dd,v0 c,v0 0])::tu t r.tl::aA d2 x::pt p2 0e9::pt lv 0e4::pt ow 1e8::aA d x::pt p 0e9::pt lg (wp lgs)::pt SP (wp ss)::O) H3:=z3;right;refine au (by rcases oo ho with rfl|rfl<;>decide+kernel) ?_;right;rename_i t4 H4 z4;exact q1 _ _ rfl t4 H4 (z4.sub 0e1)
  |nf n i=>
   have z3:Sep (pt td (wr [v4 "fit",v4 n.nm,v0 i])::tu t r.tl::aA d2 x::pt p2 0e9::pt lv 0e4::pt ow 1e8::aA d x::pt p 0e9::pt lg (wp lgs)::pt SP (wp ss)::O) H3:=z3;right
   repeat walk_at "sc"
   rename_i t4 H4 z4;exact q1 _ _ rfl t4 H4 (z4.sub 0e1)
end
def yN (wd:Wd):∃ f,tab.me.lookup (wd.cl,("words":Str))=some f/\(∀ R Ψ,dflt ⟨tab,R,Ψ,.calm⟩ f 1=[])/\∀ {R:Rt}{k:Nat}{v:V}{O:List ay}{H:Hp}{Q:VK}{E:XK},1<=k->Sep O H->(∀ p H',Sep (pt p (wp [v4 wd.s])::O) H'->Q (ut p) H')->aa tab R k f [v] H Q E:=by
 cases wd
 .exact⟨69,rfl,λ_ _=>rfl,λhk z q=>wc (d:=jD) nofun rfl rfl (by left;exact iU z 1e1 q)⟩
 .exact⟨71,rfl,λ_ _=>rfl,λhk z q=>wc (d:=jQ) nofun rfl rfl (by left;exact iU z 1e1 q)⟩
 .exact⟨73,rfl,λ_ _=>rfl,λhk z q=>wc (d:=jh) nofun rfl rfl (by left;exact iU z 1e1 q)⟩
 .exact⟨75,rfl,λ_ _=>rfl,λhk z q=>wc (d:=ic) nofun rfl rfl (by left;exact iU z 1e1 q)⟩
 .exact⟨77,rfl,λ_ _=>rfl,λhk z q=>wc (d:=iq) nofun rfl rfl (by left;exact iU z 1e1 q)⟩
 .exact⟨79,rfl,λ_ _=>rfl,λhk z q=>wc (d:=jH) nofun rfl rfl (by left;exact iU z 1e1 q)⟩
def vC (h0: -1000000000<=i)(h1:i<=1000000000)(q:Q (v4 (toString i)) H):qq G .str [v0 i] H Q:=by
 unfold qq;refine .inl ⟨i,rfl,?_,q⟩;rcases Nat.eq_zero_or_pos i.natAbs with e|e
 .rw[e];decide
 .exact nw ((Nat.log2_lt nofun).mpr (show i.natAbs<2 ^ 30 by omega)) 1e1
abbrev Sp.ws:Sp->List Str
 | .set b i=>["set",b.nm,toString i]
 | .add b i=>["add",b.nm,toString i]
 | .take b c=>["take",b.nm,c.nm]
 | .read b=>["read",b.nm]
 | .write b=>["write",b.nm]
set_option tactic.hygienic true in
def zT {f:Nat}(hk:1<=k)(ok:sp.ok)(hf:tab.me.lookup (sp.cl,("words":Str))=some f) (z:Sep O H) (p:ag (sd R d sp) O Δ) (q:∀ p H',Sep (pt p (wp (sp.ws.map v4))::O) H'->Q (ut p) H'):aa tab R k f [ut d] H Q E:=by
 obtain⟨dx,e⟩:=gC z p;cases sp with
 |set n i=>
  have hf:some 22=some f:=hf;cases hf;delta kS;right;refine az e rfl rfl rfl ?_;right;refine az e rfl rfl rfl ?_;left;refine vC ok.1 ok.2 ?_;right;rename_i p H1 z1;exact q p H1 z1
 |add n i=>
  have hf:some 25=some f:=hf;cases hf;delta kH;right;refine az e rfl rfl rfl ?_;right;refine az e rfl rfl rfl ?_;left;refine vC ok.1 ok.2 ?_;right;rename_i p H1 z1;exact q p H1 z1
 |take n m=>
  have hf:some 28=some f:=hf;cases hf;delta jO;right;refine az e rfl rfl rfl ?_;right;refine az e rfl rfl rfl ?_;right;rename_i p H1 z1;exact q p H1 z1
 |read n=>
  have hf:some 31=some f:=hf;cases hf;delta jy;right;refine az e rfl rfl rfl ?_;right;rename_i p H1 z1;exact q p H1 z1
 |write n=>
  have hf:some 34=some f:=hf;cases hf;delta ie;right;refine az e rfl rfl rfl ?_;right;rename_i p H1 z1;exact q p H1 z1
abbrev A8 (n:Int)(o:Option Int):List V:=match o with
 |none=>[v4 "hop",v4 (toString n)]
 |some i=>[v4 "hop",v4 (toString n),v4 "if",v4 (toString i)]
def wb (h:i.natAbs<=1000)(q:Q (v4 (toString i)) H):qq G .str [v0 i] H Q:=by
 unfold qq;exact .inl ⟨i,rfl,Nat.lt_of_le_of_lt (Nat.log2_le_self _) nofun,q⟩
set_option tactic.hygienic true in
def BJ {n:Int}(hk:1<=k)(h0:0<=n)(h1:n<=24)(ho:Lh o)(z:Sep O H)(p:ag (GW R d n o) O Δ)(q:∀ l H',Sep (pt l (wp (A8 n o))::O) H'->Q (ut l) H'):aa tab R k 61 [ut d] H Q E:=by
 delta kX;obtain⟨dx,e⟩:=zO z p;right;refine az e rfl rfl rfl ?_;left;refine wb nofun ?_;right;rename_i l H1 z1;obtain⟨dx,e⟩:=zO z1 (.t p);refine az e rfl rfl rfl ?_;right;refine bN ?_;cases o with
 |none=>
  left;refine au 1e1 ?_;right;exact q l H1 z1
 |some i=>
  left;refine aJ rfl ?_;right;refine⟨l,_,rfl,z1.at,?_⟩;right;refine az e rfl rfl rfl ?_;left;refine wb (by rcases ho with rfl|rfl<;>decide) ?_;right;rename_i l2 H2 z2;refine⟨_,z2.drop.at,?_⟩;unfold IY;refine⟨l2,_,rfl,z2.at,ol rfl,?_⟩;right;exact q l _ ((z2.pull .k1).set (o':=wp (A8 n (some i))) rfl |>.sub (.cons .e (.drop .refl)))
section
variable {m l s b:Addr}{at_:Int}{ds:List V}{rs:List Rw}{x:Bx}{cs:List Int}{ws:List Str}
def xH (ro:Ro K R)(hk:7<=k)(n0:1<=rs.length)(n1:rs.length<=24)(h0:0<=at_)(h1:at_<=rs.length)(hd:bA R O ds rs)(z:Sep (cS R m l s b at_ ds::ar R s cs ws::ai R b x::O) H)
  (q:∀ m2 l2 s2 b2 H',Sep (cS R m2 l2 s2 b2 at_ ds::ar R s2 cs ws::ai R b2 x::cS R m l s b at_ ds::ar R s cs ws::ai R b x::O) H'->Q (ut m2) H'):aa tab R k 48 [ut m] H Q E:=by
 delta eI;have e1:=hd.1;obtain⟨dx,z1⟩:=Dj z;clear z;right;intro m2 dx2 g1 g2 g3;refine ot (l:=l) (x:=x) (cs:=cs) (ws:=ws) ro nofun nofun nofun h0 nofun .k2 .k3 (.t .k3) hd.more.more.more.more.more.all (g6 z1 g1 g2 g3) (λl2 s2 b2 H2 z2=>⟨rfl,?_⟩);exact q m2 l2 s2 b2 H2 ((A1 (z2.sub (Γ':=pt m 1e4::pt dx (.own m)::pt l (wp ds)::cS R m2 l2 s2 b2 at_ ds::ar R s2 cs ws::ai R b2 x::ar R s cs ws::ai R b x::O) 0e1)).sub 0e1)
end
abbrev Rw.wd:Rw->List V
 | .lg w=>[v4 w.s]
 | .sp s=>s.ws.map v4
 | .hop n o=>A8 n o
def yW {n:Int}:∀ y ∈ A8 n o,∃ t,tyName y H=some t:=by
 intro y hy;cases o<;>simp only[A8,mo,not_mem_nil,or_false]at hy
 .rcases hy with rfl|rfl<;>exact⟨"str",rfl⟩
 .rcases hy with rfl|rfl|rfl|rfl<;>exact⟨"str",rfl⟩
def Rw.C4 (r:Rw):∀ y ∈ r.wd,∃ t,tyName y H=some t:=by
 cases r with
 |lg w=>intro y hy;rw[mem_singleton.mp hy];exact⟨"str",rfl⟩
 |sp s=>
  intro y hy;obtain⟨w,_,rfl⟩:=List.mem_map.mp hy;exact⟨"str",rfl⟩
 |hop n o=>exact yW
def AI (r:Rw)(ok:r.ok):∃ f,tab.me.lookup (r.cl,("words":Str))=some f/\(∀ Ψ,dflt ⟨tab,R,Ψ,.calm⟩ f 1=[])/\∀ {k:Nat}{de:Addr}{O Δ:List ay}{H:Hp}{Q:VK}{E:XK},1<=k->Sep O H->ag (eB R de r) O Δ->(∀ p H',Sep (pt p (wp r.wd)::O) H'->Q (ut p) H')->aa tab R k f [ut de] H Q E:=by
 cases r with
 |lg w=>
  obtain⟨f,h1,h2,h3⟩:=yN w;exact⟨f,h1,h2 R,λhk z p q=>h3 hk z q⟩
 |sp s=>
  obtain⟨f,hf⟩:∃ f,tab.me.lookup (s.cl,("words":Str))=some f:=by cases s<;>exact⟨_,rfl⟩
  exact⟨f,hf,λΨ=>by cases s<;>cases hf<;>rfl,λhk z p q=>zT hk ok hf z p q⟩
 |hop n o=>exact⟨61,rfl,λ_=>rfl,λhk z p q=>BJ hk ok.1.1 ok.1.2 ok.2 z p q⟩
abbrev IP (p:Addr×Rw):ay:=pt p.1 (wp p.2.wd)
def wz {m l s b:Addr}(hA:Mk R A m l s b at_ ds)(hk:2<=k)(hn:rs.length<=24)(ok:∀ r ∈ rs,Rw.ok r) (hd:bA R O ds rs) (z:Sep (A::O) H)
  (q:∀ p (L:List (Addr×Rw)) H',L.map (·.2)=rs->Sep (pt p (wp (L.map av))::(L.reverse.map IP++A::O)) H'->Q (ut p) H'):aa tab R k 47 [ut m] H Q E:=by
 delta gE;obtain⟨C,dx,fl,⟨c1,c2,_⟩,z1⟩:=hA.o z;right;refine az z1.at c1 (c2 _ 2e5) rfl ?_;right;refine qO (xs:=ds) (by have:=hd.1;omega) (λD ys H=>∃ L:List (Addr×Rw),ys=L.map av/\L.map (·.2)=rs.take ys.length/\Sep (pt D (wp ys)::(L.reverse.map IP++A::O)) H) (λD ys H hI=>?_) (λD hD=>⟨[],rfl,rfl,z.new (o:=wp []) hD⟩) (λD ys y H hy hI=>?_) (λDE ys H hl2 hI=>?_)
 .obtain⟨L,_,_,hs⟩:=hI;have hs:=hs.pull (A:=A) (.t (ao .e));obtain⟨C,dx,fl,_,z2⟩:=hA.o hs;exact bB.of 2e8
 .obtain⟨L,e,e2,z6⟩:=hI;have hyl:=(sw.mp hy).1;have er:rs[ys.length]? =some (rs[ys.length]'(by have:=hd.1;omega)):=li _;generalize rs[ys.length]'(by have:=hd.1;omega)=r at er;obtain⟨a,Δ,e3,pp⟩:=hd.2 _ _ er;rw[hy]at e3;cases e3;obtain⟨f,h1,h2,h3⟩:=AI (R:=R) r (ok _ (cr er));right;refine ae (wC r) z6 (.t (ao (.t pp))) ?_ h1 ?_
  .cases r with
   |lg w=>rfl
   |sp s=>cases s<;>rfl
   |hop n o=>rfl
  left;refine aC (vs':=[ut a]) (by show _::([]++dflt _ _ 1)=_;rw[h2];rfl) ?_;refine h3 nofun z6 (.t (ao (.t pp))) (λp H7 z7=>?_);have z8:=(z7.pull (A:=pt D (wp ys)) 1e6).set (o':=wp (ys++[ut p])) rfl;refine qY.mk (z7.get 1e6) (by have:=hd.1;omega) ⟨L++[(p,r)],by rw[e];simp[av],?_,?_⟩
  .rw[dL,e2,ci,f8,take_succ,er]
   rfl
  .rw[List.reverse_append,dL,jp];exact z8
 obtain⟨L,rfl,e2,z6⟩:=hI;refine q DE L H ?_ z6;rw[e2,hl2,hd.1];exact take_of_length_le (pi _)
def Es {p1 p2:Addr}{L1 L2:List (Addr×Rw)}(e:L1.map (·.2)=L2.map (·.2))(h1:H p1=some (wp (L1.map av)))(h2:H p2=some (wp (L2.map av)))(g1:∀ p ∈ L1,H p.1=some (wp p.2.wd)) (g2:∀ p ∈ L2,H p.1=some (wp p.2.wd)):dz R.K H 3 (ut p1) (ut p2) true:=by
 have hl:L1.length=L2.length:=by simpa using congrArg List.length e
 refine Gp (n:=1) h1 h2 (by rw[ce,ce,hl]) λj x y e1 e2=>?_
 rw[im]at e1 e2;obtain⟨⟨a,r⟩,f1,rfl⟩:=nl.mp e1;obtain⟨⟨b,r2⟩,f2,rfl⟩:=nl.mp e2;have e3:=congrArg (λl=>l[j]?) e;simp only[im,f1,f2]at e3;obtain rfl:r=r2:=by simpa using e3
 exact m9 (n:=0) (g1 _ (cr f1)) (g2 _ (cr f2)) (Rw.C4 r)
def Bz {L:List (Addr×Rw)}(z:Sep (L.reverse.map IP++O) H):∀ p ∈ L,H p.1=some (wp p.2.wd):=λp hp=>by
 obtain⟨Δ,pp⟩:=i9 (f:=IP) (x:=p) (l:=L.reverse) (by simpa using hp);exact(z.pull (pp O)).at
def Sep.EU:∀ {L O:List ay}{H:Hp},Sep (L++O) H->Sep O H
 | [],_,_,z=>z
 |_::_,_,_,z=>Sep.EU z.drop
abbrev C2 (o:Out):Prop:=∀ r x' cs',o=.on r x' cs'->aY cs'
section
variable {x x':Bx}{cs cs':List Int}{ws:List Str}{r:Rw}{rs:List Rw}{n at_:Int}
def GO {wd:Wd}(hx:x.ok)(hc:aY cs):C2 (bR wd x cs ws):=by
 have hs:=hx.2.2.2.2.1;have sm:∀ {r:Int}{y:Bx},C2 (.on r y cs):=λ{r y} r' x' cs' e=>by cases e;exact hc
 have no:∀ {d:Str}{c:Int},C2 (.no d c):=λ{d c} r' x' cs' e=>nomatch e
 have g1:∀ {r:Int}{y:Bx}{j:Nat}{v:Int},0<=v/\v<=1000000000->C2 (.on r y (cs.set j v)):=λ{r y j v} h r' x' cs' e=>by cases e;exact eA hc h.1 h.2
 cases wd
 .exact aq (λ_=>sm) λ_=>jF (λ_ _ _=>no) λ_ _=>g1 (cU hc)
 .exact aq (λ_=>sm) λ_=>aq (λ_=>g1 hs) λ_=>no
 .exact aq (λ_=>sm) λ_=>aq (λ_=>aq (λ_=>sm) λ_=>sm) λ_=>no
 .exact aq (λ_=>sm) λ_=>aq (λ_=>aq (λ_=>aq (λ_=>sm) λ_=>sm) λ_=>no) λ_=>no
 .exact aq (λ_=>sm) λ_=>aq (λ_=>jF (λ_ _ _=>no) λ_ _=>g1 (cU hc)) λ_=>jF (λ_ _ _=>no) λ_ _=>g1 (cU hc)
 .exact aq (λ_=>sm) λ_=>aq (λ_=>sm) λ_=>aq (λ_=>aq (λ_=>aq (λ_=>aq (λ_=>λr' x' cs' e=>by cases e;exact eA (eA hc (cU hc).1 (cU hc).2) (cU hc).1 (cU hc).2) λ_=>no) λ_=>no) λ_=>no) λ_=>no
set_option tactic.hygienic true in
def Dv (hx:x.ok)(hl:ws.length<=60)(hc:aY cs)(h:bE x cs ws r=.on n x' cs'):x'.ok/\aY cs':=by
 cases r with
 |hop m o=>cases h;exact⟨hx,hc⟩
 |sp s=>
  have gv:∀ b i,i6 (bh x cs b i)=.on n x' cs'->x'.ok/\aY cs':=λb i h=>by
   unfold bh at h
   split at h
   .rename_i g;cases h;exact⟨Am g hx,hc⟩
   .cases h
  cases s with
  |set b i=>exact gv _ _ h
  |add b i=>exact gv _ _ h
  |take b c=>exact gv _ _ h
  |read b=>
   have h:i6 (if ah ws "look" x.h=true then bh x cs b (gt cs x.h) else .no "look" x.h)=.on n x' cs':=h
   split at h
   .exact gv _ _ h
   .cases h
  |write b=>
   have h:i6 5e9=.on n x' cs':=h
   split at h
   .rename_i g;have g:(decide (0<=x.g b)&&decide (x.g b<=1000000000))=true:=g;have g:0<=x.g b/\x.g b<=1000000000:=by simpa using g
    split at h
    .cases h;exact⟨hx,eA hc g.1 g.2⟩
    .cases h
   .cases h
 |lg w=>
  have h:ofM (bR w x cs ws)=.on n x' cs':=h;cases e:bR w x cs ws with
  |on r y c=>rw[e]at h;cases h;exact⟨(qL e).1.2.2 hx hl,GO hx hc _ _ _ e⟩
  |no d c=>rw[e]at h;cases h
def Jo (hx:x.ok)(hl:ws.length<=60)(hc:aY cs):0e3.x.ok/\aY 0e3.cs:=by
 unfold mS;cases e:rs[at_.toNat]? with
 |none=>exact⟨hx,hc⟩
 |some r=>
  dsimp only;cases ho:bE x cs ws r with
  |on n x' cs'=>exact Dv hx hl hc ho
  |_=>exact⟨hx,hc⟩
end
abbrev HA (M:Lj):Int×Bx×List Int:=(M.at_,M.x,M.cs)
abbrev kI (rs:List Rw)(ws:List Str)(s:Int×Bx×List Int):Lj:=mS rs s.1 s.2.1 s.2.2 ws
abbrev iN (rs:List Rw)(ws:List Str)(s:Int×Bx×List Int):Nat->Int×Bx×List Int
 |0=>s
 |n+1=>HA (kI rs ws (iN rs ws s n))
abbrev nM (rs:List Rw)(ws:List Str)(s:Int×Bx×List Int)(n:Nat):Prop:=(kI rs ws (iN rs ws s n)).w="on"
abbrev yJ (rs:List Rw)(ws:List Str)(s:Int×Bx×List Int)(n:Nat):Int×Bx×List Int×List (Int×Int):=((iN rs ws s n).1,(iN rs ws s n).2.1,(iN rs ws s n).2.2,gM rs (iN rs ws s n).1 (iN rs ws s n).2.1 (iN rs ws s n).2.2 ws)
abbrev Lk (te t1 lc:Addr)(d:Int×Bx×List Int×List (Int×Int)):ba:=⟨te,t1,lc,d.1,d.2.1,d.2.2.1,d.2.2.2⟩
abbrev qz (rs:List Rw)(ws:List Str)(s:Int×Bx×List Int):Prop:=(0<=s.1/\s.1<=(rs.length:Int))/\s.2.1.ok/\s.2.2.length=ws.length/\aY s.2.2
section
variable {rs:List Rw}{ws:List Str}{s0:Int×Bx×List Int}
def ma (hr:∀ r ∈ rs,Rw.ok r) (hl:ws.length<=60) (h:qz rs ws s0):∀ n,qz rs ws (iN rs ws s0 n)
 |0=>h
 |n+1=>by
  obtain⟨⟨a0,a1⟩,hx,hcl,hc⟩:=ma hr hl h n;obtain⟨g0,g1,_⟩:=Fs (x:=(iN rs ws s0 n).2.1) (cs:=(iN rs ws s0 n).2.2) (ws:=ws) a0 a1 hr;obtain⟨k1,k2⟩:=Jo (rs:=rs) (at_:=(iN rs ws s0 n).1) hx hl hc;exact⟨⟨g0,g1⟩,k1,(vE hx.2.2.1.1).2.trans hcl,k2⟩
def AF (hr:∀ r ∈ rs,Rw.ok r) (hl:ws.length<=60) (h:qz rs ws s0) (hno:¬ nM rs ws s0 n):(kI rs ws (iN rs ws s0 n)).at_=(iN rs ws s0 n).1/\(kI rs ws (iN rs ws s0 n)).x=(iN rs ws s0 n).2.1/\(kI rs ws (iN rs ws s0 n)).cs=(iN rs ws s0 n).2.2:=by
 obtain⟨⟨a0,a1⟩,_⟩:=ma hr hl h n;obtain⟨_,_,g2⟩:=Fs (x:=(iN rs ws s0 n).2.1) (cs:=(iN rs ws s0 n).2.2) (ws:=ws) a0 a1 hr;rcases g2 with g2|⟨_,e⟩
 .exact absurd g2 hno
 .exact e
def Ck {a c:Nat}(a1:a<=N)(c1:c<=N)(ha:∀ i<a,nM rs ws s0 i) (hc:∀ i<c,nM rs ws s0 i) (ea:a=N\/¬ nM rs ws s0 a) (ec:c=N\/¬ nM rs ws s0 c):a=c:=by
 rcases Nat.lt_trichotomy a c with h|h|h
 .rcases ea with e|e
  .omega
  .exact absurd (hc a h) e
 .exact h
 .rcases ec with e|e
  .omega
  .exact absurd (ha c h) e
end
section
variable {rs:List Rw}{ws:List Str}{s0:Int×Bx×List Int}{m l s b en:Addr}{ds:List V}{es:List ba}
abbrev Ic (rs:List Rw)(N:Nat)(s:Int×Bx×List Int)(c:Nat):Str:=if s.1=(rs.length:Int) then "end" else if N<=c then "bell" else "stop"
noncomputable abbrev Bt (R:Rt)(m l s b en:Addr)(ds:List V)(ws:List Str)(st:Int×Bx×List Int)(es:List ba)(O:List ay):List ay:=bw R m l s b en st.1 ds::ar R s st.2.2 ws::ai R b st.2.1::pt en 1e7::(es.map aH++O)
set_option tactic.hygienic true in
def CT (ro:Ro K R)(hk:12<=k)(ok:qz rs ws s0)(l60:ws.length<=60)(hr:∀ r ∈ rs,Rw.ok r) (hN:N<=100) (le:es.length<=800) (hd:bA R O ds rs) (z:Sep (Bt R m l s b en ds ws s0 es O) H)
  (q:∀ {c:Nat} t (ns:List ba) H',c<=N->(∀ i<c,nM rs ws s0 i)->(c=N\/¬ nM rs ws s0 c)->ns.map iA=(List.range c).map (yJ rs ws s0)->Sep (pt t (wr [v4 (Ic rs N 5e4 c),v0 (c:Int)])::Bt R m l s b en ds ws 5e4 (es++ns) O) H'->Q (ut t) H'):aa tab R k 42 [ut m,v0 (N:Int)] H Q E:=by
 delta bF;have e1:=hd.1;have fin:∀ {c:Nat}{ns:List ba}{H:Hp},c<=N->(∀ i<c,nM rs ws s0 i)->(c=N\/¬ nM rs ws s0 c)->ns.map iA=(List.range c).map (yJ rs ws s0)->Sep (Bt R m l s b en ds ws 5e4 (es++ns) O) H->wB (bJ 2 bF.body) ⟨tab,R,aa tab R (k-1),.calm⟩ ⟨λ_ H'=>Q wf H',Q,λ_ _=>False,λ_ _=>False⟩ (λ_=>E) [some (ut m),some (v0 (N:Int)),some (v0 (c:Int))] H:=by
  intro c ns H h1 h2 h3 h4 z;right;refine ae cV z .e rfl rfl ?_;left;refine jI sV nofun z .e ?_;unfold Ic at q;have q:=q (c:=c)
  by_cases he:5e4.1=ds.length
  .rw[decide_eq_true he];rw[if_pos nofun]at q;right;rename_i t H3 z3;exact q t ns H3 h1 h2 h3 h4 z3
  .rw[decide_eq_false he];rw[if_neg nofun]at q;right;refine aG (λg2=>?_) (λg2=>?_)
   .rw[if_pos nofun]at q;right;rename_i t H3 z3;exact q t ns H3 h1 h2 h3 h4 z3
   .rw[if_neg nofun]at q;right;rename_i t H3 z3;exact q t ns H3 h1 h2 h3 h4 z3
 right;refine⟨λμ U H=>∃ c:Nat,∃ ns:List ba,μ=N-c/\c<=N/\(∀ i<c,nM rs ws s0 i)/\ns.map iA=(List.range c).map (yJ rs ws s0)/\U=[some (ut m),some (v0 (N:Int)),some (v0 (c:Int))]/\Sep (Bt R m l s b en ds ws 5e4 (es++ns) O) H,⟨N,0,[],rfl,Nat.zero_le _,λi h=>absurd h (Nat.not_lt_zero i),rfl,rfl,by rw[append_nil];exact z⟩,?_⟩;rintro μ U H ⟨c,ns,rfl,h1,h2,h4,rfl,z2⟩;have hnl:ns.length=c:=by
  have:=congrArg List.length h4
  rwa [ce,ce,length_range]at this
 have okc:=ma hr l60 ok c;right;refine aG (λg=>?_) (λg=>?_)
 .right;refine ae cV z2 .e rfl rfl ?_;left;refine vF (rs:=rs) ro nofun okc.1.1 (by rw[e1];exact okc.1.2) (by rw[ce,ci];omega) hd.app z2 (λon te t1 lc H3 z3=>?_) (λhno H3 z3=>?_)
  .clear z z2;right;refine⟨λU H=>∃ ns:List ba,ns.map iA=(List.range (c+1)).map (yJ rs ws s0)/\U=[some (ut m),some (v0 (N:Int)),some (v0 ((c+1:Nat):Int))]/\Sep (Bt R m l s b en ds ws (iN rs ws s0 (c+1)) (es++ns) O) H,?_,?_⟩
   .rintro σ' H' ⟨ns,b1,rfl,b2⟩;exact⟨N-(c+1),by omega,c+1,ns,rfl,by omega,λi hi=>by
     rcases Nat.lt_succ_iff_lt_or_eq.mp hi with h|rfl
     .exact h2 i h
     .exact on,b1,rfl,b2⟩
   .right;refine⟨ns++[Lk te t1 lc (yJ rs ws s0 c)],?_,rfl,?_⟩
    .rw[dL,h4,List.range_succ,dL]
     rfl
    .have z4:=Sep.push (.j2 (.j2 dY)) z3;rw[Bt,<-jp,dL (f:=aR)];exact z4
  .obtain⟨i1,i2,i3⟩:=AF hr l60 ok (n:=c) hno;have z3:Sep (bw R m l s b en (kI rs ws 5e4).at_ ds::ar R s (kI rs ws 5e4).cs ws::ai R b (kI rs ws 5e4).x::pt en (wp ((es++ns).map aR))::((es++ns).map aH++O)) H3:=z3;rw[i1,i2,i3]at z3;right;refine au (show(_ ==_)=false from beq_eq_false_iff_ne.mpr hno) ?_;exact fin h1 h2 (.inr hno) h4 z3
 .refine au rfl ?_;exact fin h1 h2 (.inl nofun) h4 z2
noncomputable abbrev IM (R:Rt)(m l s b:Addr)(ds:List V)(ws:List Str)(st:Int×Bx×List Int)(O:List ay):List ay:=cS R m l s b st.1 ds::ar R s st.2.2 ws::ai R b st.2.1::O
set_option tactic.hygienic true in
def EG (ro:Ro K R)(hk:12<=k)(ok:qz rs ws s0)(l60:ws.length<=60)(hr:∀ r ∈ rs,Rw.ok r) (hN:N<=100) (hd:bA R O ds rs) (z:Sep (IM R m l s b ds ws s0 O) H)
  (q:∀ {c:Nat} t H',c<=N->(∀ i<c,nM rs ws s0 i)->(c=N\/¬ nM rs ws s0 c)->Sep (pt t (wr [v4 (Ic rs N 5e4 c),v0 (c:Int)])::IM R m l s b ds ws 5e4 O) H'->Q (ut t) H'):aa tab R k 42 [ut m,v0 (N:Int)] H Q E:=by
 delta bF;have e1:=hd.1;have fin:∀ {c:Nat}{H:Hp},c<=N->(∀ i<c,nM rs ws s0 i)->(c=N\/¬ nM rs ws s0 c)->Sep (IM R m l s b ds ws 5e4 O) H->wB (bJ 2 bF.body) ⟨tab,R,aa tab R (k-1),.calm⟩ ⟨λ_ H'=>Q wf H',Q,λ_ _=>False,λ_ _=>False⟩ (λ_=>E) [some (ut m),some (v0 (N:Int)),some (v0 (c:Int))] H:=by
  intro c H h1 h2 h3 z;right;refine ae fH z .e rfl rfl ?_;left;refine jI uG nofun z .e ?_;unfold Ic at q;have q:=q (c:=c)
  by_cases he:5e4.1=ds.length
  .rw[decide_eq_true he];rw[if_pos nofun]at q;right;rename_i t H3 z3;exact q t H3 h1 h2 h3 z3
  .rw[decide_eq_false he];rw[if_neg nofun]at q;right;refine aG (λg2=>?_) (λg2=>?_)
   .rw[if_pos nofun]at q;right;rename_i t H3 z3;exact q t H3 h1 h2 h3 z3
   .rw[if_neg nofun]at q;right;rename_i t H3 z3;exact q t H3 h1 h2 h3 z3
 right;refine⟨λμ U H=>∃ c:Nat,μ=N-c/\c<=N/\(∀ i<c,nM rs ws s0 i)/\U=[some (ut m),some (v0 (N:Int)),some (v0 (c:Int))]/\Sep (IM R m l s b ds ws 5e4 O) H,⟨N,0,rfl,Nat.zero_le _,λi h=>absurd h (Nat.not_lt_zero i),rfl,z⟩,?_⟩;rintro μ U H ⟨c,rfl,h1,h2,rfl,z2⟩;have okc:=ma hr l60 ok c;right;refine aG (λg=>?_) (λg=>?_)
 .right;refine ae fH z2 .e rfl rfl ?_;left;refine vX (rs:=rs) ro nofun okc.1.1 (by rw[e1];exact okc.1.2) hd z2 (λH3 z3=>?_);clear z z2;right
  by_cases on:nM rs ws s0 c
  .refine aJ (show(_ ==_)=true from beq_iff_eq.mpr on) ?_;refine⟨λU H=>U=[some (ut m),some (v0 (N:Int)),some (v0 ((c+1:Nat):Int))]/\Sep (IM R m l s b ds ws (iN rs ws s0 (c+1)) O) H,?_,?_⟩
   .rintro σ' H' ⟨rfl,b2⟩;exact⟨N-(c+1),by omega,c+1,rfl,by omega,λi hi=>by
     rcases Nat.lt_succ_iff_lt_or_eq.mp hi with h|rfl
     .exact h2 i h
     .exact on,rfl,b2⟩
   .right;exact z3
  .obtain⟨i1,i2,i3⟩:=AF hr l60 ok (n:=c) on;have z3:Sep (cS R m l s b (kI rs ws 5e4).at_ ds::ar R s (kI rs ws 5e4).cs ws::ai R b (kI rs ws 5e4).x::O) H3:=z3;rw[i1,i2,i3]at z3;refine au (show(_ ==_)=false from beq_eq_false_iff_ne.mpr on) ?_;exact fin h1 h2 (.inr on) z3
 .refine au rfl ?_;exact fin h1 h2 (.inl nofun) z2
end
section
variable {rs:List Rw}{ws:List Str}{s0:Int×Bx×List Int}{ow SP d p lv lg:Addr}{ss:List V}{fs:List ba}
noncomputable abbrev Cb (ow SP d p lv lg:Addr)(ss:List V)(ws:List Str)(st:Int×Bx×List Int)(fs:List ba)(O:List ay):List ay:=cJ ow SP d p lv lg st.1 st.2.1 st.2.2 ws (fs.map aR) (pt SP (wp ss)::(fs.map aH++O))
set_option tactic.hygienic true in
def Dn (hk:8<=k)(ok:qz rs ws s0)(l60:ws.length<=60)(hr:∀ r ∈ rs,Rw.ok r) (hN:N<=100) (le:fs.length<=800) (hd:ei O ss rs) (z:Sep (Cb ow SP d p lv lg ss ws s0 fs O) H)
  (q:∀ {c:Nat} t (ns:List ba) H',c<=N->(∀ i<c,nM rs ws s0 i)->(c=N\/¬ nM rs ws s0 c)->ns.map iA=(List.range c).map (yJ rs ws s0)->Sep (pt t (wr [v4 (Ic rs N 5e4 c),v0 (c:Int)])::Cb ow SP d p lv lg ss ws 5e4 (fs++ns) O) H'->Q (ut t) H'):aa tab R k 115 [ut ow,v0 (N:Int)] H Q E:=by
 delta iG;have e1:=hd.1;have fin:∀ {c:Nat}{ns:List ba}{H:Hp},c<=N->(∀ i<c,nM rs ws s0 i)->(c=N\/¬ nM rs ws s0 c)->ns.map iA=(List.range c).map (yJ rs ws s0)->Sep (Cb ow SP d p lv lg ss ws 5e4 (fs++ns) O) H->wB (bJ 2 iG.body) ⟨tab,R,aa tab R (k-1),.calm⟩ ⟨λ_ H'=>Q wf H',Q,λ_ _=>False,λ_ _=>False⟩ (λ_=>E) [some (ut ow),some (v0 (N:Int)),some (v0 (c:Int))] H:=by
  intro c ns H h1 h2 h3 h4 z;unfold Ic at q;have q:=q (c:=c);right;refine aE (λhe=>?_) (λhe=>?_)
  .rw[if_pos nofun]at q;right;rename_i t H3 z3;exact q t ns H3 h1 h2 h3 h4 z3
  .rw[if_neg nofun]at q;right;rename_i p2 H2 z2;refine jt ?_
   by_cases g:c=N
   .rw[show dD (v0 (c:Int)) (v0 (N:Int))=true by rw[g];exact jn rfl];rw[if_pos nofun]at q;right;rename_i t H3 z3;exact q t ns H3 h1 h2 h3 h4 (z3.sub 0e1)
   .rw[show dD (v0 (c:Int)) (v0 (N:Int))=false from beq_eq_false_iff_ne.mpr nofun];rw[if_neg nofun]at q;right;rename_i t H3 z3;exact q t ns H3 h1 h2 h3 h4 (z3.sub 0e1)
 right;refine⟨λμ U H=>∃ c:Nat,∃ ns:List ba,μ=N-c/\c<=N/\(∀ i<c,nM rs ws s0 i)/\ns.map iA=(List.range c).map (yJ rs ws s0)/\U=[some (ut ow),some (v0 (N:Int)),some (v0 (c:Int))]/\Sep (Cb ow SP d p lv lg ss ws 5e4 (fs++ns) O) H,⟨N,0,[],rfl,Nat.zero_le _,λi h=>absurd h (Nat.not_lt_zero i),rfl,rfl,by rw[append_nil];exact z⟩,?_⟩;rintro μ U H ⟨c,ns,rfl,h1,h2,h4,rfl,z2⟩;have hnl:ns.length=c:=by
  have:=congrArg List.length h4
  rwa [ce,ce,length_range]at this
 have okc:=ma hr l60 ok c;clear z;right;refine aG (λg=>?_) (λg=>?_)
 .right;refine E5 (rs:=rs) nofun okc.1.1 (by rw[e1];exact okc.1.2) okc.2.1.2.2.1.1 okc.2.2.1 l60 (by rw[ce,ci];omega) hd.app z2 (λon te t1 lc H3 z9=>?_) (λhno H3 z9=>?_)
  .clear z2;right;refine⟨λU H=>∃ ns:List ba,ns.map iA=(List.range (c+1)).map (yJ rs ws s0)/\U=[some (ut ow),some (v0 (N:Int)),some (v0 ((c+1:Nat):Int))]/\Sep (Cb ow SP d p lv lg ss ws (iN rs ws s0 (c+1)) (fs++ns) O) H,?_,?_⟩
   .rintro σ' H' ⟨ns,b1,rfl,b2⟩;exact⟨N-(c+1),by omega,c+1,ns,rfl,by omega,λi hi=>by
     rcases Nat.lt_succ_iff_lt_or_eq.mp hi with h|rfl
     .exact h2 i h
     .exact on,b1,rfl,b2⟩
   .right;refine⟨ns++[Lk te t1 lc (yJ rs ws s0 c)],?_,rfl,?_⟩
    rotate_left 1
    .have za:=Sep.push (.j2 (.j2 (.j2 dY))) z9;rw[Cb,<-jp,dL (f:=aR)];exact za
    .rw[dL,h4,List.range_succ,dL]
     rfl
  .obtain⟨i1,i2,i3⟩:=AF hr l60 ok (n:=c) hno;have z9:Sep (cJ ow SP d p lv lg (kI rs ws 5e4).at_ (kI rs ws 5e4).x (kI rs ws 5e4).cs ws ((fs++ns).map aR) _) H3:=z9;rw[i1,i2,i3]at z9;right;refine au (show(_ ==_)=false from beq_eq_false_iff_ne.mpr hno) ?_;exact fin h1 h2 (.inr hno) h4 z9
 .refine au rfl ?_;exact fin h1 h2 (.inl nofun) h4 z2
end
def tT {β:Type}{P:Addr}{a b:V}{v1:α->V}{v2:β->V×V}{Γ0:List ay}{Γ1:α->List ay}{Γ2:β->List ay}(z:Sep Γ0 H)(p0:∃ Δ,ag (pt P (wp [a,b])) Γ0 Δ) (p1:∀ i,∃ Δ,ag (pt P (wp [a,b])) (Γ1 i) Δ)
  (p2:∀ i,∃ Δ,ag (pt P (wp [a,b])) (Γ2 i) Δ) (h1:∀ {H:Hp}{D:Addr}{Q:VK},Sep (pt D (wp [])::Γ0) H->(∀ i H',Sep (pt D (wp [])::Γ1 i) H'->Q (v1 i) H')->te (some a::rest) H Q)
  (h2:∀ {H:Hp}{D:Addr}{i:α}{Q:VK},Sep (pt D (wp [v1 i])::Γ1 i) H->(∀ o H',(v2 o).1=v1 i->Sep (pt D (wp [v1 i])::Γ2 o) H'->Q (v2 o).2 H')->te (some b::rest) H Q)
  (q:∀ D o H',Sep (pt D (wp [(v2 o).1,(v2 o).2])::Γ2 o) H'->Q (ut D) H'):tR te (Ef R.K P) (none::rest) H Q:=by
 refine qO (xs:=[a,b]) (ol rfl) (λD ys H=>(ys=[]/\Sep (pt D (wp ys)::Γ0) H)\/(∃ i,ys=[v1 i]/\Sep (pt D (wp ys)::Γ1 i) H)\/∃ o,ys=[(v2 o).1,(v2 o).2]/\Sep (pt D (wp ys)::Γ2 o) H) (λD ys H hI=>?_) (λD hD=>.inl ⟨rfl,z.new hD⟩) (λD ys x H hx hI=>?_) (λD ys H hl hI=>?_)
 .rcases hI with⟨_,z⟩|⟨i,_,z⟩|⟨o,_,z⟩
  .obtain⟨_,p⟩:=p0;exact bB.of (z.get (.t p))
  .obtain⟨_,p⟩:=p1 i;exact bB.of (z.get (.t p))
  .obtain⟨_,p⟩:=p2 o;exact bB.of (z.get (.t p))
 .rcases hI with⟨rfl,z⟩|⟨i,rfl,z⟩|⟨o,rfl,z⟩
  .cases hx;exact h1 z λi H' z'=>qY.mk z'.at (ol rfl) (.inr (.inl ⟨i,rfl,z'.set rfl⟩))
  .cases hx;exact h2 z λo H' e z'=>qY.mk z'.at (ol rfl) (.inr (.inr ⟨o,by rw[e];rfl,z'.set rfl⟩))
  .cases hx
 .rcases hI with⟨rfl,z⟩|⟨i,rfl,z⟩|⟨o,rfl,z⟩
  .cases hl
  .cases hl
  .exact q D o H z
def ve {D D2:Addr}{w u:V}(h1:H D=some (wp [v,w]))(h2:H D2=some (wp [u,u]))(ne:D≠D2)(e1:dz K H 2 v u true)(e2:dz K H 2 w u true)(q:Q (.bl false) H):iL K true (ut D) (ut D2) H Q:=
 qp (qF (n:=1) h1 h2 rfl (λj x y f1 f2=>by
  match j,f1,f2 with
  |0,f1,f2=>cases f1;cases f2;exact e1
  |1,f1,f2=>cases f1;cases f2;exact e2)) 1e1 ne q
def EM {u:V}(z:Sep (qZ y at_ v::qZ y at_ u::O) H):dz K H 2 v u true:=by
 cases y with
 |none=>
  have e1:v=wf:=z.pure;have e2:u=wf:=z.drop.pure;subst e1 e2;exact bY rfl
 |some p=>
  obtain⟨t,z1⟩:=gp z;have z1:Sep (pt t (wr [v0 at_,p.1,p.2])::pu (v=ut t/\aI p.1=true/\aI p.2=true)::qZ (some p) at_ u::O) H:=z1;obtain⟨e1,f1,f2⟩:=z1.drop.pure;obtain⟨t2,z2⟩:=gp (z1.pull (A:=qZ (some p) at_ u) .k2);have z2:Sep (pt t2 (wr [v0 at_,p.1,p.2])::pu (u=ut t2/\aI p.1=true/\aI p.2=true)::pt t (wr [v0 at_,p.1,p.2])::_) H:=z2;have e2:=z2.drop.pure.1;subst e1 e2;refine jE (n:=0) (z2.get (a:=t) .k2) z2.at rfl (λj x y g1 g2=>?_);rw[g1]at g2;cases g2
  match j,g1 with
  |0,g1=>cases g1;exact bY rfl
  |1,g1=>cases g1;exact bY f1
  |2,g1=>cases g1;exact bY f2
def DX {A B e f:List ay}(z:Sep (A++(B++(e++(f++O)))) H):Sep (A++(f++(B++(e++O)))) H:=by
 have y:Sep (A++((B++e)++(f++O))) H:=by rwa [jp B]
 have y:=Sep.mv y
 rwa [jp B]at y
def Mo {P A e f:List ay}(z:Sep (P++(A++(e++(f++O)))) H):Sep (A++(e++(f++(P++O)))) H:=by
 have y:Sep ([]++(P++((A++(e++f))++O))) H:=by rwa [jp A,jp e]
 have y:=Sep.mv y
 rwa [nil_append,jp A,jp e]at y
def MK {P A e f:List ay}(z:Sep (A++(e++(f++(P++O)))) H):Sep (P++(A++(e++(f++O)))) H:=by
 have y:Sep ([]++((A++(e++f))++(P++O))) H:=by rwa [nil_append,jp A,jp e]
 have y:=Sep.mv y
 rwa [nil_append,jp A,jp e]at y
def Jp {A a W b:List ay}(z:Sep (A++(a++(W++(b++O)))) H):Sep (A++(a++O)) H:=by
 have y:Sep ((A++a)++((W++b)++O)) H:=by rwa [jp,jp W]
 have y:=Sep.cut y
 rwa [jp]at y
abbrev xZ:lx->lx
 | .cons (.for _ _ b) _=>b
 |_=>.nil
section
variable {pr m1 l1 s1 b1 m l s b en ow SP d p lv lg h:Addr}{at_:Int}{ds ss:List V}{x:Bx}{cs:List Int}{ws:List Str}{es fs:List ba}{S L P:List (Addr×Rw)}{j:Nat}{N:Int}
noncomputable abbrev zr (R:Rt)(pr m1 l1 s1 b1 m l s b en ow SP d p lv lg:Addr)(at_:Int)(ds ss:List V)(x:Bx)(cs:List Int)(ws:List Str)(es fs:List ba)(O:List ay):List ay:=pt pr 3e0::cS R m1 l1 s1 b1 at_ ds::ar R s1 cs ws::ai R b1 x::Fj R m l s b en ow SP d p lv lg at_ ds ss x cs ws es fs O
abbrev bG (R:Rt)(pr ow SP d p lv lg:Addr)(S L P:List (Addr×Rw))(O:List ay)(j:Nat)(H:Hp):Prop:=∃ m1 l1 s1 b1 m l s b en at_ x cs ws es fs,qz (S.map (·.2)) ws (at_,x,cs)/\ws.length<=60/\es.map iA=fs.map iA/\es.length<=j/\Sep (zr R pr m1 l1 s1 b1 m l s b en ow SP d p lv lg at_ 2e1 3e2 x cs ws es fs (cn R L S O)) H
def HL (z:Sep (zr R pr m1 l1 s1 b1 m l s b en ow SP d p lv lg at_ ds 3e2 x cs ws es fs (cn R L S (A::O))) H):Sep (A::zr R pr m1 l1 s1 b1 m l s b en ow SP d p lv lg at_ ds 3e2 x cs ws es fs (cn R L S O)) H:=z.pull (.j2 (.j2 (.j2 (.j2 (.j2 (.j2 (.j2 (ao (ao (ao (ao .e)))))))))))
def HE (z:Sep (A::zr R pr m1 l1 s1 b1 m l s b en ow SP d p lv lg at_ ds 3e2 x cs ws es fs (cn R L S O)) H):Sep (zr R pr m1 l1 s1 b1 m l s b en ow SP d p lv lg at_ ds 3e2 x cs ws es fs (cn R L S (A::O))) H:=z.push (.j2 (.j2 (.j2 (.j2 (.j2 (.j2 (.j2 (ao (ao (ao (ao .e)))))))))))
def KA {E:St->XK}{u0 u1 u3 u4 u5 u8 u9:Option V}(ro:Ro K R)(hk:6<=k)(hj:j<=1000)(z:bG R pr ow SP d p lv lg S L P O j H)
  (q:∀ H',bG R pr ow SP d p lv lg S L P O j H'->D.nx [u0,u1,some (ut ow),u3,u4,u5,some (ut pr),u7,u8,u9,u10,u11] H'):
  wB (bJ 5 (xZ (bJ 6 jA.body))) ⟨tab,R,aa tab R (k-1),.calm⟩ D E [u0,u1,some (ut ow),u3,u4,u5,some (ut pr),u7,u8,u9,u10,u11] H:=by
 obtain⟨m1,l1,s1,b1,m,l,s,b,en,at_,x,cs,ws,es,fs,ok,l60,e,le,z⟩:=z;right;have z1:Sep (cS R m1 l1 s1 b1 at_ 2e1::ar R s1 cs ws::ai R b1 x::pt pr 3e0::Fj R m l s b en ow SP d p lv lg at_ 2e1 3e2 x cs ws es fs (cn R L S O)) H:=z.sub 0e1;refine ae fH z1 .e rfl rfl ?_;left;refine wk uG ro nofun z1 (λt t1 l' H1 z2=>?_);clear z1;have z3:Sep (cJ ow SP d p lv lg at_ x cs ws (fs.map aR) (pt t (wr [v0 at_,ut t1,ut l'])::pt l' 0e9::tu t1 (x.ls.map v0)::cS R m1 l1 s1 b1 at_ 2e1::ar R s1 cs ws::ai R b1 x::pt pr 3e0::bw R m l s b en at_ 2e1::ar R s cs ws::ai R b x::pt en 1e7::pt SP (wp 3e2)::(es.map aH++(fs.map aH++cn R L S O)))) H1:=z2.sub 0e1;clear z2;right;refine tw nofun z3 (λt' t1' l1' H2 z4=>?_);clear z3;left;refine qp (Av (ns:=x.ls) (cs:=cs) 2e8 z4.at 2e8 2e8 2e8 2e8) 1e1 (λg=>Sep.ne (z4.sub (Γ':=[pt t' (wr [v0 at_,ut t1',ut l1']),pt t (wr [v0 at_,ut t1,ut l'])]) 0e1) g.symm) ?_;refine au rfl ?_;have z5:Sep (zr R pr m1 l1 s1 b1 m l s b en ow SP d p lv lg at_ 2e1 3e2 x cs ws es fs (cn R L S O)) H2:=z4.sub 0e1;clear z z4;right;refine uN (O:=pt pr 3e0::cS R m1 l1 s1 b1 at_ 2e1::ar R s1 cs ws::ai R b1 x::cn R L S O) ro nofun nofun e (Mo (P:=[_,_,_,_]) (A:=[_,_,_,_,_,_,_,_,_,_]) z5) (λH3 z6=>?_);refine au rfl ?_;left;exact q H3 ⟨m1,l1,s1,b1,m,l,s,b,en,at_,x,cs,ws,es,fs,ok,l60,e,le,MK (P:=[_,_,_,_]) (A:=[_,_,_,_,_,_,_,_,_,_]) z6⟩
def lO (eP:P.map (·.2)=S.map (·.2))(hP:∀ a ∈ P,a ∈ L) (okS:∀ r ∈ S.map (·.2),Rw.ok r):P.length=S.length/\bA R (cn R L S O) 2e1 (S.map (·.2))/\ei (cn R L S O) 3e2 (S.map (·.2)):=by
 refine⟨?_,eP▸qM hP,(tj (S:=S) (O:=O) rfl okS).app⟩;have:=congrArg List.length eP
 rwa [ce,ce]at this
set_option tactic.hygienic true in
def Gi {E:St->XK}{u0 u1 u3 u4 u5 u8 u9:Option V}(ro:Ro K R)(hk:13<=k)(okS:∀ r ∈ S.map (·.2),Rw.ok r) (eP:P.map (·.2)=S.map (·.2)) (hP:∀ a ∈ P,a ∈ L) (z:bG R pr ow SP d p lv lg S L P O j H)
  (q:∀ u10 H',bG R pr ow SP d p lv lg S L P O j H'->wB (bJ 4 (xZ (bJ 6 jA.body))) ⟨tab,R,aa tab R (k-1),.calm⟩ D E [u0,u1,some (ut ow),u3,u4,u5,some (ut pr),u7,u8,u9,u10,u11] H'):
  wB (bJ 2 (xZ (bJ 6 jA.body))) ⟨tab,R,aa tab R (k-1),.calm⟩ D E [u0,u1,some (ut ow),u3,u4,u5,some (ut pr),u7,u8,u9,u10,u11] H:=by
 obtain⟨m1,l1,s1,b1,m,l,s,b,en,at_,x,cs,ws,es,fs,ok,l60,e,le,z⟩:=z;obtain⟨lP,hrd,hsd⟩:=lO (R:=R) (O:=O) eP hP okS;obtain⟨ha,xo,hl,hc⟩:=ok;dsimp only at ha xo hl hc;right;have z1:Sep 1e3 H:=z.sub 0e1;clear z;refine CV (rs:=S.map (·.2)) nofun ha.1 (by have:=ha.2;rw[ce]at this⊢;exact this) xo.2.2.1.1 hl (hsd.app.app.more.more.more.more.more.more.more.more) z1 (λu H1 z2=>?_);clear z1;right;generalize hy:yM (S.map (·.2)) at_ x cs ws=y at z2
 refine tT (v1:=λv:V=>v) (v2:=λo:V×V=>o) (Γ0:=cS R m1 l1 s1 b1 at_ 2e1::ar R s1 cs ws::ai R b1 x::qZ y at_ u::pt pr 3e0::Fj R m l s b en ow SP d p lv lg at_ 2e1 3e2 x cs ws es fs (cn R L S O)) (Γ1:=λv=>bw R m l s b en at_ 2e1::ar R s cs ws::ai R b x::qZ y at_ v::qZ y at_ u::pt pr 3e0::cS R m1 l1 s1 b1 at_ 2e1::ar R s1 cs ws::ai R b1 x::pt en 1e7::cJ ow SP d p lv lg at_ x cs ws (fs.map aR) (pt SP (wp 3e2)::(es.map aH++(fs.map aH++cn R L S O)))) (Γ2:=λo=>qZ y at_ o.2::qZ y at_ o.1::qZ y at_ u::zr R pr m1 l1 s1 b1 m l s b en ow SP d p lv lg at_ 2e1 3e2 x cs ws es fs (cn R L S O))
  (z2.sub 0e1) ⟨_,by symm⟩ (λv=>⟨_,by symm⟩) (λo=>⟨_,by symm⟩) (λ{H D Q} z3 h=>?_) (λ{H D v Q} z3 h=>?_) (λD ⟨v,w⟩ H z3=>?_)
 .right;refine ae fH z3 .k1 rfl rfl ?_;left;refine Fo uG (rs:=S.map (·.2)) (O:=pt D (wp [])::qZ y at_ u::pt pr 3e0::Fj R m l s b en ow SP d p lv lg at_ 2e1 3e2 x cs ws es fs (cn R L S O)) ro nofun ha.1 (by rw[ce,lP];have:=ha.2;rwa [ce]at this) hrd.app.app.more.more.more.more.more.more.more.more.more.more.more.more.more (z3.sub 0e1) (λv H' z4=>?_);rw[hy]at z4;exact h v H' (z4.sub 0e1)
 .right;refine ae cV z3 .k1 rfl rfl ?_;left;refine Fo (sV (ds:=P.map av)) (rs:=S.map (·.2)) (O:=pt D (wp [v])::qZ y at_ v::qZ y at_ u::pt pr 3e0::cS R m1 l1 s1 b1 at_ 2e1::ar R s1 cs ws::ai R b1 x::pt en 1e7::cJ ow SP d p lv lg at_ x cs ws (fs.map aR) (pt SP (wp 3e2)::(es.map aH++(fs.map aH++cn R L S O)))) ro nofun ha.1 (by rw[ce,lP];have:=ha.2;rwa [ce]at this) hrd.app.app.more.more.more.more.more.more.more.more.more.more.more.more.more.more (z3.sub 0e1) (λw H' z4=>?_);rw[hy]at z4;exact h ⟨v,w⟩ H' rfl (z4.sub 0e1)
 .right;rename_i D2 H2 z4;refine ve (z4.get .k1) z4.at (Sep.ne (z4.pull .k1)) (EM (O:=pt D2 (wp [u,u])::pt D (wp [v,w])::qZ y at_ w::_) (z4.sub 0e1)) (EM (O:=pt D2 (wp [u,u])::pt D (wp [v,w])::qZ y at_ v::_) (z4.sub 0e1)) ?_;refine au rfl ?_;left;exact q _ H2 ⟨m1,l1,s1,b1,m,l,s,b,en,at_,x,cs,ws,es,fs,⟨ha,xo,hl,hc⟩,l60,e,le,z4.sub 0e1⟩
end
abbrev Kk (rs:List Rw)(ws:List Str)(s0:Int×Bx×List Int):List (Int×Bx×List Int×List (Int×Int)):=if(kI rs ws s0).w="on" then[yJ rs ws s0 0] else[]
section
variable {pr m1 l1 s1 b1 m l s b en ow SP d p lv lg h:Addr}{s0:Int×Bx×List Int}{ds ss:List V}{rs:List Rw}{ws:List Str}{es fs:List ba}
def HX (hk:4<=k)(ok:qz rs ws s0)(l60:ws.length<=60)(le:fs.length<=1000)(hd:ei O ss rs)(z:Sep (Cb ow SP d p lv lg ss ws s0 fs O) H)
  (q:∀ (ns:List ba) H',ns.map iA=Kk rs ws s0->Sep (Cb ow SP d p lv lg ss ws (HA (kI rs ws s0)) (fs++ns) O) H'->Q (v4 (kI rs ws s0).w) H'):aa tab R k 112 [ut ow] H Q E:=by
 refine E5 (rs:=rs) hk ok.1.1 (by rw[hd.1];exact ok.1.2) ok.2.1.2.2.1.1 ok.2.2.1 l60 (by rw[ce];exact le) hd.app z (λon te t1 lc H1 z1=>?_) (λno H1 z1=>?_)
 .rw[show Str.ofString "on"=(kI rs ws s0).w from on.symm];refine q [Lk te t1 lc (yJ rs ws s0 0)] H1 ?_ ?_
  .exact(if_pos (c:=(kI rs ws s0).w="on") on).symm
  .have za:=Sep.push (.j2 (.j2 (.j2 dY))) z1;rw[Cb,dL (f:=aR)];exact za
 .refine q [] H1 ?_ ?_
  .exact(if_neg (c:=(kI rs ws s0).w="on") no).symm
  .rw[append_nil];exact z1
def BC (ro:Ro K R)(hk:11<=k)(ok:qz rs ws s0)(le:es.length<=1000)(hd:bA R O ds rs)(z:Sep (Bt R m l s b en ds ws s0 es O) H)
  (q:∀ (ns:List ba) H',ns.map iA=Kk rs ws s0->Sep (Bt R m l s b en ds ws (HA (kI rs ws s0)) (es++ns) O) H'->Q (v4 (kI rs ws s0).w) H'):aa tab R k 54 [ut m] H Q E:=by
 refine vF (rs:=rs) ro hk ok.1.1 (by rw[hd.1];exact ok.1.2) (by rw[ce];exact le) hd.app z (λon te t1 lc H1 z1=>?_) (λno H1 z1=>?_)
 .rw[show Str.ofString "on"=(kI rs ws s0).w from on.symm];refine q [Lk te t1 lc (yJ rs ws s0 0)] H1 ?_ ?_
  .exact(if_pos (c:=(kI rs ws s0).w="on") on).symm
  .have za:=Sep.push (.j2 (.j2 dY)) z1;rw[Bt,dL (f:=aR)];exact za
 .refine q [] H1 ?_ ?_
  .exact(if_neg (c:=(kI rs ws s0).w="on") no).symm
  .rw[append_nil];exact z1
end
abbrev MQ:lx->lx
 | .cons (.ife _ a _) _=>a
 |_=>.nil
abbrev Le:lx->lx
 | .cons (.ife _ _ a) _=>a
 |_=>.nil
section
variable {pr m1 l1 s1 b1 m l s b en ow SP d p lv lg h:Addr}{s0:Int×Bx×List Int}{ds ss:List V}{rs:List Rw}{ws:List Str}{es fs:List ba}{S L P:List (Addr×Rw)}{j:Nat}{N:Int}
noncomputable abbrev Cc:lx:=bJ 4 (xZ (bJ 6 jA.body))
set_option tactic.hygienic true in
def Ir {E:St->XK}{u0 u1 u3 u4 u5 u8 u9:Option V}(ro:Ro K R)(hk:13<=k)(hj:j<=900)(okS:∀ r ∈ S.map (·.2),Rw.ok r) (eP:P.map (·.2)=S.map (·.2)) (hP:∀ a ∈ P,a ∈ L) (z:bG R pr ow SP d p lv lg S L P O j H)
  (q:∀ u11 H',bG R pr ow SP d p lv lg S L P O (j+1) H'->D.nx [u0,u1,some (ut ow),u3,u4,u5,some (ut pr),u7,u8,u9,u10,u11] H'):
  wB (MQ Cc) ⟨tab,R,aa tab R (k-1),.calm⟩ D E [u0,u1,some (ut ow),u3,u4,u5,some (ut pr),u7,u8,u9,u10,u11] H:=by
 obtain⟨m1,l1,s1,b1,m,l,s,b,en,at_,x,cs,ws,es,fs,ok,l60,e,le,z⟩:=z;obtain⟨lP,hrd,hsd⟩:=lO (R:=R) (O:=O) eP hP okS;have lf:=vc e;have ok1:=ma okS l60 ok 1;right;have z1:Sep 1e3 H:=z.sub 0e1;clear z;have z2:Sep (Cb ow SP d p lv lg 3e2 ws (at_,x,cs) fs (pt pr 3e0::cS R m1 l1 s1 b1 at_ 2e1::ar R s1 cs ws::ai R b1 x::bw R m l s b en at_ 2e1::ar R s cs ws::ai R b x::pt en 1e7::(es.map aH++cn R L S O))) H:=DX (A:=[_,_,_,_,_,_]) (B:=[_,_,_,_,_,_,_,_]) z1;clear z1;refine HX (rs:=S.map (·.2)) nofun ok l60 nofun hsd.app.more.more.more.more.more.more.more.more z2 (λns H1 en1 z3=>?_);clear z2;have lP':at_<=2e1.length:=by rw[ce,lP];have:=ok.1.2;rwa [ce]at this
 have enn:((es.map iA++Kk (S.map (·.2)) ws (at_,x,cs)).length:Int)<=j+1:=by
  rw[ci,ce];unfold Kk
  split
  .rw[f8];omega
  .rw[length_nil];omega
 generalize hs:kI (S.map (·.2)) ws (at_,x,cs)=M at z3⊢;have z4:Sep (cJ ow SP d p lv lg M.at_ M.x M.cs ws ((fs++ns).map aR) (pt SP (wp 3e2)::pt pr 3e0::cS R m1 l1 s1 b1 at_ 2e1::ar R s1 cs ws::ai R b1 x::bw R m l s b en at_ 2e1::ar R s cs ws::ai R b x::pt en 1e7::5e1)) H1:=Sep.mv (P:=[_,_,_,_,_,_]) (Δ:=(fs++ns).map aH) (L:=[_,_,_,_,_,_,_,_]) z3;clear z3;right;refine tT (α:=Unit) (β:={n:List ba // n.map iA=Kk (S.map (·.2)) ws (at_,x,cs)}) (v1:=λ_=>v4 M.w) (v2:=λ_=>(v4 M.w,v4 M.w)) (Γ1:=λ_=>cJ ow SP d p lv lg M.at_ M.x M.cs ws ((fs++ns).map aR) (pt SP (wp 3e2)::pt pr 3e0::cS R m1 l1 s1 b1 M.at_ 2e1::ar R s1 M.cs ws::ai R b1 M.x::bw R m l s b en at_ 2e1::ar R s cs ws::ai R b x::pt en 1e7::5e1)) (Γ2:=λo=>zr R pr m1 l1 s1 b1 m l s b en ow SP d p lv lg M.at_ 2e1 3e2 M.x M.cs ws (es++o.1) (fs++ns) (cn R L S O))
  z4 ⟨_,by symm⟩ (λv=>⟨_,by symm⟩) (λo=>⟨_,by symm⟩) (λ{H D Q} z5 h=>?_) (λ{H D v Q} z5 h=>?_) (λD o H z5=>?_)
 .right;have z6:Sep (cS R m1 l1 s1 b1 at_ 2e1::ar R s1 cs ws::ai R b1 x::pt D (wp [])::cJ ow SP d p lv lg M.at_ M.x M.cs ws ((fs++ns).map aR) (pt SP (wp 3e2)::pt pr 3e0::bw R m l s b en at_ 2e1::ar R s cs ws::ai R b x::pt en 1e7::5e1)) H:=z5.sub 0e1;refine ae fH z6 .e rfl rfl ?_;left;refine vX (rs:=S.map (·.2)) ro nofun ok.1.1 lP' hrd.app.app.more.more.more.more.more.more.more.more.more.more.more.more z6 (λH' z7=>?_);have hs':mS (S.map (·.2)) at_ x cs ws=M:=hs
  rw[hs']at z7⊢;exact h () H' (z7.sub 0e1)
 .right;have z6:Sep (bw R m l s b en at_ 2e1::ar R s cs ws::ai R b x::pt en 1e7::pt D (wp [v4 M.w])::pt pr 3e0::cS R m1 l1 s1 b1 M.at_ 2e1::ar R s1 M.cs ws::ai R b1 M.x::cJ ow SP d p lv lg M.at_ M.x M.cs ws ((fs++ns).map aR) (pt SP (wp 3e2)::5e1)) H:=z5.sub 0e1;refine ae cV z6 .e rfl rfl ?_;left;have z7:Sep (Bt R m l s b en 2e1 ws (at_,x,cs) es (pt D (wp [v4 M.w])::pt pr 3e0::cS R m1 l1 s1 b1 M.at_ 2e1::ar R s1 M.cs ws::ai R b1 M.x::cJ ow SP d p lv lg M.at_ M.x M.cs ws ((fs++ns).map aR) (pt SP (wp 3e2)::((fs++ns).map aH++cn R L S O)))) H:=DX (A:=[_,_,_,_]) (B:=[_,_,_,_,_,_,_,_,_,_,_]) z6;clear z4 z5 z6;refine BC (rs:=S.map (·.2)) ro nofun ok nofun hrd.app.more.more.more.more.more.more.more.more.more.more.more z7 (λn2 H' e2 z8=>?_);rw[hs]at z8⊢;have z9:Sep (bw R m l s b en M.at_ 2e1::ar R s M.cs ws::ai R b M.x::pt en (wp ((es++n2).map aR))::_::_::_::_::_::_::_::_::_::_::_::((es++n2).map aH++((fs++ns).map aH++cn R L S O))) H':=Sep.mv (P:=[_,_,_,_]) (Δ:=(es++n2).map aH) (L:=[_,_,_,_,_,_,_,_,_,_,_]) z8;have za:Sep (pt D (wp [v4 M.w])::zr R pr m1 l1 s1 b1 m l s b en ow SP d p lv lg M.at_ 2e1 3e2 M.x M.cs ws (es++n2) (fs++ns) (cn R L S O)) H':=z9.sub 0e1;exact h ⟨n2,e2⟩ H' rfl za
 .obtain⟨n2,e2⟩:=o;right;rename_i D2 H2 z6;refine ve (z6.get .k1) z6.at (Sep.ne (z6.pull .k1)) (bY rfl) (bY rfl) ?_;refine au rfl ?_;left;refine q _ H2 ⟨m1,l1,s1,b1,m,l,s,b,en,M.at_,M.x,M.cs,ws,es++n2,fs++ns,?_,l60,?_,?_,z6.drop.drop⟩
  .rw[<-hs];exact ok1
  .rw[dL,dL,e,en1,e2]
  .rw[<-e2,<-dL,ce]at enn
   omega
end
section
variable {pr m1 l1 s1 b1 m l s b en ow SP d p lv lg h:Addr}{s0:Int×Bx×List Int}{ds ss:List V}{rs:List Rw}{ws:List Str}{es fs:List ba}{S L P:List (Addr×Rw)}{j N:Nat}
set_option tactic.hygienic true in
def KS {E:St->XK}{u0 u1 u3 u4 u5 u8:Option V}(ro:Ro K R)(hk:14<=k)(hj:j<=700)(hN:N<=60)(okS:∀ r ∈ S.map (·.2),Rw.ok r) (eP:P.map (·.2)=S.map (·.2)) (hP:∀ a ∈ P,a ∈ L) (z:bG R pr ow SP d p lv lg S L P O j H)
  (q:∀ u11 H',bG R pr ow SP d p lv lg S L P O (j+60) H'->D.nx [u0,u1,some (ut ow),u3,u4,u5,some (ut pr),u7,u8,some (v0 (N:Int)),u10,u11] H'):
  wB (MQ (Le Cc)) ⟨tab,R,aa tab R (k-1),.calm⟩ D E [u0,u1,some (ut ow),u3,u4,u5,some (ut pr),u7,u8,some (v0 (N:Int)),u10,u11] H:=by
 obtain⟨m1,l1,s1,b1,m,l,s,b,en,at_,x,cs,ws,es,fs,ok,l60,e,le,z⟩:=z;obtain⟨lP,hrd,hsd⟩:=lO (R:=R) (O:=O) eP hP okS;have lf:=vc e;right;have z1:Sep 1e3 H:=z.sub 0e1;clear z;have z2:Sep (Cb ow SP d p lv lg 3e2 ws (at_,x,cs) fs (pt pr 3e0::cS R m1 l1 s1 b1 at_ 2e1::ar R s1 cs ws::ai R b1 x::bw R m l s b en at_ 2e1::ar R s cs ws::ai R b x::pt en 1e7::(es.map aH++cn R L S O))) H:=DX (A:=[_,_,_,_,_,_]) (B:=[_,_,_,_,_,_,_,_]) z1;clear z1;refine Dn (rs:=S.map (·.2)) (N:=N) nofun ok l60 okS nofun nofun hsd.app.more.more.more.more.more.more.more.more z2 (λ{c} t ns H1 g1 g2 g3 en1 z3=>?_);clear z2;have okc:=ma okS l60 ok c;have lnn:ns.length=c:=by
  have:=congrArg List.length en1
  rwa [ce,ce,length_range]at this
 generalize hs:iN (S.map (·.2)) ws (at_,x,cs) c=M at z3 okc⊢;obtain⟨a2,x2,c2⟩:=M;generalize hw:Ic (S.map (·.2)) N (a2,x2,c2) c=wd at z3;have z4:Sep (pt t (wr [v4 wd,v0 (c:Int)])::cJ ow SP d p lv lg a2 x2 c2 ws ((fs++ns).map aR) (pt SP (wp 3e2)::pt pr 3e0::cS R m1 l1 s1 b1 at_ 2e1::ar R s1 cs ws::ai R b1 x::bw R m l s b en at_ 2e1::ar R s cs ws::ai R b x::pt en 1e7::5e1)) H1:=Sep.mv (P:=[_,_,_,_,_,_,_]) (Δ:=(fs++ns).map aH) (L:=[_,_,_,_,_,_,_,_]) z3;clear z3;right;refine tT (α:=Addr) (β:=Addr×Addr×{n:List ba // n.map iA=ns.map iA}) (v1:=ut) (v2:=λo=>(ut o.1,ut o.2.1)) (Γ1:=λt1=>pt t1 (wr [v4 wd,v0 (c:Int)])::pt t (wr [v4 wd,v0 (c:Int)])::cJ ow SP d p lv lg a2 x2 c2 ws ((fs++ns).map aR) (pt SP (wp 3e2)::pt pr 3e0::cS R m1 l1 s1 b1 a2 2e1::ar R s1 c2 ws::ai R b1 x2::bw R m l s b en at_ 2e1::ar R s cs ws::ai R b x::pt en 1e7::5e1)) (Γ2:=λo=>pt o.1 (wr [v4 wd,v0 (c:Int)])::pt o.2.1 (wr [v4 wd,v0 (c:Int)])::pt t (wr [v4 wd,v0 (c:Int)])::zr R pr m1 l1 s1 b1 m l s b en ow SP d p lv lg a2 2e1 3e2 x2 c2 ws (es++o.2.2.1) (fs++ns) (cn R L S O))
  z4 ⟨_,by symm⟩ (λv=>⟨_,by symm⟩) (λo=>⟨_,by symm⟩) (λ{H D Q} z5 h=>?_) (λ{H D t1 Q} z5 h=>?_) (λD o H z5=>?_)
 .right;have z6:Sep (IM R m1 l1 s1 b1 2e1 ws (at_,x,cs) (pt D (wp [])::pt t (wr [v4 wd,v0 (c:Int)])::cJ ow SP d p lv lg a2 x2 c2 ws ((fs++ns).map aR) (pt SP (wp 3e2)::pt pr 3e0::bw R m l s b en at_ 2e1::ar R s cs ws::ai R b x::pt en 1e7::5e1))) H:=z5.sub 0e1;clear z4 z5;refine ae fH z6 .e rfl rfl ?_;left;refine EG (rs:=S.map (·.2)) (N:=N) ro nofun ok l60 okS nofun hrd.app.app.more.more.more.more.more.more.more.more.more.more.more.more.more z6 (λ{c'} t1 H' k1 k2 k3 z7=>?_);obtain rfl:=Ck k1 g1 k2 g2 k3 g3;rw[hs,hw]at z7;have z8:Sep (pt t1 (wr [v4 wd,v0 (c':Int)])::cS R m1 l1 s1 b1 a2 2e1::ar R s1 c2 ws::ai R b1 x2::_) H':=z7;exact h t1 H' (z8.sub 0e1)
 .right;have z6:Sep (bw R m l s b en at_ 2e1::ar R s cs ws::ai R b x::pt en 1e7::pt D (wp [ut t1])::pt t1 (wr [v4 wd,v0 (c:Int)])::pt t (wr [v4 wd,v0 (c:Int)])::pt pr 3e0::cS R m1 l1 s1 b1 a2 2e1::ar R s1 c2 ws::ai R b1 x2::cJ ow SP d p lv lg a2 x2 c2 ws ((fs++ns).map aR) (pt SP (wp 3e2)::5e1)) H:=z5.sub 0e1;refine ae cV z6 .e rfl rfl ?_;left;have z7:Sep (Bt R m l s b en 2e1 ws (at_,x,cs) es (pt D (wp [ut t1])::pt t1 (wr [v4 wd,v0 (c:Int)])::pt t (wr [v4 wd,v0 (c:Int)])::pt pr 3e0::cS R m1 l1 s1 b1 a2 2e1::ar R s1 c2 ws::ai R b1 x2::cJ ow SP d p lv lg a2 x2 c2 ws ((fs++ns).map aR) (pt SP (wp 3e2)::((fs++ns).map aH++cn R L S O)))) H:=DX (A:=[_,_,_,_]) (B:=[_,_,_,_,_,_,_,_,_,_,_,_,_]) z6;clear z4 z5 z6;refine CT (rs:=S.map (·.2)) (N:=N) ro nofun ok l60 okS nofun nofun hrd.app.more.more.more.more.more.more.more.more.more.more.more.more.more z7 (λ{c'} t2 n2 H' k1 k2 k3 e2 z8=>?_);obtain rfl:=Ck k1 g1 k2 g2 k3 g3;rw[hs,hw]at z8;have z9:Sep (pt t2 (wr [v4 wd,v0 (c':Int)])::bw R m l s b en a2 2e1::ar R s c2 ws::ai R b x2::pt en (wp ((es++n2).map aR))::_::_::_::_::_::_::_::_::_::_::_::_::_::((es++n2).map aH++((fs++ns).map aH++cn R L S O))) H':=Sep.mv (P:=[_,_,_,_,_]) (Δ:=(es++n2).map aH) (L:=[_,_,_,_,_,_,_,_,_,_,_,_,_]) z8;have za:Sep (pt D (wp [ut t1])::pt t1 (wr [v4 wd,v0 (c':Int)])::pt t2 (wr [v4 wd,v0 (c':Int)])::pt t (wr [v4 wd,v0 (c':Int)])::zr R pr m1 l1 s1 b1 m l s b en ow SP d p lv lg a2 2e1 3e2 x2 c2 ws (es++n2) (fs++ns) (cn R L S O)) H':=z9.sub 0e1;exact h ⟨t1,t2,n2,e2.trans en1.symm⟩ H' rfl za
 .obtain⟨t1,t2,n2,e2⟩:=o;right;rename_i D2 H2 z6;have eqt:∀ {a b:Addr},H2 a=some (wr [v4 wd,v0 (c:Int)])->H2 b=some (wr [v4 wd,v0 (c:Int)])->dz R.K H2 2 (ut a) (ut b) true:=λha hb=>jE (n:=0) ha hb rfl (λj x y f1 f2=>by
   rw[f1]at f2;cases f2
   match j,f1 with
   |0,f1=>cases f1;exact bY rfl
   |1,f1=>cases f1;exact bY rfl)
  refine ve (z6.get .k1) z6.at (Sep.ne (z6.pull .k1)) (eqt (z6.get .k2) (z6.get (.t .k3))) (eqt (z6.get .k3) (z6.get (.t .k3))) ?_;refine au rfl ?_;left;refine q _ H2 ⟨m1,l1,s1,b1,m,l,s,b,en,a2,x2,c2,ws,es++n2,fs++ns,okc,l60,?_,?_,z6.drop.drop.drop.drop.drop⟩
  .rw[dL,dL,e,e2]
  .have:=congrArg List.length e2;rw[ce,ce]at this;rw[ci]
   omega
end
def HC (h0:0<=r)(h1:r<([v4 "open",v4 "look",v4 "shut"].length:Int)):∃ wd,L2.oa [v4 "open",v4 "look",v4 "shut"] r=some (v4 wd)/\fh wd=true:=by
 obtain⟨v,hv,hmem⟩:=dW h0 h1;simp only[mo,not_mem_nil,or_false]at hmem;rcases hmem with rfl|rfl|rfl<;>exact⟨_,hv,by decide⟩
section
variable {pr m1 l1 s1 b1 m l s b en ow SP d p lv lg h:Addr}{at_:Int}{ds ss:List V}{x:Bx}{cs:List Int}{rs:List Rw}{ws:List Str}{es fs:List ba}{S L P:List (Addr×Rw)}{j:Nat}{N:Int}
set_option tactic.hygienic true in
def FD {E:St->XK}{u0 u1 u3 u4 u5 u8 u9:Option V}(ro:Ro K R)(hk:13<=k)(hj:j<=1000)(n0:1<=S.length)(n1:S.length<=24)(okS:∀ r ∈ S.map (·.2),Rw.ok r) (eP:P.map (·.2)=S.map (·.2)) (hP:∀ a ∈ P,a ∈ L) (z:bG R pr ow SP d p lv lg S L P O j H)
  (q:∀ pr H',bG R pr ow SP d p lv lg S L P O j H'->D.nx [u0,u1,some (ut ow),u3,u4,u5,some (ut pr),u7,u8,u9,u10,u11] H'):
  wB (Le (Le (Le Cc))) ⟨tab,R,aa tab R (k-1),.calm⟩ D E [u0,u1,some (ut ow),u3,u4,u5,some (ut pr),u7,u8,u9,u10,u11] H:=by
 obtain⟨m1,l1,s1,b1,m,l,s,b,en,at_,x,cs,ws,es,fs,ok,l60,e,le,z⟩:=z;obtain⟨lP,hrd,hsd⟩:=lO (R:=R) (O:=O) eP hP okS;have ha:=ok.1;rw[ce]at ha;have z1:Sep (cS R m1 l1 s1 b1 at_ 2e1::ar R s1 cs ws::ai R b1 x::pt pr 3e0::Fj R m l s b en ow SP d p lv lg at_ 2e1 3e2 x cs ws es fs (cn R L S O)) H:=z.sub 0e1;clear z;right;refine ae fH z1 .e rfl rfl ?_;left;refine xH (rs:=S.map (·.2)) ro nofun 4e0 4e0 ha.1 (by rw[ce];exact ha.2) hrd.app.app.more.more.more.more.more.more.more.more.more.more.more z1 (λm3 l3 s3 b3 H1 z2=>?_);clear z1;right;have z3:Sep (bw R m l s b en at_ 2e1::ar R s cs ws::ai R b x::pt en 1e7::cS R m3 l3 s3 b3 at_ 2e1::ar R s3 cs ws::ai R b3 x::cJ ow SP d p lv lg at_ x cs ws (fs.map aR) (pt SP (wp 3e2)::(es.map aH++(fs.map aH++cn R L S O)))) H1:=z2.sub 0e1;clear z2;refine ae cV z3 .e rfl rfl ?_;left;have z4:Sep (bw R m l s b en at_ 2e1::ar R s cs ws::ai R b x::pt en 1e7::(es.map aH++(cS R m3 l3 s3 b3 at_ 2e1::ar R s3 cs ws::ai R b3 x::cJ ow SP d p lv lg at_ x cs ws (fs.map aR) (pt SP (wp 3e2)::(fs.map aH++cn R L S O))))) H1:=Sep.mv (P:=[_,_,_,_]) (Δ:=[_,_,_,_,_,_,_,_,_]) (L:=es.map aH) z3;clear z3;refine xh ro nofun 4e0 4e0 ha.1 (by rw[ce,lP];exact ha.2) nofun hrd.app.more.more.more.more.more.more.more.more.more.all z4 (λm4 l4 s4 b4 e4 hs H2 eh z5=>?_);clear z4;right;rename_i pr2 H3 z6;refine q pr2 H3 ⟨m3,l3,s3,b3,m4,l4,s4,b4,e4,at_,x,cs,ws,hs,fs,ok,l60,eh.trans e,by rw[vc eh.symm];exact le,?_⟩;have z7:=Jp (A:=[_,_,_,_,_]) (W:=[_,_,_,_]) z6;have z8:Sep (pt pr2 (wp [ut m3,ut m4])::bw R m4 l4 s4 b4 e4 at_ 2e1::ar R s4 cs ws::ai R b4 x::pt e4 (wp (hs.map aR))::cS R m3 l3 s3 b3 at_ 2e1::ar R s3 cs ws::ai R b3 x::cJ ow SP d p lv lg at_ x cs ws (fs.map aR) (pt SP (wp 3e2)::(hs.map aH++(fs.map aH++cn R L S O)))) H3:=Sep.mv (P:=[_,_,_,_,_]) (Δ:=hs.map aH) (L:=[_,_,_,_,_,_,_,_,_]) z7;exact z8.sub 0e1
noncomputable abbrev Gb (R:Rt)(pr m1 l1 s1 b1 m l s b en ow SP d p lv lg:Addr)(at_:Int)(ds ss:List V)(x:Bx)(cs:List Int)(w1 w2 w3:List Str)(es fs:List ba)(O:List ay):List ay:=pt pr 3e0::cS R m1 l1 s1 b1 at_ ds::ar R s1 cs w1::ai R b1 x::bw R m l s b en at_ ds::ar R s cs w2::ai R b x::pt en 1e7::cJ ow SP d p lv lg at_ x cs w3 (fs.map aR) (pt SP (wp ss)::(es.map aH++(fs.map aH++O)))
set_option tactic.hygienic true in
def Aj (ro:Ro K R)(hk:6<=k)(hN:N<=1000000)(z:bG R pr ow SP d p lv lg S L P (hand h N::O) j H)(q:∀ H',bG R pr ow SP d p lv lg S L P (hand h (N+3)::O) j H'->Q wf H'):aa tab R k 117 [ut h,ut pr,ut ow] H Q E:=by
 delta ff;obtain⟨m1,l1,s1,b1,m,l,s,b,en,at_,x,cs,ws,es,fs,ok,l60,e,le,z⟩:=z;have hl:cs.length=ws.length:=ok.2.2.1;have c0:=(cG z .k2).2.1;have z1:=HL z;clear z;walk_at "gd";rename_i r1 H1 r10 r11 z2 r2 H2 r20 r21 z3 wl Hl zl r3 H3 r30 r31 z4;clear z1 z2 z3 zl;rw[ce]at r11 r21;obtain⟨wd,e4,hwd⟩:=HC r30 (by simpa using r31);refine aX 2e8 e4 ?_;have z5:=HE (aw (n:=N+3) (z4.pull (A:=hand h (N+1+1+1)) .e |>.pull .k1 |>.drop) nofun);clear z4;right;have fin:∀ {v:Option V}{H:Hp},Sep (Gb R pr m1 l1 s1 b1 m l s b en ow SP d p lv lg at_ 2e1 3e2 x cs (dJ wd ws r1.toNat (r1+r2-r1).toNat) (dJ wd ws r1.toNat (r1+r2-r1).toNat) ws es fs (cn R L S (hand h (N+3)::O))) H->wB (bJ 4 ff.body) ⟨tab,R,aa tab R (k-1),.calm⟩ ⟨λ_ H'=>Q wf H',Q,λ_ _=>False,λ_ _=>False⟩ (λ_=>E) [some (ut h),some (ut pr),some (ut ow),some (v0 r1),some (v0 (r1+r2)),some (v4 wd),v,none] H:=by
  intro v H z;right;refine gU (λi U H=>∃ u,U=[some (ut h),some (ut pr),some (ut ow),some (v0 r1),some (v0 (r1+r2)),some (v4 wd),v,u]/\Sep (Gb R pr m1 l1 s1 b1 m l s b en ow SP d p lv lg at_ 2e1 3e2 x cs (dJ wd ws r1.toNat (r1+r2-r1).toNat) (dJ wd ws r1.toNat (r1+r2-r1).toNat) (dJ wd ws r1.toNat i) es fs (cn R L S (hand h (N+3)::O))) H) ⟨none,rfl,z⟩ ?_ ?_
  .rintro i U H hi ⟨v,rfl,z7⟩;right;refine fD (ys:=(dJ wd ws r1.toNat (i+1)).map v4) (j:=(r1+(i:Int)).toNat) z7 (by ac_rfl) ?_ ?_ (λH7 z8=>?_)
   .rw[ce,eu];unfold y0;rw[if_pos nofun,if_pos nofun]
   .rw[xC,List.map_set,show(r1+(i:Int)).toNat=r1.toNat+i by omega]
   .exact⟨_,rfl,z8⟩
  .rintro U H ⟨v,rfl,z7⟩;right;exact q _ ⟨m1,l1,s1,b1,m,l,s,b,en,at_,x,cs,_,es,fs,⟨ok.1,ok.2.1,by rw[eu];exact hl,ok.2.2.2⟩,by rw[eu];exact l60,e,le,z7⟩
 generalize hw2:dJ wd ws r1.toNat (r1+r2-r1).toNat=wn at fin;refine lI (xs:=[ut m1,ut m]) (λi U H=>∃ v,U=[some (ut h),some (ut pr),some (ut ow),some (v0 r1),some (v0 (r1+r2)),some (v4 wd),v,none]/\Sep (Gb R pr m1 l1 s1 b1 m l s b en ow SP d p lv lg at_ 2e1 3e2 x cs (if 0<i then wn else ws) (if 1<i then wn else ws) ws es fs (cn R L S (hand h (N+3)::O))) H) ⟨none,rfl,z5⟩ (λi U H ⟨v,_,z6⟩=>bB.of z6.at) ?_ ?_
 .rintro i y U H hy ⟨v,rfl,z6⟩
  match i,hy with
  |0,hy=>
   cases hy;have z6:Sep (Gb R pr m1 l1 s1 b1 m l s b en ow SP d p lv lg at_ 2e1 3e2 x cs ws ws ws es fs (cn R L S (hand h (N+3)::O))) H:=z6;right;refine ae fH z6 .k1 rfl rfl ?_;right;refine aC (vs':=[ut m1,v0 r1,v0 (r1+r2),v4 wd]) rfl ?_;have z7:Sep (cS R m1 l1 s1 b1 at_ 2e1::ar R s1 cs ws::pt pr 3e0::ai R b1 x::Fj R m l s b en ow SP d p lv lg at_ 2e1 3e2 x cs ws es fs (cn R L S (hand h (N+3)::O))) H:=z6.sub 0e1;refine vR uG ro nofun r10 nofun nofun hwd z7 (λH5 z8=>?_);rw[hw2]at z8;right;refine⟨_,rfl,?_⟩;show Sep (Gb R pr m1 l1 s1 b1 m l s b en ow SP d p lv lg at_ 2e1 3e2 x cs wn ws ws es fs (cn R L S (hand h (N+3)::O))) H5;exact z8.sub 0e1
  |1,hy=>
   cases hy;have z6:Sep (Gb R pr m1 l1 s1 b1 m l s b en ow SP d p lv lg at_ 2e1 3e2 x cs wn ws ws es fs (cn R L S (hand h (N+3)::O))) H:=z6;right;have z7:Sep (bw R m l s b en at_ 2e1::ar R s cs ws::pt pr 3e0::cS R m1 l1 s1 b1 at_ 2e1::ar R s1 cs wn::ai R b1 x::ai R b x::pt en 1e7::cJ ow SP d p lv lg at_ x cs ws (fs.map aR) (pt SP (wp 3e2)::(es.map aH++(fs.map aH++cn R L S (hand h (N+3)::O))))) H:=z6.sub 0e1;refine ae cV z7 .e rfl rfl ?_;right;refine aC (vs':=[ut m,v0 r1,v0 (r1+r2),v4 wd]) rfl ?_;refine vR sV ro nofun r10 nofun nofun hwd z7 (λH5 z8=>?_);rw[hw2]at z8;right;refine⟨_,rfl,?_⟩;show Sep (Gb R pr m1 l1 s1 b1 m l s b en ow SP d p lv lg at_ 2e1 3e2 x cs wn wn ws es fs (cn R L S (hand h (N+3)::O))) H5;exact z8.sub 0e1
 .rintro U H ⟨v,rfl,z6⟩;exact fin z6
end
section
variable {pr m1 l1 s1 b1 m l s b en ow SP d p lv lg h:Addr}{at_:Int}{ds ss:List V}{x:Bx}{cs:List Int}{rs:List Rw}{ws:List Str}{es fs:List ba}{S L P:List (Addr×Rw)}{j:Nat}{N M:Int}
def bG.up {j':Nat}(z:bG R pr ow SP d p lv lg S L P (hand h N::O) j H)(hm:N<=M)(hj:j<=j'):bG R pr ow SP d p lv lg S L P (hand h M::O) j' H:=by
 obtain⟨m1,l1,s1,b1,m,l,s,b,en,at_,x,cs,ws,es,fs,ok,l60,e,le,z⟩:=z;exact⟨m1,l1,s1,b1,m,l,s,b,en,at_,x,cs,ws,es,fs,ok,l60,e,by omega,HE (aw (HL z) hm)⟩
set_option tactic.hygienic true in
def FI {E:St->XK}{u0 u3 u4 u5 u8 u9:Option V}(ro:Ro K R)(hk:14<=k)(hN:N<=900000)(hj:j<=600)(n0:1<=S.length)(n1:S.length<=24)(okS:∀ r ∈ S.map (·.2),Rw.ok r) (eP:P.map (·.2)=S.map (·.2)) (hP:∀ a ∈ P,a ∈ L) (z:bG R pr ow SP d p lv lg S L P [hand h N] j H)
  (q:∀ pr u8 u9 u10 u11 H',bG R pr ow SP d p lv lg S L P [hand h (N+6)] (j+60) H'->D.nx [u0,some (ut h),some (ut ow),u3,u4,u5,some (ut pr),u7,u8,u9,u10,u11] H'):
  wB (xZ (bJ 6 jA.body)) ⟨tab,R,aa tab R (k-1),.calm⟩ D E [u0,some (ut h),some (ut ow),u3,u4,u5,some (ut pr),u7,u8,u9,u10,u11] H:=by
 have fin:∀ {pr:Addr}{u8 u9 u10 u11:Option V}{H:Hp},bG R pr ow SP d p lv lg S L P [hand h (N+6)] (j+60) H->wB (bJ 5 (xZ (bJ 6 jA.body))) ⟨tab,R,aa tab R (k-1),.calm⟩ D E [u0,some (ut h),some (ut ow),u3,u4,u5,some (ut pr),u7,u8,u9,u10,u11] H:=λz=>KA ro nofun nofun z (λH' z'=>q _ _ _ _ _ H' z')
 obtain⟨m1,l1,s1,b1,m,l,s,b,en,at_,x,cs,ws,es,fs,ok,l60,e,le,z⟩:=z;have z1:=HL z;clear z;walk_at "gd";rename_i r1 H1 r10 r11 z2 r2 H2 r20 r21 z3 wl Hl zl r3 H3 r30 r31 z4;clear z1 z2 z3 zl;obtain⟨v,hv,T,rfl,T0,T1⟩:=ik (xs:=[v0 0,v0 1,v0 r2,v0 60]) (P:=inR 0 60) (r:=r3) r30 (by simpa using r31) (Nh (.mk 1e1 1e1) (.mk 1e1 1e1) (.mk nofun nofun) (.mk 1e1 1e1));refine aX 2e8 hv ?_;obtain⟨T,rfl⟩:∃ t:Nat,T=t:=⟨T.toNat,by omega⟩;have zi:bG R pr ow SP d p lv lg S L P [hand h (N+3)] j H3:=⟨m1,l1,s1,b1,m,l,s,b,en,at_,x,cs,ws,es,fs,ok,l60,e,le,HE (aw (n:=N+3) (z4.pull (A:=hand h (N+1+1+1)) .e |>.pull .k1 |>.drop) nofun)⟩;clear z4;refine Gi ro nofun okS eP hP zi (λu10 H4 zi=>?_);right;refine aG (λ_=>?_) (λ_=>?_)
 .refine Ir ro nofun nofun okS eP hP zi (λu11 H5 zi=>?_);exact fin (zi.up nofun nofun)
 .refine aG (λ_=>?_) (λ_=>?_)
  .refine KS ro nofun nofun nofun okS eP hP zi (λu11 H5 zi=>?_);exact fin (zi.up nofun nofun)
  .right;refine aE (λ_=>?_) (λ_=>?_)
   .right;refine Aj ro nofun nofun zi (λH5 zi=>?_);exact fin (zi.up nofun nofun)
   .refine FD ro nofun nofun n0 n1 okS eP hP zi (λpr2 H5 zi=>?_);exact fin (zi.up nofun nofun)
end
set_option tactic.hygienic true in
def Iv (ro:Ro K R)(hk:14<=k):∀ vs H Q E,k6 K 63 vs H Q E->aa tab R k 118 vs H Q E:=by
 rintro vs H Q E ⟨a,sc,rfl,hS,h63,hQ⟩;delta jA;right;rw[<-ro.hK]at hS;refine F8 nofun Sep.nil hS h63 (λh H1 z1=>?_);right;refine GX (O:=[]) (m:=10) nofun nofun 1e1 1e1 (aw z1 nofun) (λow SP d p lv lg at_ x cs ws S H4 c0 c60 hc hl hw hx s0 s1 okS a0 a1 z4=>?_);clear z1;right;have z5:Sep (cJ ow SP d p lv lg at_ x cs ws [] (pt SP (wp 3e2)::(S.reverse.map zS++[hand h 1010]))) H4:=Sep.push (.j2 (.j2 (.j2 (ao .e)))) (z4.pull (A:=hand h 1010) (.j2 (.j2 (.j2 .e))));clear z4;refine Ao (E:=E) (rs:=S.map (·.2)) (k:=k-1) ro nofun (by rw[ce];exact s1) (tj (S:=S) (O:=[hand h 1010]) rfl okS).more.more.more.more.more.more (.j2 (.t .k2)) z5 (λh=>?_) (λDE L H5 eL z6=>?_)
 .right;exact h
 have z6:Sep (pt DE (wp (L.map av))::cJ ow SP d p lv lg at_ x cs ws [] (pt SP (wp 3e2)::cn R L S [hand h 1010])) H5:=Sep.mv (P:=[_]) (Δ:=L.reverse.map (Ht R)) (L:=[_,_,_,_,_,_]) z6;clear z5;have ll:L.length=S.length:=by
  have:=congrArg List.length eL
  rwa [ce,ce]at this
 right;have z7:Sep (pt p 0e9::pt lv 0e4::aA d x::pt DE (wp (L.map av))::pt ow 1e8::pt lg (wp [])::pt SP (wp 3e2)::cn R L S [hand h 1010]) H5:=z6.sub 0e1;clear z6;refine AH ro nofun c0 c60 hc hl hw z7 (λs2 H6 z8=>?_);clear z7;right;have z9:Sep (aA d x::ar R s2 cs ws::pt p 0e9::pt lv 0e4::pt DE (wp (L.map av))::pt ow 1e8::pt lg (wp [])::pt SP (wp 3e2)::cn R L S [hand h 1010]) H6:=z8.sub 0e1;clear z8;refine A2 ro nofun hx z9 (λb2 H7 za=>?_);clear z9;have hrd:bA R (cn R L S [hand h 1010]) (L.map av) (L.map (·.2)):=qM (λa ha=>ha);right;intro m1 dx g1 g2 g3;refine ot ro nofun 4e0 4e0 a0 4e0 (.j2 (.j2 (.t .e))) .k2 .e hrd.more.more.more.more.more.more.more.more.more.all (g6 za g1 g2 g3) (λl1 s3 b3 H8 zb=>⟨rfl,?_⟩);clear za;right;intro m dx2 k1 k2 k3;refine sY ro nofun 4e0 4e0 a0 4e0 (.j2 (.j2 (.j2 (.j2 .e)))) (.j2 (.j2 .k1)) .k3 hrd.more.more.more.more.more.more.more.more.more.more.more.more.all (g6 zb k1 k2 k3) (λl s b en H9 zc=>⟨rfl,?_⟩);clear zb;right;rename_i pr Ha zd;have ze:Sep (pt pr 3e0::cS R m1 l1 s3 b3 at_ (L.map av)::ar R s3 cs ws::ai R b3 x::bw R m l s b en at_ (L.map av)::ar R s cs ws::ai R b x::pt en (wp [])::cJ ow SP d p lv lg at_ x cs ws [] (pt SP (wp 3e2)::cn R L S [hand h 1010])) Ha:=zd.sub 0e1;have zi:bG R pr ow SP d p lv lg S L L [hand h (1010+6*((0:Nat):Int))] (60*0) Ha:=⟨m1,l1,s3,b3,m,l,s,b,en,at_,x,cs,ws,[],[],⟨⟨a0,by rw[ce];exact a1⟩,hx,hl,hc⟩,by omega,rfl,pi _,ze⟩;clear zc zd ze;refine gU (λi U H=>∃ pr u7 u8 u9 u10 u11,U=[some (ut a),some (ut h),some (ut ow),some (ut DE),some (ut s2),some (ut b2),some (ut pr),u7,u8,u9,u10,u11]/\bG R pr ow SP d p lv lg S L L [hand h (1010+6*(i:Int))] (60*i) H) ⟨pr,none,none,none,none,none,rfl,zi⟩ ?_ ?_
 .rintro i U H hi ⟨pr,u7,u8,u9,u10,u11,rfl,zz⟩;have hi:i<10:=hi;refine FI (k:=k) ro nofun nofun nofun s0 s1 okS eL (λa ha=>ha) zz (λpr u8 u9 u10 u11 H' z2=>⟨pr,_,u8,u9,u10,u11,rfl,?_⟩);rw[show(1010:Int)+6*((i+1:Nat):Int)=1010+6*(i:Int)+6 by omega];exact z2
 rintro U H ⟨pr,u7,u8,u9,u10,u11,rfl,zz⟩;clear zi;generalize (1010:Int)+6*_=N at zz;obtain⟨m1,l1,s1',b1,m,l,s,b,en,at_,x,cs,ws,es,fs,ok,l60,e,le,z⟩:=zz;right;obtain⟨dx3,y1⟩:=pO (z.pull (A:=bw R m l s b en at_ (L.map av)) (.j2 (.j2 .e)));refine Bp y1.at rfl rfl ?_;right;refine Bp y1.at rfl rfl ?_;clear y1;right;have okL:∀ r ∈ L.map (·.2),Rw.ok r:=by rw[eL];exact okS
 have z1:Sep (cS R m1 l1 s1' b1 at_ (L.map av)::pt pr 3e0::bw R m l s b en at_ (L.map av)::ar R s1' cs ws::ai R b1 x::ar R s cs ws::ai R b x::pt en 1e7::cJ ow SP d p lv lg at_ x cs ws (fs.map aR) (pt SP (wp 3e2)::(es.map aH++(fs.map aH++cn R L S [hand h N])))) H:=z.sub 0e1;clear z;have hrd:=qM (R:=R) (S:=L) (P:=L) (O:=S.reverse.map zS++[hand h N]) (λa ha=>ha);refine ae fH z1 .e rfl rfl ?_;left;refine wz uG nofun 4e0 okL hrd.app.app.more.more.more.more.more.more.more.more.more.more.more.more.more z1 (λp1 L1 H4 e1 z5=>?_);have z50:=z5.pull (A:=pt pr 3e0) (.t (ao .k1));right;clear z50;have z6:=z5.pull (A:=bw R m l s b en at_ (L.map av)) (.t (ao .k2));refine ae cV z6 .e rfl rfl ?_;left;refine wz (sV (ds:=L.map av)) nofun 4e0 okL (bA.more (bA.app hrd.app.app.more.more.more.more.more.more.more.more.more.more.more.more.more)) z6 (λp2 L2 H5 e2 z7=>?_);right;have z8:Sep (bw R m l s b en at_ (L.map av)::pt p1 (wp (L1.map av))::(L1.reverse.map IP++_)) H5:=Sep.EU z7.drop;refine uf (Es (e1.trans e2.symm) z8.drop.at z7.at (Bz z8.drop.drop) (Bz z7.drop)) 1e1 (Sep.ne (z7.pull (A:=pt p1 (wp (L1.map av))) (.t (ao .k1)))) ?_;clear z1 z5 z6 z7;right;have z9:Sep (bw R m l s b en at_ (L.map av)::cS R m1 l1 s1' b1 at_ (L.map av)::pt pr 3e0::ar R s1' cs ws::ai R b1 x::ar R s cs ws::_) H5:=Sep.cut (A:=[_]) (B:=pt p1 (wp (L1.map av))::L1.reverse.map IP) z8;clear z8;have za:Sep (cS R m1 l1 s1' b1 at_ (L.map av)::ar R s1' cs ws::pt pr 3e0::bw R m l s b en at_ (L.map av)::ar R s cs ws::[]) H5:=z9.sub 0e1;clear z9;right;refine ae fH za .e rfl rfl ?_;left;refine ml uG nofun za (λq1 H6 zb=>?_);have zc:Sep (bw R m l s b en at_ (L.map av)::ar R s cs ws::pt q1 0e4::pt pr 3e0::[]) H6:=zb.sub 0e1;clear za zb;right;refine ae cV zc .e rfl rfl ?_;left;refine ml sV nofun zc (λq2 H7 zd=>?_);right;refine uf (wU (zd.get (a:=q1) (.t .k2)) zd.at) 1e1 (Sep.ne (zd.pull (A:=pt q1 0e4) (.t .k2))) ?_;exact hQ H7
def zB (ro:Ro K R):∀ vs H Q E,k6 K 63 vs H Q E->aa tab R 14 118 vs H Q E:=Iv ro (pi _)
end
def walk {l:W.OpenLaw}{q:Program}{loose:List Str}{XP:(Str->Option Value)->Heap->Prop}{YP:World->Heap->Prop}{d:DefRec}{K:Params->W.Frag}(hn:l.most=some 63)(hdf:d.params.defaults=[])
    (hY:∀ (w:World) (h:Heap),YP w h->(K w.params).In h)
    (F:∀ (w:World) (mg:NZ) (fa:Addr) (h:Heap),(K w.params).In h->h.Ns mainGlobals mg->mg d.name=some (.ref fa)->
      ∃ fd:FuncData,(∀ (s:Shared) (u:Value),BindsTo s fd ⟨[u],[]⟩ [("_law_script",u)])/\∀ base:Heap,(K w.params).In base->base.Ns mainGlobals mg->dQ true l.prog w (K w.params) mg base (zP l.prog w) 28 fa fd ["_law_script"] (k6 (K w.params) 63)):
    W.WalkO q loose XP YP l.row.toRowW d [] (λf vs=>PySem.call f vs):=
  L2.DF (n:=63) (k:=28) (x:="_law_script") (CX:=λw=>zP l.prog w) (sp:=λw=>k6 (K w.params) 63) hn 1e1 hdf ⟨by decide,by decide⟩ hY F (λ_ _ a ns hl _ hS=>⟨a,ns,rfl,hS,hl,λ_=>rfl⟩) λ_ _ _ _ _ z=>B0 z
abbrev Np:List (Str×V):=[("BOUND",.int 1000000000),("MOST_ROWS",.int 24),("MOST_HOPPED",.int 24),("MOST_CELLS",.int 60),("NAMES",.ref 201),("LEAVES",.ref 916)]
def Nz (p:Params):L3.Cr (K0 p) tab Ms Nj Np=true:=by kernel_rfl
def NG (p:Params):L3.nG (K0 p) tab Ms 0 tab.fns=true:=by kernel_rfl
end My
open PySem PySem.W PyProof.Rows
set_option maxRecDepth 100000 in
set_option maxHeartbeats 0 in
theorem PySem.Challenge.cw_haulbell_k57_watched_is_a_machine_holds : PySem.Challenge.rw_haulbell_k57_watched_is_a_machine.Holds := by
  refine holds_law My.K2 fun said=>?_
  refine W.holds_open (loose:=My.zA) (N:=19574)
    (q:=My.sG My.pr)
    (Yf:=fun s=>My.K8.map s.heap.get?)
    (Ya:=fun w=>(My.K0 w.params).map fun p=>some p.2)
    (Xt:=fun s=>xlAt (My.sG My.pr) [] s&&recOk PySem.Challenge.rw_haulbell_k57_watched_is_a_machine.row.records s)
    (XP:=XL (My.sG My.pr) [])
    (YP:=InK My.K0) My.JP
    (InK.of (as:=My.K8) fun _=>by kernel_rfl) InK.keeps
    (fun s e=>xl_of s (Bool.and_eq_true_iff.mp e).1)
    XL.keeps (by rfl) (by rfl) (by rfl)
    (fun s e=>recFacts_of (Bool.and_eq_true_iff.mp e).2)
    (by rfl) (by assumption) 2e6
    ⟨rfl,rfl,rfl,rfl,rfl,by decide+kernel⟩ ?hw ?hc
  case hw=>w_witness2
  refine My.walk (l:=PySem.Challenge.rw_haulbell_k57_watched_is_a_machine) rfl rfl (fun w h Y=>Y) ?F
  case F=>
    intro w mg fa h KX G hmg;exact L3.CZ KX G hmg (T:=My.tab) (fs:=My.Ms) (cs:=My.Nj) (gs:=My.Np) (d:=My.jA) (fl:=118) (k:=14) (My.Nz _) (My.NG _) (by kernel_rfl) rfl rfl rfl (My.zB ⟨rfl,by kernel_rfl,by kernel_rfl,by kernel_rfl,by kernel_rfl,⟨201,by kernel_rfl,L3.BY (by kernel_rfl)⟩,⟨916,by kernel_rfl,L3.BY (by kernel_rfl)⟩⟩)
