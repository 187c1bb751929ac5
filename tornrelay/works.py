"""All that can be done with a net."""

from tornrelay.deeds import ask, begin, check, run_out, tear
from tornrelay.net import is_whole_channel, open_channels
from tornrelay.tellings import missing_at, rack_at


def let_over(net, channel):
    """Let what is going on a channel go over, and its hearer tear all that came; tell what the tearing tells."""
    line, sender, receiver = channel
    if is_whole_channel(net, channel):
        run_out(net, line, sender)
    return tear(net, line, sender) if receiver not in net.down else []


def send_rack(net, channel):
    """Send all that is in the rack of an open channel; tell what the tearings tell."""
    line, sender, receiver = channel
    told = []
    while rack_at(net, line, sender):
        begin(net, line, sender)
        told.extend(let_over(net, channel))
    return told


def channels_back(net, channel):
    """Tell the open channels that lead from a channel's hearer to its sender."""
    line, sender, receiver = channel
    return [back for back in open_channels(net) if back[1] == receiver and back[2] == sender]


def send_missing(net, channel):
    """Ask for all that is missing at the hearer of an open channel, if it can be, and send it; tell of it."""
    line, sender, receiver = channel
    backs = channels_back(net, channel)
    told = []
    while backs and missing_at(net, line, sender):
        back = backs[0]
        ask(net, back[0], receiver, line)
        let_over(net, back)
        told.extend(send_rack(net, channel))
    return told


def work_channel(net, channel):
    """Do all that can be done on an open channel; tell what the tearings tell."""
    line, sender, receiver = channel
    check(net, line, sender)
    let_over(net, channel)
    return send_missing(net, channel) + send_rack(net, channel)


def work_round(net):
    """Do all that can be done on each open channel; tell of the messages and empty ones that came in."""
    told = []
    for channel in open_channels(net):
        told.extend(work_channel(net, channel))
    return [came for came in told if came[0] in ("in", "void")]


def work(net):
    """Do all that can be done; tell how many messages came in."""
    told = []
    for channel in net.channels:
        told.extend(let_over(net, channel))
    while news := work_round(net):
        told.extend(news)
    return len([came for came in told if came[0] == "in"])
